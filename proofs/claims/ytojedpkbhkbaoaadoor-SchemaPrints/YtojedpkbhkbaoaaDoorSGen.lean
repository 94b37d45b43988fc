/- On the seat of layer 6 (schema) SGen is this: the templates that hold its declarations. -/
import Derived.Test.YtojedpkbhkbaoaaDoorSPure2
import Derived.Test.YtojedpkbhkbaoaaDoorSIndex

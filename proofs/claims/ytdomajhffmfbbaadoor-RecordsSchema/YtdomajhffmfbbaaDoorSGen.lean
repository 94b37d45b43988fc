/- On the seat of layer 6 (schema) SGen is this: the templates that hold its declarations. -/
import Derived.Test.YtdomajhffmfbbaaDoorSPure2
import Derived.Test.YtdomajhffmfbbaaDoorSIndex

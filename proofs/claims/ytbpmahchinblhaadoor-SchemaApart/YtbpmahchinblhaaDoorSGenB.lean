/- On a seat that has package schema SGenB is this: the templates that hold its declarations. -/
import Derived.Test.YtbpmahchinblhaaDoorSPure2
import Derived.Test.YtbpmahchinblhaaDoorSIndex

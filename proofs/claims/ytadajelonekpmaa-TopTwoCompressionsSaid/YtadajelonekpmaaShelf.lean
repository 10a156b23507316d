import Derived.Test.YtadajelonekpmaaChecked
import Derived.Sort.Grow

/- The program's contracts, all of them. -/
import Derived.Test.YtgfkiekcdjnaeaaClockA
import Derived.Test.YtgfkiekcdjnaeaaClockD
import Derived.Test.YtgfkiekcdjnaeaaClockZ

/- Contracts of package ops's calls. -/
import Derived.Test.YtmkmahjboocoaaaOpsX
import Derived.Test.YtmkmahjboocoaaaOpsD
import Derived.Test.YtmkmahjboocoaaaOpsPA
import Derived.Test.YtmkmahjboocoaaaOpsPB
import Derived.Test.YtmkmahjboocoaaaOpsPC
import Derived.Test.YtmkmahjboocoaaaOpsPG
import Derived.Test.YtmkmahjboocoaaaOpsPV

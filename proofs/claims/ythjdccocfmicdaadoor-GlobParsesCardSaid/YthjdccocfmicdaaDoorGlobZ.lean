/- Contracts of package glob's calls: the interface that the laws' walks go by: gparse_any, gprint_any, gpath_any, gwithin_any, gmatch_any. -/
import Derived.Test.YthjdccocfmicdaaDoorGlobPJ

/- The contracts of package node's own functions, all together. -/
import Derived.Test.YtpcchbcibcfldaaNodeW8
import Derived.Test.YtpcchbcibcfldaaNodeW7
import Derived.Test.YtpcchbcibcfldaaNodeA3
import Derived.Test.YtpcchbcibcfldaaNodeA4
import Derived.Test.YtpcchbcibcfldaaNodeA6
import Derived.Test.YtpcchbcibcfldaaNodeA7

-- MADE BY PROGRAM (prog-in-parts.mjs): THE LOAD, out of its parts: the constants and facts that the one row below made, under the same names. The row stands here as a remark: the kit's tools read the dump's path and the alias off it.
-- load_go "../../toys/ytkdpdgbacladhaa/ytkdpdgbacladhaa.cut.gsa" as Try
import Derived.Test.YtkdpdgbacladhaaCheckedLc
import Derived.Test.YtkdpdgbacladhaaCheckedLf0
import Derived.Test.YtkdpdgbacladhaaCheckedLf1
import Derived.Test.YtkdpdgbacladhaaCheckedLf2
import Derived.Test.YtkdpdgbacladhaaCheckedLf3

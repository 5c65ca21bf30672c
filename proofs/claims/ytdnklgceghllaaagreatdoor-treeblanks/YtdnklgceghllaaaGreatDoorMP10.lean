import Derived.Test.YtdnklgceghllaaaGreatDoorProg
import Derived.Test.YtdnklgceghllaaaGreatDoorRows
import Derived.Lib.LaidTab
import Derived.Lib.ItoaNum
import Derived.Below
namespace Go.Proofs
def Tryz.pow10Name : String := YtdnklgceghllaaaGreatDoor.Rows.treeBackRow.named.getD 1 ""
open Go.RowKit
namespace YtdnklgceghllaaaGreatDoor.M
def P10 (w : World) : Prop := Lib.TabIs Tryz.prog w Tryz.pow10Name .u64 Lib.pow10Tab
end YtdnklgceghllaaaGreatDoor.M
end Go.Proofs

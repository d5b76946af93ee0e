/- Layer 7: the law LabelOther. -/
import Derived.Test.YtodobacgbbpmfaaDoorLabLOthA
import Derived.Test.YtodobacgbbpmfaaDoorLabLOthB
namespace Go.Proofs.YtodobacgbbpmfaaDoor.lab
open Go.RowKit Go.Proofs.YtodobacgbbpmfaaDoor.rep

theorem lawOther (B : Nat) (hB : B ≤ 140737488355328) (hB2 : 100 ≤ B) (x : Wt) (u : Value) (ul : Value) (l : List Pr) (more : ByteArray) (w : World) (h1 : x.key.size ≤ B) (h2 : x.how.size ≤ B) (hu : RowAt B (text B) w u x.vals) (hr : RowAt B (prR B) w ul l) (hmo : more.size ≤ B) (hm : nam.MaxL w) :
    Calls Tryd.prog 5 #[.agg #[.string x.key, .string x.how, u], ul, .string more] w fun e w' => e = .returned (.bool true) ∧ Below w.heap.size w w' := by
  by_cases hc8 : 8 < x.vals.length
  · exact lawOtherA B hB hB2 x u ul l more w h1 h2 hu hr hmo hm hc8
  · exact lawOtherB B hB hB2 x u ul l more w h1 h2 hu hr hmo hm hc8
end Go.Proofs.YtodobacgbbpmfaaDoor.lab

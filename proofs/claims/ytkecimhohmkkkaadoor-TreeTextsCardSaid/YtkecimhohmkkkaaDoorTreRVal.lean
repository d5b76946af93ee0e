/- Layer 4: the document's own Valid (layer 1). -/
import Derived.Test.YtkecimhohmkkkaaDoorTreURefP
namespace Go.Proofs.YtkecimhohmkkkaaDoor.utf
open Go.RowKit

theorem refValid_any (x : ByteArray) (hx : x.size ≤ 1000) (w : World) :
    Calls Tryd.prog 77 #[.string x] w fun e w' => e = .returned (.bool (okB x.data.toList)) ∧ Below w.heap.size w w' := by
  have hc := refPoints_any x hx w
  cases ho : okB x.data.toList with
  | false =>
    go_enter Tryd.func77, Tryd.ntmps77
    go_wp2_with fail
    refine hc.mono ?_
    rintro e w1 ⟨⟨_, rfl⟩ | ⟨h, _⟩, hb⟩
    · go_wp2
      go_ret
      exact ⟨rfl, hb⟩
    · rw [ho] at h; cases h
  | true =>
    go_enter Tryd.func77, Tryd.ntmps77
    go_wp2_with fail
    refine hc.mono ?_
    rintro e w1 ⟨⟨h, _⟩ | ⟨_, v, rfl, _⟩, hb⟩
    · rw [ho] at h; cases h
    · go_wp2
      go_ret
      exact ⟨rfl, hb⟩
end Go.Proofs.YtkecimhohmkkkaaDoor.utf

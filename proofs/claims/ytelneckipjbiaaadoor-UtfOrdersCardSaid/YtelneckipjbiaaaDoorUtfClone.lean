/- Layer 1: a text's copy: strings.Clone, by the shelf's contract of what it calls. -/
import Derived.Test.YtelneckipjbiaaaDoorUtfNext
import Derived.Shelf.Pu.Clone
namespace Go.Proofs.YtelneckipjbiaaaDoor.utf
open Go.RowKit

/-- Where the shelf's numbers lie in this program. -/
def cloneRen : Go.Shelf.Ren :=
  { f := fun x => if x = 25 then 30 else x,
    t := fun x => if x = 37 then 47 else if x = 47 then 54 else if x = 9 then 9 else if x = 5 then 5 else if x = 4 then 4 else if x = 3 then 3 else 0,
    g := fun x => x }
theorem cloneLays : LaysPu.n25 Tryd.prog cloneRen :=
  { mixed := by kernel_rfl, f25 := by kernel_rfl,
    t0 := by kernel_rfl, a0 := fun _ => by kernel_rfl, z0 := fun _ => by kernel_rfl, v0 := fun _ => by kernel_rfl, i0 := by kernel_rfl,
    t3 := by kernel_rfl, a3 := fun _ => by kernel_rfl, z3 := fun _ => by kernel_rfl, v3 := fun _ => by kernel_rfl, i3 := by kernel_rfl,
    t4 := by kernel_rfl, a4 := fun _ => by kernel_rfl, z4 := fun _ => by kernel_rfl, v4 := fun _ => by kernel_rfl, i4 := by kernel_rfl,
    t5 := by kernel_rfl, a5 := fun _ => by kernel_rfl, z5 := fun _ => by kernel_rfl, v5 := fun _ => by kernel_rfl, i5 := by kernel_rfl,
    t9 := by kernel_rfl, a9 := fun _ => by kernel_rfl, z9 := fun _ => by kernel_rfl, v9 := fun _ => by kernel_rfl, i9 := by kernel_rfl,
    t37 := by kernel_rfl, a37 := fun _ => by kernel_rfl, z37 := fun _ => by kernel_rfl, v37 := fun _ => by kernel_rfl, i37 := by kernel_rfl,
    t47 := by kernel_rfl, a47 := fun _ => by kernel_rfl, z47 := fun _ => by kernel_rfl, v47 := fun _ => by kernel_rfl, i47 := by kernel_rfl }

theorem clone_any (s : ByteArray) (w : World) (hlim : s.size ≤ 281474976710656) :
    Calls Tryd.prog 28 #[.string s] w fun e w' => e = .returned (.string s) ∧ Below w.heap.size w w' := by
  go_enter Tryd.func28, Tryd.ntmps28
  go_wp2_with fail
  refine (AnyPu.stringslite_Clone cloneLays s _ hlim).mono ?_
  rintro e w1 ⟨rfl, hb1⟩
  go_wp2
  go_ret
  exact ⟨rfl, hb1⟩
end Go.Proofs.YtelneckipjbiaaaDoor.utf

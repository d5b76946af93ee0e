/- Layer 7: label.Has, and of the document Has and Among; slices.Contains at texts. -/
import Derived.Test.YtodobacgbbpmfaaDoorLabIdx
import Derived.Shelf.Pu.Clone
namespace Go.Proofs.YtodobacgbbpmfaaDoor.lab
open Go.RowKit Go.Proofs.YtodobacgbbpmfaaDoor.rep

/-- Where the shelf's numbers lie in this program. -/
def cloneRen : Go.Shelf.Ren :=
  { f := fun x => if x = 25 then 39 else x,
    t := fun x => if x = 37 then 77 else if x = 47 then 78 else if x = 9 then 9 else if x = 5 then 5 else if x = 4 then 4 else if x = 3 then 3 else 0,
    g := fun x => x }
theorem cloneLays : LaysPu.n25 Tryd.prog cloneRen :=
  { mixed := by kernel_rfl, f25 := by kernel_rfl,
    t0 := by kernel_rfl, a0 := fun _ => by kernel_rfl, z0 := fun _ => by kernel_rfl, v0 := fun _ => by kernel_rfl, i0 := by kernel_rfl,
    t3 := by kernel_rfl, a3 := fun _ => by kernel_rfl, z3 := fun _ => by kernel_rfl, v3 := fun _ => by kernel_rfl, i3 := by kernel_rfl,
    t4 := by kernel_rfl, a4 := fun _ => by kernel_rfl, z4 := fun _ => by kernel_rfl, v4 := fun _ => by kernel_rfl, i4 := by kernel_rfl,
    t5 := by kernel_rfl, a5 := fun _ => by kernel_rfl, z5 := fun _ => by kernel_rfl, v5 := fun _ => by kernel_rfl, i5 := by kernel_rfl,
    t9 := by kernel_rfl, a9 := fun _ => by kernel_rfl, z9 := fun _ => by kernel_rfl, v9 := fun _ => by kernel_rfl, i9 := by kernel_rfl,
    t37 := by kernel_rfl, a37 := fun _ => by kernel_rfl, z37 := fun _ => by kernel_rfl, v37 := fun _ => by kernel_rfl, i37 := by kernel_rfl,
    t47 := by kernel_rfl, a47 := fun _ => by kernel_rfl, z47 := fun _ => by kernel_rfl, v47 := fun _ => by kernel_rfl, i47 := by kernel_rfl }
theorem clone_any (s : ByteArray) (w : World) (hlim : s.size ≤ 281474976710656) :
    Calls Tryd.prog 25 #[.string s] w fun e w' => e = .returned (.string s) ∧ Below w.heap.size w w' := by
  go_enter Tryd.func25, Tryd.ntmps25
  go_wp2_with fail
  refine (AnyPu.stringslite_Clone cloneLays s _ hlim).mono ?_
  rintro e w1 ⟨rfl, hb1⟩
  go_wp2
  go_ret
  exact ⟨rfl, hb1⟩

theorem cell_new (w : World) (cs : Array Value) (t : TypeId) (j : Nat) : (w.alloc (.cells cs t)).cell? ⟨w.heap.size, j, none⟩ = cs[j]? := cell_of_row _ w.heap.size j cs t (0, 0) (heap_alloc_new w _)
theorem below_new (w : World) (o : Obj) : Below w.heap.size w (w.alloc o) := (Below.refl _ _).alloc (Nat.le_refl _) o

theorem hasC_any (x : Pr) (key : ByteArray) (g : Nat) (w : World) (hg : w.cell? ⟨g, 0, none⟩ = some (.string key)) :
    Calls Tryd.prog 24 #[.agg #[.string x.key, .string x.value], .pointer (some ⟨g, 0, none⟩)] w fun e w' => e = .returned (.bool (keyIs key x)) ∧ Below w.heap.size w w' := by
  have hlt := World.block_lt_of_cell? w _ hg
  simp only at hlt
  go_enter Tryd.func24, Tryd.ntmps24
  go_wp2
  go_ret
  exact ⟨rfl, below_new _ _⟩
theorem has_ask (B : Nat) (key : ByteArray) (g : Nat) (w : World) (hg : w.cell? ⟨g, 0, none⟩ = some (.string key)) :
    AskR (PrV B) 24 #[.pointer (some ⟨g, 0, none⟩)] (keyIs key) w :=
  ⟨enters_of Tryd.func24 (by kernel_rfl) rfl, fun W v x hx hb => by
    obtain ⟨rfl, _⟩ := hx
    exact hasC_any x key g W ((hb.cell (World.block_lt_of_cell? w _ hg)).trans hg)⟩
def HasTo (l : List Pr) (key : ByteArray) (w : World) (e : Ending) (w' : World) : Prop := e = .returned (.tuple #[.string (hasV l key), .bool (hasB l key)]) ∧ Below w.heap.size w w'
set_option maxHeartbeats 400000 in
theorem Has_any (B : Nat) (hB : B ≤ 140737488355328) (a : Option Addr) (c : Nat) (l : List Pr) (hl : l.length ≤ 9223372036854775807) (key : ByteArray) (w : World) (hr : RowIn (prR B) w a l) :
    Calls Tryd.prog 12 #[.slice a l.length c, .string key] w (HasTo l key w) := by
  have Hr := Lib.hid hr
  clear hr
  cases hh : hasB l key with
  | false =>
    obtain ⟨h1, h2⟩ := has_no hh
    have H : Hid (∀ w w', Below w.heap.size w w' → HasTo l key w (.returned (.tuple #[.string ⟨#[]⟩, .bool false])) w') := fun w w' hb => ⟨by rw [hh, h2], hb⟩
    have ci := fun f cap w hr hp => idxP_any B a c l hl f cap (keyIs key) w hr hp
    rw [h1] at ci
    clear h1 h2 hh
    go_enter Tryd.func12, Tryd.ntmps12
    go_wp2_with fail
    refine (ci _ _ _ (Hr.out.later (below_new _ _)) (has_ask B key _ _ (cell_new _ _ _ _))).mono ?_
    rintro e w1 ⟨rfl, hb1⟩
    go_wp2
    go_ret2
    exact H.out _ _ (chain (below_new _ _) hb1)
  | true =>
    obtain ⟨i, hi, h1, h2⟩ := has_idx hh
    have H : Hid (∀ w w', Below w.heap.size w w' → HasTo l key w (.returned (.tuple #[.string l[i].value, .bool true])) w') := fun w w' hb => ⟨by rw [hh, h2], hb⟩
    have ci := fun f cap w hr hp => idxP_any B a c l hl f cap (keyIs key) w hr hp
    rw [h1] at ci
    clear h1 h2 hh
    have hn := below_new w (.cells #[.string key] 9)
    obtain ⟨b, off, rfl, hbl, cs, hat, hcell⟩ := Hr.out.get hi
    obtain ⟨hcs, _, hsz⟩ := hat
    subst hcs
    have c1 : w.cell? ⟨b, off + i * 2 + 1, none⟩ = some (.string l[i].value) := hcell 1 _ rfl
    clear hcell
    go_enter Tryd.func12, Tryd.ntmps12
    go_wp2_with fail
    refine (ci _ _ _ (Hr.out.later (below_new _ _)) (has_ask B key _ _ (cell_new _ _ _ _))).mono ?_
    rintro e w1 ⟨rfl, hb1⟩
    have hb2 := chain (below_new _ _) hb1
    have c2 : w1.cell? ⟨b, off + i * 2 + 1, none⟩ = some (.string l[i].value) := (hb2.cell (p := ⟨b, off + i * 2 + 1, none⟩) hbl).trans c1
    clear c1
    go_wp2_with fail
    refine (clone_any _ _ (by omega)).mono ?_
    rintro e w2 ⟨rfl, hb3⟩
    go_wp2
    go_ret2
    exact H.out _ _ (chain hb2 hb3)
end Go.Proofs.YtodobacgbbpmfaaDoor.lab

/- Layer 4: Check. -/
import Derived.Test.YtkecimhohmkkkaaDoorTreFits
namespace Go.Proofs.YtkecimhohmkkkaaDoor.tre
open Go.RowKit Go.Shelf

/-- The texts and keys in a value are at most 1000 bytes long. -/
def smallV : V → Bool := V.fold fun v a b => decide (v.text.size ≤ 1000) && a.all id && b.all fun g => decide (g.1.size ≤ 1000) && g.2
theorem smallV_eq (v : V) : smallV v = true ↔ v.text.size ≤ 1000 ∧ (∀ x ∈ v.list, smallV x = true) ∧ ∀ g ∈ v.fields, g.1.size ≤ 1000 ∧ smallV g.2 = true := by
  unfold smallV; rw [V.fold_eq]; simp [and_assoc]
/-- The state: how many were seen; how small all are that are handed over. -/
def chkN (s : Int) (v : V) (_ : ByteArray) (d : Int) : Bool × Int := (decide (wrap64 (s + 1) ≤ 2000) && decide (d < 12) && fitsB v, wrap64 (s + 1))
def ChkInv (B : Nat) (T : TypeId) (s : Int) (W : World) : Prop := Cell1 B T s W ∧ utf.Tab W ∧ B ≠ 1
theorem vst_chk (B : Nat) (T : TypeId) : Vst (ChkInv B T) (Own1 B) :=
  ⟨fun s w w' h hb => ⟨(vst1 B T).stab s w w' h.1 hb, h.2.1.self hb, h.2.2⟩, fun s w b h hb => (vst1 B T).lt s w b h.1 hb, fun _ _ _ _ _ _ h => h⟩

theorem small_her : ∀ v, smallV v = true → (∀ x ∈ v.list, smallV x = true) ∧ ∀ g ∈ v.fields, smallV g.2 = true := fun v h => ⟨((smallV_eq v).1 h).2.1, fun g hg => (((smallV_eq v).1 h).2.2 g hg).2⟩
theorem chk_step {B : Nat} {T : TypeId} {s : Int} {W : World} (h : ChkInv B T s W) (s' : Int) (o : Obj) : Step (ChkInv B T) (Own1 B) s W s' ((W.setCell ⟨B, 0, none⟩ (.int .i64 s')).alloc o) := by
  have hs := cell1_step h.1 s' o
  refine ⟨⟨hs.inv, ?_, h.2.2⟩, hs.gives, hs.keeps⟩
  obtain ⟨t, fr, ht⟩ := h.2.1
  exact ⟨t, fr, (hs.keeps.block _ (Array.getElem?_eq_some_iff.1 ht).1 (fun e => h.2.2 (show 1 = B from e).symm)).trans ht⟩

set_option maxRecDepth 100000 in
set_option maxHeartbeats 1000000 in
theorem visits_chk (N B : Nat) (T : TypeId) : Visits (fun v => smallV v = true) (fun _ => 0) N (ChkInv B T) (Own1 B) 50 #[.pointer (some ⟨B, 0, none⟩)] chkN := by
  refine ⟨enters_of Tryd.func50 (by kernel_rfl) rfl, fun _ _ _ _ => Nat.zero_le _, fun v key d S s W r t hok _ _ _ hi hS hh => ?_⟩
  have hl := (Array.getElem?_eq_some_iff.1 hi.1).1
  have c0 : W.cell? ⟨B, 0, none⟩ = some (.int .i64 s) := by rw [blk_cell hi.1]; rfl
  have f0 := blk_frozen hi.1 0
  have hst := chk_step hi (wrap64 (s + 1))
  obtain ⟨ht, _, hf⟩ := (smallV_eq v).1 hok
  have hcall := fun o => fits_any v (Nat.le_trans ht (by decide)) (fun x hx => Nat.le_trans (hf x hx).1 (by decide)) S ((W.setCell ⟨B, 0, none⟩ (.int .i64 (wrap64 (s + 1)))).alloc o) r t (fun g hg => ((hst o).free hS).1 g hg |>.1) (hh.map ((hst o).free hS).2) (hst o).inv.2.1
  have Hst := Lib.hid hst
  clear hi hst hh hS hok ht hf
  by_cases h1 : wrap64 (s + 1) ≤ 2000
  · have d1 : decide (wrap64 (s + 1) ≤ 2000) = true := decide_eq_true h1
    by_cases h2 : d < 12
    · have d2 : decide (d < 12) = true := decide_eq_true h2
      have H := Lib.hid (show chkN s v key d = (fitsB v, wrap64 (s + 1)) by unfold chkN; rw [d1, d2]; rfl)
      go_enter Tryd.func50, Tryd.ntmps50
      go_wp2_with fail
      refine (hcall _).mono ?_
      rintro e w1 ⟨rfl, hb⟩
      go_wp2
      go_ret
      rw [H.out]
      exact ⟨rfl, (Hst.out _).trans (Step.below (vst_chk B T) (Hst.out _).inv hb)⟩
    · have d2 : decide (d < 12) = false := decide_eq_false h2
      have H := Lib.hid (show chkN s v key d = (false, wrap64 (s + 1)) by unfold chkN; rw [d1, d2]; rfl)
      clear hcall
      go_enter Tryd.func50, Tryd.ntmps50
      go_wp2
      go_ret
      rw [H.out]
      exact ⟨rfl, Hst.out _⟩
  · have d1 : decide (wrap64 (s + 1) ≤ 2000) = false := decide_eq_false h1
    have H := Lib.hid (show chkN s v key d = (false, wrap64 (s + 1)) by unfold chkN; rw [d1]; rfl)
    clear hcall
    go_enter Tryd.func50, Tryd.ntmps50
    go_wp2
    go_ret
    rw [H.out]
    exact ⟨rfl, Hst.out _⟩

/-- What Check answers, as it goes. -/
def checkW (v : V) : Bool := (walkS chkN v ⟨#[]⟩ 0 0).1
/-- Check. -/
theorem Check_any (v : V) (hok : smallV v = true) (hv : depthV v < 4611686018427387904) (S : Nat → Prop) (W : World) (r t : Sl) (hS : ∀ g, S g → g < W.heap.size) (hh : HV S W v r t) (hT : utf.Tab W) :
    Calls Tryd.prog 21 #[.agg #[.int .i64 v.kind, .int .i64 v.int, .string v.text, .slice r.a r.n r.c, .slice t.a t.n t.c]] W fun e w' => e = .returned (.bool (checkW v)) ∧ Below W.heap.size W w' := by
  have hb2 : ∀ o1 o2, Below W.heap.size W ((W.alloc o1).alloc o2) := fun o1 o2 => ((Below.refl _ _).alloc (Nat.le_refl _) o1).alloc (by rw [size_alloc]; omega) o2
  have hcall := fun o1 T => walk_any small_her (s := 0) (vst_chk (W.heap.size + 1) T) (visits_chk (countV v) (W.heap.size + 1) T) v hok (Nat.le_of_eq (Nat.zero_add _)) hv S ((W.alloc o1).alloc (.cells #[.int .i64 0] T)) r t
    ⟨by have := block_new (W.alloc o1) (.cells #[.int .i64 0] T); rwa [size_alloc] at this, hT.self (hb2 _ _), by have := hT.pos; omega⟩
    (fun g hg => ⟨Nat.lt_of_lt_of_le (hS g hg) (hb2 _ _).size, fun e => by have := hS g hg; obtain rfl : g = W.heap.size + 1 := e; omega⟩) (hh.later (hb2 _ _))
  have Hb := Lib.hid hb2
  clear hh hS hb2 hv hok hT
  go_enter Tryd.func21, Tryd.ntmps21
  go_wp2_with fail
  refine (hcall _ _).mono ?_
  rintro e w1 ⟨rfl, hs1⟩
  go_wp2
  go_ret
  exact ⟨rfl, (Hb.out _ _).trans (hs1.keeps.below (fun k hk => by obtain rfl : k = W.heap.size + 1 := hk; omega) (Hb.out _ _).size)⟩
end Go.Proofs.YtkecimhohmkkkaaDoor.tre

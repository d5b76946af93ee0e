/- Layer 4: the document's own Check and Make. Layer 4: Check, as it goes, is the document's. Layer 4: what Make answers, plain, and that it is what the document's answers. -/
import Derived.Test.YteocenjneoclbaaDoorTrmCopy
import Derived.Test.YteocenjneoclbaaDoorTrmFit
import Derived.Test.YteocenjneoclbaaDoorTrmMade
import Derived.Test.YteocenjneoclbaaDoorTrmMakeP
import Derived.Test.YteocenjneoclbaaDoorTrmRShape
namespace Go.Proofs.YteocenjneoclbaaDoor.tre
open Go.RowKit Go.Shelf

/-- May a value be? -/
def checkR (v : V) : Bool := decide (depthV v ≤ 12) && decide (countV v ≤ 2000) && shapeV v
set_option maxRecDepth 100000 in
theorem rCheck_any (v : V) (hs : smallV v = true) (hc : countV v < 4611686018427387904) (S : Nat → Prop) (W : World) (r t : Sl) (hS : ∀ g, S g → g < W.heap.size) (hh : HV S W v r t) :
    Calls Tryd.prog 15 #[.agg #[.int .i64 v.kind, .int .i64 v.int, .string v.text, .slice r.a r.n r.c, .slice t.a t.n t.c]] W fun e w' => e = .returned (.bool (checkR v)) ∧ Below W.heap.size W w' := by
  have hb1 : ∀ o, Below W.heap.size W (W.alloc o) := fun o => (Below.refl _ _).alloc (Nat.le_refl _) o
  have hd := depth_count v
  have cD := fun W1 (hb : Below W.heap.size W W1) => rDepth_any v S W1 r t (fun g hg => Nat.lt_of_lt_of_le (hS g hg) hb.size) (hh.later hb) (by omega)
  have cC := fun W1 (hb : Below W.heap.size W W1) => rCount_any v S W1 r t (fun g hg => Nat.lt_of_lt_of_le (hS g hg) hb.size) (hh.later hb) hc
  have cS := fun W1 (hb : Below W.heap.size W W1) => shape_any v S W1 r t (fun g hg => Nat.lt_of_lt_of_le (hS g hg) hb.size) (hh.later hb) hs
  have hbx : ∀ T w1, Below (W.heap.size + 1) (W.alloc (.cells #[.int .i64 v.kind, .int .i64 v.int, .string v.text, .slice r.a r.n r.c, .slice t.a t.n t.c] T)) w1 → w1.heap[W.heap.size]? = some (.cells #[.int .i64 v.kind, .int .i64 v.int, .string v.text, .slice r.a r.n r.c, .slice t.a t.n t.c] T (0, 0)) := fun T w1 hb => (hb.block _ (Nat.lt_succ_self _)).trans (block_new W _)
  have H := Lib.hid (And.intro hb1 (And.intro cC (And.intro cS hbx)))
  clear hb1 cC cS hbx hh hS hs hd
  have cD2 := fun o => cD (W.alloc o) (H.out.1 o)
  clear cD
  by_cases h1 : depthV v ≤ 12
  · have z1 : (depthV v : Int) ≤ 12 := by omega
    have d1 : decide ((depthV v : Int) ≤ 12) = true := decide_eq_true z1
    by_cases h2 : countV v ≤ 2000
    · have z2 : (countV v : Int) ≤ 2000 := by omega
      have d2 : decide ((countV v : Int) ≤ 2000) = true := decide_eq_true z2
      have Ho := Lib.hid (show checkR v = shapeV v by unfold checkR; rw [decide_eq_true h1, decide_eq_true h2]; rfl)
      clear h1 h2
      go_enter Tryd.func15, Tryd.ntmps15
      go_wp2_with (go_at_call 17; refine (cD2 _).mono ?_; rintro e w1 ⟨rfl, hb⟩; have e1 := H.out.2.2.2 _ w1 (by rw [size_alloc] at hb; exact hb); have k0 : w1.cell? ⟨W.heap.size, 0, none⟩ = some (.int .i64 v.kind) := (by rw [blk_cell e1]; rfl); have k1 : w1.cell? ⟨W.heap.size, 1, none⟩ = some (.int .i64 v.int) := (by rw [blk_cell e1]; rfl); have k2 : w1.cell? ⟨W.heap.size, 2, none⟩ = some (.string v.text) := (by rw [blk_cell e1]; rfl); have k3 : w1.cell? ⟨W.heap.size, 3, none⟩ = some (.slice r.a r.n r.c) := (by rw [blk_cell e1]; rfl); have k4 : w1.cell? ⟨W.heap.size, 4, none⟩ = some (.slice t.a t.n t.c) := (by rw [blk_cell e1]; rfl); have H1 := Lib.hid hb; clear hb e1)
      refine (H.out.2.1 _ ((H.out.1 _).trans (H1.out.mono (H.out.1 _).size))).mono ?_
      rintro e w2 ⟨rfl, hb2⟩
      have hb02 := H1.out.trans (hb2.mono H1.out.size)
      have e2 := H.out.2.2.2 _ w2 (by rw [size_alloc] at hb02; exact hb02)
      have m0 : w2.cell? ⟨W.heap.size, 0, none⟩ = some (.int .i64 v.kind) := by rw [blk_cell e2]; rfl
      have m1 : w2.cell? ⟨W.heap.size, 1, none⟩ = some (.int .i64 v.int) := by rw [blk_cell e2]; rfl
      have m2 : w2.cell? ⟨W.heap.size, 2, none⟩ = some (.string v.text) := by rw [blk_cell e2]; rfl
      have m3 : w2.cell? ⟨W.heap.size, 3, none⟩ = some (.slice r.a r.n r.c) := by rw [blk_cell e2]; rfl
      have m4 : w2.cell? ⟨W.heap.size, 4, none⟩ = some (.slice t.a t.n t.c) := by rw [blk_cell e2]; rfl
      have H2 := Lib.hid hb02
      clear hb2 hb02 e2 k0 k1 k2 k3 k4 cD2
      go_wp2_with fail
      refine (H.out.2.2.1 _ ((H.out.1 _).trans (H2.out.mono (H.out.1 _).size))).mono ?_
      rintro e w3 ⟨rfl, hb3⟩
      go_wp2
      go_ret
      rw [Ho.out]
      exact ⟨rfl, ((H.out.1 _).trans (H2.out.mono (H.out.1 _).size)).trans (hb3.mono ((H.out.1 _).trans (H2.out.mono (H.out.1 _).size)).size)⟩
    · have z2 : ¬ (countV v : Int) ≤ 2000 := by omega
      have d2 : decide ((countV v : Int) ≤ 2000) = false := decide_eq_false z2
      have Ho := Lib.hid (show checkR v = false by unfold checkR; rw [decide_eq_false h2]; simp)
      clear h1 h2
      go_enter Tryd.func15, Tryd.ntmps15
      go_wp2_with (go_at_call 17; refine (cD2 _).mono ?_; rintro e w1 ⟨rfl, hb⟩; have e1 := H.out.2.2.2 _ w1 (by rw [size_alloc] at hb; exact hb); have k0 : w1.cell? ⟨W.heap.size, 0, none⟩ = some (.int .i64 v.kind) := (by rw [blk_cell e1]; rfl); have k1 : w1.cell? ⟨W.heap.size, 1, none⟩ = some (.int .i64 v.int) := (by rw [blk_cell e1]; rfl); have k2 : w1.cell? ⟨W.heap.size, 2, none⟩ = some (.string v.text) := (by rw [blk_cell e1]; rfl); have k3 : w1.cell? ⟨W.heap.size, 3, none⟩ = some (.slice r.a r.n r.c) := (by rw [blk_cell e1]; rfl); have k4 : w1.cell? ⟨W.heap.size, 4, none⟩ = some (.slice t.a t.n t.c) := (by rw [blk_cell e1]; rfl); have H1 := Lib.hid hb; clear hb e1)
      refine (H.out.2.1 _ ((H.out.1 _).trans (H1.out.mono (H.out.1 _).size))).mono ?_
      rintro e w2 ⟨rfl, hb2⟩
      go_wp2
      go_ret
      rw [Ho.out]
      exact ⟨rfl, ((H.out.1 _).trans (H1.out.mono (H.out.1 _).size)).trans (hb2.mono ((H.out.1 _).trans (H1.out.mono (H.out.1 _).size)).size)⟩
  · have z1 : ¬ (depthV v : Int) ≤ 12 := by omega
    have d1 : decide ((depthV v : Int) ≤ 12) = false := decide_eq_false z1
    have Ho := Lib.hid (show checkR v = false by unfold checkR; rw [decide_eq_false h1]; simp)
    clear h1
    go_enter Tryd.func15, Tryd.ntmps15
    go_wp2_with fail
    refine (cD2 _).mono ?_
    rintro e w1 ⟨rfl, hb⟩
    go_wp2
    go_ret
    rw [Ho.out]
    exact ⟨rfl, (H.out.1 _).trans (hb.mono (H.out.1 _).size)⟩

theorem below5 {B : Nat} {a w : World} {g : Nat} (h : Below B a w) (hg : B ≤ g) (c0 c1 c2 c3 c4 : Nat) (u0 u1 u2 u3 u4 : Value) :
    Below B a (((((w.setCell ⟨g, c0, none⟩ u0).setCell ⟨g, c1, none⟩ u1).setCell ⟨g, c2, none⟩ u2).setCell ⟨g, c3, none⟩ u3).setCell ⟨g, c4, none⟩ u4) :=
  ((((h.setCell (p := ⟨g, c0, none⟩) hg u0).setCell (p := ⟨g, c1, none⟩) hg u1).setCell (p := ⟨g, c2, none⟩) hg u2).setCell (p := ⟨g, c3, none⟩) hg u3).setCell (p := ⟨g, c4, none⟩) hg u4
def badIt (x : It) : Bool := decide (x.d < 0) || decide (12 < x.d)
/-- The value whose row this is, if there is one, and it may be. -/
def makeR (l : List It) : V × Bool :=
  match l with
  | [] => (nilV, false)
  | x :: r =>
    if (!x.key.toList.isEmpty || (x :: r).any badIt) = true then (nilV, false)
    else if (madeR (x :: r) 0).2 = (x :: r).length ∧ checkR (madeR (x :: r) 0).1 = true then ((madeR (x :: r) 0).1, true) else (nilV, false)

theorem rMake_none (a : Option Addr) (c : Nat) (W : World) : Calls Tryd.prog 34 #[.slice a 0 c] W fun e w' => e = .returned (.tuple #[.agg #[.int .i64 0, .int .i64 0, .string ⟨#[]⟩, .slice none 0 0, .slice none 0 0], .bool false]) ∧ Below W.heap.size W w' := by
  go_enter Tryd.func34, Tryd.ntmps34
  go_wp2
  refine bodyPost_ret (results_pair rfl _ _ W.heap.size 27 _ (0, 0) _ rfl (block_new W _) Tryd.underlying27 rfl size_V) rfl ?_
  exact ⟨rfl, (Below.refl _ _).alloc (Nat.le_refl _) _⟩

set_option maxRecDepth 100000 in
set_option maxHeartbeats 4000000 in
theorem rMake_any (l : List It) (hne : l ≠ []) (h2k : l.length ≤ 2000) (hsm : ∀ y ∈ l, y.key.size ≤ 1000 ∧ y.text.size ≤ 1000) (bl c : Nat) (W : World) (hlc : l.length ≤ c) (hcm : c ≤ maxLen) (hbl : bl < W.heap.size) (hit : ItAt W bl 0 l) :
    Calls Tryd.prog 34 #[.slice (some ⟨bl, 0, none⟩) l.length c] W fun e w' => ∃ p q : Sl, e = .returned (.tuple #[.agg #[.int .i64 (makeR l).1.kind, .int .i64 (makeR l).1.int, .string (makeR l).1.text, .slice p.a p.n p.c, .slice q.a q.n q.c], .bool (makeR l).2]) ∧
      HM W.heap.size w' (makeR l).1 p q ∧ Below W.heap.size W w' := by
  have hpos : 0 < l.length := List.length_pos_iff.2 hne
  have hb1 : ∀ o, Below W.heap.size W (W.alloc o) := fun o => (Below.refl _ _).alloc (Nat.le_refl _) o
  have e0 : ((l.length : Int) == 0) = false := by have : ¬ (l.length : Int) = 0 := by omega
                                                  simpa using this
  have e1 : ¬ (2000 : Int) < (l.length : Int) := by omega
  have lz : (0 : Int) < (l.length : Int) := by omega
  obtain ⟨x0, hxe⟩ : ∃ x0, l[0] = x0 := ⟨_, rfl⟩
  have hx0 := hit.five 0 hpos
  simp only [Nat.zero_mul, Nat.add_zero, Nat.zero_add] at hx0
  rw [hxe] at hx0
  obtain ⟨_, _, _, k3, _⟩ := hx0
  have hmk : makeR l = if (!x0.key.toList.isEmpty || l.any badIt) = true then (nilV, false) else if (madeR l 0).2 = l.length ∧ checkR (madeR l 0).1 = true then ((madeR l 0).1, true) else (nilV, false) := by
    match l, hpos, hxe with
    | y :: l, _, hxe => rw [← hxe]; rfl
  have Hb := Lib.hid (And.intro hb1 (And.intro hit hsm))
  clear hb1 hit hsm hxe hne
  have hret : ∀ w1, Below (W.heap.size + 1) (W.alloc (.cells #[.int .i64 0, .int .i64 0, .string ⟨#[]⟩, .slice none 0 0, .slice none 0 0] 27)) w1 → w1.heap[W.heap.size]? = some (.cells #[.int .i64 0, .int .i64 0, .string ⟨#[]⟩, .slice none 0 0, .slice none 0 0] 27 (0, 0)) := fun w1 hb => (hb.block _ (Nat.lt_succ_self _)).trans (block_new W _)
  have Hr := Lib.hid hret
  clear hret
  cases hke : x0.key.toList.isEmpty with
  | false =>
    have hkb : (!x0.key.toList.isEmpty) = true := by rw [hke]; rfl
    have Ho := Lib.hid (show makeR l = (nilV, false) by rw [hmk, hkb]; rfl)
    clear hmk
    go_enter Tryd.func34, Tryd.ntmps34
    go_wp2
    refine bodyPost_ret (results_pair rfl _ _ W.heap.size 27 _ (0, 0) _ rfl (block_new W _) Tryd.underlying27 rfl size_V) rfl ?_
    rw [Ho.out]
    exact ⟨⟨none, 0, 0⟩, ⟨none, 0, 0⟩, rfl, HM.none _ _ _ _ _, Hb.out.1 _⟩
  | true =>
    have hkb : (!x0.key.toList.isEmpty) = false := by rw [hke]; rfl
    have Hm := Lib.hid (show makeR l = if l.any badIt = true then (nilV, false) else if (madeR l 0).2 = l.length ∧ checkR (madeR l 0).1 = true then ((madeR l 0).1, true) else (nilV, false) by rw [hmk, hkb]; rfl)
    clear hmk
    go_enter Tryd.func34, Tryd.ntmps34
    go_wp2
    go_loopg [4] l.length (fun gg s4 wr => ∃ i : Nat, i ≤ l.length ∧ l.length - i ≤ gg ∧ s4 = .int .i64 i ∧ Hid ((∀ y ∈ l.take i, badIt y = false) ∧ Below (W.heap.size + 1) (W.alloc (.cells #[.int .i64 0, .int .i64 0, .string ⟨#[]⟩, .slice none 0 0, .slice none 0 0] 27)) wr))
    case atStart => exact ⟨0, Nat.zero_le _, by omega, rfl, by simp, Below.refl _ _⟩
    case round =>
      obtain ⟨i, hil, hgg, rfl, H⟩ := hrel
      have hBW := (Hb.out.1 (.cells #[.int .i64 0, .int .i64 0, .string ⟨#[]⟩, .slice none 0 0, .slice none 0 0] 27)).trans (H.out.2.mono (Nat.le_succ _))
      have zb := Hr.out wr H.out.2
      have lW : W.heap.size < wr.heap.size := (Array.getElem?_eq_some_iff.1 zb).1
      by_cases hlt : i < l.length
      · have hltz : (i : Int) < (l.length : Int) := by omega
        have hf := (Hb.out.2.1.later hBW hbl).five i hlt
        simp only [Nat.zero_mul, Nat.zero_add] at hf
        have htk := List.take_succ_eq_append_getElem hlt
        have hin := List.getElem_mem hlt
        generalize l[i] = y at hf htk hin
        obtain ⟨i0, _, _, _, _⟩ := hf
        have s0 : wr.cell? ⟨W.heap.size, 0, none⟩ = some (.int .i64 0) := by rw [blk_cell zb]; rfl
        have g0 := blk_frozen zb 0
        have s1 : wr.cell? ⟨W.heap.size, 1, none⟩ = some (.int .i64 0) := by rw [blk_cell zb]; rfl
        have g1 := blk_frozen zb 1
        have s2 : wr.cell? ⟨W.heap.size, 2, none⟩ = some (.string ⟨#[]⟩) := by rw [blk_cell zb]; rfl
        have g2 := blk_frozen zb 2
        have s3 : wr.cell? ⟨W.heap.size, 3, none⟩ = some (.slice none 0 0) := by rw [blk_cell zb]; rfl
        have g3 := blk_frozen zb 3
        have s4 : wr.cell? ⟨W.heap.size, 4, none⟩ = some (.slice none 0 0) := by rw [blk_cell zb]; rfl
        have g4 := blk_frozen zb 4
        have HB := Lib.hid (And.intro hBW (And.intro zb (And.intro htk hin)))
        clear hBW zb htk hin
        by_cases hy0 : y.d < 0
        · have Ho := Lib.hid (show makeR l = (nilV, false) by
            rw [Hm.out, if_pos (List.any_eq_true.2 ⟨y, HB.out.2.2.2, by unfold badIt; rw [decide_eq_true hy0]; rfl⟩)])
          go_wp2
          refine bodyPost_ret (results_pair rfl _ _ W.heap.size 27 _ (0, 0) _ rfl (set5 _ _ _ _ _ HB.out.2.1) Tryd.underlying27 rfl size_V) rfl ?_
          rw [Ho.out]
          exact ⟨⟨none, 0, 0⟩, ⟨none, 0, 0⟩, rfl, HM.none _ _ _ _ _, below5 HB.out.1 (Nat.le_refl _) _ _ _ _ _ _ _ _ _ _⟩
        · by_cases hy1 : 12 < y.d
          · have Ho := Lib.hid (show makeR l = (nilV, false) by
              rw [Hm.out, if_pos (List.any_eq_true.2 ⟨y, HB.out.2.2.2, by unfold badIt; rw [decide_eq_true hy1]; simp⟩)])
            go_wp2
            refine bodyPost_ret (results_pair rfl _ _ W.heap.size 27 _ (0, 0) _ rfl (set5 _ _ _ _ _ HB.out.2.1) Tryd.underlying27 rfl size_V) rfl ?_
            rw [Ho.out]
            exact ⟨⟨none, 0, 0⟩, ⟨none, 0, 0⟩, rfl, HM.none _ _ _ _ _, below5 HB.out.1 (Nat.le_refl _) _ _ _ _ _ _ _ _ _ _⟩
          · have hyb : badIt y = false := by unfold badIt; rw [decide_eq_false hy0, decide_eq_false hy1]; rfl
            have Hy := Lib.hid hyb
            clear hyb
            go_wp2
            go_roundg (l.length - (i + 1))
            case measure => omega
            case rel =>
              refine ⟨i + 1, by omega, by omega, by go_num, ?_, H.out.2⟩
              rw [HB.out.2.2.1]
              intro z hz
              rcases List.mem_append.1 hz with hz | hz
              · exact H.out.1 z hz
              · rw [List.mem_singleton] at hz; rw [hz]; exact Hy.out
      · obtain rfl : i = l.length := by omega
        have hany : l.any badIt = false := by
          have := H.out.1
          rw [List.take_length] at this
          exact List.any_eq_false.2 (fun y hy => by rw [this y hy]; simp)
        have hM := Hm.out
        rw [if_neg (by rw [hany]; simp)] at hM
        have hcall := made_any l.length l (Nat.le_refl _) bl 0 c 0 wr (List.length_pos_iff.1 hpos) h2k hlc hcm (Nat.lt_of_lt_of_le hbl hBW.size) (Hb.out.2.1.later hBW hbl) (Int.le_refl _) (by omega)
        have hsR : smallV (madeR l 0).1 = true ∧ ((madeR l 0).2 ≤ l.length → countV (madeR l 0).1 < 4611686018427387904) := by
          unfold madeR
          split
          · rename_i r hr
            have h1 := madeV_count l 0 r.1 r.2 hr
            exact ⟨madeV_small l Hb.out.2.2 0 r.1 r.2 hr, fun h => by omega⟩
          · exact ⟨by decide +kernel, fun _ => by decide +kernel⟩
        have zb2 := zb
        have HB := Lib.hid (And.intro hBW (And.intro hM hsR))
        clear hBW hany hM hsR zb
        go_wp2_with (go_at_call 59; refine hcall.mono ?_; rintro e w4 ⟨hkl, px, qx, rfl, hvx, hb4⟩; have z4 := (hb4.block W.heap.size lW).trans zb2; have s0 : w4.cell? ⟨W.heap.size, 0, none⟩ = some (.int .i64 0) := (by rw [blk_cell z4]; rfl); have g0 := blk_frozen z4 0; have s1 : w4.cell? ⟨W.heap.size, 1, none⟩ = some (.int .i64 0) := (by rw [blk_cell z4]; rfl); have g1 := blk_frozen z4 1; have s2 : w4.cell? ⟨W.heap.size, 2, none⟩ = some (.string ⟨#[]⟩) := (by rw [blk_cell z4]; rfl); have g2 := blk_frozen z4 2; have s3 : w4.cell? ⟨W.heap.size, 3, none⟩ = some (.slice none 0 0) := (by rw [blk_cell z4]; rfl); have g3 := blk_frozen z4 3; have s4 : w4.cell? ⟨W.heap.size, 4, none⟩ = some (.slice none 0 0) := (by rw [blk_cell z4]; rfl); have g4 := blk_frozen z4 4; have l4 : W.heap.size < w4.heap.size := Nat.lt_of_lt_of_le lW hb4.size; have H4 := Lib.hid (And.intro hkl (And.intro hvx (And.intro hb4 z4))); clear hkl hvx hb4 z4)
        have hck := rCheck_any (madeR l 0).1 HB.out.2.2.1 (HB.out.2.2.2 H4.out.1) (fun g => wr.heap.size ≤ g ∧ g < w4.heap.size) (w4.alloc (.cells #[.int .i64 (madeR l 0).1.kind, .int .i64 (madeR l 0).1.int, .string (madeR l 0).1.text, .slice px.a px.n px.c, .slice qx.a qx.n qx.c, .int .i64 (madeR l 0).2] 76)) px qx (fun g hg => by rw [size_alloc]; omega) (H4.out.2.1.hv.map (fun k hk hl => ⟨⟨hk, hl⟩, block_old hl⟩))
        refine hck.mono ?_
        rintro e w5 ⟨rfl, hb5⟩
        have z5 := (hb5.block W.heap.size (by rw [size_alloc]; omega)).trans ((block_old l4).trans H4.out.2.2.2)
        have m5 := (hb5.block w4.heap.size (by rw [size_alloc]; omega)).trans (block_new w4 _)
        have l5 : W.heap.size < w5.heap.size := (Array.getElem?_eq_some_iff.1 z5).1
        have y0 : w5.cell? ⟨W.heap.size, 0, none⟩ = some (.int .i64 0) := by rw [blk_cell z5]; rfl
        have h0 := blk_frozen z5 0
        have y1 : w5.cell? ⟨W.heap.size, 1, none⟩ = some (.int .i64 0) := by rw [blk_cell z5]; rfl
        have h1 := blk_frozen z5 1
        have y2 : w5.cell? ⟨W.heap.size, 2, none⟩ = some (.string ⟨#[]⟩) := by rw [blk_cell z5]; rfl
        have h2 := blk_frozen z5 2
        have y3 : w5.cell? ⟨W.heap.size, 3, none⟩ = some (.slice none 0 0) := by rw [blk_cell z5]; rfl
        have h3 := blk_frozen z5 3
        have y4 : w5.cell? ⟨W.heap.size, 4, none⟩ = some (.slice none 0 0) := by rw [blk_cell z5]; rfl
        have h4 := blk_frozen z5 4
        have n0 : w5.cell? ⟨w4.heap.size, 0, none⟩ = some (.int .i64 (madeR l 0).1.kind) := by rw [blk_cell m5]; rfl
        have n1 : w5.cell? ⟨w4.heap.size, 1, none⟩ = some (.int .i64 (madeR l 0).1.int) := by rw [blk_cell m5]; rfl
        have n2 : w5.cell? ⟨w4.heap.size, 2, none⟩ = some (.string (madeR l 0).1.text) := by rw [blk_cell m5]; rfl
        have n3 : w5.cell? ⟨w4.heap.size, 3, none⟩ = some (.slice px.a px.n px.c) := by rw [blk_cell m5]; rfl
        have n4 : w5.cell? ⟨w4.heap.size, 4, none⟩ = some (.slice qx.a qx.n qx.c) := by rw [blk_cell m5]; rfl
        have n5 : w5.cell? ⟨w4.heap.size, 5, none⟩ = some (.int .i64 (madeR l 0).2) := by rw [blk_cell m5]; rfl
        have H5 := Lib.hid (And.intro z5 hb5)
        clear hck hb5 z5 m5 hcall
        have hbb : Below W.heap.size W w5 := (HB.out.1.trans ((H4.out.2.2.1.alloc H4.out.2.2.1.size _).mono HB.out.1.size)).trans (H5.out.2.mono (by rw [size_alloc]; have := HB.out.1.size; have := H4.out.2.2.1.size; omega))
        have Hbb := Lib.hid hbb
        clear hbb
        by_cases hN : (madeR l 0).2 = l.length
        · have hNa : (((madeR l 0).2 : Int) != (l.length : Int)) = false := by rw [hN]; simp
          cases hc : checkR (madeR l 0).1 with
          | true =>
            have Ho := Lib.hid (show makeR l = ((madeR l 0).1, true) by rw [HB.out.2.1, if_pos ⟨hN, hc⟩])
            clear hN hc
            go_wp2
            refine bodyPost_ret (results_pair rfl _ _ W.heap.size 27 _ (0, 0) _ rfl (set5 _ _ _ _ _ H5.out.1) Tryd.underlying27 rfl size_V) rfl ?_
            rw [Ho.out]
            refine ⟨px, qx, rfl, H4.out.2.1.map (fun k hk hl => ⟨by have := HB.out.1.size; omega, (far5 (by omega)).trans ((H5.out.2.block k (by rw [size_alloc]; omega)).trans (block_old hl))⟩), below5 Hbb.out (Nat.le_refl _) _ _ _ _ _ _ _ _ _ _⟩
          | false =>
            have Ho := Lib.hid (show makeR l = (nilV, false) by rw [HB.out.2.1, if_neg (fun h => by rw [hc] at h; cases h.2)])
            clear hN hc
            go_wp2
            refine bodyPost_ret (results_pair rfl _ _ W.heap.size 27 _ (0, 0) _ rfl (set5 _ _ _ _ _ H5.out.1) Tryd.underlying27 rfl size_V) rfl ?_
            rw [Ho.out]
            exact ⟨⟨none, 0, 0⟩, ⟨none, 0, 0⟩, rfl, HM.none _ _ _ _ _, below5 Hbb.out (Nat.le_refl _) _ _ _ _ _ _ _ _ _ _⟩
        · have hNa : (((madeR l 0).2 : Int) != (l.length : Int)) = true := by
            have : ¬ ((madeR l 0).2 : Int) = (l.length : Int) := by omega
            simpa using this
          have Ho := Lib.hid (show makeR l = (nilV, false) by rw [HB.out.2.1, if_neg (fun h => hN h.1)])
          clear hN
          go_wp2
          refine bodyPost_ret (results_pair rfl _ _ W.heap.size 27 _ (0, 0) _ rfl (set5 _ _ _ _ _ H5.out.1) Tryd.underlying27 rfl size_V) rfl ?_
          rw [Ho.out]
          exact ⟨⟨none, 0, 0⟩, ⟨none, 0, 0⟩, rfl, HM.none _ _ _ _ _, below5 Hbb.out (Nat.le_refl _) _ _ _ _ _ _ _ _ _ _⟩
end Go.Proofs.YteocenjneoclbaaDoor.tre
namespace Go.Proofs.YteocenjneoclbaaDoor.tre
open Go.RowKit Go.Shelf

def GoodC (b : Bool × Int) (s D : Int) (c dp : Nat) (sh : Bool) : Prop :=
  (b.1 = true ↔ s + c ≤ 2000 ∧ D + dp ≤ 12 ∧ sh = true) ∧ (b.1 = true → b.2 = s + c)
theorem all_chk {E : Type} (f : Int → E → Bool × Int) (c dp : E → Nat) (sh : E → Bool) (D : Int) (hD : D ≤ 12) : ∀ (l : List E),
    (∀ x ∈ l, ∀ s : Int, 0 ≤ s → s + c x < 4611686018427387904 → GoodC (f s x) s D (c x) (dp x) (sh x)) →
    ∀ s : Int, 0 ≤ s → s ≤ 2000 → s + sumN (l.map c) < 4611686018427387904 → GoodC (allS f s l) s D (sumN (l.map c)) (maxN (l.map dp)) (l.all sh)
  | [], _, s, h0, h1, _ => by
    refine ⟨⟨fun _ => ⟨by simpa [sumN] using h1, by simpa [maxN] using hD, rfl⟩, fun _ => rfl⟩, fun _ => by simp [allS, sumN]⟩
  | x :: l, h, s, h0, h1, h2 => by
    simp only [List.map_cons, sumN, maxN, List.all_cons] at h2 ⊢
    have hx := h x (by simp) s h0 (by omega)
    unfold allS
    by_cases hb : (f s x).1 = true
    · rw [if_pos hb, hx.2 hb]
      have hc := hx.1.1 hb
      have ih := all_chk f c dp sh D hD l (fun y hy => h y (by simp [hy])) (s + c x) (by omega) hc.1 (by omega)
      refine ⟨⟨fun h3 => ?_, fun h3 => ?_⟩, fun h3 => ?_⟩
      · have := ih.1.1 h3
        refine ⟨by omega, by omega, ?_⟩
        rw [hc.2.2, this.2.2]; rfl
      · refine ih.1.2 ⟨by omega, by omega, ?_⟩
        have := h3.2.2
        rw [Bool.and_eq_true] at this
        exact this.2
      · rw [ih.2 h3]; omega
    · rw [if_neg hb]
      refine ⟨⟨fun h3 => by simp at h3, fun h3 => ?_⟩, fun h3 => by simp at h3⟩
      have h4 := h3.2.2
      rw [Bool.and_eq_true] at h4
      exact absurd (hx.1.2 ⟨by omega, by omega, h4.1⟩) hb
theorem walk_chk : ∀ (v : V) (key : ByteArray) (d s : Int), 0 ≤ s → s + countV v < 4611686018427387904 → GoodC (walkS chkN v key d s) s d (countV v) (depthV v) (shapeV v) := V.ind fun v ihl ihf => by
  intro key d s h0 h1
  have hc := countV_eq v
  have hd := depthV_eq v
  have hs := shapeV_eq v
  rw [walkS_eq]
  unfold chkN
  simp only
  rw [wr _ (by omega) (by omega)]
  by_cases hb : (decide (s + 1 ≤ 2000) && decide (d < 12) && fitsB v) = true
  · rw [if_pos hb]
    simp only [Bool.and_eq_true, decide_eq_true_eq] at hb
    obtain ⟨⟨b1, b2⟩, b3⟩ := hb
    rw [fitsB_head, Bool.and_eq_true] at b3
    have e1 := all_chk (inL chkN d) countV depthV shapeV (d + 1) (by omega) v.list (fun x hx s h2 h3 => ihl x hx _ _ _ h2 h3) (s + 1) (by omega) b1 (by omega)
    unfold chkN at e1
    by_cases hl : (allS (inL chkN d) (s + 1) v.list).1 = true
    · unfold chkN at hl
      rw [if_pos hl, e1.2 hl]
      have e1' := e1.1.1 hl
      have e2 := all_chk (inF chkN d) (fun g => countV g.2) (fun g => depthV g.2) (fun g => shapeV g.2) (d + 1) (by omega) v.fields (fun x hx s h2 h3 => ihf x hx _ _ _ h2 h3) (s + 1 + sumN (v.list.map countV)) (by omega) e1'.1 (by omega)
      unfold chkN at e2
      refine ⟨⟨fun h3 => ?_, fun h3 => ?_⟩, fun h3 => ?_⟩
      · have e3 := e2.1.1 h3
        refine ⟨by omega, by omega, ?_⟩
        rw [hs, b3.1, b3.2, e1'.2.2, e3.2.2]; rfl
      · have h4 := h3.2.2
        rw [hs] at h4
        simp only [Bool.and_eq_true] at h4
        exact e2.1.2 ⟨by omega, by omega, h4.2.2.2⟩
      · rw [e2.2 h3]; omega
    · unfold chkN at hl
      rw [if_neg hl]
      refine ⟨⟨fun h3 => by simp at h3, fun h3 => ?_⟩, fun h3 => by simp at h3⟩
      have h4 := h3.2.2
      rw [hs] at h4
      simp only [Bool.and_eq_true] at h4
      exact absurd (e1.1.2 ⟨by omega, by omega, h4.2.1⟩) hl
  · rw [if_neg hb]
    refine ⟨⟨fun h3 => by simp at h3, fun h3 => ?_⟩, fun h3 => by simp at h3⟩
    have h4 := h3.2.2
    rw [hs] at h4
    simp only [Bool.and_eq_true] at h4
    exact absurd (by rw [fitsB_head, h4.1, h4.2.2.1, decide_eq_true (show s + 1 ≤ 2000 by omega), decide_eq_true (show d < 12 by omega)]; rfl) hb
theorem checkW_eq (v : V) (h : countV v < 4611686018427387904) : checkW v = checkR v := by
  have g := (walk_chk v ⟨#[]⟩ 0 0 (Int.le_refl _) (by omega)).1
  unfold checkW checkR
  rw [Bool.eq_iff_iff, g]
  simp only [Bool.and_eq_true, decide_eq_true_eq]
  constructor
  · rintro ⟨h1, h2, h3⟩; exact ⟨⟨by omega, by omega⟩, h3⟩
  · rintro ⟨⟨h1, h2⟩, h3⟩; exact ⟨by omega, by omega, h3⟩
end Go.Proofs.YteocenjneoclbaaDoor.tre
namespace Go.Proofs.YteocenjneoclbaaDoor.tre
open Go.RowKit Go.Shelf

theorem maxN_app (a b : List Nat) : maxN a ≤ maxN (a ++ b) := maxN_le (fun _ hx => le_maxN (List.mem_append_left _ hx))
theorem depth_pos (v : V) : 1 ≤ depthV v := by rw [depthV_eq]; omega
theorem depth_addL (m x : V) : depthV m ≤ depthV (addL m x) ∧ depthV x + 1 ≤ depthV (addL m x) := by
  refine ⟨?_, depth_list (show x ∈ (addL m x).list from List.mem_append_right _ (List.mem_singleton.2 rfl))⟩
  rw [depthV_eq m, depthV_eq (addL m x)]
  have h : maxN (m.list.map depthV) ≤ maxN ((m.list ++ [x]).map depthV) := by rw [List.map_append]; exact maxN_app _ _
  have e1 : (addL m x).list = m.list ++ [x] := rfl
  have e2 : (addL m x).fields = m.fields := rfl
  rw [e1, e2]; omega
theorem depth_addF (m : V) (k : ByteArray) (x : V) : depthV m ≤ depthV (addF m k x) ∧ depthV x + 1 ≤ depthV (addF m k x) := by
  refine ⟨?_, depth_fields (g := (k, x)) (show (k, x) ∈ (addF m k x).fields from List.mem_append_right _ (List.mem_singleton.2 rfl))⟩
  rw [depthV_eq m, depthV_eq (addF m k x)]
  have h : maxN (m.fields.map fun g => depthV g.2) ≤ maxN ((m.fields ++ [(k, x)]).map fun g => depthV g.2) := by rw [List.map_append]; exact maxN_app _ _
  have e1 : (addF m k x).list = m.list := rfl
  have e2 : (addF m k x).fields = m.fields ++ [(k, x)] := rfl
  rw [e1, e2]; omega
theorem loopR_depth (l : List It) : ∀ (n p : Nat) (d : Int) (m : V), depthV m ≤ depthV (loopR l n p d m).1 ∧ ∀ i (h : i < l.length), p ≤ i → i < (loopR l n p d m).2 → d < l[i].d ∧ l[i].d < d + depthV (loopR l n p d m).1
  | 0, p, d, m => ⟨Nat.le_refl _, fun i h h1 h2 => absurd h2 (by show ¬ i < p; omega)⟩
  | n + 1, p, d, m => by
    have stop : ∀ r : V × Nat, r = (m, p) → depthV m ≤ depthV r.1 ∧ ∀ i (h : i < l.length), p ≤ i → i < r.2 → d < l[i].d ∧ l[i].d < d + depthV r.1 := fun r e => by
      subst e
      exact ⟨Nat.le_refl _, fun i h h1 h2 => absurd h2 (by show ¬ i < p; omega)⟩
    by_cases h : p < l.length
    · by_cases hd : l[p].d = d + 1
      · have i1 := loopR_depth l n (p + 1) (d + 1) (leafV l[p])
        have hp := depth_pos (leafV l[p])
        have on : ∀ m', depthV m ≤ depthV m' → depthV (loopR l n (p + 1) (d + 1) (leafV l[p])).1 + 1 ≤ depthV m' → ∀ r, r = loopR l n (loopR l n (p + 1) (d + 1) (leafV l[p])).2 d m' →
            depthV m ≤ depthV r.1 ∧ ∀ i (h : i < l.length), p ≤ i → i < r.2 → d < l[i].d ∧ l[i].d < d + depthV r.1 := fun m' h1 h2 r e => by
          subst e
          have i2 := loopR_depth l n (loopR l n (p + 1) (d + 1) (leafV l[p])).2 d m'
          refine ⟨Nat.le_trans h1 i2.1, fun i hi h3 h4 => ?_⟩
          by_cases h5 : i = p
          · subst h5
            have := i1.1; have := i2.1
            omega
          · by_cases h6 : i < (loopR l n (p + 1) (d + 1) (leafV l[p])).2
            · have := i1.2 i hi (by omega) h6
              have := i2.1
              omega
            · exact i2.2 i hi (by omega) h4
        by_cases h5 : m.kind = 5
        · exact on _ (depth_addF m l[p].key _).1 (depth_addF m l[p].key _).2 _ (loopR_map h hd h5)
        · by_cases h4 : m.kind = 4 ∧ l[p].key.toList.isEmpty = true
          · exact on _ (depth_addL m _).1 (depth_addL m _).2 _ (loopR_list h hd h4.1 h4.2)
          · exact stop _ (loopR_off h h5 h4 _)
      · exact stop _ (loopR_out (fun _ => hd) _)
    · exact stop _ (loopR_out (fun h' => absurd h' h) _)
/-- What Make answers, of rows of a size that may be. -/
def makeT (l : List It) : V × Bool :=
  match l with
  | [] => (nilV, false)
  | x :: r =>
    if ¬ x.d = 0 ∨ x.key.toList.isEmpty = false then (nilV, false)
    else if (readV x r).2 < (x :: r).length ∨ checkW (readV x r).1 = false then (nilV, false) else ((readV x r).1, true)
theorem read_count (x : It) (l : List It) (hd : x.d = 0) (h : ¬ (readV x l).2 < (x :: l).length) : countV (readV x l).1 = (x :: l).length := by
  obtain ⟨h1, h2⟩ := read_made x l hd
  have e := h2 h
  have hk := (Decidable.not_iff_not.2 h1).1 h
  rw [Decidable.not_not] at hk
  cases hm : madeV (x :: l) 0 with
  | none =>
    unfold madeR at hk
    rw [hm] at hk
    simp at hk
  | some yk =>
    obtain ⟨y, k⟩ := yk
    have e2 : madeR (x :: l) 0 = (y, k) := by unfold madeR; rw [hm]
    rw [e2] at hk
    rw [e, e2, madeV_count _ _ _ _ hm]
    exact hk
theorem makeT_eq (l : List It) (hl : l.length ≤ 2000) : makeT l = makeR l := by
  match l, hl with
  | [], _ => rfl
  | x :: r, hl =>
    unfold makeT makeR
    simp only
    by_cases hk : x.key.toList.isEmpty = true
    · by_cases hd : x.d = 0
      · rw [if_neg (by rw [hk]; simp [hd])]
        obtain ⟨h1, h2⟩ := read_made x r hd
        by_cases hr : (readV x r).2 < (x :: r).length
        · rw [if_pos (.inl hr)]
          have hn := h1.1 hr
          split
          · rfl
          · rw [if_neg (fun h => hn h.1)]
        · have e := h2 hr
          have hc := read_count x r hd hr
          have hw : checkW (readV x r).1 = checkR (readV x r).1 := checkW_eq _ (by omega)
          have hN : (madeR (x :: r) 0).2 = (x :: r).length := by
            have := (Decidable.not_iff_not.2 h1).1 hr
            rwa [Decidable.not_not] at this
          rw [hw, e]
          cases hch : checkR (madeR (x :: r) 0).1 with
          | false =>
            rw [if_pos (.inr rfl)]
            split
            · rfl
            · rw [if_neg (fun h => by cases h.2)]
          | true =>
            rw [← e, if_neg (by rintro (h | h); exact hr h; cases h), e]
            have hdp : depthV (madeR (x :: r) 0).1 ≤ 12 := by
              unfold checkR at hch
              simp only [Bool.and_eq_true, decide_eq_true_eq] at hch
              exact hch.1.1
            have hbad : (x :: r).any badIt = false := by
              rw [List.any_eq_false]
              intro y hy
              obtain ⟨i, hi, rfl⟩ := List.getElem_of_mem hy
              have hrd := loopR_depth (x :: r) (x :: r).length 1 0 (leafV x)
              have e3 : loopR (x :: r) (x :: r).length 1 0 (leafV x) = readV x r := rfl
              rw [e3, e] at hrd
              unfold badIt
              by_cases h0 : i = 0
              · subst h0
                simp [hd]
              · have := hrd.2 i hi (by omega) (by rw [hN]; exact hi)
                simp only [Bool.or_eq_true, decide_eq_true_eq]
                omega
            rw [if_neg (by rw [hk, hbad]; simp), if_pos ⟨hN, rfl⟩]
      · rw [if_pos (.inl hd)]
        split
        · rfl
        · rw [if_neg]
          rintro ⟨h, _⟩
          have : madeV (x :: r) 0 = none := if_neg hd
          unfold madeR at h
          rw [this] at h
          simp at h
    · have hk2 : x.key.toList.isEmpty = false := by simpa using hk
      rw [if_pos (.inr hk2), if_pos (by rw [hk2]; rfl)]
end Go.Proofs.YteocenjneoclbaaDoor.tre

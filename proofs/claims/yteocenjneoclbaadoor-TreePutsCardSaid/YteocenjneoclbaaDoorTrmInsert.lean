/- Layer 4: insertionSort, of rows of fields. Layer 4: what symMerge does, plain. Layer 4: symMerge of one and a row. Layer 4: symMerge of a row and one. -/
import Derived.Shelf.SlSortCmp.QuietGrown
import Derived.Test.YteocenjneoclbaaDoorTrmSortC
namespace Go.Proofs.YteocenjneoclbaaDoor.tre
open Go.RowKit Go.Shelf Go.Sort

theorem RowE.grown {g c : Nat} {w : World} {l : List El} (h : RowE g c w l) (n : Nat) (os : Array Obj) : RowE g c (grow (w.drewN n) os) l := h.keep (heap_grow_old (w.drewN n) os h.lt)
theorem Keeps.grown {X : Nat → Prop} {w w' : World} (h : Keeps X w w') (n : Nat) (os : Array Obj) : Keeps X w (grow (w'.drewN n) os) :=
  ⟨h.os, h.tape, h.output, by rw [size_grow]; exact Nat.le_trans h.size (Nat.le_add_right _ _), fun k hk hx => (heap_grow_old (w'.drewN n) os (Nat.lt_of_lt_of_le hk h.size)).trans (h.block k hk hx)⟩
theorem cmpF_grown (a b : El) (W : World) (n : Nat) (os : Array Obj) : Calls Tryd.prog 41 #[.agg #[.string a.k, .int .i64 a.kind, .int .i64 a.int, .string a.text, .slice a.p.a a.p.n a.p.c, .slice a.q.a a.q.n a.q.c],
      .agg #[.string b.k, .int .i64 b.kind, .int .i64 b.int, .string b.text, .slice b.p.a b.p.n b.p.c, .slice b.q.a b.q.n b.q.c]] (grow (W.drewN n) os) fun e w' => e = .returned (.int .i64 (cmpB a.k b.k)) ∧ ∃ p : GrownBy, w' = grow (W.drewN p.n) p.os := by
  refine Calls.grown_of ?_
  generalize grow (W.drewN n) os = W1
  have hb := Lib.hid (fun o1 o2 => show ∃ q os', (W1.alloc o1).alloc o2 = grow (W1.drewN q) os' from ⟨0, #[o1] ++ #[o2], by rw [alloc_eq_grow (W1.alloc o1), alloc_eq_grow W1, grow_grow]; rfl⟩)
  go_enter Tryd.func41, Tryd.ntmps41
  go_wp2_with (go_at_call 42; refine (strCompare_any _ _ _).mono ?_; rintro e w' ⟨rfl, rfl⟩)
  go_ret
  exact ⟨rfl, hb.out _ _⟩
theorem mixed : Tryd.prog.follows .mixedOrders = true := by kernel_rfl
theorem get_len {l : List El} {p : Nat} {x : El} (h : l[p]? = some x) : p < l.length := (List.getElem?_eq_some_iff.1 h).1
/-- In order from a to i, but for the one at j, which is less than all behind it. -/
def InsI (l : List El) (a i j : Nat) : Prop :=
  (∀ p q x y, a ≤ p → p < q → q ≤ i → p ≠ j → q ≠ j → l[p]? = some x → l[q]? = some y → ltB x.k y.k) ∧ (∀ q x y, j < q → q ≤ i → l[j]? = some x → l[q]? = some y → ltB x.k y.k)
theorem ins_start {l : List El} {a i : Nat} (h : Srt l a i) : InsI l a i i :=
  ⟨fun p q x y h1 h2 h3 _ h5 hx hy => h p q x y h1 h2 (by omega) hx hy, fun q _ _ h1 h2 _ _ => by omega⟩
theorem ins_step {l : List El} {a i j : Nat} (h : InsI l a i j) (haj : a < j) (hji : j ≤ i) (hi : i < l.length) {x y : El} (hx : l[j]? = some x) (hy : l[j - 1]? = some y) (hlt : ltB x.k y.k) : InsI (swp l j (j - 1)) a i (j - 1) := by
  have hs := fun p => swp_at l (i := j) (j := j - 1) (by omega) (by omega) p
  refine ⟨fun p q u v h1 h2 h3 h4 h5 hu hv => ?_, fun q u v h1 h2 hu hv => ?_⟩
  · rw [hs p, if_neg h4] at hu
    rw [hs q, if_neg h5] at hv
    by_cases e1 : p = j
    · rw [if_pos e1] at hu
      rw [if_neg (by omega)] at hv
      exact h.1 (j - 1) q u v (by omega) (by omega) h3 (by omega) (by omega) hu hv
    · rw [if_neg e1] at hu
      by_cases e2 : q = j
      · rw [if_pos e2] at hv
        exact h.1 p (j - 1) u v h1 (by omega) (by omega) e1 (by omega) hu hv
      · rw [if_neg e2] at hv
        exact h.1 p q u v h1 h2 h3 e1 e2 hu hv
  · rw [hs (j - 1), if_pos rfl, hx] at hu
    cases hu
    rw [hs q, if_neg (by omega)] at hv
    by_cases e1 : q = j
    · rw [if_pos e1, hy] at hv
      cases hv
      exact hlt
    · rw [if_neg e1] at hv
      exact h.2 q x v (by omega) h2 hx hv
theorem ins_end {l : List El} {a i j : Nat} (h : InsI l a i j) (haj : a ≤ j) (hji : j ≤ i) (hi : i < l.length) (he : j = a ∨ ∀ x y, l[j]? = some x → l[j - 1]? = some y → ltB y.k x.k) : Srt l a (i + 1) := by
  intro p q x y h1 h2 h3 hx hy
  by_cases e1 : p = j
  · subst e1
    exact h.2 q x y h2 (by omega) hx hy
  · by_cases e2 : q = j
    · subst e2
      rcases he with he | he
      · omega
      · obtain ⟨z, hz⟩ : ∃ z, l[q - 1]? = some z := ⟨_, List.getElem?_eq_getElem (by omega)⟩
        have h4 := he y z hy hz
        by_cases e3 : p = q - 1
        · subst e3
          rw [hz] at hx
          cases hx
          exact h4
        · exact ltB_trans (h.1 p (q - 1) x z h1 (by omega) (by omega) e1 (by omega) hx hz) h4
    · exact h.1 p q x y h1 h2 (by omega) e1 e2 hx hy

set_option maxRecDepth 100000 in
set_option maxHeartbeats 8000000 in
theorem insertion_any (l : List El) (g c a b : Nat) (W : World) (hab : a ≤ b) (hbl : b ≤ l.length) (hl : l.length ≤ 100000) (hd : Dist l) (h : RowE g c W l) :
    Calls Tryd.prog 80 #[.slice (some ⟨g, 0, none⟩) l.length c, .int .i64 a, .int .i64 b, cmpV] W fun e w' => e = .returned (.tuple #[]) ∧ ∃ l', Mix a b l l' ∧ Srt l' a b ∧ RowE g c w' l' ∧ Keeps (fun k => k = g) W w' := by
  have H := Lib.hid (And.intro h hd)
  have eg := cmp_enters
  have mixed := mixed
  unfold cmpV
  clear h hd
  go_enter Tryd.func80, Tryd.ntmps80
  go_wp2
  go_loopg [8, 9] (b - a) (fun gg s8 _ wr => ∃ (i : Nat) (lt : List El), a + 1 ≤ i ∧ (i ≤ b ∨ i = a + 1) ∧ b - i ≤ gg ∧ s8 = .int .i64 i ∧ Hid (lt.length = l.length ∧ Mix a b l lt ∧ Srt lt a i ∧ RowE g c wr lt ∧ Keeps (fun k => k = g) W wr))
  case atStart => exact ⟨a + 1, l, Nat.le_refl _, .inr rfl, by omega, by go_num, rfl, Mix.refl _ _ _, fun p q x y h1 h2 h3 _ _ => by omega, H.out.1, Keeps.of_below (Below.refl _ _)⟩
  case round =>
    obtain ⟨i, lt, hi1, hi2, hgg, rfl, HH⟩ := hrel
    by_cases hib : i < b
    · have hibz : (i : Int) < (b : Int) := by omega
      go_wp2
      obtain ⟨wo, rfl⟩ : ∃ w', w' = wr := ⟨wr, rfl⟩
      go_loopg [9] i (fun g2 s9 wr => ∃ (j : Nat) (lj : List El), a ≤ j ∧ j ≤ i ∧ j ≤ g2 ∧ s9 = .int .i64 j ∧ Hid (lj.length = l.length ∧ Mix a b l lj ∧ InsI lj a i j ∧ RowE g c wr lj ∧ Keeps (fun k => k = g) W wr))
      case atStart => exact ⟨i, lt, by omega, Nat.le_refl _, Nat.le_refl _, rfl, HH.out.1, HH.out.2.1, ins_start HH.out.2.2.1, HH.out.2.2.2.1, HH.out.2.2.2.2⟩
      case round =>
        obtain ⟨j, lj, hj1, hj2, hjg, rfl, HJ⟩ := hrel
        have hil : i < lj.length := by rw [HJ.out.1]; omega
        by_cases hja : a < j
        · have hjz : (a : Int) < (j : Int) := by omega
          have hjb : decide ((a : Int) < (j : Int)) = true := decide_eq_true hjz
          obtain ⟨x, hx⟩ : ∃ x, lj[j]? = some x := ⟨_, List.getElem?_eq_getElem (by omega)⟩
          obtain ⟨y, hy⟩ : ∃ y, lj[j - 1]? = some y := ⟨_, List.getElem?_eq_getElem (by omega)⟩
          have hrow := HJ.out.2.2.2.1
          have lg := hrow.lt
          obtain ⟨J, hJ⟩ : ∃ J, j - 1 = J := ⟨_, rfl⟩
          rw [hJ] at hy
          have hgr := fun n os => (hrow).grown n os
          have hxg := fun n os => ((hgr n os).cell hx).1
          have gx0 := fun n os => (hxg n os).1
          have gx1 := fun n os => (hxg n os).2.1
          have gx2 := fun n os => (hxg n os).2.2.1
          have gx3 := fun n os => (hxg n os).2.2.2.1
          have gx4 := fun n os => (hxg n os).2.2.2.2.1
          have gx5 := fun n os => (hxg n os).2.2.2.2.2
          have hyg := fun n os => ((hgr n os).cell hy).1
          have gy0 := fun n os => (hyg n os).1
          have gy1 := fun n os => (hyg n os).2.1
          have gy2 := fun n os => (hyg n os).2.2.1
          have gy3 := fun n os => (hyg n os).2.2.2.1
          have gy4 := fun n os => (hyg n os).2.2.2.2.1
          have gy5 := fun n os => (hyg n os).2.2.2.2.2
          clear hgr hxg hyg
          have hJw : IntKind.i64.wrap ((j : Int) - 1) = (J : Int) := by rw [IntWalk.i64_in _ (by omega)]; omega
          have hjl : (j : Int) < (l.length : Int) := by have := HJ.out.1; omega
          have hJl : (J : Int) < (l.length : Int) := by have := HJ.out.1; omega
          have Hxy := Lib.hid (And.intro hx (And.intro hy hJ))
          clear hx hy hrow hJ
          by_cases hc : cmpB x.k y.k < 0
          · have hcb : decide (cmpB x.k y.k < 0) = true := decide_eq_true hc
            go_wp2_with fail
            go_quiet_grown (first | (go_at_call 41; exact cmpF_grown x y _ _ _))

            obtain ⟨w5, hw5⟩ : ∃ w5, w5 = grow (wr.drewN nq) osq := ⟨_, rfl⟩
            rw [← hw5]
            have hrow5 : RowE g c w5 lj := by rw [hw5]; exact HJ.out.2.2.2.1.grown nq osq
            have hk5 : Keeps (fun k => k = g) W w5 := by rw [hw5]; exact HJ.out.2.2.2.2.grown nq osq
            have hxj := Hxy.out.1
            have hyJ := Hxy.out.2.1
            have lg5 := (hrow5).lt
            obtain ⟨⟨x0, x1, x2, x3, x4, x5⟩, fx⟩ := (hrow5).cell hxj
            have fx0 : (w5).frozen? ⟨g, j * 6, none⟩ = false := fx 0
            have fx1 := fx 1
            have fx2 := fx 2
            have fx3 := fx 3
            have fx4 := fx 4
            have fx5 := fx 5
            obtain ⟨⟨y0, y1, y2, y3, y4, y5⟩, fy⟩ := (hrow5).cell hyJ
            have fy0 : (w5).frozen? ⟨g, J * 6, none⟩ = false := fy 0
            have fy1 := fy 1
            have fy2 := fy 2
            have fy3 := fy 3
            have fy4 := fy 4
            have fy5 := fy 5
            clear fx fy

            have hJ1 : J + 1 ≤ j := by have := Hxy.out.2.2; omega
            have H5 := Lib.hid (And.intro hrow5 hk5)
            clear hw5 hrow5 hk5 hxj hyJ gx0 gx1 gx2 gx3 gx4 gx5 gy0 gy1 gy2 gy3 gy4 gy5
            go_wp2_with fail
            go_region
            go_wp2_with fail
            go_roundg (j - 1)
            case measure => omega
            case rel =>
              refine ⟨j - 1, swp lj j (j - 1), by omega, by omega, Nat.le_refl _, by have := Hxy.out.2.2; go_num, by rw [swp_len]; exact HJ.out.1, HJ.out.2.1.trans (Mix.swp lj (by omega) (by omega) (by omega) (by omega) (by rw [HJ.out.1]; exact hbl)), ins_step HJ.out.2.2.1 hja hj2 hil Hxy.out.1 (by rw [Hxy.out.2.2]; exact Hxy.out.2.1) hc, ?_, (keeps6 (keeps6 H5.out.2 rfl) rfl).drew⟩
              have hsw : swp lj j (j - 1) = (lj.set j y).set J x := by unfold swp; rw [Hxy.out.2.2, Hxy.out.1, Hxy.out.2.1]
              rw [hsw]
              exact ((H5.out.1.put (by omega) y).put (by rw [List.length_set]; omega) x).drew
          · have hcb : decide (cmpB x.k y.k < 0) = false := decide_eq_false hc
            go_wp2_with fail
            go_quiet_grown (first | (go_at_call 41; exact cmpF_grown x y _ _ _))
            go_wp2_with fail
            go_roundg (b - (i + 1))
            case measure => omega
            case rel =>
              refine ⟨i + 1, lj, by omega, .inl (by omega), Nat.le_refl _, by go_num, HJ.out.1, HJ.out.2.1, ins_end HJ.out.2.2.1 hj1 hj2 hil (.inr (fun u v hu hv => ?_)), HJ.out.2.2.2.1.grown nq osq, HJ.out.2.2.2.2.grown nq osq⟩
              rw [Hxy.out.1] at hu
              rw [Hxy.out.2.2, Hxy.out.2.1] at hv
              cases hu
              cases hv
              have hne := (H.out.2.perm HJ.out.2.1.perm).ne (show j ≠ J by have := Hxy.out.2.2; omega) Hxy.out.1 Hxy.out.2.1
              exact (ltB_total hne).resolve_left (by unfold ltB; omega)
        · obtain rfl : j = a := by omega
          have hjz : ¬ (j : Int) < (j : Int) := by omega
          have hjb : decide ((j : Int) < (j : Int)) = false := decide_eq_false hjz
          go_wp2_with fail
          go_quiet (fail)
          go_wp2_with fail
          go_roundg (b - (i + 1))
          case measure => omega
          case rel => exact ⟨i + 1, lj, by omega, .inl (by omega), Nat.le_refl _, by go_num, HJ.out.1, HJ.out.2.1, ins_end HJ.out.2.2.1 hj1 hj2 hil (.inl rfl), HJ.out.2.2.2.1, ⟨HJ.out.2.2.2.2.os, HJ.out.2.2.2.2.tape, HJ.out.2.2.2.2.output, HJ.out.2.2.2.2.size, HJ.out.2.2.2.2.block⟩⟩
    · have hibz : ¬ (i : Int) < (b : Int) := by omega
      go_wp2
      go_end0
      exact ⟨rfl, lt, HH.out.2.1, HH.out.2.2.1.mono (Nat.le_refl _) (by omega), HH.out.2.2.2⟩
end Go.Proofs.YteocenjneoclbaaDoor.tre
namespace Go.Proofs.YteocenjneoclbaaDoor.tre
open Go.RowKit Go.Shelf

/-- Each ahead of m is less than each from m on. -/
def Cross (l : List El) (a m b : Nat) : Prop := ∀ p q x y, a ≤ p → p < m → m ≤ q → q < b → l[p]? = some x → l[q]? = some y → ltB x.k y.k
theorem srt_cat {l : List El} {a m b : Nat} (h1 : Srt l a m) (h2 : Srt l m b) (h3 : Cross l a m b) : Srt l a b := fun p q x y c1 c2 c3 hx hy => by
  by_cases e1 : q < m
  · exact h1 p q x y c1 c2 e1 hx hy
  · by_cases e2 : p < m
    · exact h3 p q x y c1 e2 (by omega) c3 hx hy
    · exact h2 p q x y (by omega) c2 c3 hx hy
theorem Cross.left {l l' : List El} {a m b : Nat} (h : Cross l a m b) (hm : Mix a m l l') : Cross l' a m b := fun p q x y c1 c2 c3 c4 hx hy => by
  obtain ⟨r, h1, h2, h3⟩ := hm.inn p c1 c2
  exact h r q x y h1 h2 c3 c4 (h3.symm.trans hx) ((hm.out q (.inr c3)).symm.trans hy)
theorem Cross.right {l l' : List El} {a m b : Nat} (h : Cross l a m b) (hm : Mix m b l l') : Cross l' a m b := fun p q x y c1 c2 c3 c4 hx hy => by
  obtain ⟨r, h1, h2, h3⟩ := hm.inn q c3 c4
  exact h p r x y c1 c2 h1 h2 ((hm.out p (.inl c2)).symm.trans hx) (h3.symm.trans hy)
theorem Srt.one (l : List El) {a b : Nat} (h : b ≤ a + 1) : Srt l a b := fun p q _ _ _ _ _ _ _ => by omega
theorem Srt.le {l : List El} {a b : Nat} (h : Srt l a b) {p q : Nat} {x y : El} (h1 : a ≤ p) (h2 : p ≤ q) (h3 : q < b) (hx : l[p]? = some x) (hy : l[q]? = some y) : x = y ∨ ltB x.k y.k := by
  by_cases e : p = q
  · subst e; rw [hx] at hy; cases hy; exact .inl rfl
  · exact .inr (h p q x y h1 (by omega) h3 hx hy)
theorem lt_le {x y z : El} (h : ltB x.k y.k) (k : y = z ∨ ltB y.k z.k) : ltB x.k z.k := by
  rcases k with rfl | k
  · exact h
  · exact ltB_trans h k
theorem le_lt {x y z : El} (h : x = y ∨ ltB x.k y.k) (k : ltB y.k z.k) : ltB x.k z.k := by
  rcases h with rfl | h
  · exact k
  · exact ltB_trans h k
theorem Rot.same (l : List El) (a m b : Nat) (h : a = m ∨ m = b) : Rot a m b l l := ⟨Mix.refl _ _ _, fun p => by
  congr 1
  unfold rotI
  rcases h with rfl | rfl
  · by_cases c : a ≤ p ∧ p < a + (b - a)
    · rw [if_pos c]; omega
    · rw [if_neg c, if_neg (by omega)]
  · rw [if_neg (by omega)]
    split
    · omega
    · rfl⟩
def swpI (i j p : Nat) : Nat := if p = j then i else if p = i then j else p
theorem swp_ix (l : List El) {i j : Nat} (hi : i < l.length) (hj : j < l.length) (p : Nat) : (swp l i j)[p]? = l[swpI i j p]? := by
  rw [swp_at l hi hj p]
  unfold swpI
  split
  · rfl
  · split <;> rfl
theorem Rot.up {l lt : List El} {a k : Nat} (h : Rot a (a + 1) (k + 1) l lt) (hak : a ≤ k) (hk : k + 1 < l.length) : Rot a (a + 1) (k + 2) l (swp lt k (k + 1)) := by
  have hl := h.mix.len
  refine ⟨(h.mix.mono (Nat.le_refl _) (by omega)).trans (Mix.swp lt hak (by omega) (by omega) (by omega) (by omega)), fun p => ?_⟩
  rw [swp_ix lt (by omega) (by omega), h.ix]
  congr 1
  unfold rotI swpI
  by_cases c1 : p = k + 1
  · subst c1
    rw [if_pos rfl, if_neg (show ¬ (a ≤ k + 1 ∧ k + 1 < a + (k + 2 - (a + 1))) by omega), if_pos (show a + (k + 2 - (a + 1)) ≤ k + 1 ∧ k + 1 < k + 2 by omega), if_neg (by omega), if_pos (by omega)]
    omega
  · rw [if_neg c1]
    by_cases c2 : p = k
    · subst c2
      rw [if_pos rfl, if_neg (by omega), if_neg (by omega), if_pos (by omega)]; omega
    · rw [if_neg c2]
      by_cases c3 : a ≤ p ∧ p < a + (k + 1 - (a + 1))
      · rw [if_pos c3, if_pos (by omega)]
      · rw [if_neg c3, if_neg (by omega), if_neg (by omega), if_neg (by omega)]
theorem Rot.down {l lt : List El} {m k : Nat} (h : Rot k m (m + 1) l lt) (hk0 : 0 < k) (hkm : k ≤ m) (hm : m < l.length) : Rot (k - 1) m (m + 1) l (swp lt k (k - 1)) := by
  have hl := h.mix.len
  refine ⟨(h.mix.mono (by omega) (Nat.le_refl _)).trans (Mix.swp lt (by omega) (by omega) (by omega) (by omega) (by omega)), fun p => ?_⟩
  rw [swp_ix lt (by omega) (by omega), h.ix]
  congr 1
  unfold rotI swpI
  rw [show m + 1 - m = 1 by omega]
  by_cases c1 : p = k - 1
  · subst c1
    rw [if_pos rfl, if_pos (show k - 1 ≤ k - 1 ∧ k - 1 < k - 1 + 1 by omega)]
    by_cases c : k ≤ k ∧ k < k + 1
    · rw [if_pos c]; omega
    · omega
  · rw [if_neg c1]
    by_cases c2 : p = k
    · subst c2
      rw [if_pos rfl, if_neg (by omega), if_neg (by omega), if_neg (by omega), if_pos (by omega)]
    · rw [if_neg c2, if_neg (by omega), if_neg (show ¬ (k - 1 ≤ p ∧ p < k - 1 + 1) by omega)]
      by_cases c3 : k + 1 ≤ p ∧ p < m + 1
      · rw [if_pos c3, if_pos (by omega)]
      · rw [if_neg c3, if_neg (by omega)]
/-- What the rotation leaves: four rows in order, and all of the two ahead less than all of the two behind. -/
theorem sym_split {l l1 : List El} {a s m e b mid : Nat} (h1 : Srt l a m) (h2 : Srt l m b) (has : a ≤ s) (hsm : s ≤ m) (hme : m ≤ e) (heb : e ≤ b) (hmid : mid + m = s + e) (hr : Rot s m e l l1)
    (c1 : ∀ x y, a < s → e < b → l[s - 1]? = some x → l[e]? = some y → ltB x.k y.k) (c2 : ∀ x y, s < m → m < e → l[e - 1]? = some x → l[s]? = some y → ltB x.k y.k) (hb : b ≤ l.length) :
    Srt l1 a s ∧ Srt l1 s mid ∧ Srt l1 mid e ∧ Srt l1 e b ∧ Cross l1 a mid b := by
  have i1 : ∀ p, p < s → l1[p]? = l[p]? := fun p hp => hr.mix.out p (.inl hp)
  have i4 : ∀ p, e ≤ p → l1[p]? = l[p]? := fun p hp => hr.mix.out p (.inr hp)
  have i2 : ∀ p, s ≤ p → p < mid → l1[p]? = l[p + (m - s)]? := fun p hp hq => by rw [hr.ix p]; unfold rotI; rw [if_pos (by omega)]
  have i3 : ∀ p, mid ≤ p → p < e → l1[p]? = l[p - (e - m)]? := fun p hp hq => by rw [hr.ix p]; unfold rotI; rw [if_neg (by omega), if_pos (by omega)]
  refine ⟨(h1.mono (Nat.le_refl _) hsm).same (fun p _ hp => i1 p hp), ?_, ?_, (h2.mono hme (Nat.le_refl _)).same (fun p hp _ => i4 p hp), ?_⟩
  · intro p q x y d1 d2 d3 hx hy
    rw [i2 p d1 (by omega)] at hx
    rw [i2 q (by omega) d3] at hy
    exact h2 _ _ x y (by omega) (by omega) (by omega) hx hy
  · intro p q x y d1 d2 d3 hx hy
    rw [i3 p d1 (by omega)] at hx
    rw [i3 q (by omega) d3] at hy
    exact h1 _ _ x y (by omega) (by omega) (by omega) hx hy
  · intro p q x y d1 d2 d3 d4 hx hy
    by_cases e1 : p < s
    · rw [i1 p e1] at hx
      by_cases e2 : q < e
      · rw [i3 q d3 e2] at hy
        exact h1 _ _ x y d1 (by omega) (by omega) hx hy
      · rw [i4 q (by omega)] at hy
        obtain ⟨u, hu⟩ : ∃ u, l[s - 1]? = some u := ⟨_, List.getElem?_eq_getElem (by omega)⟩
        obtain ⟨v, hv⟩ : ∃ v, l[e]? = some v := ⟨_, List.getElem?_eq_getElem (by omega)⟩
        have := c1 u v (by omega) (by omega) hu hv
        exact le_lt (h1.le d1 (show p ≤ s - 1 by omega) (by omega) hx hu) (lt_le this (h2.le (by omega) (show e ≤ q by omega) d4 hv hy))
    · rw [i2 p (by omega) d2] at hx
      by_cases e2 : q < e
      · rw [i3 q d3 e2] at hy
        obtain ⟨u, hu⟩ : ∃ u, l[e - 1]? = some u := ⟨_, List.getElem?_eq_getElem (by omega)⟩
        obtain ⟨v, hv⟩ : ∃ v, l[s]? = some v := ⟨_, List.getElem?_eq_getElem (by omega)⟩
        have := c2 u v (by omega) (by omega) hu hv
        exact le_lt (h2.le (by omega) (show p + (m - s) ≤ e - 1 by omega) (by omega) hx hu) (lt_le this (h1.le has (show s ≤ q - (e - m) by omega) (by omega) hv hy))
      · rw [i4 q (by omega)] at hy
        exact h2 _ _ x y (by omega) (by omega) d4 hx hy
/-- One alone ahead of a row in order, put to its place. -/
theorem sym_one {l l1 : List El} {a i b : Nat} (h2 : Srt l (a + 1) b) (hi1 : a + 1 ≤ i) (hib : i ≤ b) (hr : Rot a (a + 1) i l l1) (hb : b ≤ l.length)
    (c1 : ∀ x y, a + 1 < i → l[i - 1]? = some x → l[a]? = some y → ltB x.k y.k) (c2 : ∀ x y, i < b → l[a]? = some x → l[i]? = some y → ltB x.k y.k) : Srt l1 a b := by
  obtain ⟨_, s2, s3, s4, s5⟩ := sym_split (mid := i - 1) (Srt.one l (Nat.le_refl (a + 1))) h2 (Nat.le_refl a) (Nat.le_succ a) hi1 hib (by omega) hr (fun _ _ h => by omega) (fun x y _ h hx hy => c1 x y h hx hy) hb
  refine srt_cat s2 (srt_cat s3 s4 ?_) s5
  intro p q x y d1 d2 d3 d4 hx hy
  obtain rfl : p = i - 1 := by omega
  rw [hr.ix] at hx
  have e1 : rotI a (a + 1) i (i - 1) = a := by
    unfold rotI
    rw [if_neg (by omega), if_pos (by omega)]; omega
  rw [e1] at hx
  rw [hr.mix.out q (.inr d3)] at hy
  obtain ⟨v, hv⟩ : ∃ v, l[i]? = some v := ⟨_, List.getElem?_eq_getElem (by omega)⟩
  exact lt_le (c2 x v (by omega) hx hv) (h2.le (by omega) d3 d4 hv hy)
/-- One alone behind a row in order, put to its place. -/
theorem sym_last {l l1 : List El} {a i m : Nat} (h1 : Srt l a m) (hai : a ≤ i) (him : i ≤ m) (hr : Rot i m (m + 1) l l1) (hb : m + 1 ≤ l.length)
    (c1 : ∀ x y, a < i → l[i - 1]? = some x → l[m]? = some y → ltB x.k y.k) (c2 : ∀ x y, i < m → l[m]? = some x → l[i]? = some y → ltB x.k y.k) : Srt l1 a (m + 1) := by
  obtain ⟨s1, s2, s3, _, s5⟩ := sym_split (mid := i + 1) (e := m + 1) (b := m + 1) h1 (Srt.one l (Nat.le_refl (m + 1))) hai him (Nat.le_succ m) (Nat.le_refl _) (by omega) hr (fun _ _ _ h => by omega) (fun x y h _ hx hy => c2 x y h hx hy) hb
  refine srt_cat (srt_cat s1 s2 ?_) s3 s5
  intro p q x y d1 d2 d3 d4 hx hy
  obtain rfl : q = i := by omega
  rw [hr.ix] at hy
  have e1 : rotI q m (m + 1) q = m := by
    unfold rotI
    rw [if_pos (by omega)]; omega
  rw [e1] at hy
  rw [hr.mix.out p (.inl d2)] at hx
  obtain ⟨v, hv⟩ : ∃ v, l[q - 1]? = some v := ⟨_, List.getElem?_eq_getElem (by omega)⟩
  exact le_lt (h1.le d1 (show p ≤ q - 1 by omega) (by omega) hx hv) (c1 v y (by omega) hv hy)
end Go.Proofs.YteocenjneoclbaaDoor.tre
namespace Go.Proofs.YteocenjneoclbaaDoor.tre
open Go.RowKit Go.Shelf Go.Sort

set_option maxRecDepth 100000 in
set_option maxHeartbeats 8000000 in
theorem symA_any (l : List El) (g c a b : Nat) (W : World) (hmb : a + 1 < b) (hbl : b ≤ l.length) (hl : l.length ≤ 100000) (hd : Dist l) (h2 : Srt l (a + 1) b) (h : RowE g c W l) :
    Calls Tryd.prog 81 #[.slice (some ⟨g, 0, none⟩) l.length c, .int .i64 a, .int .i64 ((a + 1 : Nat) : Int), .int .i64 b, cmpV] W fun e w' => e = .returned (.tuple #[]) ∧ ∃ l', Mix a b l l' ∧ Srt l' a b ∧ RowE g c w' l' ∧ Keeps (fun k => k = g) W w' := by
  have H := Lib.hid (And.intro h (And.intro hd h2))
  have eg := cmp_enters
  have mixed := mixed
  unfold cmpV
  clear h hd h2
  obtain ⟨m, hm⟩ : ∃ m, a + 1 = m := ⟨_, rfl⟩
  rw [hm] at hmb ⊢
  have hm1 : (m : Int) - (a : Int) = 1 := by omega
  have Hm := Lib.hid hm
  have lo := Nat.le_refl m
  clear hm
  go_enter Tryd.func81, Tryd.ntmps81
  go_wp2
  clear hm1
  go_loopg [10, 11, 12] b (fun gg sa sb _ wr => ∃ (i j : Nat), m ≤ i ∧ i ≤ j ∧ j ≤ b ∧ j - i ≤ gg ∧ sa = .int .i64 i ∧ sb = .int .i64 j ∧ Hid (RowE g c wr l ∧ Keeps (fun k => k = g) W wr ∧ (∀ x y, m < i → l[i - 1]? = some x → l[a]? = some y → ltB x.k y.k) ∧ (∀ x y, j < b → l[a]? = some x → l[j]? = some y → ltB x.k y.k)))
  case atStart => exact ⟨m, b, Nat.le_refl _, by omega, Nat.le_refl _, by omega, rfl, rfl, H.out.1, Keeps.of_below (Below.refl _ _), fun _ _ h => by omega, fun _ _ h => by omega⟩
  case round =>
    obtain ⟨i, j, hmi, hij, hjb, hgg, rfl, rfl, HH⟩ := hrel
    by_cases hlt : i < j
    · have hltz : (i : Int) < (j : Int) := by omega
      go_upto_region 5 with fail
      obtain ⟨h, hh⟩ : ∃ h : Nat, ((i : Int) + (j : Int)) / 2 = (h : Int) := ⟨(i + j) / 2, by omega⟩
      rw [hh]
      have hh1 : i ≤ h := by omega
      have hh2 : h < j := by omega
      clear hh
      obtain ⟨x, hx⟩ : ∃ x, l[h]? = some x := ⟨_, List.getElem?_eq_getElem (by have := Hm.out; omega)⟩
      obtain ⟨y, hy⟩ : ∃ y, l[a]? = some y := ⟨_, List.getElem?_eq_getElem (by have := Hm.out; omega)⟩
      have lg := HH.out.1.lt
      have hgr := fun n os => (HH.out.1).grown n os
      have hxg := fun n os => ((hgr n os).cell hx).1
      have gx0 := fun n os => (hxg n os).1
      have gx1 := fun n os => (hxg n os).2.1
      have gx2 := fun n os => (hxg n os).2.2.1
      have gx3 := fun n os => (hxg n os).2.2.2.1
      have gx4 := fun n os => (hxg n os).2.2.2.2.1
      have gx5 := fun n os => (hxg n os).2.2.2.2.2
      have hyg := fun n os => ((hgr n os).cell hy).1
      have gy0 := fun n os => (hyg n os).1
      have gy1 := fun n os => (hyg n os).2.1
      have gy2 := fun n os => (hyg n os).2.2.1
      have gy3 := fun n os => (hyg n os).2.2.2.1
      have gy4 := fun n os => (hyg n os).2.2.2.2.1
      have gy5 := fun n os => (hyg n os).2.2.2.2.2
      clear hgr hxg hyg
      have z1 : (h : Int) < (l.length : Int) := by have := Hm.out; omega
      have z2 : (a : Int) < (l.length : Int) := by have := Hm.out; omega
      have Hxy := Lib.hid (And.intro hx hy)
      have Hne := Lib.hid (H.out.2.1.ne (show h ≠ a by have := Hm.out; omega) hx hy)
      clear hx hy
      by_cases hc : cmpB x.k y.k < 0
      · have hcb : decide (cmpB x.k y.k < 0) = true := decide_eq_true hc
        go_wp2_with fail
        go_quiet_grown (first | (go_at_call 41; exact cmpF_grown x y _ _ _))
        go_wp2_with fail
        go_roundg (j - (h + 1))
        case measure => omega
        case rel => exact ⟨h + 1, j, by omega, by omega, hjb, Nat.le_refl _, by go_num, rfl, HH.out.1.grown nq osq, HH.out.2.1.grown nq osq, fun u v _ hu hv => (by
            rw [Nat.add_sub_cancel] at hu
            rw [Hxy.out.1] at hu; rw [Hxy.out.2] at hv; cases hu; cases hv; exact hc), HH.out.2.2.2⟩
      · have hcb : decide (cmpB x.k y.k < 0) = false := decide_eq_false hc
        have Hc := Lib.hid ((ltB_total Hne.out).resolve_left hc)
        go_wp2_with fail
        go_quiet_grown (first | (go_at_call 41; exact cmpF_grown x y _ _ _))
        go_wp2_with fail
        go_roundg (h - i)
        case measure => omega
        case rel => exact ⟨i, h, hmi, by omega, by omega, Nat.le_refl _, rfl, rfl, HH.out.1.grown nq osq, HH.out.2.1.grown nq osq, HH.out.2.2.1, fun u v _ hu hv => (by
            rw [Hxy.out.2] at hu; rw [Hxy.out.1] at hv; cases hu; cases hv; exact Hc.out)⟩
    · obtain rfl : i = j := by omega
      clear hlt hij hgg
      go_wp2
      obtain ⟨wo, rfl⟩ : ∃ w', w' = wr := ⟨wr, rfl⟩
      go_loopg [13] i (fun g2 s wr => ∃ (k : Nat) (lt : List El), a ≤ k ∧ k + 1 ≤ i ∧ i - k ≤ g2 ∧ s = .int .i64 k ∧ Hid (Rot a (a + 1) (k + 1) l lt ∧ RowE g c wr lt ∧ Keeps (fun k => k = g) W wr))
      case atStart => exact ⟨a, l, Nat.le_refl _, by have := Hm.out; omega, by omega, rfl, Rot.same l a (a + 1) (a + 1) (.inr rfl), HH.out.1, HH.out.2.1⟩
      case round =>
        obtain ⟨k, lt, hk1, hk2, hkg, rfl, HK⟩ := hrel
        have hll := HK.out.1.mix.len
        by_cases hlt : k + 1 < i
        · have hltz : (k : Int) < (i : Int) - 1 := by omega
          obtain ⟨J, hJ⟩ : ∃ J, k + 1 = J := ⟨_, rfl⟩
          obtain ⟨x, hx⟩ : ∃ x, lt[k]? = some x := ⟨_, List.getElem?_eq_getElem (by have := Hm.out; omega)⟩
          obtain ⟨y, hy⟩ : ∃ y, lt[J]? = some y := ⟨_, List.getElem?_eq_getElem (by have := Hm.out; omega)⟩
          have hrow5 := HK.out.2.1
          have lg5 := (hrow5).lt
          obtain ⟨⟨x0, x1, x2, x3, x4, x5⟩, fx⟩ := (hrow5).cell hx
          have fx0 : (wr).frozen? ⟨g, k * 6, none⟩ = false := fx 0
          have fx1 := fx 1
          have fx2 := fx 2
          have fx3 := fx 3
          have fx4 := fx 4
          have fx5 := fx 5
          obtain ⟨⟨y0, y1, y2, y3, y4, y5⟩, fy⟩ := (hrow5).cell hy
          have fy0 : (wr).frozen? ⟨g, J * 6, none⟩ = false := fy 0
          have fy1 := fy 1
          have fy2 := fy 2
          have fy3 := fy 3
          have fy4 := fy 4
          have fy5 := fy 5
          clear fx fy
          have hJw : IntKind.i64.wrap ((k : Int) + 1) = (J : Int) := by rw [IntWalk.i64_in _ (by omega)]; omega
          have z1 : (k : Int) < (l.length : Int) := by have := Hm.out; omega
          have z2 : (J : Int) < (l.length : Int) := by have := Hm.out; omega
          have hJ1 : k + 1 ≤ J := by omega
          have Hxy := Lib.hid (And.intro hx (And.intro hy (And.intro hJ hll)))
          clear hx hy hJ hrow5 hll
          go_wp2_with fail
          go_region
          go_wp2_with fail
          go_roundg (i - (k + 1))
          case measure => omega
          case rel =>
            have hsw : swp lt k (k + 1) = (lt.set k y).set J x := by unfold swp; rw [Hxy.out.2.2.1, Hxy.out.1, Hxy.out.2.1]
            have hJe := Hxy.out.2.2.1
            have hll := Hxy.out.2.2.2
            refine ⟨k + 1, swp lt k (k + 1), by omega, by omega, Nat.le_refl _, by go_num, HK.out.1.up hk1 (by have := Hm.out; omega), ?_, (keeps6 (keeps6 HK.out.2.2 rfl) rfl).drew⟩
            rw [hsw]
            exact ((HK.out.2.1.put (by have := Hm.out; omega) y).put (by rw [List.length_set]; have := Hm.out; omega) x).drew
        · have hltz : ¬ (k : Int) < (i : Int) - 1 := by omega
          obtain rfl : k + 1 = i := by omega
          clear hll
          go_wp2_with fail
          refine bodyPost_ret (results_none rfl _ _ _) rfl ?_
          have hme := Hm.out
          subst hme
          exact ⟨rfl, lt, HK.out.1.mix.mono (Nat.le_refl _) hjb, sym_one H.out.2.2 hmi hjb HK.out.1 hbl HH.out.2.2.1 HH.out.2.2.2, HK.out.2⟩
end Go.Proofs.YteocenjneoclbaaDoor.tre
namespace Go.Proofs.YteocenjneoclbaaDoor.tre
open Go.RowKit Go.Shelf Go.Sort

set_option maxRecDepth 100000 in
set_option maxHeartbeats 8000000 in
theorem symB_any (l : List El) (g c a m : Nat) (W : World) (ham : a + 1 < m) (hbl : m + 1 ≤ l.length) (hl : l.length ≤ 100000) (hd : Dist l) (h2 : Srt l a m) (h : RowE g c W l) :
    Calls Tryd.prog 81 #[.slice (some ⟨g, 0, none⟩) l.length c, .int .i64 a, .int .i64 m, .int .i64 ((m + 1 : Nat) : Int), cmpV] W fun e w' => e = .returned (.tuple #[]) ∧ ∃ l', Mix a (m + 1) l l' ∧ Srt l' a (m + 1) ∧ RowE g c w' l' ∧ Keeps (fun k => k = g) W w' := by
  have H := Lib.hid (And.intro h (And.intro hd h2))
  have eg := cmp_enters
  have mixed := mixed
  unfold cmpV
  clear h hd h2
  obtain ⟨b, hb⟩ : ∃ b, m + 1 = b := ⟨_, rfl⟩
  rw [hb] at hbl
  rw [hb]
  have hm0 : ((m : Int) - (a : Int) == 1) = false := beq_eq_false_iff_ne.2 (by omega)
  have hm1 : (b : Int) - (m : Int) = 1 := by omega
  have hml : m < l.length := by omega
  have hmb : m < b := by omega
  have Hm := Lib.hid hb
  clear hb
  go_enter Tryd.func81, Tryd.ntmps81
  go_wp2
  clear hm1 hm0
  go_loopg [14, 15, 16] b (fun gg sa sb _ wr => ∃ (i j : Nat), a ≤ i ∧ i ≤ j ∧ j ≤ m ∧ j - i ≤ gg ∧ sa = .int .i64 i ∧ sb = .int .i64 j ∧ Hid (RowE g c wr l ∧ Keeps (fun k => k = g) W wr ∧ (∀ x y, a < i → l[i - 1]? = some x → l[m]? = some y → ltB x.k y.k) ∧ (∀ x y, j < m → l[m]? = some x → l[j]? = some y → ltB x.k y.k)))
  case atStart => exact ⟨a, m, Nat.le_refl _, by omega, Nat.le_refl _, by omega, rfl, rfl, H.out.1, Keeps.of_below (Below.refl _ _), fun _ _ h => by omega, fun _ _ h => by omega⟩
  case round =>
    obtain ⟨i, j, hmi, hij, hjb, hgg, rfl, rfl, HH⟩ := hrel
    by_cases hlt : i < j
    · have hltz : (i : Int) < (j : Int) := by omega
      go_upto_region 17 with fail
      obtain ⟨h, hh⟩ : ∃ h : Nat, ((i : Int) + (j : Int)) / 2 = (h : Int) := ⟨(i + j) / 2, by omega⟩
      rw [hh]
      have hh1 : i ≤ h := by omega
      have hh2 : h < j := by omega
      clear hh
      obtain ⟨x, hx⟩ : ∃ x, l[m]? = some x := ⟨_, List.getElem?_eq_getElem (by have := Hm.out; omega)⟩
      obtain ⟨y, hy⟩ : ∃ y, l[h]? = some y := ⟨_, List.getElem?_eq_getElem (by have := Hm.out; omega)⟩
      have lg := HH.out.1.lt
      have hgr := fun n os => (HH.out.1).grown n os
      have hxg := fun n os => ((hgr n os).cell hx).1
      have gx0 := fun n os => (hxg n os).1
      have gx1 := fun n os => (hxg n os).2.1
      have gx2 := fun n os => (hxg n os).2.2.1
      have gx3 := fun n os => (hxg n os).2.2.2.1
      have gx4 := fun n os => (hxg n os).2.2.2.2.1
      have gx5 := fun n os => (hxg n os).2.2.2.2.2
      have hyg := fun n os => ((hgr n os).cell hy).1
      have gy0 := fun n os => (hyg n os).1
      have gy1 := fun n os => (hyg n os).2.1
      have gy2 := fun n os => (hyg n os).2.2.1
      have gy3 := fun n os => (hyg n os).2.2.2.1
      have gy4 := fun n os => (hyg n os).2.2.2.2.1
      have gy5 := fun n os => (hyg n os).2.2.2.2.2
      clear hgr hxg hyg
      have z1 : (m : Int) < (l.length : Int) := by have := Hm.out; omega
      have z2 : (h : Int) < (l.length : Int) := by have := Hm.out; omega
      have Hxy := Lib.hid (And.intro hx hy)
      have Hne := Lib.hid (H.out.2.1.ne (show m ≠ h by have := Hm.out; omega) hx hy)
      clear hx hy
      by_cases hc : cmpB x.k y.k < 0
      · have hcb : decide (cmpB x.k y.k < 0) = true := decide_eq_true hc
        go_wp2_with fail
        go_quiet_grown (first | (go_at_call 41; exact cmpF_grown x y _ _ _))
        go_wp2_with fail
        go_roundg (h - i)
        case measure => omega
        case rel => exact ⟨i, h, hmi, by omega, by omega, Nat.le_refl _, rfl, rfl, HH.out.1.grown nq osq, HH.out.2.1.grown nq osq, HH.out.2.2.1, fun u v _ hu hv => (by
            rw [Hxy.out.1] at hu; rw [Hxy.out.2] at hv; cases hu; cases hv; exact hc)⟩
      · have hcb : decide (cmpB x.k y.k < 0) = false := decide_eq_false hc
        have Hc := Lib.hid ((ltB_total Hne.out).resolve_left hc)
        go_wp2_with fail
        go_quiet_grown (first | (go_at_call 41; exact cmpF_grown x y _ _ _))
        go_wp2_with fail
        go_roundg (j - (h + 1))
        case measure => omega
        case rel => exact ⟨h + 1, j, by omega, by omega, hjb, Nat.le_refl _, by go_num, rfl, HH.out.1.grown nq osq, HH.out.2.1.grown nq osq, fun u v _ hu hv => (by
            rw [Nat.add_sub_cancel] at hu
            rw [Hxy.out.2] at hu; rw [Hxy.out.1] at hv; cases hu; cases hv; exact Hc.out), HH.out.2.2.2⟩
    · obtain rfl : i = j := by omega
      clear hlt hij hgg
      go_wp2
      obtain ⟨wo, rfl⟩ : ∃ w', w' = wr := ⟨wr, rfl⟩
      go_loopg [17] m (fun g2 s wr => ∃ (k : Nat) (lt : List El), i ≤ k ∧ k ≤ m ∧ k - i ≤ g2 ∧ s = .int .i64 k ∧ Hid (Rot k m (m + 1) l lt ∧ RowE g c wr lt ∧ Keeps (fun k => k = g) W wr))
      case atStart => exact ⟨m, l, by omega, Nat.le_refl _, by omega, rfl, Rot.same l m m (m + 1) (.inl rfl), HH.out.1, HH.out.2.1⟩
      case round =>
        obtain ⟨k, lt, hk1, hk2, hkg, rfl, HK⟩ := hrel
        have hll := HK.out.1.mix.len
        by_cases hlt : i < k
        · have hltz : (i : Int) < (k : Int) := by omega
          obtain ⟨J, hJ⟩ : ∃ J, k - 1 = J := ⟨_, rfl⟩
          obtain ⟨x, hx⟩ : ∃ x, lt[k]? = some x := ⟨_, List.getElem?_eq_getElem (by have := Hm.out; omega)⟩
          obtain ⟨y, hy⟩ : ∃ y, lt[J]? = some y := ⟨_, List.getElem?_eq_getElem (by have := Hm.out; omega)⟩
          have hrow5 := HK.out.2.1
          have lg5 := (hrow5).lt
          obtain ⟨⟨x0, x1, x2, x3, x4, x5⟩, fx⟩ := (hrow5).cell hx
          have fx0 : (wr).frozen? ⟨g, k * 6, none⟩ = false := fx 0
          have fx1 := fx 1
          have fx2 := fx 2
          have fx3 := fx 3
          have fx4 := fx 4
          have fx5 := fx 5
          obtain ⟨⟨y0, y1, y2, y3, y4, y5⟩, fy⟩ := (hrow5).cell hy
          have fy0 : (wr).frozen? ⟨g, J * 6, none⟩ = false := fy 0
          have fy1 := fy 1
          have fy2 := fy 2
          have fy3 := fy 3
          have fy4 := fy 4
          have fy5 := fy 5
          clear fx fy
          have hJw : IntKind.i64.wrap ((k : Int) - 1) = (J : Int) := by rw [IntWalk.i64_in _ (by omega)]; omega
          have z1 : (k : Int) < (l.length : Int) := by have := Hm.out; omega
          have z2 : (J : Int) < (l.length : Int) := by have := Hm.out; omega
          have hJ1 : J + 1 ≤ k := by omega
          have Hxy := Lib.hid (And.intro hx (And.intro hy (And.intro hJ hll)))
          clear hx hy hJ hrow5 hll
          go_wp2_with fail
          go_region
          go_wp2_with fail
          go_roundg (k - 1 - i)
          case measure => omega
          case rel =>
            have hsw : swp lt k (k - 1) = (lt.set k y).set J x := by unfold swp; rw [Hxy.out.2.2.1, Hxy.out.1, Hxy.out.2.1]
            have hJe := Hxy.out.2.2.1
            have hll := Hxy.out.2.2.2
            refine ⟨k - 1, swp lt k (k - 1), by omega, by omega, Nat.le_refl _, by go_num, HK.out.1.down (by omega) hk2 (by have := Hm.out; omega), ?_, (keeps6 (keeps6 HK.out.2.2 rfl) rfl).drew⟩
            rw [hsw]
            exact ((HK.out.2.1.put (by have := Hm.out; omega) y).put (by rw [List.length_set]; have := Hm.out; omega) x).drew
        · have hltz : ¬ (i : Int) < (k : Int) := by omega
          obtain rfl : k = i := by omega
          clear hll
          go_wp2_with fail
          refine bodyPost_ret (results_none rfl _ _ _) rfl ?_
          have hme := Hm.out
          subst hme
          exact ⟨rfl, lt, HK.out.1.mix.mono hmi (Nat.le_refl _), sym_last H.out.2.2 hmi hk2 HK.out.1 hbl HH.out.2.2.1 HH.out.2.2.2, HK.out.2⟩
end Go.Proofs.YteocenjneoclbaaDoor.tre

/- Layer 4: read, Make. Layer 4: the chapter's example. Layer 4: Make of a row that stands in a slice. -/
import Derived.Test.YteocenjneoclbaaDoorTrmEq
import Derived.Test.YteocenjneoclbaaDoorTrmFew
import Derived.Test.YteocenjneoclbaaDoorTrmRMake
import Derived.Test.YteocenjneoclbaaDoorTrmReadW
namespace Go.Proofs.YteocenjneoclbaaDoor.tre
open Go.RowKit Go.Shelf

theorem news4 {W : World} {o0 o1 o2 o3 : Obj} {w0 : World} (e : w0 = ((((W.alloc o0).alloc o1).alloc o2).alloc o3)) : w0.heap[W.heap.size]? = some o0 ∧ w0.heap[W.heap.size + 1]? = some o1 ∧ w0.heap[W.heap.size + 1 + 1]? = some o2 ∧ w0.heap[W.heap.size + 1 + 1 + 1]? = some o3 ∧ Below W.heap.size W w0 ∧ w0.heap.size = W.heap.size + 4 := by
  subst e
  refine ⟨?_, ?_, ?_, ?_, ?_, by simp⟩
  · rw [block_old (by simp only [size_alloc]; omega), block_old (by simp only [size_alloc]; omega), block_old (by simp only [size_alloc]; omega)]; exact block_new W o0
  · rw [block_old (by simp only [size_alloc]; omega), block_old (by simp only [size_alloc]; omega)]; have := block_new (W.alloc o0) o1; rwa [size_alloc] at this
  · rw [block_old (by simp only [size_alloc]; omega)]; have := block_new ((W.alloc o0).alloc o1) o2; rwa [size_alloc, size_alloc] at this
  · have := block_new (((W.alloc o0).alloc o1).alloc o2) o3; rwa [size_alloc, size_alloc, size_alloc] at this
  · exact (((((Below.refl _ _).alloc (Nat.le_refl _) o0).alloc (by simp only [size_alloc]; omega) o1).alloc (by simp only [size_alloc]; omega) o2).alloc (by simp only [size_alloc]; omega) o3)
theorem size_set5 {w : World} {g : Nat} (u0 u1 u2 u3 u4 : Value) : (((((w.setCell ⟨g, 0, none⟩ u0).setCell ⟨g, 1, none⟩ u1).setCell ⟨g, 2, none⟩ u2).setCell ⟨g, 3, none⟩ u3).setCell ⟨g, 4, none⟩ u4).heap.size = w.heap.size := by
  simp [World.setCell]
/-- A result's cell written, then a box made. -/
theorem ret5 {w : World} {g : Nat} {T : TypeId} {a0 a1 a2 a3 a4 : Value} (u0 u1 u2 u3 u4 : Value) (o : Obj) (h : w.heap[g]? = some (.cells #[a0, a1, a2, a3, a4] T (0, 0))) :
    ((((((w.setCell ⟨g, 0, none⟩ u0).setCell ⟨g, 1, none⟩ u1).setCell ⟨g, 2, none⟩ u2).setCell ⟨g, 3, none⟩ u3).setCell ⟨g, 4, none⟩ u4).alloc o).heap[g]? = some (.cells #[u0, u1, u2, u3, u4] T (0, 0)) :=
  (block_old (by rw [size_set5]; exact (Array.getElem?_eq_some_iff.1 h).1)).trans (set5 _ _ _ _ _ h)
theorem ret5_far {w : World} {g : Nat} (u0 u1 u2 u3 u4 : Value) (o : Obj) {k : Nat} (hk : k ≠ g) (hl : k < w.heap.size) :
    ((((((w.setCell ⟨g, 0, none⟩ u0).setCell ⟨g, 1, none⟩ u1).setCell ⟨g, 2, none⟩ u2).setCell ⟨g, 3, none⟩ u3).setCell ⟨g, 4, none⟩ u4).alloc o).heap[k]? = w.heap[k]? :=
  (block_old (by rw [size_set5]; exact hl)).trans (far5 hk)
set_option maxRecDepth 100000 in
set_option maxHeartbeats 2000000 in
theorem read_any (x : It) (l : List It) (h2k : (x :: l).length ≤ 2000) (hd : x.d = 0) (bl c : Nat) (W : World) (hbl : bl < W.heap.size) (hit : ItAt W bl 0 (x :: l)) :
    Calls Tryd.prog 58 #[.slice (some ⟨bl, 0, none⟩) (x :: l).length c] W fun e w' => ∃ p q : Sl,
      e = .returned (.tuple #[.agg #[.int .i64 (readV x l).1.kind, .int .i64 (readV x l).1.int, .string (readV x l).1.text, .slice p.a p.n p.c, .slice q.a q.n q.c], .int .i64 (readV x l).2]) ∧
      HV (fun g => W.heap.size ≤ g) w' (readV x l).1 p q ∧ Below W.heap.size W w' := by
  have hrd := fun T1 T2 T3 => read1_any (x :: l) h2k bl c W.heap.size (W.heap.size + 1 + 1) (W.heap.size + 1 + 1 + 1) T1 T2 T3 (x :: l).length 0 (Nat.succ_pos _)
  have e0 : (x :: l)[0] = x := rfl
  simp only [e0, hd] at hrd
  have hrv : loopR (x :: l) (x :: l).length (0 + 1) 0 (leafV x) = readV x l := rfl
  simp only [hrv] at hrd
  have eg : ∀ args w, (callFunc 77 args).run Tryd.prog w = .ok (.enter 77 args) w := enters_of Tryd.func77 (by kernel_rfl) rfl
  have rs := fun (a : Addr) (w : World) (m : Mode) => run_store (P := Tryd.prog) w a (.func (.func 77) #[] #[.pointer (some ⟨W.heap.size, 0, none⟩), .pointer (some ⟨W.heap.size + 1 + 1, 0, none⟩), .pointer (some ⟨W.heap.size + 1 + 1 + 1, 0, none⟩)]) m rfl
  generalize hll : (x :: l).length = n at hrd h2k
  generalize hx : readV x l = y at hrd
  have H := Lib.hid (And.intro hrd hit)
  clear hrd hit hd e0 hrv hx
  go_enter Tryd.func58, Tryd.ntmps58
  go_wp2_with fail
  obtain ⟨w0, hw0⟩ : ∃ w0, w0 = ((((W.alloc (.cells #[.slice (some ⟨bl, 0, none⟩) n c] 22)).alloc (.cells #[.int .i64 0, .int .i64 0, .string ⟨#[]⟩, .slice none 0 0, .slice none 0 0] 27)).alloc (.cells #[.int .i64 0] 3)).alloc
      (.cells #[.func (.func 77) #[] #[.pointer (some ⟨W.heap.size, 0, none⟩), .pointer (some ⟨W.heap.size + 1 + 1, 0, none⟩), .pointer (some ⟨W.heap.size + 1 + 1 + 1, 0, none⟩)]] 85)) := ⟨_, rfl⟩
  rw [← hw0]
  have h0 := news4 hw0
  have hB : RB (x :: l) bl c W.heap.size (W.heap.size + 1 + 1) (W.heap.size + 1 + 1 + 1) 22 3 85 w0 0 := by
    unfold RB
    rw [hll]
    exact ⟨h0.1, h0.2.2.1, h0.2.2.2.1, H.out.2.later h0.2.2.2.2.1 hbl, by omega, by omega, by omega, by omega⟩
  have hcall := H.out.1 _ _ _ w0 (by omega) (Int.le_refl _) (Int.le_refl _) hB
  have H0 := Lib.hid h0
  clear hB h0 hw0
  refine hcall.mono ?_
  rintro e w1 ⟨px, qx, rfl, hvx, hb1⟩
  have hs1 := hb1.size
  rw [size_set] at hs1
  have hs0 := H0.out.2.2.2.2.2
  have z1 := (hb1.block (W.heap.size + 1) (by omega)).trans ((blk_far (show W.heap.size + 1 ≠ W.heap.size + 1 + 1 by omega)).trans H0.out.2.1)
  have a1 := (hb1.block (W.heap.size + 1 + 1) (by omega)).trans (blk_set H0.out.2.2.1 0 _)
  have c0 : w1.cell? ⟨W.heap.size + 1 + 1, 0, none⟩ = some (.int .i64 y.2) := by rw [blk_cell a1]; rfl
  have z10 : w1.cell? ⟨W.heap.size + 1, 0, none⟩ = some (.int .i64 0) := by rw [blk_cell z1]; rfl
  have z11 : w1.cell? ⟨W.heap.size + 1, 1, none⟩ = some (.int .i64 0) := by rw [blk_cell z1]; rfl
  have z12 : w1.cell? ⟨W.heap.size + 1, 2, none⟩ = some (.string ⟨#[]⟩) := by rw [blk_cell z1]; rfl
  have z13 : w1.cell? ⟨W.heap.size + 1, 3, none⟩ = some (.slice none 0 0) := by rw [blk_cell z1]; rfl
  have z14 : w1.cell? ⟨W.heap.size + 1, 4, none⟩ = some (.slice none 0 0) := by rw [blk_cell z1]; rfl
  have g0 := blk_frozen z1 0
  have g1 := blk_frozen z1 1
  have g2 := blk_frozen z1 2
  have g3 := blk_frozen z1 3
  have g4 := blk_frozen z1 4
  have l1 : W.heap.size + 1 < w1.heap.size := by omega
  have l2 : W.heap.size + 1 + 1 < w1.heap.size := by omega
  have H1 := Lib.hid (And.intro z1 (And.intro hvx hb1))
  clear hs1 hs0 z1 a1 hvx hb1
  go_wp2_with fail
  go_region
  all_goals
    go_wp2_with fail
    refine bodyPost_ret (results_pair rfl _ _ (W.heap.size + 1) 27 _ (0, 0) _ rfl (ret5 _ _ _ _ _ _ H1.out.1) Tryd.underlying27 rfl size_V) rfl ?_
    have hs1 := H1.out.2.2.size
    rw [size_set] at hs1
    have hs0 := H0.out.2.2.2.2.2
    have hb1 : Below W.heap.size W w1 := (H0.out.2.2.2.2.1.setCell (p := ⟨W.heap.size + 1 + 1, 0, none⟩) (show W.heap.size ≤ W.heap.size + 1 + 1 by omega) _).trans (H1.out.2.2.mono (by omega))
    exact ⟨px, qx, rfl, H1.out.2.1.map (fun k hk hl => ⟨by omega, ret5_far _ _ _ _ _ _ (by omega) hl⟩), ((below5 hb1 (Nat.le_succ _) _ _ _ _ _ _ _ _ _ _).alloc (by rw [size_set5]; omega) _).drew⟩
set_option maxRecDepth 100000 in
theorem Make_nil (a : Option Addr) (c : Nat) (W : World) :
    Calls Tryd.prog 32 #[.slice a 0 c] W fun e w' => ∃ p q : Sl, e = .returned (.tuple #[.agg #[.int .i64 (makeT []).1.kind, .int .i64 (makeT []).1.int, .string (makeT []).1.text, .slice p.a p.n p.c, .slice q.a q.n q.c], .bool (makeT []).2]) ∧
      HV (fun g => W.heap.size ≤ g) w' (makeT []).1 p q ∧ Below W.heap.size W w' := by
  go_enter Tryd.func32, Tryd.ntmps32
  go_wp2
  refine bodyPost_ret (results_pair rfl _ _ W.heap.size 27 _ (0, 0) _ rfl (block_new W _) Tryd.underlying27 rfl size_V) rfl ?_
  exact ⟨⟨none, 0, 0⟩, ⟨none, 0, 0⟩, rfl, nilV_lies _ _, (Below.refl _ _).alloc (Nat.le_refl _) _⟩
set_option maxRecDepth 100000 in
set_option maxHeartbeats 4000000 in
theorem Make_any (x : It) (l : List It) (h2k : (x :: l).length ≤ 2000) (hsm : ∀ y ∈ x :: l, y.key.size ≤ 1000 ∧ y.text.size ≤ 1000) (bl c : Nat) (W : World) (hbl : bl < W.heap.size) (hit : ItAt W bl 0 (x :: l)) (hT : utf.Tab W) :
    Calls Tryd.prog 32 #[.slice (some ⟨bl, 0, none⟩) (x :: l).length c] W fun e w' => ∃ p q : Sl, e = .returned (.tuple #[.agg #[.int .i64 (makeT (x :: l)).1.kind, .int .i64 (makeT (x :: l)).1.int, .string (makeT (x :: l)).1.text, .slice p.a p.n p.c, .slice q.a q.n q.c], .bool (makeT (x :: l)).2]) ∧
      HV (fun g => W.heap.size ≤ g) w' (makeT (x :: l)).1 p q ∧ Below W.heap.size W w' := by
  have hb1 : ∀ o, Below W.heap.size W (W.alloc o) := fun o => (Below.refl _ _).alloc (Nat.le_refl _) o
  have hx0 := hit.five 0 (Nat.succ_pos _)
  have e0 : (x :: l)[0] = x := rfl
  simp only [Nat.zero_mul, Nat.zero_add, e0] at hx0
  obtain ⟨k0, _, _, k3, _⟩ := hx0
  have hmk : makeT (x :: l) = if ¬ x.d = 0 ∨ x.key.toList.isEmpty = false then (nilV, false) else if (readV x l).2 < (x :: l).length ∨ checkW (readV x l).1 = false then (nilV, false) else ((readV x l).1, true) := rfl
  have hrd := fun (hd : x.d = 0) W1 (hb : Below W.heap.size W W1) => read_any x l h2k hd bl c W1 (Nat.lt_of_lt_of_le hbl hb.size) (hit.later hb hbl)
  have hck : x.d = 0 → ¬ (readV x l).2 < (x :: l).length → smallV (readV x l).1 = true ∧ depthV (readV x l).1 < 4611686018427387904 := fun hd hr => by
    have hc := read_count x l hd hr
    have hdc := depth_count (readV x l).1
    refine ⟨?_, by omega⟩
    rw [(read_made x l hd).2 hr]
    unfold madeR
    split
    · rename_i r hr'
      exact madeV_small _ hsm 0 r.1 r.2 hr'
    · decide +kernel
  have hlz : ((x :: l).length : Int) = (l.length : Int) + 1 := by simp
  obtain ⟨n, hn⟩ : ∃ n, (x :: l).length = n := ⟨_, rfl⟩
  rw [hn] at hmk hrd hck h2k ⊢
  have hn0 : ((n : Int) == 0) = false := beq_eq_false_iff_ne.2 (by rw [← hn]; simp only [List.length_cons]; omega)
  have hn1 : ¬ (2000 : Int) < (n : Int) := by omega
  have hn2 : (0 : Int) < (n : Int) := by rw [← hn]; simp only [List.length_cons]; omega
  generalize makeT (x :: l) = y at hmk
  have H := Lib.hid (And.intro hb1 (And.intro hrd (And.intro hck hT)))
  clear hb1 hrd hck hit hsm e0 hlz hn hT
  by_cases hd : x.d = 0
  · have hdb : (x.d != 0) = false := by simp [hd]
    cases hke : x.key.toList.isEmpty with
    | false =>
      have hkb : (!x.key.toList.isEmpty) = true := by rw [hke]; rfl
      have Ho := Lib.hid (show y = (nilV, false) by rw [hmk, if_pos (.inr hke)])
      clear hmk hd
      go_enter Tryd.func32, Tryd.ntmps32
      go_wp2
      refine bodyPost_ret (results_pair rfl _ _ W.heap.size 27 _ (0, 0) _ rfl (block_new W _) Tryd.underlying27 rfl size_V) rfl ?_
      rw [Ho.out]
      exact ⟨⟨none, 0, 0⟩, ⟨none, 0, 0⟩, rfl, nilV_lies _ _, H.out.1 _⟩
    | true =>
      have hkb : (!x.key.toList.isEmpty) = false := by rw [hke]; rfl
      rw [if_neg (by rw [hke]; simp [hd])] at hmk
      have hcall := H.out.2.1 hd (W.alloc (.cells #[.int .i64 0, .int .i64 0, .string ⟨#[]⟩, .slice none 0 0, .slice none 0 0] 27)) (H.out.1 _)
      have hck := H.out.2.2.1 hd
      have hz := fun w1 (hb : Below (W.alloc (.cells #[.int .i64 0, .int .i64 0, .string ⟨#[]⟩, .slice none 0 0, .slice none 0 0] 27)).heap.size (W.alloc (.cells #[.int .i64 0, .int .i64 0, .string ⟨#[]⟩, .slice none 0 0, .slice none 0 0] 27)) w1) => (hb.block W.heap.size (by rw [size_alloc]; omega)).trans (block_new W (.cells #[.int .i64 0, .int .i64 0, .string ⟨#[]⟩, .slice none 0 0, .slice none 0 0] 27))
      generalize readV x l = v at hmk hcall hck
      obtain ⟨v, k⟩ := v
      simp only at hmk hcall hck
      have Hm := Lib.hid (And.intro hmk (And.intro hck hz))
      clear hmk hck hz hd
      by_cases hr : k < n
      · have hrz : (k : Int) < (n : Int) := by omega
        have hrb : decide (k < n) = true := decide_eq_true hr
        have Ho := Lib.hid (show y = (nilV, false) by rw [Hm.out.1, if_pos (.inl hr)])
        clear hr
        go_enter Tryd.func32, Tryd.ntmps32
        go_wp2_with fail
        refine hcall.mono ?_
        rintro e w1 ⟨px, qx, rfl, hvx, hb1⟩
        have z1 := Hm.out.2.2 w1 hb1
        have l1 : W.heap.size < w1.heap.size := (Array.getElem?_eq_some_iff.1 z1).1
        have s0 : w1.cell? ⟨W.heap.size, 0, none⟩ = some (.int .i64 0) := by rw [blk_cell z1]; rfl
        have sf0 := blk_frozen z1 0
        have s1 : w1.cell? ⟨W.heap.size, 1, none⟩ = some (.int .i64 0) := by rw [blk_cell z1]; rfl
        have sf1 := blk_frozen z1 1
        have s2 : w1.cell? ⟨W.heap.size, 2, none⟩ = some (.string ⟨#[]⟩) := by rw [blk_cell z1]; rfl
        have sf2 := blk_frozen z1 2
        have s3 : w1.cell? ⟨W.heap.size, 3, none⟩ = some (.slice none 0 0) := by rw [blk_cell z1]; rfl
        have sf3 := blk_frozen z1 3
        have s4 : w1.cell? ⟨W.heap.size, 4, none⟩ = some (.slice none 0 0) := by rw [blk_cell z1]; rfl
        have sf4 := blk_frozen z1 4
        have H1 := Lib.hid (And.intro z1 hb1)
        clear z1 hb1 hvx
        go_wp2_with fail
        refine bodyPost_ret (results_pair rfl _ _ W.heap.size 27 _ (0, 0) _ rfl (ret5 _ _ _ _ _ _ H1.out.1) Tryd.underlying27 rfl size_V) rfl ?_
        rw [Ho.out]
        exact ⟨⟨none, 0, 0⟩, ⟨none, 0, 0⟩, rfl, nilV_lies _ _, (below5 ((H.out.1 _).trans (H1.out.2.mono (by rw [size_alloc]; omega))) (Nat.le_refl _) _ _ _ _ _ _ _ _ _ _).alloc (by rw [size_set5]; omega) _⟩
      · have hrz : ¬ (k : Int) < (n : Int) := by omega
        have hrb : decide (k < n) = false := decide_eq_false hr
        have hsm := Hm.out.2.1 hr
        have hmk := Hm.out.1
        clear hr
        have hchk := fun W1 (hb : Below W.heap.size W W1) px qx (S : Nat → Prop) (hS : ∀ g, S g → g < W1.heap.size) (hh : HV S W1 v px qx) => Check_any v hsm.1 hsm.2 S W1 px qx hS hh (H.out.2.2.2.self hb)
        have Hc := Lib.hid hchk
        clear hchk hsm
        cases hch : checkW v with
        | true =>
          have Ho := Lib.hid (show y = (v, true) by rw [hmk, if_neg (by rw [hch]; rintro (h | h); exact hrz (by exact_mod_cast h); cases h)])
          clear hmk
          go_enter Tryd.func32, Tryd.ntmps32
          go_wp2_with fail
          refine hcall.mono ?_
          rintro e w1 ⟨px, qx, rfl, hvx, hb1⟩
          have z1 := Hm.out.2.2 w1 hb1
          have l1 : W.heap.size < w1.heap.size := (Array.getElem?_eq_some_iff.1 z1).1
          have s0 : w1.cell? ⟨W.heap.size, 0, none⟩ = some (.int .i64 0) := by rw [blk_cell z1]; rfl
          have sf0 := blk_frozen z1 0
          have s1 : w1.cell? ⟨W.heap.size, 1, none⟩ = some (.int .i64 0) := by rw [blk_cell z1]; rfl
          have sf1 := blk_frozen z1 1
          have s2 : w1.cell? ⟨W.heap.size, 2, none⟩ = some (.string ⟨#[]⟩) := by rw [blk_cell z1]; rfl
          have sf2 := blk_frozen z1 2
          have s3 : w1.cell? ⟨W.heap.size, 3, none⟩ = some (.slice none 0 0) := by rw [blk_cell z1]; rfl
          have sf3 := blk_frozen z1 3
          have s4 : w1.cell? ⟨W.heap.size, 4, none⟩ = some (.slice none 0 0) := by rw [blk_cell z1]; rfl
          have sf4 := blk_frozen z1 4
          have hb01 := (H.out.1 _).trans (hb1.mono (by rw [size_alloc]; omega))
          have H1 := Lib.hid (And.intro z1 (And.intro hb01 hvx))
          clear z1 hb1 hvx hb01
          go_wp2_with fail
          have hcc := Hc.out (w1.alloc (.cells #[.int .i64 v.kind, .int .i64 v.int, .string v.text, .slice px.a px.n px.c, .slice qx.a qx.n qx.c] 27)) (H1.out.2.1.alloc (by omega) _) px qx (fun g => W.heap.size + 1 ≤ g ∧ g < w1.heap.size + 1) (fun g hg => by rw [size_alloc]; exact hg.2) (H1.out.2.2.map (fun j hj hl => ⟨⟨by rw [size_alloc] at hj; exact hj, by omega⟩, block_old hl⟩))
          rw [hch] at hcc
          refine hcc.mono ?_
          rintro e w2 ⟨rfl, hb2⟩
          have z2 := (hb2.block W.heap.size (by rw [size_alloc]; omega)).trans ((block_old l1).trans H1.out.1)
          have v2 := (hb2.block w1.heap.size (by rw [size_alloc]; omega)).trans (block_new w1 _)
          have l2 : W.heap.size < w2.heap.size := (Array.getElem?_eq_some_iff.1 z2).1
          have lv2 := (Array.getElem?_eq_some_iff.1 v2).1
          have t0 : w2.cell? ⟨W.heap.size, 0, none⟩ = some (.int .i64 0) := by rw [blk_cell z2]; rfl
          have tf0 := blk_frozen z2 0
          have t1 : w2.cell? ⟨W.heap.size, 1, none⟩ = some (.int .i64 0) := by rw [blk_cell z2]; rfl
          have tf1 := blk_frozen z2 1
          have t2 : w2.cell? ⟨W.heap.size, 2, none⟩ = some (.string ⟨#[]⟩) := by rw [blk_cell z2]; rfl
          have tf2 := blk_frozen z2 2
          have t3 : w2.cell? ⟨W.heap.size, 3, none⟩ = some (.slice none 0 0) := by rw [blk_cell z2]; rfl
          have tf3 := blk_frozen z2 3
          have t4 : w2.cell? ⟨W.heap.size, 4, none⟩ = some (.slice none 0 0) := by rw [blk_cell z2]; rfl
          have tf4 := blk_frozen z2 4
          have q0 : w2.cell? ⟨w1.heap.size, 0, none⟩ = some (.int .i64 v.kind) := by rw [blk_cell v2]; rfl
          have q1 : w2.cell? ⟨w1.heap.size, 1, none⟩ = some (.int .i64 v.int) := by rw [blk_cell v2]; rfl
          have q2 : w2.cell? ⟨w1.heap.size, 2, none⟩ = some (.string v.text) := by rw [blk_cell v2]; rfl
          have q3 : w2.cell? ⟨w1.heap.size, 3, none⟩ = some (.slice px.a px.n px.c) := by rw [blk_cell v2]; rfl
          have q4 : w2.cell? ⟨w1.heap.size, 4, none⟩ = some (.slice qx.a qx.n qx.c) := by rw [blk_cell v2]; rfl
          have hv2 : HV (fun g => W.heap.size + 1 ≤ g) w2 v px qx := H1.out.2.2.map (fun j hj hl => ⟨by rw [size_alloc] at hj; exact hj, (hb2.block j (by rw [size_alloc]; omega)).trans (block_old hl)⟩)
          have hb02 := (H1.out.2.1.alloc (by omega) (.cells #[.int .i64 v.kind, .int .i64 v.int, .string v.text, .slice px.a px.n px.c, .slice qx.a qx.n qx.c] 27)).trans (hb2.mono (by rw [size_alloc]; omega))
          have H2 := Lib.hid (And.intro hv2 (And.intro hb02 z2))
          clear z2 v2 hv2 hb02 hb2 hch
          go_wp2_with fail
          refine bodyPost_ret (results_pair rfl _ _ W.heap.size 27 _ (0, 0) _ rfl (set5 _ _ _ _ _ H2.out.2.2) Tryd.underlying27 rfl size_V) rfl ?_
          rw [Ho.out]
          exact ⟨px, qx, rfl, H2.out.1.map (fun j hj hl => ⟨by omega, far5 (by omega)⟩), below5 H2.out.2.1 (Nat.le_refl _) _ _ _ _ _ _ _ _ _ _⟩
        | false =>
          have Ho := Lib.hid (show y = (nilV, false) by rw [hmk, if_pos (.inr hch)])
          clear hmk
          go_enter Tryd.func32, Tryd.ntmps32
          go_wp2_with fail
          refine hcall.mono ?_
          rintro e w1 ⟨px, qx, rfl, hvx, hb1⟩
          have z1 := Hm.out.2.2 w1 hb1
          have l1 : W.heap.size < w1.heap.size := (Array.getElem?_eq_some_iff.1 z1).1
          have s0 : w1.cell? ⟨W.heap.size, 0, none⟩ = some (.int .i64 0) := by rw [blk_cell z1]; rfl
          have sf0 := blk_frozen z1 0
          have s1 : w1.cell? ⟨W.heap.size, 1, none⟩ = some (.int .i64 0) := by rw [blk_cell z1]; rfl
          have sf1 := blk_frozen z1 1
          have s2 : w1.cell? ⟨W.heap.size, 2, none⟩ = some (.string ⟨#[]⟩) := by rw [blk_cell z1]; rfl
          have sf2 := blk_frozen z1 2
          have s3 : w1.cell? ⟨W.heap.size, 3, none⟩ = some (.slice none 0 0) := by rw [blk_cell z1]; rfl
          have sf3 := blk_frozen z1 3
          have s4 : w1.cell? ⟨W.heap.size, 4, none⟩ = some (.slice none 0 0) := by rw [blk_cell z1]; rfl
          have sf4 := blk_frozen z1 4
          have hb01 := (H.out.1 _).trans (hb1.mono (by rw [size_alloc]; omega))
          have H1 := Lib.hid (And.intro z1 (And.intro hb01 hvx))
          clear z1 hb1 hvx hb01
          go_wp2_with fail
          have hcc := Hc.out (w1.alloc (.cells #[.int .i64 v.kind, .int .i64 v.int, .string v.text, .slice px.a px.n px.c, .slice qx.a qx.n qx.c] 27)) (H1.out.2.1.alloc (by omega) _) px qx (fun g => W.heap.size + 1 ≤ g ∧ g < w1.heap.size + 1) (fun g hg => by rw [size_alloc]; exact hg.2) (H1.out.2.2.map (fun j hj hl => ⟨⟨by rw [size_alloc] at hj; exact hj, by omega⟩, block_old hl⟩))
          rw [hch] at hcc
          refine hcc.mono ?_
          rintro e w2 ⟨rfl, hb2⟩
          have z2 := (hb2.block W.heap.size (by rw [size_alloc]; omega)).trans ((block_old l1).trans H1.out.1)
          have v2 := (hb2.block w1.heap.size (by rw [size_alloc]; omega)).trans (block_new w1 _)
          have l2 : W.heap.size < w2.heap.size := (Array.getElem?_eq_some_iff.1 z2).1
          have lv2 := (Array.getElem?_eq_some_iff.1 v2).1
          have t0 : w2.cell? ⟨W.heap.size, 0, none⟩ = some (.int .i64 0) := by rw [blk_cell z2]; rfl
          have tf0 := blk_frozen z2 0
          have t1 : w2.cell? ⟨W.heap.size, 1, none⟩ = some (.int .i64 0) := by rw [blk_cell z2]; rfl
          have tf1 := blk_frozen z2 1
          have t2 : w2.cell? ⟨W.heap.size, 2, none⟩ = some (.string ⟨#[]⟩) := by rw [blk_cell z2]; rfl
          have tf2 := blk_frozen z2 2
          have t3 : w2.cell? ⟨W.heap.size, 3, none⟩ = some (.slice none 0 0) := by rw [blk_cell z2]; rfl
          have tf3 := blk_frozen z2 3
          have t4 : w2.cell? ⟨W.heap.size, 4, none⟩ = some (.slice none 0 0) := by rw [blk_cell z2]; rfl
          have tf4 := blk_frozen z2 4
          have q0 : w2.cell? ⟨w1.heap.size, 0, none⟩ = some (.int .i64 v.kind) := by rw [blk_cell v2]; rfl
          have q1 : w2.cell? ⟨w1.heap.size, 1, none⟩ = some (.int .i64 v.int) := by rw [blk_cell v2]; rfl
          have q2 : w2.cell? ⟨w1.heap.size, 2, none⟩ = some (.string v.text) := by rw [blk_cell v2]; rfl
          have q3 : w2.cell? ⟨w1.heap.size, 3, none⟩ = some (.slice px.a px.n px.c) := by rw [blk_cell v2]; rfl
          have q4 : w2.cell? ⟨w1.heap.size, 4, none⟩ = some (.slice qx.a qx.n qx.c) := by rw [blk_cell v2]; rfl
          have hv2 : HV (fun g => W.heap.size + 1 ≤ g) w2 v px qx := H1.out.2.2.map (fun j hj hl => ⟨by rw [size_alloc] at hj; exact hj, (hb2.block j (by rw [size_alloc]; omega)).trans (block_old hl)⟩)
          have hb02 := (H1.out.2.1.alloc (by omega) (.cells #[.int .i64 v.kind, .int .i64 v.int, .string v.text, .slice px.a px.n px.c, .slice qx.a qx.n qx.c] 27)).trans (hb2.mono (by rw [size_alloc]; omega))
          have H2 := Lib.hid (And.intro hv2 (And.intro hb02 z2))
          clear z2 v2 hv2 hb02 hb2 hch
          go_wp2_with fail
          refine bodyPost_ret (results_pair rfl _ _ W.heap.size 27 _ (0, 0) _ rfl (set5 _ _ _ _ _ H2.out.2.2) Tryd.underlying27 rfl size_V) rfl ?_
          rw [Ho.out]
          exact ⟨⟨none, 0, 0⟩, ⟨none, 0, 0⟩, rfl, nilV_lies _ _, below5 H2.out.2.1 (Nat.le_refl _) _ _ _ _ _ _ _ _ _ _⟩
  · have hdb : (x.d != 0) = true := by simp [hd]
    have Ho := Lib.hid (show y = (nilV, false) by rw [hmk, if_pos (.inl hd)])
    clear hmk hd
    go_enter Tryd.func32, Tryd.ntmps32
    go_wp2
    refine bodyPost_ret (results_pair rfl _ _ W.heap.size 27 _ (0, 0) _ rfl (block_new W _) Tryd.underlying27 rfl size_V) rfl ?_
    rw [Ho.out]
    exact ⟨⟨none, 0, 0⟩, ⟨none, 0, 0⟩, rfl, nilV_lies _ _, H.out.1 _⟩
end Go.Proofs.YteocenjneoclbaaDoor.tre
namespace Go.Proofs.YteocenjneoclbaaDoor.tre
open Go.RowKit Go.Shelf

def leafA : V := .mk 2 5 ⟨#[]⟩ [] []
def exA : V := .mk 5 0 ⟨#[]⟩ [] [(⟨#[97]⟩, leafA)]
def it0 : It := ⟨0, 5, 0, ⟨#[]⟩, ⟨#[]⟩⟩
def it1 : It := ⟨1, 2, 5, ⟨#[97]⟩, ⟨#[]⟩⟩
theorem read_ex : readV it0 [it1] = (exA, 2) := rfl
theorem check_ex : checkW exA = true := by decide +kernel
theorem make_ex : makeT [it0, it1] = (exA, true) := by
  unfold makeT
  simp only
  rw [read_ex]
  show (if _ then _ else if _ ∨ checkW exA = false then _ else _) = _
  rw [check_ex, if_neg (by decide +kernel), if_neg (by decide +kernel)]
theorem get_ex : getR exA [⟨#[97]⟩] = (leafA, true) := by
  unfold getR
  have hp : placeV exA ⟨#[97]⟩ = 0 := by decide +kernel
  have : getV exA [⟨#[97]⟩] = some leafA := by
    unfold getV
    rw [dif_pos (by rw [hp]; exact ⟨by decide, by decide⟩)]
    simp only [hp]
    rfl
  rw [this]

/-- Items that a block holds from its beginning on. -/
theorem itAt_block {w : World} {bl : Nat} {cs : Array Value} {T : TypeId} {l : List It} (h : w.heap[bl]? = some (.cells cs T (0, 0))) (hc : cs.toList = flatI l) : ItAt w bl 0 l := by
  intro i hi j u hu
  have hl : (cellsI l[i]).length = 5 := rfl
  have hj : j < 5 := by have := (List.getElem?_eq_some_iff.1 hu).1; omega
  have h2 := flatten_at (l.map cellsI) 5 (fun xs hx => by obtain ⟨y, _, rfl⟩ := List.mem_map.1 hx; rfl) i (cellsI l[i]) (by rw [List.getElem?_map, List.getElem?_eq_getElem hi]; rfl) j hj
  rw [blk_cell h, Nat.zero_mul, Nat.zero_add, ← Array.getElem?_toList, hc]
  exact h2.trans hu
set_option maxRecDepth 100000 in
set_option maxHeartbeats 4000000 in
theorem awake_any (W : World) (hT : utf.Tab W) :
    Calls Tryd.prog 6 #[] W fun e w' => e = .returned (.bool true) ∧ Below W.heap.size W w' := by
  have hb1 : ∀ o, Below W.heap.size W (W.alloc o) := fun o => (Below.refl _ _).alloc (Nat.le_refl _) o
  have hmk := Make_any it0 [it1] (by decide) (by decide) W.heap.size 2 (W.alloc (.cells #[.int .i64 0, .int .i64 5, .int .i64 0, .string ⟨#[]⟩, .string ⟨#[]⟩, .int .i64 1, .int .i64 2, .int .i64 5, .string ⟨#[97]⟩, .string ⟨#[]⟩] 55)) (by rw [size_alloc]; omega) (itAt_block (block_new W _) rfl) (hT.self (hb1 _))
  rw [make_ex] at hmk
  have hgt := fun W1 r t (S : Nat → Prop) (hS : ∀ g, S g → g < W1.heap.size) hh bk (hbk : bk < W1.heap.size) (h : W1.cell? ⟨bk, 0, none⟩ = some (.string ⟨#[97]⟩)) => Get_any exA (by decide +kernel) [⟨#[97]⟩] (by decide) bk 1 S W1 r t hS hh hbk (fun j hj => by
    obtain rfl : j = 0 := by simpa using hj
    exact h)
  rw [get_ex] at hgt
  have hck := fun W1 r t (S : Nat → Prop) (hS : ∀ g, S g → g < W1.heap.size) hh (hb : Below W.heap.size W W1) => Check_any exA (by decide +kernel) (by decide +kernel) S W1 r t hS hh (hT.self hb)
  rw [check_ex] at hck
  have H := Lib.hid (And.intro hb1 (And.intro hgt hck))
  clear hb1 hgt hck hT
  go_enter Tryd.func6, Tryd.ntmps6
  go_wp2_with fail
  refine hmk.mono ?_
  rintro e w1 ⟨px, qx, rfl, hvx, hb1⟩
  have hs1 := hb1.size
  rw [size_alloc] at hs1 hvx
  have hb01 := (H.out.1 _).trans (hb1.mono (by rw [size_alloc]; omega))
  have H1 := Lib.hid (And.intro hvx (And.intro hb01 hs1))
  clear hvx hb1 hb01 hs1
  go_wp2_with fail
  have hb12 : Below w1.heap.size w1 ((w1.alloc (.cells #[.int .i64 exA.kind, .int .i64 exA.int, .string exA.text, .slice px.a px.n px.c, .slice qx.a qx.n qx.c] 27)).alloc (.cells #[.string ⟨#[97]⟩] 9)) := ((Below.refl _ _).alloc (Nat.le_refl _) _).alloc (by rw [size_alloc]; omega) _
  have hS2 : HV (fun g => W.heap.size + 1 ≤ g ∧ g < w1.heap.size) ((w1.alloc (.cells #[.int .i64 exA.kind, .int .i64 exA.int, .string exA.text, .slice px.a px.n px.c, .slice qx.a qx.n qx.c] 27)).alloc (.cells #[.string ⟨#[97]⟩] 9)) exA px qx := H1.out.1.map (fun j hj hl => ⟨⟨hj, hl⟩, hb12.block j hl⟩)
  refine (H.out.2.1 _ px qx (fun g => W.heap.size + 1 ≤ g ∧ g < w1.heap.size) (fun g hg => by rw [size_alloc, size_alloc]; omega) hS2 (w1.heap.size + 1) (by rw [size_alloc, size_alloc]; omega) ?_).mono ?_
  · have := block_new (w1.alloc (.cells #[.int .i64 exA.kind, .int .i64 exA.int, .string exA.text, .slice px.a px.n px.c, .slice qx.a qx.n qx.c] 27)) (.cells #[.string ⟨#[97]⟩] 9)
    rw [size_alloc] at this
    rw [blk_cell this]; rfl
  rintro e w2 ⟨py, qy, rfl, _, hb2⟩
  have v2 := (hb2.block w1.heap.size (by rw [size_alloc, size_alloc]; omega)).trans ((block_old (by rw [size_alloc]; omega)).trans (block_new w1 _))
  have l2 := (Array.getElem?_eq_some_iff.1 v2).1
  have q0 : w2.cell? ⟨w1.heap.size, 0, none⟩ = some (.int .i64 exA.kind) := by rw [blk_cell v2]; rfl
  have q1 : w2.cell? ⟨w1.heap.size, 1, none⟩ = some (.int .i64 exA.int) := by rw [blk_cell v2]; rfl
  have q2 : w2.cell? ⟨w1.heap.size, 2, none⟩ = some (.string exA.text) := by rw [blk_cell v2]; rfl
  have q3 : w2.cell? ⟨w1.heap.size, 3, none⟩ = some (.slice px.a px.n px.c) := by rw [blk_cell v2]; rfl
  have q4 : w2.cell? ⟨w1.heap.size, 4, none⟩ = some (.slice qx.a qx.n qx.c) := by rw [blk_cell v2]; rfl
  have t0 : (leafA.kind == 2) = true := rfl
  have t1 : (leafA.int == 5) = true := rfl
  have hs1 := H1.out.2.2
  have hb02 := (H1.out.2.1.trans (hb12.mono H1.out.2.1.size)).trans (hb2.mono (by rw [size_alloc, size_alloc]; omega))
  have hv2 : HV (fun g => W.heap.size + 1 ≤ g ∧ g < w1.heap.size) w2 exA px qx := hS2.map (fun j hj hl => ⟨hj, hb2.block j hl⟩)
  have H2 := Lib.hid (And.intro hv2 hb02)
  have hl2 : W.heap.size ≤ w2.heap.size := by omega
  clear hb12 hS2 hb2 v2 hv2 hb02
  go_wp2_with fail
  refine (H.out.2.2 _ px qx (fun g => W.heap.size + 1 ≤ g ∧ g < w1.heap.size) (fun g hg => by rw [size_alloc]; omega) (H2.out.1.map (fun j hj hl => ⟨hj, block_old hl⟩)) (H2.out.2.alloc (by omega) _)).mono ?_
  rintro e w3 ⟨rfl, hb3⟩
  go_wp2_with fail
  go_ret
  exact ⟨rfl, (H2.out.2.alloc (by omega) _).trans (hb3.mono (by rw [size_alloc]; omega))⟩
end Go.Proofs.YteocenjneoclbaaDoor.tre
namespace Go.Proofs.YteocenjneoclbaaDoor.tre
open Go.RowKit Go.Shelf

set_option maxRecDepth 100000 in
theorem rMake_nil (a : Option Addr) (c : Nat) (W : World) :
    Calls Tryd.prog 34 #[.slice a 0 c] W fun e w' => ∃ p q : Sl, e = .returned (.tuple #[.agg #[.int .i64 (makeR []).1.kind, .int .i64 (makeR []).1.int, .string (makeR []).1.text, .slice p.a p.n p.c, .slice q.a q.n q.c], .bool (makeR []).2]) ∧
      HM W.heap.size w' (makeR []).1 p q ∧ Below W.heap.size W w' := by
  go_enter Tryd.func34, Tryd.ntmps34
  go_wp2
  refine bodyPost_ret (results_pair rfl _ _ W.heap.size 27 _ (0, 0) _ rfl (block_new W _) Tryd.underlying27 rfl size_V) rfl ?_
  exact ⟨⟨none, 0, 0⟩, ⟨none, 0, 0⟩, rfl, HM.none _ _ _ _ _, (Below.refl _ _).alloc (Nat.le_refl _) _⟩
/-- A row that stands alone. -/
theorem own_form {w : World} {B : Nat} {a : Option Addr} {n c : Nat} {l : List It} (h : w.ownsRow B 55 5 (.slice a n c) l.length (flatI l)) : n = l.length ∧ (l = [] ∨ ∃ bl, a = some ⟨bl, 0, none⟩ ∧ bl < w.heap.size ∧ ItAt w bl 0 l ∧ l.length ≤ c ∧ c ≤ maxLen) := by
  rcases h.2 with ⟨hv, hn⟩ | ⟨g, cap, cur, hv, _, hg, hnc, hcm, _⟩
  · injection hv with _ h2 _
    exact ⟨by omega, .inl (List.eq_nil_of_length_eq_zero hn)⟩
  · injection hv with h1 h2 h3
    subst h1 h2 h3
    exact ⟨rfl, .inr ⟨g, rfl, (Array.getElem?_eq_some_iff.1 hg).1, own_items h, hnc, hcm⟩⟩
theorem Make_row (l : List It) (h2k : l.length ≤ 2000) (hsm : ∀ y ∈ l, y.key.size ≤ 1000 ∧ y.text.size ≤ 1000) (B : Nat) (sl : Sl) (W : World) (h : W.ownsRow B 55 5 (.slice sl.a sl.n sl.c) l.length (flatI l)) (hT : utf.Tab W) :
    Calls Tryd.prog 32 #[.slice sl.a sl.n sl.c] W fun e w' => ∃ p q : Sl, e = .returned (.tuple #[.agg #[.int .i64 (makeR l).1.kind, .int .i64 (makeR l).1.int, .string (makeR l).1.text, .slice p.a p.n p.c, .slice q.a q.n q.c], .bool (makeR l).2]) ∧
      HV (fun g => W.heap.size ≤ g) w' (makeR l).1 p q ∧ Below W.heap.size W w' := by
  rw [← makeT_eq l h2k]
  obtain ⟨hn, hl⟩ := own_form h
  rw [hn]
  match l, hl with
  | [], _ => exact Make_nil _ _ W
  | x :: l, hl =>
    rcases hl with hl | ⟨bl, ha, hbl, hit, _⟩
    · cases hl
    · rw [ha]
      exact Make_any x l h2k hsm bl sl.c W hbl hit hT
theorem rMake_rowM (l : List It) (h2k : l.length ≤ 2000) (hsm : ∀ y ∈ l, y.key.size ≤ 1000 ∧ y.text.size ≤ 1000) (B : Nat) (sl : Sl) (W : World) (h : W.ownsRow B 55 5 (.slice sl.a sl.n sl.c) l.length (flatI l)) :
    Calls Tryd.prog 34 #[.slice sl.a sl.n sl.c] W fun e w' => ∃ p q : Sl, e = .returned (.tuple #[.agg #[.int .i64 (makeR l).1.kind, .int .i64 (makeR l).1.int, .string (makeR l).1.text, .slice p.a p.n p.c, .slice q.a q.n q.c], .bool (makeR l).2]) ∧
      HM W.heap.size w' (makeR l).1 p q ∧ Below W.heap.size W w' := by
  obtain ⟨hn, hl⟩ := own_form h
  rw [hn]
  by_cases he : l = []
  · subst he
    exact rMake_nil _ _ W
  · rcases hl with hl | ⟨bl, ha, hbl, hit, hlc, hcm⟩
    · exact absurd hl he
    · rw [ha]
      exact rMake_any l he h2k hsm bl sl.c W hlc hcm hbl hit
theorem rMake_row (l : List It) (h2k : l.length ≤ 2000) (hsm : ∀ y ∈ l, y.key.size ≤ 1000 ∧ y.text.size ≤ 1000) (B : Nat) (sl : Sl) (W : World) (h : W.ownsRow B 55 5 (.slice sl.a sl.n sl.c) l.length (flatI l)) :
    Calls Tryd.prog 34 #[.slice sl.a sl.n sl.c] W fun e w' => ∃ p q : Sl, e = .returned (.tuple #[.agg #[.int .i64 (makeR l).1.kind, .int .i64 (makeR l).1.int, .string (makeR l).1.text, .slice p.a p.n p.c, .slice q.a q.n q.c], .bool (makeR l).2]) ∧
      HV (fun g => W.heap.size ≤ g) w' (makeR l).1 p q ∧ Below W.heap.size W w' :=
  (rMake_rowM l h2k hsm B sl W h).mono (fun _ _ ⟨p, q, h1, h2, h3⟩ => ⟨p, q, h1, h2.hv, h3⟩)
theorem few_small (l : List It) : (fewV l).length ≤ 40 ∧ ∀ y ∈ fewV l, y.key.size ≤ 1000 ∧ y.text.size ≤ 1000 := by
  unfold fewV
  refine ⟨by rw [List.length_map]; exact List.length_take_le _ _, fun y hy => ?_⟩
  obtain ⟨x, _, rfl⟩ := List.mem_map.1 hy
  have h1 := cut12_size x.key
  have h2 := cut12_size x.text
  exact ⟨Nat.le_trans h1 (by decide), Nat.le_trans h2 (by decide)⟩
theorem own_later {w w' : World} {B : Nat} {v : Value} {n : Nat} {xs : List Value} (h : w.ownsRow B 55 5 v n xs) (hb : Below w.heap.size w w') : w'.ownsRow B 55 5 v n xs := by
  obtain ⟨h1, h2⟩ := h
  refine ⟨h1, ?_⟩
  rcases h2 with h2 | ⟨g, cap, cur, hv, hB, hg, r⟩
  · exact .inl h2
  · exact .inr ⟨g, cap, cur, hv, hB, (hb.block g (Array.getElem?_eq_some_iff.1 hg).1).trans hg, r⟩
end Go.Proofs.YteocenjneoclbaaDoor.tre

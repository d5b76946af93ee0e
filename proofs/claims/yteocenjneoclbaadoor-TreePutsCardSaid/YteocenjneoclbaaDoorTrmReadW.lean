/- Layer 4: read's own function, walked. -/
import Derived.BigQuiet
import Derived.Deep.AppendLies
import Derived.Deep.QuietTactic
import Derived.Deep.RegionLaw
import Derived.Test.YteocenjneoclbaaDoorTrmMade
import Derived.Test.YteocenjneoclbaaDoorTrmRMake
namespace Go.Proofs.YteocenjneoclbaaDoor.tre
open Go.RowKit Go.Shelf

def ReadAt (l : List It) (bl c bL bA bN : Nat) (TL TA TN : TypeId) (n : Nat) : Prop := ∀ (p : Nat) (hp : p < l.length) (W : World), l.length - (p + 1) ≤ n → 0 ≤ l[p].d → l[p].d ≤ p → RB l bl c bL bA bN TL TA TN W p →
  Calls Tryd.prog 77 #[.pointer (some ⟨bL, 0, none⟩), .pointer (some ⟨bA, 0, none⟩), .pointer (some ⟨bN, 0, none⟩)] W fun e w' => ∃ p' q' : Sl,
    e = .returned (.agg #[.int .i64 (loopR l n (p + 1) l[p].d (leafV l[p])).1.kind, .int .i64 (loopR l n (p + 1) l[p].d (leafV l[p])).1.int, .string (loopR l n (p + 1) l[p].d (leafV l[p])).1.text, .slice p'.a p'.n p'.c, .slice q'.a q'.n q'.c]) ∧
    HV (fun g => W.heap.size ≤ g) w' (loopR l n (p + 1) l[p].d (leafV l[p])).1 p' q' ∧ Below W.heap.size (W.setCell ⟨bA, 0, none⟩ (.int .i64 (loopR l n (p + 1) l[p].d (leafV l[p])).2)) w'

set_option maxRecDepth 100000 in
set_option maxHeartbeats 8000000 in
theorem read1_any (l : List It) (h2k : l.length ≤ 2000) (bl c bL bA bN : Nat) (TL TA TN : TypeId) : ∀ (n : Nat), ReadAt l bl c bL bA bN TL TA TN n := by
  intro n
  induction n using Nat.strongRecOn with
  | _ n ih =>
    intro p hp W hn hd0 hd1 hB
    have eg : ∀ args w, (callFunc 77 args).run Tryd.prog w = .ok (.enter 77 args) w := enters_of Tryd.func77 (by kernel_rfl) rfl
    obtain ⟨x0, hxe⟩ : ∃ x0, l[p] = x0 := ⟨_, rfl⟩
    rw [hxe] at hd0 hd1 ⊢
    have hx0 := hB.2.2.2.1.five p hp
    simp only [Nat.zero_mul, Nat.zero_add] at hx0
    rw [hxe] at hx0
    obtain ⟨k0, k1, k2, k3, k4⟩ := hx0
    have cL : W.cell? ⟨bL, 0, none⟩ = some (.slice (some ⟨bl, 0, none⟩) l.length c) := by rw [blk_cell hB.1]; rfl
    have cA : W.cell? ⟨bA, 0, none⟩ = some (.int .i64 p) := by rw [blk_cell hB.2.1]; rfl
    have fA := blk_frozen hB.2.1 0
    have lL := (Array.getElem?_eq_some_iff.1 hB.1).1
    have lA := (Array.getElem?_eq_some_iff.1 hB.2.1).1
    have lN := (Array.getElem?_eq_some_iff.1 hB.2.2.1).1
    have lb := hB.2.2.2.2.1
    have hpl : (p : Int) < (l.length : Int) := by omega
    have w1 : IntKind.i64.wrap ((p : Int) + 1) = (p : Int) + 1 := IntWalk.i64_in _ (by omega)
    have HB := Lib.hid (And.intro hB ih)
    clear hB ih hxe
    go_enter Tryd.func77, Tryd.ntmps77
    go_wp2
    go_step3
    go_wp2
    have hset := HB.out.1.set (p + 1)
    have hW3 : ∀ o0 o1 o2, Below W.heap.size (W.setCell ⟨bA, 0, none⟩ (.int .i64 ((p + 1 : Nat) : Int))) ((((W.setCell ⟨bA, 0, none⟩ (.int .i64 ((p + 1 : Nat) : Int))).alloc o0).alloc o1).alloc o2) := fun o0 o1 o2 =>
      ((((Below.refl _ _).alloc (by rw [size_set]; exact Nat.le_refl _) o0).alloc (by rw [size_alloc, size_set]; omega) o1).alloc (by rw [size_alloc, size_alloc, size_set]; omega) o2)
    have hN3 : ∀ o0 o1 o2 (w0 : World), w0 = ((((W.setCell ⟨bA, 0, none⟩ (.int .i64 ((p + 1 : Nat) : Int))).alloc o0).alloc o1).alloc o2) → w0.heap[W.heap.size]? = some o0 ∧ w0.heap[W.heap.size + 1]? = some o1 ∧ w0.heap[W.heap.size + 2]? = some o2 ∧ w0.heap.size = W.heap.size + 3 ∧
        RB l bl c bL bA bN TL TA TN w0 (p + 1) ∧ Below W.heap.size (W.setCell ⟨bA, 0, none⟩ (.int .i64 ((p + 1 : Nat) : Int))) w0 := fun o0 o1 o2 w0 e => by
      subst e
      refine ⟨?_, ?_, ?_, by rw [size_alloc, size_alloc, size_alloc, size_set], hset.later (by rw [size_set]; exact hW3 o0 o1 o2), hW3 o0 o1 o2⟩
      · rw [block_old (by rw [size_alloc, size_alloc, size_set]; omega), block_old (by rw [size_alloc, size_set]; omega)]
        have := block_new (W.setCell ⟨bA, 0, none⟩ (.int .i64 ((p + 1 : Nat) : Int))) o0
        rwa [size_set] at this
      · rw [block_old (by rw [size_alloc, size_alloc, size_set]; omega)]
        have := block_new ((W.setCell ⟨bA, 0, none⟩ (.int .i64 ((p + 1 : Nat) : Int))).alloc o0) o1
        rwa [size_alloc, size_set] at this
      · have := block_new (((W.setCell ⟨bA, 0, none⟩ (.int .i64 ((p + 1 : Nat) : Int))).alloc o0).alloc o1) o2
        rwa [size_alloc, size_alloc, size_set] at this
    rw [show ((p : Int) + 1) = ((p + 1 : Nat) : Int) from rfl]
    have HN3 := Lib.hid hN3
    clear hN3 hW3 hset w1 k0 k1 k2 k3 k4 cL cA fA
    go_step3
    go_wp2
    obtain ⟨w0, hw0⟩ : ∃ w0, w0 = ((((W.setCell ⟨bA, 0, none⟩ (.int .i64 ((p + 1 : Nat) : Int))).alloc (.cells #[.int .i64 0, .int .i64 0, .string ⟨#[]⟩, .slice none 0 0, .slice none 0 0] 27)).alloc
        (.cells #[.int .i64 x0.d, .int .i64 x0.kind, .int .i64 x0.int, .string x0.key, .string x0.text] 55)).alloc (.cells #[.int .i64 x0.kind, .int .i64 x0.int, .string x0.text, .slice none 0 0, .slice none 0 0] 27)) := ⟨_, rfl⟩
    rw [← hw0]
    have H0 := Lib.hid (HN3.out _ _ _ w0 hw0)
    clear HN3 hw0
    go_loopg [] l.length (fun gg wr => ∃ (m : V) (P N : Nat) (r t : Sl) (xss zss : List (List Value)), P ≤ l.length ∧ l.length - P ≤ N ∧ N ≤ n ∧ l.length - P ≤ gg ∧
      Hid (wr.heap[W.heap.size + 1 + 1]? = some (.cells #[.int .i64 m.kind, .int .i64 m.int, .string m.text, .slice r.a r.n r.c, .slice t.a t.n t.c] 27 (0, 0)) ∧ wr.heap[W.heap.size]? = some (.cells #[.int .i64 0, .int .i64 0, .string ⟨#[]⟩, .slice none 0 0, .slice none 0 0] 27 (0, 0)) ∧
        wr.heap[W.heap.size + 1]? = some (.cells #[.int .i64 x0.d, .int .i64 x0.kind, .int .i64 x0.int, .string x0.key, .string x0.text] 55 (0, 0)) ∧ MV (W.heap.size + 3) wr m r t xss zss ∧ RB l bl c bL bA bN TL TA TN wr P ∧ Below W.heap.size (W.setCell ⟨bA, 0, none⟩ (.int .i64 P)) wr ∧
        loopR l N P x0.d m = loopR l n (p + 1) x0.d (leafV x0) ∧ m.kind = x0.kind ∧ m.list.length ≤ P ∧ m.fields.length ≤ P ∧ p < P))
    case atStart => exact ⟨leafV x0, p + 1, n, ⟨none, 0, 0⟩, ⟨none, 0, 0⟩, [], [], by omega, hn, Nat.le_refl _, by omega, H0.out.2.2.1, H0.out.1, H0.out.2.1, MV.leaf _ _ _, H0.out.2.2.2.2.1, H0.out.2.2.2.2.2, rfl, rfl, Nat.zero_le _, Nat.zero_le _, Nat.lt_succ_self _⟩
    case round =>
      obtain ⟨m, P, N, r, t, xss, zss, hPl, hN, hNn, hgg, H⟩ := hrel
      have e2 := H.out.1
      have l2 := (Array.getElem?_eq_some_iff.1 e2).1
      have hR := H.out.2.2.2.2.1
      have c0 : wr.cell? ⟨W.heap.size + 1 + 1, 0, none⟩ = some (.int .i64 m.kind) := by rw [blk_cell e2]; rfl
      have c1 : wr.cell? ⟨W.heap.size + 1 + 1, 1, none⟩ = some (.int .i64 m.int) := by rw [blk_cell e2]; rfl
      have c2 : wr.cell? ⟨W.heap.size + 1 + 1, 2, none⟩ = some (.string m.text) := by rw [blk_cell e2]; rfl
      have c3 : wr.cell? ⟨W.heap.size + 1 + 1, 3, none⟩ = some (.slice r.a r.n r.c) := by rw [blk_cell e2]; rfl
      have c4 : wr.cell? ⟨W.heap.size + 1 + 1, 4, none⟩ = some (.slice t.a t.n t.c) := by rw [blk_cell e2]; rfl
      have d0 : wr.cell? ⟨W.heap.size + 1, 0, none⟩ = some (.int .i64 x0.d) := by rw [blk_cell H.out.2.2.1]; rfl
      have z0 : wr.cell? ⟨W.heap.size, 0, none⟩ = some (.int .i64 0) := by rw [blk_cell H.out.2.1]; rfl
      have z1 : wr.cell? ⟨W.heap.size, 1, none⟩ = some (.int .i64 0) := by rw [blk_cell H.out.2.1]; rfl
      have z2 : wr.cell? ⟨W.heap.size, 2, none⟩ = some (.string ⟨#[]⟩) := by rw [blk_cell H.out.2.1]; rfl
      have z3 : wr.cell? ⟨W.heap.size, 3, none⟩ = some (.slice none 0 0) := by rw [blk_cell H.out.2.1]; rfl
      have z4 : wr.cell? ⟨W.heap.size, 4, none⟩ = some (.slice none 0 0) := by rw [blk_cell H.out.2.1]; rfl
      have f0 := blk_frozen H.out.2.1 0
      have f1 := blk_frozen H.out.2.1 1
      have f2 := blk_frozen H.out.2.1 2
      have f3 := blk_frozen H.out.2.1 3
      have f4 := blk_frozen H.out.2.1 4
      have cL : wr.cell? ⟨bL, 0, none⟩ = some (.slice (some ⟨bl, 0, none⟩) l.length c) := by rw [blk_cell hR.1]; rfl
      have cA : wr.cell? ⟨bA, 0, none⟩ = some (.int .i64 P) := by rw [blk_cell hR.2.1]; rfl
      have cN : wr.cell? ⟨bN, 0, none⟩ = some (.func (.func 77) #[] #[.pointer (some ⟨bL, 0, none⟩), .pointer (some ⟨bA, 0, none⟩), .pointer (some ⟨bN, 0, none⟩)]) := by rw [blk_cell hR.2.2.1]; rfl
      have w1 : IntKind.i64.wrap (x0.d + 1) = x0.d + 1 := IntWalk.i64_in _ (by omega)
      clear e2
      by_cases hlt : P < l.length
      · have hltz : (P : Int) < (l.length : Int) := by omega
        have hltb : decide ((P : Int) < (l.length : Int)) = true := decide_eq_true hltz
        have hfv := hR.2.2.2.1.five P hlt
        have lb2 := hR.2.2.2.2.1
        simp only [Nat.zero_mul, Nat.zero_add] at hfv
        obtain ⟨it, hite⟩ : ∃ it, l[P] = it := ⟨_, rfl⟩
        rw [hite] at hfv
        obtain ⟨i0, _, _, i3, _⟩ := hfv
        by_cases hd : it.d = x0.d + 1
        · have hdb : (it.d == x0.d + 1) = true := by simp [hd]
          have hR2 := Lib.hid hR
          have Hite := Lib.hid hite
          have Hd := Lib.hid hd
          clear hR hite hd
          go_wp2_with fail
          go_quiet (fail)
          by_cases h5 : m.kind = 5
          · have h5b : (m.kind == 5) = true := by simp [h5]
            have h5m := Lib.hid h5
            clear h5
            obtain ⟨i0', hi0, hz0, hz1, hz2⟩ := info_of info_F
            obtain ⟨N, rfl⟩ : ∃ N', N = N' + 1 := ⟨N - 1, by omega⟩
            have hpP := H.out.2.2.2.2.2.2.2.2.2.2
            have hitd : l[P].d = x0.d + 1 := by rw [Hite.out]; exact Hd.out
            have hcall := fun (W1 : World) (hW1 : RB l bl c bL bA bN TL TA TN W1 P) => HB.out.2 N (by omega) P hlt W1 (by omega) (by rw [hitd]; omega) (by rw [hitd]; omega) hW1
            have hstep : loopR l (N + 1) P x0.d m = loopR l N (loopR l N (P + 1) l[P].d (leafV l[P])).2 x0.d (addF m l[P].key (loopR l N (P + 1) l[P].d (leafV l[P])).1) := by rw [hitd]; exact loopR_map hlt hitd h5m.out
            have hle := loopR_le l N (P + 1) l[P].d (leafV l[P])
            have htp := loopR_top l N (P + 1) l[P].d (leafV l[P]) hlt
            generalize loopR l N (P + 1) l[P].d (leafV l[P]) = xP at hcall hstep hle htp
            obtain ⟨x, P'⟩ := xP
            simp only at hcall hstep hle htp
            rw [Hite.out] at hstep
            have lA4 : bA < wr.heap.size := (Array.getElem?_eq_some_iff.1 hR2.out.2.1).1
            have hq : RB l bl c bL bA bN TL TA TN ((wr.drewN nq).drew) P := hR2.out
            have hcall1 := hcall _ hq
            have Hs := Lib.hid (And.intro hstep hcall)
            clear hstep hcall hitd hq
            go_upto_region 7 with fail
            go_region_law (first
              | (go_loud (refine step_append_lies _ (by rfl) (.tmp 45) (.tmp 50) 25 (by rfl) (W.heap.size + 3) 31 i0' zeroF 6 96 Tryd.underlying25 hi0 hz0 hz1 hz2 rfl (by decide) (.slice t.a t.n t.c) m.fields.length zss.flatten (by rfl) (hownA _) ⟨w4.heap.size, 0, none⟩ 1 1 [.string it.key, .int .i64 x.kind, .int .i64 x.int, .string x.text, .slice px.a px.n px.c, .slice qx.a qx.n qx.c] (by rfl) (by rfl) (World.news_of_block (cs := #[.string it.key, .int .i64 x.kind, .int .i64 x.int, .string x.text, .slice px.a px.n px.c, .slice qx.a qx.n qx.c]) (t := 31) (fr := (0, 0)) (block_new w4 _)) (by simp [Value.oneCell']) (by decide) (by unfold maxLen; have := H.out.2.2.2.2.2.2.2.2.1; have := H.out.2.2.2.2.2.2.2.2.2.1; omega) (by have := H.out.2.2.2.2.2.2.2.2.1; have := H.out.2.2.2.2.2.2.2.2.2.1; omega) (by simp; omega) (w4.heap.size + 1) (by simp) ?_); intro g' cap' w6 hown6 hgrow6 hat6 hlt6; have m6 := (hgrow6.block (W.heap.size + 1 + 1) (by simp; omega) (fun e => by have := H.out.2.2.2.1.2.1.2.2.2 _ e.symm; omega)).trans ((block_old (by omega)).trans H4.out.2.2); have v4 : w6.cell? ⟨W.heap.size + 1 + 1, 4, none⟩ = some (.slice t.a t.n t.c) := (by rw [blk_cell m6]; rfl); have fr4 := blk_frozen m6 4; have H6 := Lib.hid (And.intro hown6 (And.intro hgrow6 (And.intro hat6 m6))); clear hown6 hgrow6 hat6 m6)
              | (go_simp; go_wp2_with (go_at_call 77; refine hcall1.mono ?_; rintro e w4 ⟨px, qx, rfl, hvx, hb4⟩; have hkeep : ∀ k, k < wr.heap.size → k ≠ bA → w4.heap[k]? = wr.heap[k]? := (fun k hk hne => (hb4.block k hk).trans (blk_far hne)); have l4 : wr.heap.size ≤ w4.heap.size := (by have := hb4.size; rw [size_set] at this; exact this); have l5 : W.heap.size + 1 + 1 < w4.heap.size := Nat.lt_of_lt_of_le l2 l4; have m4 := (hkeep _ l2 (by omega)).trans H.out.1; have t4 : w4.cell? ⟨W.heap.size + 1 + 1, 4, none⟩ = some (.slice t.a t.n t.c) := (by rw [blk_cell m4]; rfl); have hownA := fun o => (own_base (B := W.heap.size + 3) ((H.out.2.2.2.1.2.1.map (fun k hk hl => ⟨hk, hkeep k hl (by omega)⟩)).2.2.1) (H.out.2.2.2.1.2.1.2.2.2)).alloc o; have H4 := Lib.hid (And.intro hvx (And.intro hb4 m4)); have Hk := Lib.hid hkeep; clear hvx hb4 m4 hkeep)))
            all_goals
              go_wp2_with fail
              go_roundg (l.length - P')
              case measure => omega
              case rel =>
                have hWd : ((wr.drewN nq).drew.setCell ⟨bA, 0, none⟩ (.int .i64 P')).heap.size = wr.heap.size := size_set _ _ _
                have hb4 : Below wr.heap.size ((wr.drewN nq).drew.setCell ⟨bA, 0, none⟩ (.int .i64 P')) w4 := H4.out.2.1
                have hb5 : Below wr.heap.size ((wr.drewN nq).drew.setCell ⟨bA, 0, none⟩ (.int .i64 P')) (w4.alloc (.cells #[.string it.key, .int .i64 x.kind, .int .i64 x.int, .string x.text, .slice px.a px.n px.c, .slice qx.a qx.n qx.c] 31)) := hb4.alloc l4 _
                have hx5 : HV (fun g => wr.heap.size ≤ g ∧ g < (w4.alloc (.cells #[.string it.key, .int .i64 x.kind, .int .i64 x.int, .string x.text, .slice px.a px.n px.c, .slice qx.a qx.n qx.c] 31)).heap.size) (w4.alloc (.cells #[.string it.key, .int .i64 x.kind, .int .i64 x.int, .string x.text, .slice px.a px.n px.c, .slice qx.a qx.n qx.c] 31)) x px qx := H4.out.1.map (fun j hj hl => ⟨⟨hj, by rw [size_alloc]; omega⟩, block_old hl⟩)
                have hmv0 : MV (W.heap.size + 3) ((wr.drewN nq).drew.setCell ⟨bA, 0, none⟩ (.int .i64 P')) m r t xss zss := H.out.2.2.2.1.map (fun j hj hl => blk_far (show j ≠ bA by omega))
                have hrb : ∀ j, (⟨t.a, t.n, t.c⟩ : Sl).val.ownBlock = some j → W.heap.size + 3 ≤ j := H.out.2.2.2.1.2.1.2.2.2
                have hmv := hmv0.field (w7 := w6.setCell ⟨W.heap.size + 1 + 1, 4, none⟩ (.slice (some ⟨g', 0, none⟩) (m.fields.length + 1) cap')) (q' := ⟨some ⟨g', 0, none⟩, m.fields.length + 1, cap'⟩) (ky := it.key) (by rw [hWd]; omega) (by rw [hWd]; exact hb5) (by rw [hWd]; exact hx5) H6.out.1 H6.out.2.1 (H6.out.2.2.1.elim (fun e => .inl e.symm) (fun e => .inr (by rw [size_alloc, ← e]; rfl))) (fun j hj => blk_far (show j ≠ W.heap.size + 1 + 1 by omega))
                have hbq : Below W.heap.size (W.setCell ⟨bA, 0, none⟩ (.int .i64 P)) ((wr.drewN nq).drew) := ⟨H.out.2.2.2.2.2.1.os, H.out.2.2.2.2.2.1.tape, H.out.2.2.2.2.2.1.output, H.out.2.2.2.2.2.1.size, H.out.2.2.2.2.2.1.block⟩
                have hw4 := below_on HB.out.1.2.1 hbq H4.out.2.1
                have hfr := ((hw4.alloc (by omega) (.cells #[.string it.key, .int .i64 x.kind, .int .i64 x.int, .string x.text, .slice px.a px.n px.c, .slice qx.a qx.n qx.c] 31)).grown H6.out.2.1 (by rw [size_alloc]; omega) (fun j e => by have := hrb j e; omega)).setCell (p := ⟨W.heap.size + 1 + 1, 4, none⟩) (by show W.heap.size ≤ W.heap.size + 1 + 1; omega) (.slice (some ⟨g', 0, none⟩) (m.fields.length + 1) cap')
                have hlow : ∀ j, j < W.heap.size + 2 → j ≠ bA → (w6.setCell ⟨W.heap.size + 1 + 1, 4, none⟩ (.slice (some ⟨g', 0, none⟩) (m.fields.length + 1) cap')).heap[j]? = wr.heap[j]? := fun j hj hne =>
                  (blk_far (show j ≠ W.heap.size + 1 + 1 by omega)).trans ((H6.out.2.1.block j (by rw [size_alloc]; omega) (fun e => by have := hrb j e.symm; omega)).trans ((block_old (by omega)).trans (Hk.out j (by omega) hne)))
                exact ⟨addF m it.key x, P', N, r, ⟨some ⟨g', 0, none⟩, m.fields.length + 1, cap'⟩, _, _, htp, by omega, by omega, by omega, blk_set H6.out.2.2.2 4 _, (hlow _ (by omega) (by omega)).trans H.out.2.1, (hlow _ (by omega) (by omega)).trans H.out.2.2.1, hmv, (HB.out.1.set P').later (by rw [size_set]; exact hfr), hfr, Hs.out.1.symm.trans H.out.2.2.2.2.2.2.1, H.out.2.2.2.2.2.2.2.1, (by show m.list.length ≤ _; have := H.out.2.2.2.2.2.2.2.2.1; omega), (by show (m.fields ++ [(it.key, x)]).length ≤ _; rw [List.length_append, List.length_singleton]; have := H.out.2.2.2.2.2.2.2.2.2.1; omega), by omega⟩
          · have h5b : (m.kind == 5) = false := by simp [h5]
            have h5m := Lib.hid h5
            clear h5
            by_cases h4 : m.kind = 4
            · have h4b : (m.kind == 4) = true := by simp [h4]
              have h4m := Lib.hid h4
              clear h4
              cases hke : it.key.toList.isEmpty with
              | true =>
                obtain ⟨i0', hi0, hz0, hz1, hz2⟩ := info_of info_V
                obtain ⟨N, rfl⟩ : ∃ N', N = N' + 1 := ⟨N - 1, by omega⟩
                have hpP := H.out.2.2.2.2.2.2.2.2.2.2
                have hitd : l[P].d = x0.d + 1 := by rw [Hite.out]; exact Hd.out
                have hcall := fun (W1 : World) (hW1 : RB l bl c bL bA bN TL TA TN W1 P) => HB.out.2 N (by omega) P hlt W1 (by omega) (by rw [hitd]; omega) (by rw [hitd]; omega) hW1
                have hstep : loopR l (N + 1) P x0.d m = loopR l N (loopR l N (P + 1) l[P].d (leafV l[P])).2 x0.d (addL m (loopR l N (P + 1) l[P].d (leafV l[P])).1) := by rw [hitd]; exact loopR_list hlt hitd h4m.out (by rw [Hite.out]; exact hke)
                have hle := loopR_le l N (P + 1) l[P].d (leafV l[P])
                have htp := loopR_top l N (P + 1) l[P].d (leafV l[P]) hlt
                generalize loopR l N (P + 1) l[P].d (leafV l[P]) = xP at hcall hstep hle htp
                obtain ⟨x, P'⟩ := xP
                simp only at hcall hstep hle htp

                have lA4 : bA < wr.heap.size := (Array.getElem?_eq_some_iff.1 hR2.out.2.1).1
                have hq : RB l bl c bL bA bN TL TA TN ((wr.drewN nq).drew) P := hR2.out
                have hcall1 := hcall _ hq
                have Hs := Lib.hid (And.intro hstep hcall)
                clear hstep hcall hitd hq
                go_upto_region 9 with fail
                go_region_law (first
                  | (go_loud (refine step_append_lies _ (by rfl) (.tmp 62) (.tmp 65) 24 (by rfl) (W.heap.size + 3) 27 i0' zeroV 5 80 Tryd.underlying24 hi0 hz0 hz1 hz2 rfl (by decide) (.slice r.a r.n r.c) m.list.length xss.flatten (by rfl) (hownA _) ⟨w4.heap.size, 0, none⟩ 1 1 [.int .i64 x.kind, .int .i64 x.int, .string x.text, .slice px.a px.n px.c, .slice qx.a qx.n qx.c] (by rfl) (by rfl) (World.news_of_block (cs := #[.int .i64 x.kind, .int .i64 x.int, .string x.text, .slice px.a px.n px.c, .slice qx.a qx.n qx.c]) (t := 27) (fr := (0, 0)) (block_new w4 _)) (by simp [Value.oneCell']) (by decide) (by unfold maxLen; have := H.out.2.2.2.2.2.2.2.2.1; have := H.out.2.2.2.2.2.2.2.2.2.1; omega) (by have := H.out.2.2.2.2.2.2.2.2.1; have := H.out.2.2.2.2.2.2.2.2.2.1; omega) (by simp; omega) (w4.heap.size + 1) (by simp) ?_); intro g' cap' w6 hown6 hgrow6 hat6 hlt6; have m6 := (hgrow6.block (W.heap.size + 1 + 1) (by simp; omega) (fun e => by have := H.out.2.2.2.1.1.2.2.2 _ e.symm; omega)).trans ((block_old (by omega)).trans H4.out.2.2); have v4 : w6.cell? ⟨W.heap.size + 1 + 1, 3, none⟩ = some (.slice r.a r.n r.c) := (by rw [blk_cell m6]; rfl); have fr4 := blk_frozen m6 3; have H6 := Lib.hid (And.intro hown6 (And.intro hgrow6 (And.intro hat6 m6))); clear hown6 hgrow6 hat6 m6)
                  | (go_simp; go_wp2_with (go_at_call 77; refine hcall1.mono ?_; rintro e w4 ⟨px, qx, rfl, hvx, hb4⟩; have hkeep : ∀ k, k < wr.heap.size → k ≠ bA → w4.heap[k]? = wr.heap[k]? := (fun k hk hne => (hb4.block k hk).trans (blk_far hne)); have l4 : wr.heap.size ≤ w4.heap.size := (by have := hb4.size; rw [size_set] at this; exact this); have l5 : W.heap.size + 1 + 1 < w4.heap.size := Nat.lt_of_lt_of_le l2 l4; have m4 := (hkeep _ l2 (by omega)).trans H.out.1; have t4 : w4.cell? ⟨W.heap.size + 1 + 1, 3, none⟩ = some (.slice r.a r.n r.c) := (by rw [blk_cell m4]; rfl); have hownA := fun o => (own_base (B := W.heap.size + 3) ((H.out.2.2.2.1.1.map (fun k hk hl => ⟨hk, hkeep k hl (by omega)⟩)).2.2.1) (H.out.2.2.2.1.1.2.2.2)).alloc o; have H4 := Lib.hid (And.intro hvx (And.intro hb4 m4)); have Hk := Lib.hid hkeep; clear hvx hb4 m4 hkeep)))
                all_goals
                  go_wp2_with fail
                  go_roundg (l.length - P')
                  case measure => omega
                  case rel =>
                    have hWd : ((wr.drewN nq).drew.setCell ⟨bA, 0, none⟩ (.int .i64 P')).heap.size = wr.heap.size := size_set _ _ _
                    have hb4 : Below wr.heap.size ((wr.drewN nq).drew.setCell ⟨bA, 0, none⟩ (.int .i64 P')) w4 := H4.out.2.1
                    have hb5 : Below wr.heap.size ((wr.drewN nq).drew.setCell ⟨bA, 0, none⟩ (.int .i64 P')) (w4.alloc (.cells #[.int .i64 x.kind, .int .i64 x.int, .string x.text, .slice px.a px.n px.c, .slice qx.a qx.n qx.c] 27)) := hb4.alloc l4 _
                    have hx5 : HV (fun g => wr.heap.size ≤ g ∧ g < (w4.alloc (.cells #[.int .i64 x.kind, .int .i64 x.int, .string x.text, .slice px.a px.n px.c, .slice qx.a qx.n qx.c] 27)).heap.size) (w4.alloc (.cells #[.int .i64 x.kind, .int .i64 x.int, .string x.text, .slice px.a px.n px.c, .slice qx.a qx.n qx.c] 27)) x px qx := H4.out.1.map (fun j hj hl => ⟨⟨hj, by rw [size_alloc]; omega⟩, block_old hl⟩)
                    have hmv0 : MV (W.heap.size + 3) ((wr.drewN nq).drew.setCell ⟨bA, 0, none⟩ (.int .i64 P')) m r t xss zss := H.out.2.2.2.1.map (fun j hj hl => blk_far (show j ≠ bA by omega))
                    have hrb : ∀ j, (⟨r.a, r.n, r.c⟩ : Sl).val.ownBlock = some j → W.heap.size + 3 ≤ j := H.out.2.2.2.1.1.2.2.2
                    have hmv := hmv0.list (w7 := w6.setCell ⟨W.heap.size + 1 + 1, 3, none⟩ (.slice (some ⟨g', 0, none⟩) (m.list.length + 1) cap')) (p' := ⟨some ⟨g', 0, none⟩, m.list.length + 1, cap'⟩) (by rw [hWd]; omega) (by rw [hWd]; exact hb5) (by rw [hWd]; exact hx5) H6.out.1 H6.out.2.1 (H6.out.2.2.1.elim (fun e => .inl e.symm) (fun e => .inr (by rw [size_alloc, ← e]; rfl))) (fun j hj => blk_far (show j ≠ W.heap.size + 1 + 1 by omega))
                    have hbq : Below W.heap.size (W.setCell ⟨bA, 0, none⟩ (.int .i64 P)) ((wr.drewN nq).drew) := ⟨H.out.2.2.2.2.2.1.os, H.out.2.2.2.2.2.1.tape, H.out.2.2.2.2.2.1.output, H.out.2.2.2.2.2.1.size, H.out.2.2.2.2.2.1.block⟩
                    have hw4 := below_on HB.out.1.2.1 hbq H4.out.2.1
                    have hfr := ((hw4.alloc (by omega) (.cells #[.int .i64 x.kind, .int .i64 x.int, .string x.text, .slice px.a px.n px.c, .slice qx.a qx.n qx.c] 27)).grown H6.out.2.1 (by rw [size_alloc]; omega) (fun j e => by have := hrb j e; omega)).setCell (p := ⟨W.heap.size + 1 + 1, 3, none⟩) (by show W.heap.size ≤ W.heap.size + 1 + 1; omega) (.slice (some ⟨g', 0, none⟩) (m.list.length + 1) cap')
                    have hlow : ∀ j, j < W.heap.size + 2 → j ≠ bA → (w6.setCell ⟨W.heap.size + 1 + 1, 3, none⟩ (.slice (some ⟨g', 0, none⟩) (m.list.length + 1) cap')).heap[j]? = wr.heap[j]? := fun j hj hne =>
                      (blk_far (show j ≠ W.heap.size + 1 + 1 by omega)).trans ((H6.out.2.1.block j (by rw [size_alloc]; omega) (fun e => by have := hrb j e.symm; omega)).trans ((block_old (by omega)).trans (Hk.out j (by omega) hne)))
                    exact ⟨addL m x, P', N, ⟨some ⟨g', 0, none⟩, m.list.length + 1, cap'⟩, t, _, _, htp, by omega, by omega, by omega, blk_set H6.out.2.2.2 3 _, (hlow _ (by omega) (by omega)).trans H.out.2.1, (hlow _ (by omega) (by omega)).trans H.out.2.2.1, hmv, (HB.out.1.set P').later (by rw [size_set]; exact hfr), hfr, Hs.out.1.symm.trans H.out.2.2.2.2.2.2.1, H.out.2.2.2.2.2.2.2.1, (by show (m.list ++ [x]).length ≤ _; rw [List.length_append, List.length_singleton]; have := H.out.2.2.2.2.2.2.2.2.1; omega), (by show m.fields.length ≤ _; have := H.out.2.2.2.2.2.2.2.2.2.1; omega), by omega⟩
              | false =>
                have h4k := Lib.hid (show ¬ (m.kind = 4 ∧ l[P].key.toList.isEmpty = true) from fun h => by rw [Hite.out, hke] at h; cases h.2)
                have Ho := Lib.hid (show loopR l n (p + 1) x0.d (leafV x0) = (m, P) from by rw [← H.out.2.2.2.2.2.2.1]; exact loopR_off hlt h5m.out h4k.out _)


                go_wp2_with fail
                rw [Exit.noGoto_ret]
                refine bodyPost_ret (results_cell_row rfl _ _ W.heap.size 27 _ (0, 0) _ rfl (set5 _ _ _ _ _ (show (wr.drewN nq).heap[W.heap.size]? = _ from H.out.2.1)) Tryd.underlying27 rfl size_V) rfl ?_
                rw [Ho.out]
                have hbq : Below W.heap.size (W.setCell ⟨bA, 0, none⟩ (.int .i64 P)) (wr.drewN nq) := ⟨H.out.2.2.2.2.2.1.os, H.out.2.2.2.2.2.1.tape, H.out.2.2.2.2.2.1.output, H.out.2.2.2.2.2.1.size, H.out.2.2.2.2.2.1.block⟩
                exact ⟨r, t, rfl, (H.out.2.2.2.1.hv).map (fun k hk hl => ⟨by omega, (far5 (by omega)).trans rfl⟩), below5 hbq (Nat.le_refl _) _ _ _ _ _ _ _ _ _ _⟩
            · have h4b : (m.kind == 4) = false := by simp [h4]
              have h4k := Lib.hid (show ¬ (m.kind = 4 ∧ l[P].key.toList.isEmpty = true) from fun h => h4 h.1)
              clear h4
              have Ho := Lib.hid (show loopR l n (p + 1) x0.d (leafV x0) = (m, P) from by rw [← H.out.2.2.2.2.2.2.1]; exact loopR_off hlt h5m.out h4k.out _)


              go_wp2_with fail
              rw [Exit.noGoto_ret]
              refine bodyPost_ret (results_cell_row rfl _ _ W.heap.size 27 _ (0, 0) _ rfl (set5 _ _ _ _ _ (show (wr.drewN nq).heap[W.heap.size]? = _ from H.out.2.1)) Tryd.underlying27 rfl size_V) rfl ?_
              rw [Ho.out]
              have hbq : Below W.heap.size (W.setCell ⟨bA, 0, none⟩ (.int .i64 P)) (wr.drewN nq) := ⟨H.out.2.2.2.2.2.1.os, H.out.2.2.2.2.2.1.tape, H.out.2.2.2.2.2.1.output, H.out.2.2.2.2.2.1.size, H.out.2.2.2.2.2.1.block⟩
              exact ⟨r, t, rfl, (H.out.2.2.2.1.hv).map (fun k hk hl => ⟨by omega, (far5 (by omega)).trans rfl⟩), below5 hbq (Nat.le_refl _) _ _ _ _ _ _ _ _ _ _⟩
        · have hdb : (it.d == x0.d + 1) = false := by simp [hd]
          clear hR
          have Ho := Lib.hid (show loopR l n (p + 1) x0.d (leafV x0) = (m, P) from by rw [← H.out.2.2.2.2.2.2.1]; exact loopR_out (fun _ e => hd (by rw [← hite]; exact e)) _)
          go_wp2_with fail
          go_quiet (fail)
          go_wp2_with fail
          rw [Exit.noGoto_ret]
          refine bodyPost_ret (results_cell_row rfl _ _ W.heap.size 27 _ (0, 0) _ rfl (set5 _ _ _ _ _ (show (wr.drewN nq).heap[W.heap.size]? = _ from H.out.2.1)) Tryd.underlying27 rfl size_V) rfl ?_
          rw [Ho.out]
          have hbq : Below W.heap.size (W.setCell ⟨bA, 0, none⟩ (.int .i64 P)) (wr.drewN nq) := ⟨H.out.2.2.2.2.2.1.os, H.out.2.2.2.2.2.1.tape, H.out.2.2.2.2.2.1.output, H.out.2.2.2.2.2.1.size, H.out.2.2.2.2.2.1.block⟩
          exact ⟨r, t, rfl, (H.out.2.2.2.1.hv).map (fun k hk hl => ⟨by omega, (far5 (by omega)).trans rfl⟩), below5 hbq (Nat.le_refl _) _ _ _ _ _ _ _ _ _ _⟩
      · have hltz : ¬ (P : Int) < (l.length : Int) := by omega
        have hltb : decide ((P : Int) < (l.length : Int)) = false := decide_eq_false hltz
        clear hR
        have Ho := Lib.hid (show loopR l n (p + 1) x0.d (leafV x0) = (m, P) from by rw [← H.out.2.2.2.2.2.2.1]; exact loopR_out (fun h => absurd h hlt) _)
        go_wp2_with fail
        go_quiet (fail)
        go_wp2_with fail
        rw [Exit.noGoto_ret]
        refine bodyPost_ret (results_cell_row rfl _ _ W.heap.size 27 _ (0, 0) _ rfl (set5 _ _ _ _ _ (show (wr.drewN nq).heap[W.heap.size]? = _ from H.out.2.1)) Tryd.underlying27 rfl size_V) rfl ?_
        rw [Ho.out]
        have hbq : Below W.heap.size (W.setCell ⟨bA, 0, none⟩ (.int .i64 P)) (wr.drewN nq) := ⟨H.out.2.2.2.2.2.1.os, H.out.2.2.2.2.2.1.tape, H.out.2.2.2.2.2.1.output, H.out.2.2.2.2.2.1.size, H.out.2.2.2.2.2.1.block⟩
        exact ⟨r, t, rfl, (H.out.2.2.2.1.hv).map (fun k hk hl => ⟨by omega, (far5 (by omega)).trans rfl⟩), below5 hbq (Nat.le_refl _) _ _ _ _ _ _ _ _ _ _⟩
end Go.Proofs.YteocenjneoclbaaDoor.tre

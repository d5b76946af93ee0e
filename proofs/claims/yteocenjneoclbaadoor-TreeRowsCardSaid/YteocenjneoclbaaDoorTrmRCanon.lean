/- Layer 4: the document's own Canon. -/
import Derived.BigQuiet
import Derived.Deep.AppendLies
import Derived.Deep.QuietTactic
import Derived.Deep.RegionHeld3
import Derived.Deep.RegionLaw
import Derived.Laws.AppendOwnNone
import Derived.Test.YteocenjneoclbaaDoorTrmLess
import Derived.Test.YteocenjneoclbaaDoorTrmMade
import Derived.Test.YteocenjneoclbaaDoorTrmRMake
import Derived.Test.YteocenjneoclbaaDoorTrmSymG
namespace Go.Proofs.YteocenjneoclbaaDoor.tre
open Go.RowKit Go.Shelf

theorem news3 {W : World} {o0 o1 o2 : Obj} {w0 : World} (e : w0 = (((W.alloc o0).alloc o1).alloc o2)) : w0.heap[W.heap.size]? = some o0 ∧ w0.heap[W.heap.size + 1]? = some o1 ∧ w0.heap[W.heap.size + 1 + 1]? = some o2 ∧ Below W.heap.size W w0 ∧ w0.heap.size = W.heap.size + 3 := by
  subst e
  refine ⟨?_, ?_, ?_, ?_, by simp⟩
  · rw [block_old (by simp only [size_alloc]; omega), block_old (by simp only [size_alloc]; omega)]; exact block_new W o0
  · rw [block_old (by simp only [size_alloc]; omega)]; have := block_new (W.alloc o0) o1; rwa [size_alloc] at this
  · have := block_new ((W.alloc o0).alloc o1) o2; rwa [size_alloc, size_alloc] at this
  · exact ((((Below.refl _ _).alloc (Nat.le_refl _) o0).alloc (by simp only [size_alloc]; omega) o1).alloc (by simp only [size_alloc]; omega) o2)
theorem own_far {w w' : World} {B : Nat} {e : TypeId} {size : Nat} {v : Value} {n : Nat} {xs : List Value} (h : w.ownsRow B e size v n xs) (hk : ∀ g, v.ownBlock = some g → w'.heap[g]? = w.heap[g]?) : w'.ownsRow B e size v n xs := by
  refine ⟨h.1, ?_⟩
  rcases h.2 with h2 | ⟨g, cap, cur, hv, hb, hg, r⟩
  · exact .inl h2
  · exact .inr ⟨g, cap, cur, hv, hb, (hk g (by rw [hv]; rfl)).trans hg, r⟩
def RCanonAt (v : V) : Prop := okC v → ∀ (S : Nat → Prop) (W : World) (r t : Sl), (∀ g, S g → g < W.heap.size) → HV S W v r t →
  Calls Tryd.prog 13 #[.agg #[.int .i64 v.kind, .int .i64 v.int, .string v.text, .slice r.a r.n r.c, .slice t.a t.n t.c]] W fun e w' => ∃ p q : Sl,
    e = .returned (.agg #[.int .i64 v.kind, .int .i64 v.int, .string v.text, .slice p.a p.n p.c, .slice q.a q.n q.c]) ∧ HV (fun g => W.heap.size ≤ g) w' (canonV v) p q ∧ Below W.heap.size W w'
/-- The value so far: so many of its list, so many of its fields. -/
def soFar (v : V) (i j : Nat) : V := .mk v.kind v.int v.text ((v.list.take i).map canonV) (sortF ((v.fields.take j).map fun g => (g.1, canonV g.2)))

theorem so_len (v : V) (i j : Nat) : (soFar v i j).list.length ≤ i ∧ (soFar v i j).fields.length ≤ j := by
  unfold soFar V.list V.fields
  simp only [List.length_map, (sortF_perm _).length_eq]
  exact ⟨List.length_take_le _ _, List.length_take_le _ _⟩
set_option maxRecDepth 100000 in
set_option maxHeartbeats 8000000 in
theorem rCanon_any : ∀ v, RCanonAt v := V.ind fun v ihl ihf => by
  intro hok S W r t hS hh
  obtain ⟨ho1, ho2, ho3, ho4, ho5⟩ := (okC_eq v).1 hok
  obtain ⟨ra, rn, rc⟩ := r
  obtain ⟨ta, tn, tc⟩ := t
  have hrn : rn = v.list.length := hh.1.len
  have htn : tn = v.fields.length := hh.2.len
  subst hrn htn
  have Hb := Lib.hid (And.intro hS (And.intro hh (And.intro ihl (And.intro ihf (And.intro ho3 (And.intro ho4 ho5))))))
  clear hS hh ihl ihf ho3 ho4 ho5 hok
  go_enter Tryd.func13, Tryd.ntmps13
  go_wp2
  go_loopg [4] v.list.length (fun gg s4 wr => ∃ (i : Nat) (p : Sl) (xss : List (List Value)), i ≤ v.list.length ∧ v.list.length - i ≤ gg ∧ s4 = .int .i64 i ∧
      Hid (wr.heap[W.heap.size]? = some (.cells #[.int .i64 v.kind, .int .i64 v.int, .string v.text, .slice ra v.list.length rc, .slice ta v.fields.length tc] 27 (0, 0)) ∧ wr.heap[W.heap.size + 1]? = some (.cells #[.int .i64 0, .int .i64 0, .string ⟨#[]⟩, .slice none 0 0, .slice none 0 0] 27 (0, 0)) ∧ wr.heap[W.heap.size + 1 + 1]? = some (.cells #[.int .i64 v.kind, .int .i64 v.int, .string v.text, .slice p.a p.n p.c, .slice none 0 0] 27 (0, 0)) ∧
        MV (W.heap.size + 3) wr (soFar v i 0) p ⟨none, 0, 0⟩ xss [] ∧ Below W.heap.size W wr))
  case atStart =>
    have h0 := news3 (W := W) (o0 := .cells #[.int .i64 v.kind, .int .i64 v.int, .string v.text, .slice ra v.list.length rc, .slice ta v.fields.length tc] 27) (o1 := .cells #[.int .i64 0, .int .i64 0, .string ⟨#[]⟩, .slice none 0 0, .slice none 0 0] 27) (o2 := .cells #[.int .i64 v.kind, .int .i64 v.int, .string v.text, .slice none 0 0, .slice none 0 0] 27) rfl
    exact ⟨0, ⟨none, 0, 0⟩, [], Nat.zero_le _, by omega, rfl, h0.1, h0.2.1, h0.2.2.1, MV.leaf _ _ ⟨0, v.kind, v.int, ⟨#[]⟩, v.text⟩, h0.2.2.2.1⟩
  case round =>
    obtain ⟨i, p, xss, hil, hgg, rfl, H⟩ := hrel
    have l0 := (Array.getElem?_eq_some_iff.1 H.out.1).1
    have l1 := (Array.getElem?_eq_some_iff.1 H.out.2.1).1
    have l2 := (Array.getElem?_eq_some_iff.1 H.out.2.2.1).1
    have k0 : wr.cell? ⟨W.heap.size, 0, none⟩ = some (.int .i64 v.kind) := by rw [blk_cell H.out.1]; rfl
    have k1 : wr.cell? ⟨W.heap.size, 1, none⟩ = some (.int .i64 v.int) := by rw [blk_cell H.out.1]; rfl
    have k2 : wr.cell? ⟨W.heap.size, 2, none⟩ = some (.string v.text) := by rw [blk_cell H.out.1]; rfl
    have k3 : wr.cell? ⟨W.heap.size, 3, none⟩ = some (.slice ra v.list.length rc) := by rw [blk_cell H.out.1]; rfl
    have k4 : wr.cell? ⟨W.heap.size, 4, none⟩ = some (.slice ta v.fields.length tc) := by rw [blk_cell H.out.1]; rfl
    have o0 : wr.cell? ⟨W.heap.size + 1 + 1, 0, none⟩ = some (.int .i64 v.kind) := by rw [blk_cell H.out.2.2.1]; rfl
    have fo0 := blk_frozen H.out.2.2.1 0
    have o1 : wr.cell? ⟨W.heap.size + 1 + 1, 1, none⟩ = some (.int .i64 v.int) := by rw [blk_cell H.out.2.2.1]; rfl
    have fo1 := blk_frozen H.out.2.2.1 1
    have o2 : wr.cell? ⟨W.heap.size + 1 + 1, 2, none⟩ = some (.string v.text) := by rw [blk_cell H.out.2.2.1]; rfl
    have fo2 := blk_frozen H.out.2.2.1 2
    have o3 : wr.cell? ⟨W.heap.size + 1 + 1, 3, none⟩ = some (.slice p.a p.n p.c) := by rw [blk_cell H.out.2.2.1]; rfl
    have fo3 := blk_frozen H.out.2.2.1 3
    have o4 : wr.cell? ⟨W.heap.size + 1 + 1, 4, none⟩ = some (.slice none 0 0) := by rw [blk_cell H.out.2.2.1]; rfl
    have fo4 := blk_frozen H.out.2.2.1 4
    by_cases hlt : i < v.list.length
    · have hltz : (i : Int) < (v.list.length : Int) := by omega
      have hBW := H.out.2.2.2.2
      obtain ⟨g1, r', t', hra, hg1, hSg, hc, hhx⟩ := (Hb.out.2.1.later hBW).1.at hlt
      simp only at hra
      subst hra
      have hin := List.getElem_mem hlt
      have hsn : addL (soFar v i 0) (canonV v.list[i]) = soFar v (i + 1) 0 := by
        unfold soFar addL
        rw [List.take_succ_eq_append_getElem hlt, List.map_append]; rfl
      generalize v.list[i] = x at hc hhx hin hsn
      have hcx : (canonV x).kind = x.kind ∧ (canonV x).int = x.int ∧ (canonV x).text = x.text := by rw [canonV_eq]; exact ⟨rfl, rfl, rfl⟩
      have x0 := hc 0 _ rfl
      have x1 := hc 1 _ rfl
      have x2 := hc 2 _ rfl
      have x3 := hc 3 _ rfl
      have x4 := hc 4 _ rfl
      simp only [Nat.add_zero] at x0
      have hcall := Hb.out.2.2.1 x hin (Hb.out.2.2.2.2.2.1 x hin) S wr.drew r' t' (fun g hg => Nat.lt_of_lt_of_le (Hb.out.1 g hg) hBW.size) hhx
      have Hs := Lib.hid (And.intro hsn (And.intro hcx hBW))
      obtain ⟨i0', hi0, hz0, hz1, hz2⟩ := info_of info_V
      clear hc hhx hin hsn hcx hBW
      go_wp2_with fail
      go_region_law (first
        | (refine step_append_lies _ (by rfl) (.tmp 20) (.tmp 27) 24 (by rfl) (W.heap.size + 3) 27 i0' zeroV 5 80 Tryd.underlying24 hi0 hz0 hz1 hz2 rfl (by decide) (.slice p.a p.n p.c) (soFar v i 0).list.length xss.flatten (by rfl) (hownA _) ⟨w4.heap.size, 0, none⟩ 1 1 [.int .i64 x.kind, .int .i64 x.int, .string x.text, .slice px.a px.n px.c, .slice qx.a qx.n qx.c] (by rfl) (by rfl) (World.news_of_block (cs := #[.int .i64 x.kind, .int .i64 x.int, .string x.text, .slice px.a px.n px.c, .slice qx.a qx.n qx.c]) (t := 27) (fr := (0, 0)) (block_new w4 _)) (by simp [Value.oneCell']) (by decide) (by unfold maxLen; have := so_len v i 0; omega) (by have := so_len v i 0; omega) (by simp; omega) (w4.heap.size + 1) (by simp) ?_; intro g' cap' w6 hown6 hgrow6 hat6 hlt6; have m6 := (hgrow6.block (W.heap.size + 1 + 1) (by simp; omega) (fun e => by have := H.out.2.2.2.1.1.2.2.2 _ e.symm; omega)).trans ((block_old (by omega)).trans H4.out.2.2); have v3 : w6.cell? ⟨W.heap.size + 1 + 1, 3, none⟩ = some (.slice p.a p.n p.c) := (by rw [blk_cell m6]; rfl); have fr3 := blk_frozen m6 3; have H6 := Lib.hid (And.intro hown6 (And.intro hgrow6 (And.intro hat6 m6))); clear hown6 hgrow6 hat6 m6)
        | (go_simp; go_wp2_with (go_at_call 13; refine hcall.mono ?_; rintro e w4 ⟨px, qx, rfl, hvx, hb4⟩; have l4 : wr.heap.size ≤ w4.heap.size := hb4.size; have l5 : W.heap.size + 1 + 1 < w4.heap.size := Nat.lt_of_lt_of_le l2 l4; have m4 : w4.heap[W.heap.size + 1 + 1]? = _ := (hb4.block _ l2).trans H.out.2.2.1; have o43 : w4.cell? ⟨W.heap.size + 1 + 1, 3, none⟩ = some (.slice p.a p.n p.c) := (by rw [blk_cell m4]; rfl); have hownA := fun o => (own_base (B := W.heap.size + 3) ((H.out.2.2.2.1.1.map (fun k hk hl => ⟨hk, hb4.block k hl⟩)).2.2.1) (H.out.2.2.2.1.1.2.2.2)).alloc o; have H4 := Lib.hid (And.intro hvx (And.intro hb4 m4)); clear hvx hb4 m4)))
      all_goals
        go_wp2_with fail
        go_roundg (v.list.length - (i + 1))
        case measure => omega
        case rel =>
          have hb4 : Below wr.heap.size wr w4 := ⟨H4.out.2.1.os, H4.out.2.1.tape, H4.out.2.1.output, H4.out.2.1.size, H4.out.2.1.block⟩
          have hb5 := hb4.alloc l4 (.cells #[.int .i64 x.kind, .int .i64 x.int, .string x.text, .slice px.a px.n px.c, .slice qx.a qx.n qx.c] 27)
          have hx5 : HV (fun g => wr.heap.size ≤ g ∧ g < (w4.alloc (.cells #[.int .i64 x.kind, .int .i64 x.int, .string x.text, .slice px.a px.n px.c, .slice qx.a qx.n qx.c] 27)).heap.size) (w4.alloc (.cells #[.int .i64 x.kind, .int .i64 x.int, .string x.text, .slice px.a px.n px.c, .slice qx.a qx.n qx.c] 27)) (canonV x) px qx := H4.out.1.map (fun j hj hl => ⟨⟨hj, by rw [size_alloc]; omega⟩, block_old hl⟩)
          have hcs : cellsV (canonV x) px qx = [.int .i64 x.kind, .int .i64 x.int, .string x.text, .slice px.a px.n px.c, .slice qx.a qx.n qx.c] := by
            unfold cellsV; rw [Hs.out.2.1.1, Hs.out.2.1.2.1, Hs.out.2.1.2.2]
          have hmv := H.out.2.2.2.1.list (w7 := w6.setCell ⟨W.heap.size + 1 + 1, 3, none⟩ (.slice (some ⟨g', 0, none⟩) ((soFar v i 0).list.length + 1) cap')) (p' := ⟨some ⟨g', 0, none⟩, (soFar v i 0).list.length + 1, cap'⟩) (by omega) hb5 hx5 (by rw [hcs]; exact H6.out.1) H6.out.2.1 (H6.out.2.2.1.elim (fun e => .inl e.symm) (fun e => .inr (by rw [size_alloc, ← e]; rfl))) (fun j hj => blk_far (show j ≠ W.heap.size + 1 + 1 by omega))
          rw [Hs.out.1] at hmv
          have hfr := ((Hs.out.2.2.trans (hb5.mono Hs.out.2.2.size)).grown H6.out.2.1 (by rw [size_alloc]; have := Hs.out.2.2.size; omega) (fun j e => by have := H.out.2.2.2.1.1.2.2.2 j e; omega)).setCell (p := ⟨W.heap.size + 1 + 1, 3, none⟩) (show W.heap.size ≤ W.heap.size + 1 + 1 by omega) (.slice (some ⟨g', 0, none⟩) ((soFar v i 0).list.length + 1) cap')
          have hlow : ∀ j, j < W.heap.size + 1 + 1 → (w6.setCell ⟨W.heap.size + 1 + 1, 3, none⟩ (.slice (some ⟨g', 0, none⟩) ((soFar v i 0).list.length + 1) cap')).heap[j]? = wr.heap[j]? := fun j hj =>
            (blk_far (show j ≠ W.heap.size + 1 + 1 by omega)).trans ((H6.out.2.1.block j (by rw [size_alloc]; omega) (fun e => by have := H.out.2.2.2.1.1.2.2.2 j e.symm; omega)).trans ((block_old (by omega)).trans (hb4.block j (by omega))))
          exact ⟨i + 1, ⟨some ⟨g', 0, none⟩, (soFar v i 0).list.length + 1, cap'⟩, _, by omega, by omega, by go_num, (hlow _ (by omega)).trans H.out.1, (hlow _ (by omega)).trans H.out.2.1, blk_set H6.out.2.2.2 3 _, hmv, hfr⟩
    · obtain rfl : i = v.list.length := by omega
      go_wp2_with fail
      have hp := H.out.2.2.2.1
      clear k0 k1 k2 k3 k4 o0 o1 o2 o3 o4 fo0 fo1 fo2 fo3 fo4 l0 l1 l2
      obtain ⟨wo, rfl⟩ : ∃ w', w' = wr := ⟨wr, rfl⟩
      go_loopg [5, 6, 7, 8] v.fields.length (fun gg s5 _ _ _ wr => ∃ (j : Nat) (q : Sl) (zss : List (List Value)), j ≤ v.fields.length ∧ v.fields.length - j ≤ gg ∧ s5 = .int .i64 j ∧
          Hid (wr.heap[W.heap.size]? = some (.cells #[.int .i64 v.kind, .int .i64 v.int, .string v.text, .slice ra v.list.length rc, .slice ta v.fields.length tc] 27 (0, 0)) ∧ wr.heap[W.heap.size + 1]? = some (.cells #[.int .i64 0, .int .i64 0, .string ⟨#[]⟩, .slice none 0 0, .slice none 0 0] 27 (0, 0)) ∧ wr.heap[W.heap.size + 1 + 1]? = some (.cells #[.int .i64 v.kind, .int .i64 v.int, .string v.text, .slice p.a p.n p.c, .slice q.a q.n q.c] 27 (0, 0)) ∧
            MV (W.heap.size + 3) wr (soFar v v.list.length j) p q xss zss ∧ Below W.heap.size W wr))
      case atStart => exact ⟨0, ⟨none, 0, 0⟩, [], Nat.zero_le _, by omega, rfl, H.out⟩
      case round =>
        obtain ⟨j, q, zss, hjl, hjg, rfl, HJ⟩ := hrel
        have l0 := (Array.getElem?_eq_some_iff.1 HJ.out.1).1
        have l1 := (Array.getElem?_eq_some_iff.1 HJ.out.2.1).1
        have l2 := (Array.getElem?_eq_some_iff.1 HJ.out.2.2.1).1
        have k0 : wr.cell? ⟨W.heap.size, 0, none⟩ = some (.int .i64 v.kind) := by rw [blk_cell HJ.out.1]; rfl
        have k1 : wr.cell? ⟨W.heap.size, 1, none⟩ = some (.int .i64 v.int) := by rw [blk_cell HJ.out.1]; rfl
        have k2 : wr.cell? ⟨W.heap.size, 2, none⟩ = some (.string v.text) := by rw [blk_cell HJ.out.1]; rfl
        have k3 : wr.cell? ⟨W.heap.size, 3, none⟩ = some (.slice ra v.list.length rc) := by rw [blk_cell HJ.out.1]; rfl
        have k4 : wr.cell? ⟨W.heap.size, 4, none⟩ = some (.slice ta v.fields.length tc) := by rw [blk_cell HJ.out.1]; rfl
        have o0 : wr.cell? ⟨W.heap.size + 1 + 1, 0, none⟩ = some (.int .i64 v.kind) := by rw [blk_cell HJ.out.2.2.1]; rfl
        have o1 : wr.cell? ⟨W.heap.size + 1 + 1, 1, none⟩ = some (.int .i64 v.int) := by rw [blk_cell HJ.out.2.2.1]; rfl
        have o2 : wr.cell? ⟨W.heap.size + 1 + 1, 2, none⟩ = some (.string v.text) := by rw [blk_cell HJ.out.2.2.1]; rfl
        have o3 : wr.cell? ⟨W.heap.size + 1 + 1, 3, none⟩ = some (.slice p.a p.n p.c) := by rw [blk_cell HJ.out.2.2.1]; rfl
        have o4 : wr.cell? ⟨W.heap.size + 1 + 1, 4, none⟩ = some (.slice q.a q.n q.c) := by rw [blk_cell HJ.out.2.2.1]; rfl
        have z0 : wr.cell? ⟨W.heap.size + 1, 0, none⟩ = some (.int .i64 0) := by rw [blk_cell HJ.out.2.1]; rfl
        have fz0 := blk_frozen HJ.out.2.1 0
        have z1 : wr.cell? ⟨W.heap.size + 1, 1, none⟩ = some (.int .i64 0) := by rw [blk_cell HJ.out.2.1]; rfl
        have fz1 := blk_frozen HJ.out.2.1 1
        have z2 : wr.cell? ⟨W.heap.size + 1, 2, none⟩ = some (.string ⟨#[]⟩) := by rw [blk_cell HJ.out.2.1]; rfl
        have fz2 := blk_frozen HJ.out.2.1 2
        have z3 : wr.cell? ⟨W.heap.size + 1, 3, none⟩ = some (.slice none 0 0) := by rw [blk_cell HJ.out.2.1]; rfl
        have fz3 := blk_frozen HJ.out.2.1 3
        have z4 : wr.cell? ⟨W.heap.size + 1, 4, none⟩ = some (.slice none 0 0) := by rw [blk_cell HJ.out.2.1]; rfl
        have fz4 := blk_frozen HJ.out.2.1 4
        by_cases hlt : j < v.fields.length
        · have hltz : (j : Int) < (v.fields.length : Int) := by omega
          have hBW := HJ.out.2.2.2.2
          obtain ⟨g2, r', t', hta, hg2, hSg, hc, hhx⟩ := (Hb.out.2.1.later hBW).2.at hlt
          simp only at hta
          subst hta
          have hin := List.getElem_mem hlt
          have htk := List.take_succ_eq_append_getElem hlt
          generalize v.fields[j] = f at hc hhx hin htk
          have hcx : (canonV f.2).kind = f.2.kind ∧ (canonV f.2).int = f.2.int ∧ (canonV f.2).text = f.2.text := by rw [canonV_eq]; exact ⟨rfl, rfl, rfl⟩
          have c0 := k4
          have c1 := hc 0 _ rfl
          have c2 := hc 1 _ rfl
          have c3 := hc 2 _ rfl
          have c4 := hc 3 _ rfl
          have c5 := hc 4 _ rfl
          have c6 := hc 5 _ rfl
          simp only [Nat.add_zero] at c1
          have hcall := fun W1 (hb : Below wr.heap.size wr W1) => Hb.out.2.2.2.1 f hin (Hb.out.2.2.2.2.2.2 f hin) S W1 r' t' (fun g hg => Nat.lt_of_lt_of_le (Hb.out.1 g hg) (hBW.trans (hb.mono hBW.size)).size) (hhx.later hb)
          have Hs := Lib.hid (And.intro htk (And.intro hcx hBW))
          clear hc hhx hin htk hcx hBW k4
          have n0 := World.new_ne wr _ c0
          have n1 := World.new_ne wr _ c1
          have n2 := World.new_ne wr _ c2
          have n3 := World.new_ne wr _ c3
          have n4 := World.new_ne wr _ c4
          have n5 := World.new_ne wr _ c5
          have n6 := World.new_ne wr _ c6
          go_upto_region 11 with fail
          go_cut [6] from 37 to 50 (fun s6 wc => ∃ (fb : Nat) (px qx : Sl), s6 = .pointer (some ⟨fb, 0, none⟩) ∧ Hid (wr.heap.size ≤ fb ∧ wc.heap[fb]? = some (.cells #[.string f.1, .int .i64 f.2.kind, .int .i64 f.2.int, .string f.2.text, .slice px.a px.n px.c, .slice qx.a qx.n qx.c] 31 (0, 0)) ∧ HV (fun g => wr.heap.size ≤ g) wc (canonV f.2) px qx ∧ Below wr.heap.size wr wc))
          case first =>
            go_region_held3 (fun w' => w'.cell? ⟨W.heap.size, 4, none⟩ = some (.slice (some ⟨g2, 0, none⟩) v.fields.length tc) ∧ w'.cell? ⟨g2, j * 6, none⟩ = some (.string f.1) ∧ w'.cell? ⟨g2, j * 6 + 1, none⟩ = some (.int .i64 f.2.kind) ∧ w'.cell? ⟨g2, j * 6 + 2, none⟩ = some (.int .i64 f.2.int) ∧ w'.cell? ⟨g2, j * 6 + 3, none⟩ = some (.string f.2.text) ∧ w'.cell? ⟨g2, j * 6 + 4, none⟩ = some (.slice r'.a r'.n r'.c) ∧ w'.cell? ⟨g2, j * 6 + 5, none⟩ = some (.slice t'.a t'.n t'.c))
              (first | go_keep)
              (first
                | (go_at_call 13; refine (hcall _ (((Below.refl _ _).alloc (Nat.le_refl _) _).drew)).mono ?_; rintro e w4 ⟨px, qx, rfl, hvx, hb4⟩; have hb0 := ((Below.refl wr.heap.size wr).alloc (Nat.le_refl _) (.cells #[.string ⟨#[]⟩, .int .i64 0, .int .i64 0, .string ⟨#[]⟩, .slice none 0 0, .slice none 0 0] 31)).drew.trans (hb4.mono (by simp only [World.drew, size_alloc]; omega)); have e4 : w4.heap[wr.heap.size]? = some (.cells #[.string ⟨#[]⟩, .int .i64 0, .int .i64 0, .string ⟨#[]⟩, .slice none 0 0, .slice none 0 0] 31 (0, 0)) := (hb4.block _ (by simp only [World.drew, size_alloc]; omega)).trans (block_new wr _); have e40 : w4.cell? ⟨wr.heap.size, 0, none⟩ = some (.string ⟨#[]⟩) := (by rw [blk_cell e4]; rfl); have fe40 := blk_frozen e4 0; have e41 : w4.cell? ⟨wr.heap.size, 1, none⟩ = some (.int .i64 0) := (by rw [blk_cell e4]; rfl); have fe41 := blk_frozen e4 1; have e42 : w4.cell? ⟨wr.heap.size, 2, none⟩ = some (.int .i64 0) := (by rw [blk_cell e4]; rfl); have fe42 := blk_frozen e4 2; have e43 : w4.cell? ⟨wr.heap.size, 3, none⟩ = some (.string ⟨#[]⟩) := (by rw [blk_cell e4]; rfl); have fe43 := blk_frozen e4 3; have e44 : w4.cell? ⟨wr.heap.size, 4, none⟩ = some (.slice none 0 0) := (by rw [blk_cell e4]; rfl); have fe44 := blk_frozen e4 4; have e45 : w4.cell? ⟨wr.heap.size, 5, none⟩ = some (.slice none 0 0) := (by rw [blk_cell e4]; rfl); have fe45 := blk_frozen e4 5; have s0 : w4.cell? ⟨W.heap.size, 4, none⟩ = some (.slice (some ⟨g2, 0, none⟩) v.fields.length tc) := (hb0.cell (p := ⟨W.heap.size, 4, none⟩) (by show W.heap.size < _; omega)).trans c0; have s1 : w4.cell? ⟨g2, j * 6, none⟩ = some (.string f.1) := (hb0.cell (p := ⟨g2, j * 6, none⟩) (by show g2 < _; omega)).trans c1; have s2 : w4.cell? ⟨g2, j * 6 + 1, none⟩ = some (.int .i64 f.2.kind) := (hb0.cell (p := ⟨g2, j * 6 + 1, none⟩) (by show g2 < _; omega)).trans c2; have s3 : w4.cell? ⟨g2, j * 6 + 2, none⟩ = some (.int .i64 f.2.int) := (hb0.cell (p := ⟨g2, j * 6 + 2, none⟩) (by show g2 < _; omega)).trans c3; have s4 : w4.cell? ⟨g2, j * 6 + 3, none⟩ = some (.string f.2.text) := (hb0.cell (p := ⟨g2, j * 6 + 3, none⟩) (by show g2 < _; omega)).trans c4; have s5 : w4.cell? ⟨g2, j * 6 + 4, none⟩ = some (.slice r'.a r'.n r'.c) := (hb0.cell (p := ⟨g2, j * 6 + 4, none⟩) (by show g2 < _; omega)).trans c5; have s6 : w4.cell? ⟨g2, j * 6 + 5, none⟩ = some (.slice t'.a t'.n t'.c) := (hb0.cell (p := ⟨g2, j * 6 + 5, none⟩) (by show g2 < _; omega)).trans c6; have H4 := Lib.hid (And.intro hvx (And.intro hb0 e4)); clear hvx hb0 hb4 e4)
                | (go_at_call 13; refine (hcall _ ((Below.refl _ _).drew)).mono ?_; rintro e w4 ⟨px, qx, rfl, hvx, hb4⟩; have hb0 : Below wr.heap.size wr w4 := (Below.refl wr.heap.size wr).drew.trans hb4; have s0 : w4.cell? ⟨W.heap.size, 4, none⟩ = some (.slice (some ⟨g2, 0, none⟩) v.fields.length tc) := (hb0.cell (p := ⟨W.heap.size, 4, none⟩) (by show W.heap.size < _; omega)).trans c0; have s1 : w4.cell? ⟨g2, j * 6, none⟩ = some (.string f.1) := (hb0.cell (p := ⟨g2, j * 6, none⟩) (by show g2 < _; omega)).trans c1; have s2 : w4.cell? ⟨g2, j * 6 + 1, none⟩ = some (.int .i64 f.2.kind) := (hb0.cell (p := ⟨g2, j * 6 + 1, none⟩) (by show g2 < _; omega)).trans c2; have s3 : w4.cell? ⟨g2, j * 6 + 2, none⟩ = some (.int .i64 f.2.int) := (hb0.cell (p := ⟨g2, j * 6 + 2, none⟩) (by show g2 < _; omega)).trans c3; have s4 : w4.cell? ⟨g2, j * 6 + 3, none⟩ = some (.string f.2.text) := (hb0.cell (p := ⟨g2, j * 6 + 3, none⟩) (by show g2 < _; omega)).trans c4; have s5 : w4.cell? ⟨g2, j * 6 + 4, none⟩ = some (.slice r'.a r'.n r'.c) := (hb0.cell (p := ⟨g2, j * 6 + 4, none⟩) (by show g2 < _; omega)).trans c5; have s6 : w4.cell? ⟨g2, j * 6 + 5, none⟩ = some (.slice t'.a t'.n t'.c) := (hb0.cell (p := ⟨g2, j * 6 + 5, none⟩) (by show g2 < _; omega)).trans c6; have m0 := World.new_ne w4 _ s0; have m1 := World.new_ne w4 _ s1; have m2 := World.new_ne w4 _ s2; have m3 := World.new_ne w4 _ s3; have m4 := World.new_ne w4 _ s4; have m5 := World.new_ne w4 _ s5; have m6 := World.new_ne w4 _ s6; have H4 := Lib.hid (And.intro hvx (And.intro hb0 trivial)); clear hvx hb0 hb4))
            all_goals (go_wp2_with fail; go_meet)
            · have e1 : wr.heap.size ≤ w4.heap.size := H4.out.2.1.size
              refine ⟨w4.heap.size, px, qx, rfl, e1, block_new w4 _, ?_, ?_⟩
              · exact H4.out.1.map (fun k hk hl => ⟨hk, block_old hl⟩)
              · exact H4.out.2.1.alloc e1 _
            · refine ⟨wr.heap.size, px, qx, rfl, Nat.le_refl _, set6 _ _ _ _ _ _ H4.out.2.2, ?_, ?_⟩
              · exact H4.out.1.map (fun k hk hl => ⟨by simp only [World.drew, size_alloc] at hk; omega, set6_far (by simp only [World.drew, size_alloc] at hk; omega)⟩)
              · exact below6 H4.out.2.1 (Nat.le_refl _) _ _ _ _ _ _ _ _ _ _ _ _
          case rest =>
            obtain ⟨fb, px, qx, rfl, HF⟩ := hcut
            clear hcall n0 n1 n2 n3 n4 n5 n6 c0 c1 c2 c3 c4 c5 c6 k0 k1 k2 k3 o0 o1 o2 o3 o4 z0 z1 z2 z3 z4 fz0 fz1 fz2 fz3 fz4
            have hsl := so_len v v.list.length j
            have HL := Lib.hid hsl
            clear hsl
            have hinc : Inc (soFar v v.list.length j).fields := sortF_inc _ (by
              rw [List.map_map, List.map_take]
              exact List.Nodup.sublist (List.take_sublist _ _) Hb.out.2.2.2.2.1)
            obtain ⟨zs, hzs⟩ : ∃ zs, (soFar v v.list.length j).fields = zs := ⟨_, rfl⟩
            have hlq : q.n = zs.length := by rw [← hzs]; exact HJ.out.2.2.2.1.2.1.form.1
            obtain ⟨qa, qn, qc⟩ := q
            simp only at hlq
            subst hlq
            have hz100 : zs.length ≤ 100000 := by rw [← hzs]; have := HL.out.2; omega
            have hnd1 : ((v.fields.take (j + 1)).map (·.1)).Nodup := by rw [List.map_take]; exact List.Nodup.sublist (List.take_sublist _ _) Hb.out.2.2.2.2.1
            have hfk : ∀ y ∈ zs, y.1 ≠ f.1 := fun y hy e => by
              rw [← hzs] at hy
              have hy2 := (sortF_perm _).mem_iff.1 hy
              obtain ⟨g, hg, rfl⟩ := List.mem_map.1 hy2
              rw [Hs.out.1, List.map_append, List.nodup_append] at hnd1
              exact hnd1.2.2 g.1 (List.mem_map_of_mem (f := (·.1)) hg) f.1 (by simp) e
            have hnd2 : (((v.fields.take j).map fun g => (g.1, canonV g.2)) ++ [(f.1, canonV f.2)]).map (·.1) = (v.fields.take (j + 1)).map (·.1) := by
              rw [Hs.out.1, List.map_append, List.map_append, List.map_map]; rfl
            have Hz := Lib.hid (And.intro hzs (And.intro hinc (And.intro hfk (And.intro hnd1 hnd2))))
            clear hzs hinc hfk hnd1 hnd2
            go_wp2_with fail
            obtain ⟨wj, rfl⟩ : ∃ w', w' = wr := ⟨wr, rfl⟩
            go_loopg [7] zs.length (fun g3 s7 wr => ∃ at0 : Nat, at0 ≤ zs.length ∧ zs.length - at0 ≤ g3 ∧ s7 = .int .i64 at0 ∧ Hid ((∀ i (h : i < zs.length), i < at0 → ltB zs[i].1 f.1) ∧ Below wc.heap.size wc wr))
            case atStart => exact ⟨0, Nat.zero_le _, by omega, rfl, fun _ _ h => by omega, Below.refl _ _⟩
            case round =>
              obtain ⟨at0, hat, hag, rfl, HA⟩ := hrel
              have hbw : Below wj.heap.size wj wr := HF.out.2.2.2.trans (HA.out.2.mono HF.out.2.2.2.size)
              have e2 := (hbw.block _ l2).trans HJ.out.2.2.1
              have ef := (HA.out.2.block fb (Array.getElem?_eq_some_iff.1 HF.out.2.1).1).trans HF.out.2.1
              have p4 : wr.cell? ⟨W.heap.size + 1 + 1, 4, none⟩ = some (.slice qa zs.length qc) := by rw [blk_cell e2]; rfl
              have p0 : wr.cell? ⟨fb, 0, none⟩ = some (.string f.1) := by rw [blk_cell ef]; rfl
              have hown := HJ.out.2.2.2.1.2.1.2.2.1
              rw [Hz.out.1] at hown
              have Hown := Lib.hid hown
              clear hown e2 ef
              by_cases hcn : ∃ h : at0 < zs.length, ltB zs[at0].1 f.1
              · obtain ⟨hlz, hltb⟩ := hcn
                have hlzz : (at0 : Int) < (zs.length : Int) := by omega
                have hlzb : decide ((at0 : Int) < (zs.length : Int)) = true := decide_eq_true hlzz
                have hzl : at0 < (soFar v v.list.length j).fields.length := by rw [Hz.out.1]; exact hlz
                obtain ⟨g3, _, _, hqa, hg3, -, hc3, -⟩ := HJ.out.2.2.2.1.hv.2.at hzl
                have hz0 : (soFar v v.list.length j).fields[at0] = zs[at0] := List.getElem_of_eq Hz.out.1 _
                rw [hz0] at hc3
                simp only at hqa
                subst hqa
                have hc30 := (hbw.cell (p := ⟨g3, at0 * 6, none⟩) (by exact hg3)).trans (hc3 0 _ rfl)
                have HP := Lib.hid (show ∀ i (h : i < zs.length), i < at0 + 1 → ltB zs[i].1 f.1 from fun i h hi => by
                  by_cases e : i = at0
                  · subst e; exact hltb
                  · exact HA.out.1 i h (by omega))
                generalize zs[at0] = z at hltb hc30
                have hbl : Op.bytesLess z.1.toList f.1.toList = true := (less_lt _ _).2 hltb
                have Hlz := Lib.hid hlz
                clear hc3 hz0 hzl
                go_wp2_with fail
                go_quiet (fail)
                go_wp2_with fail
                go_roundg (zs.length - (at0 + 1))
                case measure => have := Hlz.out; omega
                case rel => exact ⟨at0 + 1, by have := Hlz.out; omega, Nat.le_refl _, by go_num, HP.out, HA.out.2.os, HA.out.2.tape, HA.out.2.output, HA.out.2.size, HA.out.2.block⟩
              · have hge : ∀ y ∈ zs.drop at0, ltB f.1 y.1 := by
                  by_cases hl0 : at0 < zs.length
                  · have hinc := Hz.out.2.1
                    rw [Hz.out.1] at hinc
                    refine inc_drop hinc hl0 ((ltB_total ?_).resolve_right (fun h => hcn ⟨hl0, h⟩))
                    exact fun e => Hz.out.2.2.1 _ (List.getElem_mem hl0) e.symm
                  · intro y hy
                    rw [List.drop_eq_nil_of_le (by omega)] at hy
                    cases hy
                have hlt' : ∀ y ∈ zs.take at0, ltB y.1 f.1 := fun y hy => by
                  obtain ⟨i, hi, rfl⟩ := List.getElem_of_mem hy
                  rw [List.getElem_take]
                  exact HA.out.1 i _ (by rw [List.length_take] at hi; omega)
                have HG := Lib.hid (And.intro hge hlt')
                clear hge hlt'
                by_cases hlz : at0 < zs.length
                case' pos =>
                  have hlzz : (at0 : Int) < (zs.length : Int) := by omega
                  have hlzb : decide ((at0 : Int) < (zs.length : Int)) = true := decide_eq_true hlzz
                  have hzl : at0 < (soFar v v.list.length j).fields.length := by rw [Hz.out.1]; exact hlz
                  obtain ⟨g3, _, _, hqa, hg3, -, hc3, -⟩ := HJ.out.2.2.2.1.hv.2.at hzl
                  have hz0 : (soFar v v.list.length j).fields[at0] = zs[at0] := List.getElem_of_eq Hz.out.1 _
                  rw [hz0] at hc3
                  simp only at hqa
                  rw [hqa] at p4
                  clear hqa
                  have hc30 := (hbw.cell (p := ⟨g3, at0 * 6, none⟩) (by exact hg3)).trans (hc3 0 _ rfl)
                  have hgt : ltB f.1 zs[at0].1 := HG.out.1 _ (by rw [List.drop_eq_getElem_cons hlz]; exact List.mem_cons_self ..)
                  generalize zs[at0] = z at hc30 hgt
                  have hbl : Op.bytesLess z.1.toList f.1.toList = false := Bool.eq_false_iff.2 (fun h => ltB_asymm hgt ((less_lt _ _).1 h))
                  have hbe : (z.1.toList == f.1.toList) = false := beq_eq_false_iff_ne.2 (fun h => by
                    have := toList_inj h
                    rw [this] at hgt
                    exact ltB_irrefl _ hgt)
                  clear hc3 hz0 hzl hgt
                case' neg =>
                  have hlzz : ¬ (at0 : Int) < (zs.length : Int) := by omega
                  have hlzb : decide ((at0 : Int) < (zs.length : Int)) = false := decide_eq_false hlzz
                all_goals
                  go_wp2_with fail
                  go_quiet (fail)
                  obtain ⟨wq, hwq⟩ : ∃ w', w' = wr.drewN nq := ⟨_, rfl⟩
                  rw [← hwq]
                  have hqb : Below wc.heap.size wc wq := by rw [hwq]; exact ⟨HA.out.2.os, HA.out.2.tape, HA.out.2.output, HA.out.2.size, HA.out.2.block⟩
                  clear hwq p4 p0
                  try clear hc30 hbl hbe
                  have hbq : Below wj.heap.size wj wq := HF.out.2.2.2.trans (hqb.mono HF.out.2.2.2.size)
                  have e2 := (hbq.block _ l2).trans HJ.out.2.2.1
                  have ef := (hqb.block fb (Array.getElem?_eq_some_iff.1 HF.out.2.1).1).trans HF.out.2.1
                  have p4 : wq.cell? ⟨W.heap.size + 1 + 1, 4, none⟩ = some (.slice qa zs.length qc) := by rw [blk_cell e2]; rfl
                  have lq2 := (Array.getElem?_eq_some_iff.1 e2).1
                  have lqf := (Array.getElem?_eq_some_iff.1 ef).1
                  have hrw : RowC (fun g => W.heap.size + 3 ≤ g) wq 31 6 zs.length ⟨qa, zs.length, qc⟩ zss := by
                    have := HJ.out.2.2.2.1.2.1.map (S' := fun g => W.heap.size + 3 ≤ g) (w' := wq) (fun k hk hl => ⟨hk, hbq.block k hl⟩)
                    rw [Hz.out.1] at this
                    exact this
                  have hone : OneC zss := oneF (by rw [HJ.out.2.2.2.1.2.1.1]) HJ.out.2.2.2.1.2.2.2.2
                  have HQ := Lib.hid (And.intro hbq (And.intro e2 (And.intro ef (And.intro hrw (And.intro hone hqb)))))
                  clear hbq e2 ef hrw hone hqb
                  obtain ⟨i0', hi0, hz0, hz1, hz2⟩ := info_of info_F
                  rcases HQ.out.2.2.2.1.2.2.1.2 with ⟨hv0, hn0⟩ | ⟨g3, cap, cur, hv0, -, hg3, hnc, hcm, -⟩
                  · injection hv0 with hv1 hv2 hv3
                    subst hv1 hv3
                    have hn2 : zs.length = 0 := hn0
                    obtain rfl : at0 = 0 := by omega
                    (first | (exfalso; omega; done) | skip)
                    all_goals
                      go_wp2_with (first
                        | (at_builtin; (refine wpList_append_own_none rfl (.tmp 69) (.tmp 73) 25 rfl wq.heap.size 31 i0' 6 Tryd.underlying25 hi0 (.slice none 0 0) 0 [] (by rfl) (World.ownsRow_nil _ _ _ _) (by rfl) ?_); have e7f := HQ.out.2.2.1; have t0 : wq.cell? ⟨fb, 0, none⟩ = some (.string f.1) := (by rw [blk_cell e7f]; rfl); have t1 : wq.cell? ⟨fb, 1, none⟩ = some (.int .i64 f.2.kind) := (by rw [blk_cell e7f]; rfl); have t2 : wq.cell? ⟨fb, 2, none⟩ = some (.int .i64 f.2.int) := (by rw [blk_cell e7f]; rfl); have t3 : wq.cell? ⟨fb, 3, none⟩ = some (.string f.2.text) := (by rw [blk_cell e7f]; rfl); have t4 : wq.cell? ⟨fb, 4, none⟩ = some (.slice px.a px.n px.c) := (by rw [blk_cell e7f]; rfl); have t5 : wq.cell? ⟨fb, 5, none⟩ = some (.slice qx.a qx.n qx.c) := (by rw [blk_cell e7f]; rfl); have hs7 : wq.heap.size ≤ wq.heap.size := Nat.le_refl _; have hownB := fun o => (World.ownsRow_nil wq wq.heap.size 31 6).alloc o; clear e7f)
                        | (at_builtin; (refine wpList_append_own_at _ rfl (.tmp 75) (.tmp 77) 25 rfl wq.heap.size 31 i0' zeroF 6 96 Tryd.underlying25 hi0 hz0 hz1 hz2 rfl (by decide) (.slice none 0 0) 0 [] (by rfl) (hownB _) ⟨wq.heap.size, 0, none⟩ 1 1 [.string f.1, .int .i64 f.2.kind, .int .i64 f.2.int, .string f.2.text, .slice px.a px.n px.c, .slice qx.a qx.n qx.c] (by rfl) rfl (World.news_of_block (cs := #[.string f.1, .int .i64 f.2.kind, .int .i64 f.2.int, .string f.2.text, .slice px.a px.n px.c, .slice qx.a qx.n qx.c]) (t := 31) (fr := (0, 0)) (block_new wq _)) (by simp [Value.oneCell']) (by unfold maxLen; omega) (by omega) (by simp <;> omega) ?_); intro v8 w8 hown8 hgrow8 _ hat8; have hn8a : 0 + 1 = zs.length + 1 := (by omega); have hb8 : Below wq.heap.size wq w8 := ((Below.refl wq.heap.size wq).alloc hs7 _).grown hgrow8 (by simp <;> omega) (fun k e => (by cases e)); have e82 := (hb8.block _ lq2).trans HQ.out.2.1; have r8 : w8.cell? ⟨W.heap.size + 1 + 1, 4, none⟩ = some (.slice (none) zs.length 0) := (by rw [blk_cell e82]; rfl); have fr8 := blk_frozen e82 4; have l82 := (Array.getElem?_eq_some_iff.1 e82).1; have hs8 := hb8.size; rw [hn8a] at hown8; obtain ⟨g9, cap9, rfl, _, _⟩ := hown8.form (by omega); have H8 := Lib.hid (And.intro hown8 (And.intro hb8 e82)); clear hown8 hgrow8 hat8 hb8 e82)
                        | (at_builtin; (refine wpList_append_own_none rfl (.tmp 79) (.tmp 83) 25 rfl wq.heap.size 31 i0' 6 Tryd.underlying25 hi0 (.slice (some ⟨g9, 0, none⟩) (zs.length + 1) cap9) (zs.length + 1) ([] ++ [.string f.1, .int .i64 f.2.kind, .int .i64 f.2.int, .string f.2.text, .slice px.a px.n px.c, .slice qx.a qx.n qx.c]) (by rfl) H8.out.1 (by rfl) ?_)))
                      go_wp2_with fail
                      go_roundg (v.fields.length - (j + 1))
                      case measure => omega
                      case rel =>
                        have hput : putAt (soFar v v.list.length j) 0 f.1 (canonV f.2) = soFar v v.list.length (j + 1) := by
                          unfold putAt
                          rw [Hz.out.1, sort_snoc (l := (v.fields.take j).map fun g => (g.1, canonV g.2)) Hz.out.1.symm (by rw [Hz.out.2.2.2.2]; exact Hz.out.2.2.2.1) HG.out.2 HG.out.1]
                          unfold soFar
                          rw [Hs.out.1, List.map_append]; rfl
                        have hcs : cellsF (f.1, canonV f.2) px qx = [.string f.1, .int .i64 f.2.kind, .int .i64 f.2.int, .string f.2.text, .slice px.a px.n px.c, .slice qx.a qx.n qx.c] := by
                          simp only [cellsF, Hs.out.2.1.1, Hs.out.2.1.2.1, Hs.out.2.1.2.2]
                        have hzl : (soFar v v.list.length j).fields.length = zs.length := by rw [Hz.out.1]
                        have hx9 : HV (fun g => wj.heap.size ≤ g ∧ g < wq.heap.size) wq (canonV f.2) px qx := HF.out.2.2.1.map (fun k hk hl => ⟨⟨hk, Nat.lt_of_lt_of_le hl HQ.out.2.2.2.2.2.size⟩, HQ.out.2.2.2.2.2.block k hl⟩)
                        have hxs : ([] ++ [.string f.1, .int .i64 f.2.kind, .int .i64 f.2.int, .string f.2.text, .slice px.a px.n px.c, .slice qx.a qx.n qx.c]) = (zss.take 0).flatten ++ [.string f.1, .int .i64 f.2.kind, .int .i64 f.2.int, .string f.2.text, .slice px.a px.n px.c, .slice qx.a qx.n qx.c] ++ (zss.drop 0).flatten := (by rw [List.drop_eq_nil_of_le (by rw [HQ.out.2.2.2.1.1]; omega), List.flatten_nil, List.append_nil]; rfl)
                        have ho9 := own_far (w' := (w8.setCell ⟨W.heap.size + 1 + 1, 4, none⟩ (.slice (some ⟨g9, 0, none⟩) (zs.length + 1) cap9))) H8.out.1 (fun k e => blk_far (show k ≠ W.heap.size + 1 + 1 by have := (H8.out.1.lt k e).1; omega))
                        rw [hxs, ← hcs, ← hzl] at ho9
                        have hmv := HJ.out.2.2.2.1.insert (w5 := wq) (w6 := (w8.setCell ⟨W.heap.size + 1 + 1, 4, none⟩ (.slice (some ⟨g9, 0, none⟩) (zs.length + 1) cap9))) (n := 0) (ky := f.1) (q' := ⟨some ⟨g9, 0, none⟩, zs.length + 1, cap9⟩) (by omega) HQ.out.1 hx9 (by omega) (by rw [hzl] at ho9 ⊢; exact ho9) (fun k hk hl => (blk_far (show k ≠ W.heap.size + 1 + 1 by omega)).trans (H8.out.2.1.block k hl))
                        rw [hput] at hmv
                        have hbl9 : Below wj.heap.size wj w8 := HQ.out.1.trans (H8.out.2.1.mono HQ.out.1.size)
                        exact ⟨j + 1, ⟨some ⟨g9, 0, none⟩, zs.length + 1, cap9⟩, _, by omega, by omega, by go_num, (blk_far (show W.heap.size ≠ W.heap.size + 1 + 1 by omega)).trans ((hbl9.block _ l0).trans HJ.out.1), (blk_far (show W.heap.size + 1 ≠ W.heap.size + 1 + 1 by omega)).trans ((hbl9.block _ l1).trans HJ.out.2.1), blk_set H8.out.2.2 4 _, hmv, (HJ.out.2.2.2.2.trans (hbl9.mono (by omega))).setCell (p := ⟨W.heap.size + 1 + 1, 4, none⟩) (show W.heap.size ≤ W.heap.size + 1 + 1 by omega) (.slice (some ⟨g9, 0, none⟩) (zs.length + 1) cap9)⟩
                  · injection hv0 with hv1 hv2 hv3
                    subst hv1 hv3
                    have hnc2 : zs.length ≤ qc := hnc
                    have hcz : at0 ≤ qc := by omega
                    have hl1 : (zss.take at0).flatten.length = at0 * 6 := by
                      rw [flat_len (fun xs hx => HQ.out.2.2.2.1.2.1 xs (List.mem_of_mem_take hx)), List.length_take, HQ.out.2.2.2.1.1, Nat.min_eq_left hat]
                    have hl3 : (zss.drop at0).flatten.length = (zs.length - at0) * 6 := by
                      rw [flat_len (fun xs hx => HQ.out.2.2.2.1.2.1 xs (List.mem_of_mem_drop hx)), List.length_drop, HQ.out.2.2.2.1.1]
                    have hfl := flatten_take_drop zss at0
                    have hn1 : ∀ i u, (zss.take at0).flatten[i]? = some u → wq.cell? ((⟨g3, 0, none⟩ : Addr).add i) = some u := fun i u hu => HQ.out.2.2.2.1.2.2.1.cells (g := g3) rfl i u (by rw [← hfl, List.getElem?_append_left (List.getElem?_eq_some_iff.1 hu).1]; exact hu)
                    have hn3 : ∀ w9, Below wq.heap.size wq w9 → ∀ i u, (zss.drop at0).flatten[i]? = some u → w9.cell? ((⟨g3, at0 * 6, none⟩ : Addr).add i) = some u := fun w9 hb i u hu => by
                      have hx := HQ.out.2.2.2.1.2.2.1.cells (g := g3) rfl (at0 * 6 + i) u (by rw [← hfl, List.getElem?_append_right (by omega), hl1, Nat.add_sub_cancel_left]; exact hu)
                      rw [Addr.add_lit, Nat.zero_add] at hx
                      rw [Addr.add_lit]
                      exact (hb.cell (p := ⟨g3, at0 * 6 + i, none⟩) (by exact (Array.getElem?_eq_some_iff.1 hg3).1)).trans hx
                    have h11 : ∀ u ∈ (zss.take at0).flatten, u.oneCell' = true := fun u hu => HQ.out.2.2.2.2.1 u (by rw [← hfl]; exact List.mem_append_left _ hu)
                    have h13 : ∀ u ∈ (zss.drop at0).flatten, u.oneCell' = true := fun u hu => HQ.out.2.2.2.2.1 u (by rw [← hfl]; exact List.mem_append_right _ hu)
                    have HN := Lib.hid (And.intro hl1 (And.intro hl3 (And.intro hn1 (And.intro hn3 (And.intro h11 h13)))))
                    clear hl1 hl3 hn1 hn3 h11 h13 hfl
                    have lg3 := (Array.getElem?_eq_some_iff.1 hg3).1
                    clear hg3 hv2
                    by_cases hcap : at0 = qc
                    · subst hcap
                      obtain rfl : at0 = zs.length := by omega
                      (first | (exfalso; omega; done) | skip)
                      all_goals
                        go_wp2_with (first
                          | (at_builtin; (refine wpList_append_own_at _ rfl (.tmp 69) (.tmp 73) 25 rfl wq.heap.size 31 i0' zeroF 6 96 Tryd.underlying25 hi0 hz0 hz1 hz2 rfl (by decide) (.slice none 0 0) 0 [] (by rfl) (World.ownsRow_nil _ _ _ _) ⟨g3, 0, none⟩ zs.length zs.length (zss.take zs.length).flatten (by rfl) HN.out.1 HN.out.2.2.1 HN.out.2.2.2.2.1 (by unfold maxLen; omega) (by omega) (Nat.le_refl _) ?_); intro v7 w7 hown7 hgrow7 _ hat7; have hb7 : Below wq.heap.size wq w7 := (Below.refl _ _).grown hgrow7 (Nat.le_refl _) (fun k e => by cases e); have e72 := (hb7.block _ lq2).trans HQ.out.2.1; have e7f := (hb7.block _ lqf).trans HQ.out.2.2.1; have r4 : w7.cell? ⟨W.heap.size + 1 + 1, 4, none⟩ = some (.slice (some ⟨g3, 0, none⟩) zs.length zs.length) := (by rw [blk_cell e72]; rfl); have t0 : w7.cell? ⟨fb, 0, none⟩ = some (.string f.1) := (by rw [blk_cell e7f]; rfl); have t1 : w7.cell? ⟨fb, 1, none⟩ = some (.int .i64 f.2.kind) := (by rw [blk_cell e7f]; rfl); have t2 : w7.cell? ⟨fb, 2, none⟩ = some (.int .i64 f.2.int) := (by rw [blk_cell e7f]; rfl); have t3 : w7.cell? ⟨fb, 3, none⟩ = some (.string f.2.text) := (by rw [blk_cell e7f]; rfl); have t4 : w7.cell? ⟨fb, 4, none⟩ = some (.slice px.a px.n px.c) := (by rw [blk_cell e7f]; rfl); have t5 : w7.cell? ⟨fb, 5, none⟩ = some (.slice qx.a qx.n qx.c) := (by rw [blk_cell e7f]; rfl); have lf7 := (Array.getElem?_eq_some_iff.1 e7f).1; have l72 := (Array.getElem?_eq_some_iff.1 e72).1; have hs7 := hb7.size; have hownB := fun o => hown7.alloc o; have H7 := Lib.hid (And.intro hown7 (And.intro hb7 (And.intro e72 e7f))); clear hown7 hgrow7 hat7 hb7 e72 e7f)
                          | (at_builtin; (refine wpList_append_own_at _ rfl (.tmp 75) (.tmp 77) 25 rfl wq.heap.size 31 i0' zeroF 6 96 Tryd.underlying25 hi0 hz0 hz1 hz2 rfl (by decide) v7 (0 + zs.length) ([] ++ (zss.take zs.length).flatten) (by rfl) (hownB _) ⟨w7.heap.size, 0, none⟩ 1 1 [.string f.1, .int .i64 f.2.kind, .int .i64 f.2.int, .string f.2.text, .slice px.a px.n px.c, .slice qx.a qx.n qx.c] (by rfl) rfl (World.news_of_block (cs := #[.string f.1, .int .i64 f.2.kind, .int .i64 f.2.int, .string f.2.text, .slice px.a px.n px.c, .slice qx.a qx.n qx.c]) (t := 31) (fr := (0, 0)) (block_new w7 _)) (by simp [Value.oneCell']) (by unfold maxLen; omega) (by omega) (by simp <;> omega) ?_); intro v8 w8 hown8 hgrow8 _ hat8; have hb8 : Below wq.heap.size wq w8 := ((H7.out.2.1).alloc hs7 _).grown hgrow8 (by simp <;> omega) (fun k e => (H7.out.1.lt k e).1); have e82 := (hb8.block _ lq2).trans HQ.out.2.1; have r8 : w8.cell? ⟨W.heap.size + 1 + 1, 4, none⟩ = some (.slice (some ⟨g3, 0, none⟩) zs.length zs.length) := (by rw [blk_cell e82]; rfl); have fr8 := blk_frozen e82 4; have l82 := (Array.getElem?_eq_some_iff.1 e82).1; have hs8 := hb8.size; have H8 := Lib.hid (And.intro hown8 (And.intro hb8 e82)); clear hown8 hgrow8 hat8 hb8 e82)
                          | (at_builtin; (refine wpList_append_own_at _ rfl (.tmp 79) (.tmp 83) 25 rfl wq.heap.size 31 i0' zeroF 6 96 Tryd.underlying25 hi0 hz0 hz1 hz2 rfl (by decide) v8 ((0 + zs.length) + 1) (([] ++ (zss.take zs.length).flatten) ++ [.string f.1, .int .i64 f.2.kind, .int .i64 f.2.int, .string f.2.text, .slice px.a px.n px.c, .slice qx.a qx.n qx.c]) (by rfl) H8.out.1 ⟨g3, 0, none⟩ 0 0 [] (by rfl) (by rfl) (fun j u e => by simp at e) (fun u hu => by cases hu) (by unfold maxLen; omega) (by omega) hs8 ?_); intro v9 w9 hown9 hgrow9 _ hat9; have hn9a : ((0 + zs.length) + 1) + 0 = zs.length + 1 := (by omega); have hb9 : Below wq.heap.size wq w9 := H8.out.2.1.grown hgrow9 hs8 (fun k e => (H8.out.1.lt k e).1); rw [hn9a] at hown9; obtain ⟨g9, cap9, rfl, _, _⟩ := hown9.form (by omega); have e92 := (hb9.block _ lq2).trans HQ.out.2.1; have r9 : w9.cell? ⟨W.heap.size + 1 + 1, 4, none⟩ = some (.slice (some ⟨g3, 0, none⟩) zs.length zs.length) := (by rw [blk_cell e92]; rfl); have fr9 := blk_frozen e92 4; have H9 := Lib.hid (And.intro hown9 (And.intro hb9 e92)); clear hown9 hgrow9 hat9 hb9 e92))
                        go_wp2_with fail
                        go_roundg (v.fields.length - (j + 1))
                        case measure => omega
                        case rel =>
                          have hput : putAt (soFar v v.list.length j) zs.length f.1 (canonV f.2) = soFar v v.list.length (j + 1) := by
                            unfold putAt
                            rw [Hz.out.1, sort_snoc (l := (v.fields.take j).map fun g => (g.1, canonV g.2)) Hz.out.1.symm (by rw [Hz.out.2.2.2.2]; exact Hz.out.2.2.2.1) HG.out.2 HG.out.1]
                            unfold soFar
                            rw [Hs.out.1, List.map_append]; rfl
                          have hcs : cellsF (f.1, canonV f.2) px qx = [.string f.1, .int .i64 f.2.kind, .int .i64 f.2.int, .string f.2.text, .slice px.a px.n px.c, .slice qx.a qx.n qx.c] := by
                            simp only [cellsF, Hs.out.2.1.1, Hs.out.2.1.2.1, Hs.out.2.1.2.2]
                          have hzl : (soFar v v.list.length j).fields.length = zs.length := by rw [Hz.out.1]
                          have hx9 : HV (fun g => wj.heap.size ≤ g ∧ g < wq.heap.size) wq (canonV f.2) px qx := HF.out.2.2.1.map (fun k hk hl => ⟨⟨hk, Nat.lt_of_lt_of_le hl HQ.out.2.2.2.2.2.size⟩, HQ.out.2.2.2.2.2.block k hl⟩)
                          have hxs : (([] ++ (zss.take zs.length).flatten) ++ [.string f.1, .int .i64 f.2.kind, .int .i64 f.2.int, .string f.2.text, .slice px.a px.n px.c, .slice qx.a qx.n qx.c]) ++ [] = (zss.take zs.length).flatten ++ [.string f.1, .int .i64 f.2.kind, .int .i64 f.2.int, .string f.2.text, .slice px.a px.n px.c, .slice qx.a qx.n qx.c] ++ (zss.drop zs.length).flatten := (by rw [List.drop_eq_nil_of_le (by rw [HQ.out.2.2.2.1.1]; omega), List.flatten_nil]; simp only [List.nil_append, List.append_nil])
                          have ho9 := own_far (w' := (w9.setCell ⟨W.heap.size + 1 + 1, 4, none⟩ (.slice (some ⟨g9, 0, none⟩) (zs.length + 1) cap9))) H9.out.1 (fun k e => blk_far (show k ≠ W.heap.size + 1 + 1 by have := (H9.out.1.lt k e).1; omega))
                          rw [hxs, ← hcs, ← hzl] at ho9
                          have hmv := HJ.out.2.2.2.1.insert (w5 := wq) (w6 := (w9.setCell ⟨W.heap.size + 1 + 1, 4, none⟩ (.slice (some ⟨g9, 0, none⟩) (zs.length + 1) cap9))) (n := zs.length) (ky := f.1) (q' := ⟨some ⟨g9, 0, none⟩, zs.length + 1, cap9⟩) (by omega) HQ.out.1 hx9 (by omega) (by rw [hzl] at ho9 ⊢; exact ho9) (fun k hk hl => (blk_far (show k ≠ W.heap.size + 1 + 1 by omega)).trans (H9.out.2.1.block k hl))
                          rw [hput] at hmv
                          have hbl9 : Below wj.heap.size wj w9 := HQ.out.1.trans (H9.out.2.1.mono HQ.out.1.size)
                          exact ⟨j + 1, ⟨some ⟨g9, 0, none⟩, zs.length + 1, cap9⟩, _, by omega, by omega, by go_num, (blk_far (show W.heap.size ≠ W.heap.size + 1 + 1 by omega)).trans ((hbl9.block _ l0).trans HJ.out.1), (blk_far (show W.heap.size + 1 ≠ W.heap.size + 1 + 1 by omega)).trans ((hbl9.block _ l1).trans HJ.out.2.1), blk_set H9.out.2.2 4 _, hmv, (HJ.out.2.2.2.2.trans (hbl9.mono (by omega))).setCell (p := ⟨W.heap.size + 1 + 1, 4, none⟩) (show W.heap.size ≤ W.heap.size + 1 + 1 by omega) (.slice (some ⟨g9, 0, none⟩) (zs.length + 1) cap9)⟩
                    · have hcap2 : at0 < qc := by omega
                      go_wp2_with (first
                        | (at_builtin; (refine wpList_append_own_at _ rfl (.tmp 69) (.tmp 73) 25 rfl wq.heap.size 31 i0' zeroF 6 96 Tryd.underlying25 hi0 hz0 hz1 hz2 rfl (by decide) (.slice none 0 0) 0 [] (by rfl) (World.ownsRow_nil _ _ _ _) ⟨g3, 0, none⟩ at0 qc (zss.take at0).flatten (by rfl) HN.out.1 HN.out.2.2.1 HN.out.2.2.2.2.1 (by unfold maxLen; omega) (by omega) (Nat.le_refl _) ?_); intro v7 w7 hown7 hgrow7 _ hat7; have hb7 : Below wq.heap.size wq w7 := (Below.refl _ _).grown hgrow7 (Nat.le_refl _) (fun k e => by cases e); have e72 := (hb7.block _ lq2).trans HQ.out.2.1; have e7f := (hb7.block _ lqf).trans HQ.out.2.2.1; have r4 : w7.cell? ⟨W.heap.size + 1 + 1, 4, none⟩ = some (.slice (some ⟨g3, 0, none⟩) zs.length qc) := (by rw [blk_cell e72]; rfl); have t0 : w7.cell? ⟨fb, 0, none⟩ = some (.string f.1) := (by rw [blk_cell e7f]; rfl); have t1 : w7.cell? ⟨fb, 1, none⟩ = some (.int .i64 f.2.kind) := (by rw [blk_cell e7f]; rfl); have t2 : w7.cell? ⟨fb, 2, none⟩ = some (.int .i64 f.2.int) := (by rw [blk_cell e7f]; rfl); have t3 : w7.cell? ⟨fb, 3, none⟩ = some (.string f.2.text) := (by rw [blk_cell e7f]; rfl); have t4 : w7.cell? ⟨fb, 4, none⟩ = some (.slice px.a px.n px.c) := (by rw [blk_cell e7f]; rfl); have t5 : w7.cell? ⟨fb, 5, none⟩ = some (.slice qx.a qx.n qx.c) := (by rw [blk_cell e7f]; rfl); have lf7 := (Array.getElem?_eq_some_iff.1 e7f).1; have l72 := (Array.getElem?_eq_some_iff.1 e72).1; have hs7 := hb7.size; have hownB := fun o => hown7.alloc o; have H7 := Lib.hid (And.intro hown7 (And.intro hb7 (And.intro e72 e7f))); clear hown7 hgrow7 hat7 hb7 e72 e7f)
                        | (at_builtin; (refine wpList_append_own_at _ rfl (.tmp 75) (.tmp 77) 25 rfl wq.heap.size 31 i0' zeroF 6 96 Tryd.underlying25 hi0 hz0 hz1 hz2 rfl (by decide) v7 (0 + at0) ([] ++ (zss.take at0).flatten) (by rfl) (hownB _) ⟨w7.heap.size, 0, none⟩ 1 1 [.string f.1, .int .i64 f.2.kind, .int .i64 f.2.int, .string f.2.text, .slice px.a px.n px.c, .slice qx.a qx.n qx.c] (by rfl) rfl (World.news_of_block (cs := #[.string f.1, .int .i64 f.2.kind, .int .i64 f.2.int, .string f.2.text, .slice px.a px.n px.c, .slice qx.a qx.n qx.c]) (t := 31) (fr := (0, 0)) (block_new w7 _)) (by simp [Value.oneCell']) (by unfold maxLen; omega) (by omega) (by simp <;> omega) ?_); intro v8 w8 hown8 hgrow8 _ hat8; have hb8 : Below wq.heap.size wq w8 := ((H7.out.2.1).alloc hs7 _).grown hgrow8 (by simp <;> omega) (fun k e => (H7.out.1.lt k e).1); have e82 := (hb8.block _ lq2).trans HQ.out.2.1; have r8 : w8.cell? ⟨W.heap.size + 1 + 1, 4, none⟩ = some (.slice (some ⟨g3, 0, none⟩) zs.length qc) := (by rw [blk_cell e82]; rfl); have fr8 := blk_frozen e82 4; have l82 := (Array.getElem?_eq_some_iff.1 e82).1; have hs8 := hb8.size; have H8 := Lib.hid (And.intro hown8 (And.intro hb8 e82)); clear hown8 hgrow8 hat8 hb8 e82)
                        | (at_builtin; (refine wpList_append_own_at _ rfl (.tmp 79) (.tmp 83) 25 rfl wq.heap.size 31 i0' zeroF 6 96 Tryd.underlying25 hi0 hz0 hz1 hz2 rfl (by decide) v8 ((0 + at0) + 1) (([] ++ (zss.take at0).flatten) ++ [.string f.1, .int .i64 f.2.kind, .int .i64 f.2.int, .string f.2.text, .slice px.a px.n px.c, .slice qx.a qx.n qx.c]) (by rfl) H8.out.1 ⟨g3, at0 * 6, none⟩ (zs.length - at0) (qc - at0) (zss.drop at0).flatten (by rfl) HN.out.2.1 (HN.out.2.2.2.1 _ H8.out.2.1) HN.out.2.2.2.2.2 (by unfold maxLen; omega) (by omega) hs8 ?_); intro v9 w9 hown9 hgrow9 _ hat9; have hn9a : ((0 + at0) + 1) + (zs.length - at0) = zs.length + 1 := (by omega); have hb9 : Below wq.heap.size wq w9 := H8.out.2.1.grown hgrow9 hs8 (fun k e => (H8.out.1.lt k e).1); rw [hn9a] at hown9; obtain ⟨g9, cap9, rfl, _, _⟩ := hown9.form (by omega); have e92 := (hb9.block _ lq2).trans HQ.out.2.1; have r9 : w9.cell? ⟨W.heap.size + 1 + 1, 4, none⟩ = some (.slice (some ⟨g3, 0, none⟩) zs.length qc) := (by rw [blk_cell e92]; rfl); have fr9 := blk_frozen e92 4; have H9 := Lib.hid (And.intro hown9 (And.intro hb9 e92)); clear hown9 hgrow9 hat9 hb9 e92))
                      go_wp2_with fail
                      go_roundg (v.fields.length - (j + 1))
                      case measure => omega
                      case rel =>
                        have hput : putAt (soFar v v.list.length j) at0 f.1 (canonV f.2) = soFar v v.list.length (j + 1) := by
                          unfold putAt
                          rw [Hz.out.1, sort_snoc (l := (v.fields.take j).map fun g => (g.1, canonV g.2)) Hz.out.1.symm (by rw [Hz.out.2.2.2.2]; exact Hz.out.2.2.2.1) HG.out.2 HG.out.1]
                          unfold soFar
                          rw [Hs.out.1, List.map_append]; rfl
                        have hcs : cellsF (f.1, canonV f.2) px qx = [.string f.1, .int .i64 f.2.kind, .int .i64 f.2.int, .string f.2.text, .slice px.a px.n px.c, .slice qx.a qx.n qx.c] := by
                          simp only [cellsF, Hs.out.2.1.1, Hs.out.2.1.2.1, Hs.out.2.1.2.2]
                        have hzl : (soFar v v.list.length j).fields.length = zs.length := by rw [Hz.out.1]
                        have hx9 : HV (fun g => wj.heap.size ≤ g ∧ g < wq.heap.size) wq (canonV f.2) px qx := HF.out.2.2.1.map (fun k hk hl => ⟨⟨hk, Nat.lt_of_lt_of_le hl HQ.out.2.2.2.2.2.size⟩, HQ.out.2.2.2.2.2.block k hl⟩)
                        have hxs : (([] ++ (zss.take at0).flatten) ++ [.string f.1, .int .i64 f.2.kind, .int .i64 f.2.int, .string f.2.text, .slice px.a px.n px.c, .slice qx.a qx.n qx.c]) ++ (zss.drop at0).flatten = (zss.take at0).flatten ++ [.string f.1, .int .i64 f.2.kind, .int .i64 f.2.int, .string f.2.text, .slice px.a px.n px.c, .slice qx.a qx.n qx.c] ++ (zss.drop at0).flatten := rfl
                        have ho9 := own_far (w' := (w9.setCell ⟨W.heap.size + 1 + 1, 4, none⟩ (.slice (some ⟨g9, 0, none⟩) (zs.length + 1) cap9))) H9.out.1 (fun k e => blk_far (show k ≠ W.heap.size + 1 + 1 by have := (H9.out.1.lt k e).1; omega))
                        rw [hxs, ← hcs, ← hzl] at ho9
                        have hmv := HJ.out.2.2.2.1.insert (w5 := wq) (w6 := (w9.setCell ⟨W.heap.size + 1 + 1, 4, none⟩ (.slice (some ⟨g9, 0, none⟩) (zs.length + 1) cap9))) (n := at0) (ky := f.1) (q' := ⟨some ⟨g9, 0, none⟩, zs.length + 1, cap9⟩) (by omega) HQ.out.1 hx9 (by omega) (by rw [hzl] at ho9 ⊢; exact ho9) (fun k hk hl => (blk_far (show k ≠ W.heap.size + 1 + 1 by omega)).trans (H9.out.2.1.block k hl))
                        rw [hput] at hmv
                        have hbl9 : Below wj.heap.size wj w9 := HQ.out.1.trans (H9.out.2.1.mono HQ.out.1.size)
                        exact ⟨j + 1, ⟨some ⟨g9, 0, none⟩, zs.length + 1, cap9⟩, _, by omega, by omega, by go_num, (blk_far (show W.heap.size ≠ W.heap.size + 1 + 1 by omega)).trans ((hbl9.block _ l0).trans HJ.out.1), (blk_far (show W.heap.size + 1 ≠ W.heap.size + 1 + 1 by omega)).trans ((hbl9.block _ l1).trans HJ.out.2.1), blk_set H9.out.2.2 4 _, hmv, (HJ.out.2.2.2.2.trans (hbl9.mono (by omega))).setCell (p := ⟨W.heap.size + 1 + 1, 4, none⟩) (show W.heap.size ≤ W.heap.size + 1 + 1 by omega) (.slice (some ⟨g9, 0, none⟩) (zs.length + 1) cap9)⟩
        · obtain rfl : j = v.fields.length := by omega
          have hltz : ¬ (v.fields.length : Int) < (v.fields.length : Int) := by omega
          go_wp2_with fail
          refine bodyPost_ret (results_cell_row rfl _ _ (W.heap.size + 1) 27 _ (0, 0) _ rfl (set5 _ _ _ _ _ HJ.out.2.1) Tryd.underlying27 rfl size_V) rfl ?_
          have hfull : soFar v v.list.length v.fields.length = canonV v := by
            unfold soFar
            rw [List.take_length, List.take_length, ← canonV_eq]
          refine ⟨p, q, rfl, ?_, below5 HJ.out.2.2.2.2 (Nat.le_succ _) _ _ _ _ _ _ _ _ _ _⟩
          rw [← hfull]
          exact HJ.out.2.2.2.1.hv.map (fun k hk hl => ⟨by omega, far5 (by omega)⟩)
end Go.Proofs.YteocenjneoclbaaDoor.tre

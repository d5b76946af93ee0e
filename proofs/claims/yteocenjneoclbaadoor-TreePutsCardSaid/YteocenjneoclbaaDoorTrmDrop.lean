/- Layer 4: tree.Drop. -/
import Derived.BigRegion
import Derived.Test.YteocenjneoclbaaDoorTrmDel
import Derived.Test.YteocenjneoclbaaDoorTrmPut
import Derived.Test.YteocenjneoclbaaDoorTrmRDrop
namespace Go.Proofs.YteocenjneoclbaaDoor.tre
open Go.RowKit Go.Shelf

set_option maxRecDepth 100000 in
set_option maxHeartbeats 1000000 in
theorem delete_nil (key : ByteArray) (l : List (ByteArray × V)) (hl : l = []) (S : Nat → Prop) (a : Option Addr) (c bk : Nat) (T : TypeId) (w : World) (hrow : RowF S w l ⟨a, l.length, c⟩) (hS : ∀ k, S k → k < w.heap.size) (hkey : w.heap[bk]? = some (.cells #[.string key] T (0, 0))) :
    Calls Tryd.prog 50 #[.slice a l.length c, .func (.func 51) #[] #[.pointer (some ⟨bk, 0, none⟩)]] w fun e w' => e = .returned (.slice a l.length c) ∧ Below w.heap.size w w' := by
  subst hl
  have hcall := idxF_any (ask_drop bk T key [] ()) (w := w) hrow (fun k hk => ⟨hS k hk, fun h => h⟩) (show Txt bk T key () w from hkey)
  simp only at hcall
  clear hrow hS hkey
  go_enter Tryd.func50, Tryd.ntmps50
  go_wp2_with fail
  refine hcall.mono ?_
  rintro e w1 ⟨rfl, hs1⟩
  have H1 := Lib.hid (hs1.quiet (fun _ h => h))
  clear hs1 hcall
  go_wp2_with fail
  go_ret
  exact ⟨rfl, H1.out⟩
/-- The fields of a row, with what lies of each. -/
theorem pair_row {SS : Nat → Prop} {w : World} {l : List (ByteArray × V)} {xss : List (List Value)} (hlen : xss.length = l.length) (h : AllZ (fun (g : ByteArray × V) xs => ∃ ys, xs = .string g.1 :: ys ∧ Lies SS w g.2 ys) l xss) :
    ∃ P : List ((ByteArray × V) × El), P.map (·.1) = l ∧ (P.map (·.2)).map cellsE = xss ∧ ∀ z ∈ P, cellsE z.2 = cellsF z.1 z.2.p z.2.q ∧ z.2.k = z.1.1 ∧ HV SS w z.1.2 z.2.p z.2.q := by
  obtain ⟨le, hl, hle⟩ := listOf (n := l.length) (R := fun i (e : El) => ∀ (h1 : i < l.length) (h2 : i < xss.length), cellsE e = xss[i] ∧ cellsE e = cellsF l[i] e.p e.q ∧ e.k = l[i].1 ∧ HV SS w l[i].2 e.p e.q) (fun i hi => by
    obtain ⟨ys, e1, hy⟩ := h i l[i] (xss[i]'(by omega)) (List.getElem?_eq_getElem hi) (List.getElem?_eq_getElem (by omega))
    obtain ⟨p, q, e2, hh⟩ := lies_iff.1 hy
    refine ⟨⟨l[i].1, l[i].2.kind, l[i].2.int, l[i].2.text, p, q⟩, fun h1 h2 => ⟨?_, rfl, rfl, hh⟩⟩
    rw [e1, e2]; rfl)
  refine ⟨l.zip le, List.map_fst_zip (by omega), ?_, fun z hz => ?_⟩
  · rw [List.map_snd_zip (by omega)]
    apply List.ext_getElem (by rw [List.length_map]; omega)
    intro i h1 h2
    rw [List.getElem_map]
    exact (hle i (by simpa using h1) (by omega) h2).1
  · obtain ⟨i, hi, rfl⟩ := List.getElem_of_mem hz
    rw [List.length_zip] at hi
    rw [List.getElem_zip]
    exact (hle i (by omega) (by omega) (by omega)).2
theorem RowC.own_only {S : Nat → Prop} {w : World} {e : TypeId} {size n c g : Nat} {xss : List (List Value)} (h : RowC S w e size n ⟨some ⟨g, 0, none⟩, n, c⟩ xss) : RowC (fun k => k = g) w e size n ⟨some ⟨g, 0, none⟩, n, c⟩ xss :=
  ⟨h.1, h.2.1, h.2.2.1, fun k e => by cases e; rfl⟩
theorem row_pairs {S' SS : Nat → Prop} {w w' : World} {P : List ((ByteArray × V) × El)} {g c : Nat} (hP : ∀ z ∈ P, cellsE z.2 = cellsF z.1 z.2.p z.2.q ∧ z.2.k = z.1.1 ∧ HV SS w z.1.2 z.2.p z.2.q) (hr : RowE g c w' (P.map (·.2))) (hg : S' g) (hk : ∀ k, SS k → k < w.heap.size → S' k ∧ w'.heap[k]? = w.heap[k]?) :
    RowF S' w' (P.map (·.1)) ⟨some ⟨g, 0, none⟩, (P.map (·.1)).length, c⟩ := by
  unfold RowE at hr
  rw [List.length_map] at hr
  rw [List.length_map]
  refine ⟨(P.map (·.2)).map cellsE, ⟨by simp, hr.2.1, by rw [List.length_map]; exact hr.2.2.1, fun k e => by cases e; exact hg⟩, fun i x y hx hy => ?_⟩
  rw [List.getElem?_map, Option.map_eq_some_iff] at hx
  obtain ⟨z, hz, rfl⟩ := hx
  rw [List.getElem?_map, List.getElem?_map, hz] at hy
  obtain rfl : cellsE z.2 = y := by simpa using hy
  obtain ⟨h1, -, h3⟩ := hP z (List.mem_of_getElem? hz)
  exact ⟨cellsV z.1.2 z.2.p z.2.q, by rw [h1]; rfl, (h3.map hk).lies⟩
set_option maxRecDepth 100000 in
set_option maxHeartbeats 2000000 in
theorem Drop_any (v : V) (key : ByteArray) (hv : smallC v = true) (S : Nat → Prop) (W : World) (r t : Sl) (hS : ∀ g, S g → g < W.heap.size) (hh : HV S W v r t) :
    Calls Tryd.prog 25 #[.agg #[.int .i64 v.kind, .int .i64 v.int, .string v.text, .slice r.a r.n r.c, .slice t.a t.n t.c], .string key] W
      fun e w' => ∃ p q : Sl, e = .returned (.agg #[.int .i64 v.kind, .int .i64 v.int, .string v.text, .slice p.a p.n p.c, .slice q.a q.n q.c]) ∧ HV (fun k => S k ∨ W.heap.size ≤ k) w' (dropV v key) p q ∧ Below W.heap.size W w' := by
  have hcv := fun W1 (hb : Below W.heap.size W W1) => copied_any v hv S W1 r t (fun g hg => Nat.lt_of_lt_of_le (hS g hg) hb.size) (hh.later hb)
  have hfl := ((smallC_eq v).1 hv).2.1
  have hb3 : ∀ o1 o2 o3, Below W.heap.size W (((W.alloc o1).alloc o2).alloc o3) := fun o1 o2 o3 => (((Below.refl _ _).alloc (Nat.le_refl _) o1).alloc (by simp only [size_alloc]; omega) o2).alloc (by simp only [size_alloc]; omega) o3
  have H := Lib.hid (And.intro hcv (And.intro hb3 hS))
  clear hcv hb3 hS hh hv
  go_enter Tryd.func25, Tryd.ntmps25
  go_wp2_with fail
  refine (H.out.1 _ (H.out.2.1 _ _ _)).mono ?_
  rintro e w1 ⟨p, ⟨qa, qn, qc⟩, rfl, hB, hb1⟩
  have hB2 := hB.map (B' := W.heap.size + 3) (by simp only [size_alloc]; omega) (fun k _ _ => rfl)
  obtain ⟨m0, m1, m2, hb01⟩ := put_new3 hb1
  have hqn : qn = v.fields.length := hB2.hv.2.len
  subst hqn
  have a0 : w1.cell? ⟨W.heap.size, 0, none⟩ = some (.int .i64 v.kind) := by rw [blk_cell m0]; rfl
  have a1 : w1.cell? ⟨W.heap.size, 1, none⟩ = some (.int .i64 v.int) := by rw [blk_cell m0]; rfl
  have a2 : w1.cell? ⟨W.heap.size, 2, none⟩ = some (.string v.text) := by rw [blk_cell m0]; rfl
  have a3 : w1.cell? ⟨W.heap.size, 3, none⟩ = some (.slice r.a r.n r.c) := by rw [blk_cell m0]; rfl
  have a4 : w1.cell? ⟨W.heap.size, 4, none⟩ = some (.slice t.a t.n t.c) := by rw [blk_cell m0]; rfl
  have z0 : w1.cell? ⟨W.heap.size + 2, 0, none⟩ = some (.int .i64 0) := by rw [blk_cell m2]; rfl
  have z1 : w1.cell? ⟨W.heap.size + 2, 1, none⟩ = some (.int .i64 0) := by rw [blk_cell m2]; rfl
  have z2 : w1.cell? ⟨W.heap.size + 2, 2, none⟩ = some (.string ⟨#[]⟩) := by rw [blk_cell m2]; rfl
  have z3 : w1.cell? ⟨W.heap.size + 2, 3, none⟩ = some (.slice none 0 0) := by rw [blk_cell m2]; rfl
  have z4 : w1.cell? ⟨W.heap.size + 2, 4, none⟩ = some (.slice none 0 0) := by rw [blk_cell m2]; rfl
  have fa0 := blk_frozen m0 0
  have fa1 := blk_frozen m0 1
  have fa2 := blk_frozen m0 2
  have fa3 := blk_frozen m0 3
  have fa4 := blk_frozen m0 4
  have fz0 := blk_frozen m2 0
  have fz1 := blk_frozen m2 1
  have fz2 := blk_frozen m2 2
  have fz3 := blk_frozen m2 3
  have fz4 := blk_frozen m2 4
  have l2 := (Array.getElem?_eq_some_iff.1 m2).1
  have l0 : W.heap.size < w1.heap.size := by omega
  have l1 : W.heap.size + 1 < w1.heap.size := by omega
  have H1 := Lib.hid (And.intro hB2 (And.intro hb01 (And.intro m0 (And.intro m1 m2))))
  clear hB hB2 hb1 hb01 m0 m1 m2
  by_cases hk : v.kind = 5
  · have hkb : (v.kind == 5) = true := by simp [hk]
    have Hk := Lib.hid (show dropV v key = .mk v.kind v.int v.text v.list (v.fields.filter fun g => !(g.1.toList == key.toList)) from if_pos hk)
    clear hk
    obtain ⟨xss, hrc, haz⟩ := H1.out.1.2
    have HO := Lib.hid (And.intro hrc haz)
    have hfar : ∀ k, S k ∨ W.heap.size + 3 ≤ k → (((((w1.setCell ⟨W.heap.size, 0, none⟩ (.int .i64 v.kind)).setCell ⟨W.heap.size, 1, none⟩ (.int .i64 v.int)).setCell ⟨W.heap.size, 2, none⟩ (.string v.text)).setCell ⟨W.heap.size, 3, none⟩ (.slice p.a p.n p.c)).setCell ⟨W.heap.size, 4, none⟩ (.slice qa v.fields.length qc)).heap[k]? = w1.heap[k]? := fun k hk => far5 (show k ≠ W.heap.size by rcases hk with h | h; have := H.out.2.2 k h; omega; omega)
    have hbs : Below W.heap.size W (((((w1.setCell ⟨W.heap.size, 0, none⟩ (.int .i64 v.kind)).setCell ⟨W.heap.size, 1, none⟩ (.int .i64 v.int)).setCell ⟨W.heap.size, 2, none⟩ (.string v.text)).setCell ⟨W.heap.size, 3, none⟩ (.slice p.a p.n p.c)).setCell ⟨W.heap.size, 4, none⟩ (.slice qa v.fields.length qc)) := below5 H1.out.2.1 (Nat.le_refl _) _ _ _ _ _ _ _ _ _ _
    have n0 := set5 (.int .i64 v.kind) (.int .i64 v.int) (.string v.text) (.slice p.a p.n p.c) (.slice qa v.fields.length qc) H1.out.2.2.1
    have n1 : (((((w1.setCell ⟨W.heap.size, 0, none⟩ (.int .i64 v.kind)).setCell ⟨W.heap.size, 1, none⟩ (.int .i64 v.int)).setCell ⟨W.heap.size, 2, none⟩ (.string v.text)).setCell ⟨W.heap.size, 3, none⟩ (.slice p.a p.n p.c)).setCell ⟨W.heap.size, 4, none⟩ (.slice qa v.fields.length qc)).heap[W.heap.size + 1]? = _ := (far5 (show W.heap.size + 1 ≠ W.heap.size by omega)).trans H1.out.2.2.2.1
    have n2 : (((((w1.setCell ⟨W.heap.size, 0, none⟩ (.int .i64 v.kind)).setCell ⟨W.heap.size, 1, none⟩ (.int .i64 v.int)).setCell ⟨W.heap.size, 2, none⟩ (.string v.text)).setCell ⟨W.heap.size, 3, none⟩ (.slice p.a p.n p.c)).setCell ⟨W.heap.size, 4, none⟩ (.slice qa v.fields.length qc)).heap[W.heap.size + 2]? = _ := (far5 (show W.heap.size + 2 ≠ W.heap.size by omega)).trans H1.out.2.2.2.2
    have hrowF : RowF (fun k => k < (((((w1.setCell ⟨W.heap.size, 0, none⟩ (.int .i64 v.kind)).setCell ⟨W.heap.size, 1, none⟩ (.int .i64 v.int)).setCell ⟨W.heap.size, 2, none⟩ (.string v.text)).setCell ⟨W.heap.size, 3, none⟩ (.slice p.a p.n p.c)).setCell ⟨W.heap.size, 4, none⟩ (.slice qa v.fields.length qc)).heap.size) (((((w1.setCell ⟨W.heap.size, 0, none⟩ (.int .i64 v.kind)).setCell ⟨W.heap.size, 1, none⟩ (.int .i64 v.int)).setCell ⟨W.heap.size, 2, none⟩ (.string v.text)).setCell ⟨W.heap.size, 3, none⟩ (.slice p.a p.n p.c)).setCell ⟨W.heap.size, 4, none⟩ (.slice qa v.fields.length qc)) v.fields ⟨qa, v.fields.length, qc⟩ := H1.out.1.hv.2.map (fun k hk hl => ⟨by simpa using hl, hfar k hk⟩)
    have hform := hrc.form.2
    have H2 := Lib.hid (And.intro hfar (And.intro hbs (And.intro n0 (And.intro n1 n2))))
    clear hrc haz hfar hbs n0 n1 n2
    by_cases h0 : v.fields.length = 0
    · have hnil : v.fields = [] := List.eq_nil_of_length_eq_zero h0
      have hdn := delete_nil key v.fields hnil _ qa qc (W.heap.size + 1) 9 (((((w1.setCell ⟨W.heap.size, 0, none⟩ (.int .i64 v.kind)).setCell ⟨W.heap.size, 1, none⟩ (.int .i64 v.int)).setCell ⟨W.heap.size, 2, none⟩ (.string v.text)).setCell ⟨W.heap.size, 3, none⟩ (.slice p.a p.n p.c)).setCell ⟨W.heap.size, 4, none⟩ (.slice qa v.fields.length qc)) hrowF (fun k h => h) H2.out.2.2.2.1
      have Hn := Lib.hid hnil
      clear hnil h0 hform hrowF
      go_wp2_with fail
      refine hdn.mono ?_
      rintro e w4 ⟨rfl, hb4⟩
      have m42 := (hb4.block (W.heap.size + 2) (by simpa using l2)).trans H2.out.2.2.2.2
      have m40 := (hb4.block W.heap.size (by simpa using l0)).trans H2.out.2.2.1
      have b0 : w4.cell? ⟨W.heap.size, 0, none⟩ = some (.int .i64 v.kind) := by rw [blk_cell m40]; rfl
      have b1 : w4.cell? ⟨W.heap.size, 1, none⟩ = some (.int .i64 v.int) := by rw [blk_cell m40]; rfl
      have b2 : w4.cell? ⟨W.heap.size, 2, none⟩ = some (.string v.text) := by rw [blk_cell m40]; rfl
      have b3 : w4.cell? ⟨W.heap.size, 3, none⟩ = some (.slice p.a p.n p.c) := by rw [blk_cell m40]; rfl
      have b4 : w4.cell? ⟨W.heap.size, 4, none⟩ = some (.slice qa v.fields.length qc) := by rw [blk_cell m40]; rfl
      have y0 : w4.cell? ⟨W.heap.size + 2, 0, none⟩ = some (.int .i64 0) := by rw [blk_cell m42]; rfl
      have y1 : w4.cell? ⟨W.heap.size + 2, 1, none⟩ = some (.int .i64 0) := by rw [blk_cell m42]; rfl
      have y2 : w4.cell? ⟨W.heap.size + 2, 2, none⟩ = some (.string ⟨#[]⟩) := by rw [blk_cell m42]; rfl
      have y3 : w4.cell? ⟨W.heap.size + 2, 3, none⟩ = some (.slice none 0 0) := by rw [blk_cell m42]; rfl
      have y4 : w4.cell? ⟨W.heap.size + 2, 4, none⟩ = some (.slice none 0 0) := by rw [blk_cell m42]; rfl
      have fb4 := blk_frozen m40 4
      have fy0 := blk_frozen m42 0
      have fy1 := blk_frozen m42 1
      have fy2 := blk_frozen m42 2
      have fy3 := blk_frozen m42 3
      have fy4 := blk_frozen m42 4
      have l40 := (Array.getElem?_eq_some_iff.1 m40).1
      have l42 := (Array.getElem?_eq_some_iff.1 m42).1
      have H4 := Lib.hid (And.intro hb4 (And.intro m40 m42))
      clear hb4 m40 m42 hdn
      go_wp2_with fail
      refine bodyPost_ret (results_cell_row rfl _ _ (W.heap.size + 2) 27 _ (0, 0) _ rfl (set5 _ _ _ _ _ ((blk_far (show W.heap.size + 2 ≠ W.heap.size by omega)).trans H4.out.2.2)) Tryd.underlying27 rfl size_V) rfl ?_
      rw [Hk.out, Hn.out]
      have hfar4 : ∀ k, S k ∨ W.heap.size + 3 ≤ k → ((((((w4.setCell ⟨W.heap.size, 4, none⟩ (.slice qa v.fields.length qc)).setCell ⟨W.heap.size + 2, 0, none⟩ (.int .i64 v.kind)).setCell ⟨W.heap.size + 2, 1, none⟩ (.int .i64 v.int)).setCell ⟨W.heap.size + 2, 2, none⟩ (.string v.text)).setCell ⟨W.heap.size + 2, 3, none⟩ (.slice p.a p.n p.c)).setCell ⟨W.heap.size + 2, 4, none⟩ (.slice qa v.fields.length qc)).heap[k]? = w4.heap[k]? := fun k hk =>
        (far5 (show k ≠ W.heap.size + 2 by rcases hk with h | h; have := H.out.2.2 k h; omega; omega)).trans (blk_far (show k ≠ W.heap.size by rcases hk with h | h; have := H.out.2.2 k h; omega; omega))
      have hbw := below5 ((H2.out.2.1.trans (H4.out.1.mono H2.out.2.1.size)).setCell (p := ⟨W.heap.size, 4, none⟩) (Nat.le_refl _) (.slice qa v.fields.length qc)) (show W.heap.size ≤ W.heap.size + 2 by omega) 0 1 2 3 4 (.int .i64 v.kind) (.int .i64 v.int) (.string v.text) (.slice p.a p.n p.c) (.slice qa v.fields.length qc)
      rw [Hn.out] at hfar4 hbw
      have hmapk := fun k (hk : S k ∨ W.heap.size + 3 ≤ k) (hl : k < w1.heap.size) => (hfar4 k hk).trans ((H4.out.1.block k (by simpa using hl)).trans (H2.out.1 k hk))
      have hv0 := H1.out.1.hv
      rw [Hn.out] at hv0
      refine ⟨p, ⟨qa, ([] : List (ByteArray × V)).length, qc⟩, rfl, ⟨hv0.1.map (fun k hk hl => ⟨by rcases hk with h | h; exact .inl h; exact .inr (by omega), hmapk k hk hl⟩), ?_⟩, hbw⟩
      have hv2 := hv0.2
      rw [Hn.out] at hv2
      exact hv2.map (fun k hk hl => ⟨by rcases hk with h | h; exact .inl h; exact .inr (by omega), hmapk k hk hl⟩)
    · obtain ⟨g, rfl⟩ := hform.resolve_left h0
      have hg3 : W.heap.size + 3 ≤ g := HO.out.1.2.2.2 g rfl
      have hgl : g < w1.heap.size := (HO.out.1.2.2.1.lt g rfl).2
      obtain ⟨P, hP1, hP2, hP3⟩ := pair_row HO.out.1.1 HO.out.2
      have hPl : (P.map (·.2)).length = v.fields.length := by rw [List.length_map, ← hP1, List.length_map]
      have hE : RowE g qc (((((w1.setCell ⟨W.heap.size, 0, none⟩ (.int .i64 v.kind)).setCell ⟨W.heap.size, 1, none⟩ (.int .i64 v.int)).setCell ⟨W.heap.size, 2, none⟩ (.string v.text)).setCell ⟨W.heap.size, 3, none⟩ (.slice p.a p.n p.c)).setCell ⟨W.heap.size, 4, none⟩ (.slice (some ⟨g, 0, none⟩) v.fields.length qc)) (P.map (·.2)) := by
        unfold RowE
        rw [hPl, hP2]
        exact (HO.out.1.map (S' := fun k => W.heap.size + 3 ≤ k) (w' := (((((w1.setCell ⟨W.heap.size, 0, none⟩ (.int .i64 v.kind)).setCell ⟨W.heap.size, 1, none⟩ (.int .i64 v.int)).setCell ⟨W.heap.size, 2, none⟩ (.string v.text)).setCell ⟨W.heap.size, 3, none⟩ (.slice p.a p.n p.c)).setCell ⟨W.heap.size, 4, none⟩ (.slice (some ⟨g, 0, none⟩) v.fields.length qc))) (fun k hk hl => ⟨hk, H2.out.1 k (.inr hk)⟩)).own_only
      have hkeys : (P.map (·.2)).map El.k = v.fields.map (·.1) := by
        rw [← hP1, List.map_map, List.map_map]
        exact List.map_congr_left (fun z hz => (hP3 z hz).2.1)
      have hfe : (P.filter fun z => keepE key z.2).map (·.2) = (P.map (·.2)).filter (keepE key) := by rw [List.filter_map]; rfl
      have hfv : (P.filter fun z => keepE key z.2).map (·.1) = v.fields.filter fun g => !(g.1.toList == key.toList) := by
        rw [← hP1, List.filter_map]
        congr 1
        exact List.filter_congr (fun z hz => by unfold keepE; rw [(hP3 z hz).2.1]; rfl)
      have hdn := delete_any key v.fields (P.map (·.2)) _ g qc (W.heap.size + 1) 9 (((((w1.setCell ⟨W.heap.size, 0, none⟩ (.int .i64 v.kind)).setCell ⟨W.heap.size, 1, none⟩ (.int .i64 v.int)).setCell ⟨W.heap.size, 2, none⟩ (.string v.text)).setCell ⟨W.heap.size, 3, none⟩ (.slice p.a p.n p.c)).setCell ⟨W.heap.size, 4, none⟩ (.slice (some ⟨g, 0, none⟩) v.fields.length qc)) hfl (by rw [hPl]; exact hrowF) (fun k h => h) hE hkeys H2.out.2.2.2.1 (by omega)
      rw [hPl, ← hfe, List.length_map] at hdn
      obtain ⟨m, hm⟩ : ∃ m, (P.filter fun z => keepE key z.2).length = m := ⟨_, rfl⟩
      have hmn : m ≤ v.fields.length := by rw [← hm, ← hPl, List.length_map]; exact List.length_filter_le _ _
      rw [hm] at hdn
      have HP := Lib.hid (And.intro (fun z (hz : z ∈ P.filter fun z => keepE key z.2) => hP3 z (List.mem_filter.1 hz).1) (And.intro hfv hm))
      clear hP1 hP2 hP3 hPl hE hkeys hfe hfv hm hform hrowF h0
      go_wp2_with fail
      refine hdn.mono ?_
      rintro e w4 ⟨rfl, hr4, hk4⟩
      have m42 := (hk4.block (W.heap.size + 2) (by simpa using l2) (show ¬ W.heap.size + 2 = g by omega)).trans H2.out.2.2.2.2
      have m40 := (hk4.block W.heap.size (by simpa using l0) (show ¬ W.heap.size = g by omega)).trans H2.out.2.2.1
      have b0 : w4.cell? ⟨W.heap.size, 0, none⟩ = some (.int .i64 v.kind) := by rw [blk_cell m40]; rfl
      have b1 : w4.cell? ⟨W.heap.size, 1, none⟩ = some (.int .i64 v.int) := by rw [blk_cell m40]; rfl
      have b2 : w4.cell? ⟨W.heap.size, 2, none⟩ = some (.string v.text) := by rw [blk_cell m40]; rfl
      have b3 : w4.cell? ⟨W.heap.size, 3, none⟩ = some (.slice p.a p.n p.c) := by rw [blk_cell m40]; rfl
      have b4 : w4.cell? ⟨W.heap.size, 4, none⟩ = some (.slice (some ⟨g, 0, none⟩) v.fields.length qc) := by rw [blk_cell m40]; rfl
      have y0 : w4.cell? ⟨W.heap.size + 2, 0, none⟩ = some (.int .i64 0) := by rw [blk_cell m42]; rfl
      have y1 : w4.cell? ⟨W.heap.size + 2, 1, none⟩ = some (.int .i64 0) := by rw [blk_cell m42]; rfl
      have y2 : w4.cell? ⟨W.heap.size + 2, 2, none⟩ = some (.string ⟨#[]⟩) := by rw [blk_cell m42]; rfl
      have y3 : w4.cell? ⟨W.heap.size + 2, 3, none⟩ = some (.slice none 0 0) := by rw [blk_cell m42]; rfl
      have y4 : w4.cell? ⟨W.heap.size + 2, 4, none⟩ = some (.slice none 0 0) := by rw [blk_cell m42]; rfl
      have fb4 := blk_frozen m40 4
      have fy0 := blk_frozen m42 0
      have fy1 := blk_frozen m42 1
      have fy2 := blk_frozen m42 2
      have fy3 := blk_frozen m42 3
      have fy4 := blk_frozen m42 4
      have l40 := (Array.getElem?_eq_some_iff.1 m40).1
      have l42 := (Array.getElem?_eq_some_iff.1 m42).1
      have H4 := Lib.hid (And.intro hr4 (And.intro hk4 (And.intro m40 m42)))
      clear hr4 hk4 m40 m42 hdn
      go_wp2_with fail
      refine bodyPost_ret (results_cell_row rfl _ _ (W.heap.size + 2) 27 _ (0, 0) _ rfl (set5 _ _ _ _ _ ((blk_far (show W.heap.size + 2 ≠ W.heap.size by omega)).trans H4.out.2.2.2)) Tryd.underlying27 rfl size_V) rfl ?_
      rw [Hk.out]
      have hfar4 : ∀ k, S k ∨ W.heap.size + 3 ≤ k → ((((((w4.setCell ⟨W.heap.size, 4, none⟩ (.slice (some ⟨g, 0, none⟩) m qc)).setCell ⟨W.heap.size + 2, 0, none⟩ (.int .i64 v.kind)).setCell ⟨W.heap.size + 2, 1, none⟩ (.int .i64 v.int)).setCell ⟨W.heap.size + 2, 2, none⟩ (.string v.text)).setCell ⟨W.heap.size + 2, 3, none⟩ (.slice p.a p.n p.c)).setCell ⟨W.heap.size + 2, 4, none⟩ (.slice (some ⟨g, 0, none⟩) m qc)).heap[k]? = w4.heap[k]? := fun k hk =>
        (far5 (show k ≠ W.heap.size + 2 by rcases hk with h | h; have := H.out.2.2 k h; omega; omega)).trans (blk_far (show k ≠ W.heap.size by rcases hk with h | h; have := H.out.2.2 k h; omega; omega))
      have hb4 : Below W.heap.size (((((w1.setCell ⟨W.heap.size, 0, none⟩ (.int .i64 v.kind)).setCell ⟨W.heap.size, 1, none⟩ (.int .i64 v.int)).setCell ⟨W.heap.size, 2, none⟩ (.string v.text)).setCell ⟨W.heap.size, 3, none⟩ (.slice p.a p.n p.c)).setCell ⟨W.heap.size, 4, none⟩ (.slice (some ⟨g, 0, none⟩) v.fields.length qc)) w4 := H4.out.2.1.below (fun k hk => by rw [hk]; omega) (by simpa using Nat.le_of_lt l0)
      have hbw := below5 ((H2.out.2.1.trans hb4).setCell (p := ⟨W.heap.size, 4, none⟩) (Nat.le_refl _) (.slice (some ⟨g, 0, none⟩) m qc)) (show W.heap.size ≤ W.heap.size + 2 by omega) 0 1 2 3 4 (.int .i64 v.kind) (.int .i64 v.int) (.string v.text) (.slice p.a p.n p.c) (.slice (some ⟨g, 0, none⟩) m qc)
      have hmapk := fun k (hk : S k ∨ W.heap.size + 3 ≤ k) (hne : k ≠ g) (hl : k < w1.heap.size) => (hfar4 k hk).trans ((H4.out.2.1.block k (by simpa using hl) hne).trans (H2.out.1 k hk))
      have hog : (Value.slice (some ⟨g, 0, none⟩) v.fields.length qc).ownBlock = some g := rfl
      refine ⟨p, ⟨some ⟨g, 0, none⟩, m, qc⟩, rfl, ⟨H1.out.1.1.map (fun k hk hl => ⟨by rcases hk.1 with h | h; exact .inl h; exact .inr (by omega), hmapk k hk.1 (fun e => hk.2 (by rw [e]; rfl)) hl⟩), ?_⟩, hbw⟩
      have hrow := row_pairs (S' := fun k => S k ∨ W.heap.size ≤ k) (w' := ((((((w4.setCell ⟨W.heap.size, 4, none⟩ (.slice (some ⟨g, 0, none⟩) m qc)).setCell ⟨W.heap.size + 2, 0, none⟩ (.int .i64 v.kind)).setCell ⟨W.heap.size + 2, 1, none⟩ (.int .i64 v.int)).setCell ⟨W.heap.size + 2, 2, none⟩ (.string v.text)).setCell ⟨W.heap.size + 2, 3, none⟩ (.slice p.a p.n p.c)).setCell ⟨W.heap.size + 2, 4, none⟩ (.slice (some ⟨g, 0, none⟩) m qc))) HP.out.1 (H4.out.1.keep (hfar4 g (.inr hg3))) (.inr (by omega)) (fun k hk hl => ⟨by rcases hk.1 with h | h; exact .inl h; exact .inr (by omega), hmapk k hk.1 (fun e => hk.2 (by rw [e]; rfl)) hl⟩)
      rw [List.length_map, HP.out.2.2, HP.out.2.1] at hrow
      exact hrow
  · have hkb : (v.kind == 5) = false := by simpa using hk
    have Hk := Lib.hid (show dropV v key = v from if_neg hk)
    clear hk
    go_wp2_with fail
    have hbl : Below W.heap.size W ((((((((((w1.setCell ⟨W.heap.size, 0, none⟩ (.int .i64 v.kind)).setCell ⟨W.heap.size, 1, none⟩ (.int .i64 v.int)).setCell ⟨W.heap.size, 2, none⟩ (.string v.text)).setCell ⟨W.heap.size, 3, none⟩ (.slice p.a p.n p.c)).setCell ⟨W.heap.size, 4, none⟩ (.slice qa v.fields.length qc)).setCell ⟨W.heap.size + 2, 0, none⟩ (.int .i64 v.kind)).setCell ⟨W.heap.size + 2, 1, none⟩ (.int .i64 v.int)).setCell ⟨W.heap.size + 2, 2, none⟩ (.string v.text)).setCell ⟨W.heap.size + 2, 3, none⟩ (.slice p.a p.n p.c)).setCell ⟨W.heap.size + 2, 4, none⟩ (.slice qa v.fields.length qc)) := below5 (below5 H1.out.2.1 (Nat.le_refl _) _ _ _ _ _ _ _ _ _ _) (show W.heap.size ≤ W.heap.size + 2 by omega) _ _ _ _ _ _ _ _ _ _
    refine bodyPost_ret (results_cell_row rfl _ _ (W.heap.size + 2) 27 _ (0, 0) _ rfl (set5 _ _ _ _ _ ((far5 (show W.heap.size + 2 ≠ W.heap.size by omega)).trans H1.out.2.2.2.2)) Tryd.underlying27 rfl size_V) rfl ?_
    rw [Hk.out]
    exact ⟨p, ⟨qa, v.fields.length, qc⟩, rfl, H1.out.1.hv.map (fun k hk hl => ⟨by rcases hk with hk | hk; exact .inl hk; exact .inr (by omega), (far5 (show k ≠ W.heap.size + 2 by rcases hk with hk | hk; have := H.out.2.2 k hk; omega; omega)).trans (far5 (show k ≠ W.heap.size by rcases hk with hk | hk; have := H.out.2.2 k hk; omega; omega))⟩), hbl⟩
end Go.Proofs.YteocenjneoclbaaDoor.tre

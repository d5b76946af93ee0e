/- Layer 4: tree.Put. -/
import Derived.BigRegion
import Derived.Deep.AppendLies
import Derived.Deep.RegionHeld3
import Derived.Deep.RegionLaw
import Derived.Test.YteocenjneoclbaaDoorTrmCopy
import Derived.Test.YteocenjneoclbaaDoorTrmShaped
namespace Go.Proofs.YteocenjneoclbaaDoor.tre
open Go.RowKit Go.Shelf

/-- What tree.Put tells. -/
def PutIs (v : V) (key : ByteArray) (x u : V) : Prop :=
  (¬ v.kind = 5 ∧ u = v) ∨ (v.kind = 5 ∧ placeV v key = -1 ∧ u = .mk v.kind v.int v.text v.list (v.fields ++ [(key, x)])) ∨
  (v.kind = 5 ∧ ∃ (k : Nat) (h : k < v.fields.length), placeV v key = (k : Int) ∧ u = .mk v.kind v.int v.text v.list (v.fields.set k (v.fields[k].1, x)))
theorem put_new3 {W w : World} {o1 o2 o3 : Obj} (hb : Below (((W.alloc o1).alloc o2).alloc o3).heap.size (((W.alloc o1).alloc o2).alloc o3) w) :
    w.heap[W.heap.size]? = some o1 ∧ w.heap[W.heap.size + 1]? = some o2 ∧ w.heap[W.heap.size + 2]? = some o3 ∧ Below W.heap.size W w := by
  have h1 := block_new W o1
  have h2 := block_new (W.alloc o1) o2
  have h3 := block_new ((W.alloc o1).alloc o2) o3
  simp only [size_alloc] at h2 h3
  refine ⟨(hb.block _ ?_).trans ((block_old ?_).trans ((block_old ?_).trans h1)), (hb.block _ ?_).trans ((block_old ?_).trans h2), (hb.block _ ?_).trans h3, ((((Below.refl _ _).alloc (Nat.le_refl _) o1).alloc (by simp only [size_alloc]; omega) o2).alloc (by simp only [size_alloc]; omega) o3).trans (hb.mono ?_)⟩ <;> simp only [size_alloc] <;> omega
theorem own_put {w w' : World} {B : Nat} {e : TypeId} {size : Nat} {v : Value} {n : Nat} {xs : List Value} (h : w.ownsRow B e size v n xs) (hk : ∀ g, v.ownBlock = some g → w'.heap[g]? = w.heap[g]?) : w'.ownsRow B e size v n xs := by
  obtain ⟨h1, h2⟩ := h
  refine ⟨h1, ?_⟩
  rcases h2 with h2 | ⟨g, cap, cur, hv, hB, hg, r⟩
  · exact .inl h2
  · exact .inr ⟨g, cap, cur, hv, hB, (hk g (by rw [hv]; rfl)).trans hg, r⟩
set_option maxRecDepth 100000 in
set_option maxHeartbeats 4000000 in
theorem Put_any (v : V) (key : ByteArray) (x : V) (hv : smallC v = true) (hx : smallC x = true) (S : Nat → Prop) (W : World) (r t rx tx : Sl) (hS : ∀ g, S g → g < W.heap.size) (hh : HV S W v r t) (hhx : HV S W x rx tx) :
    Calls Tryd.prog 23 #[.agg #[.int .i64 v.kind, .int .i64 v.int, .string v.text, .slice r.a r.n r.c, .slice t.a t.n t.c], .string key, .agg #[.int .i64 x.kind, .int .i64 x.int, .string x.text, .slice rx.a rx.n rx.c, .slice tx.a tx.n tx.c]] W
      fun e w' => ∃ (u : V) (p q : Sl), e = .returned (.agg #[.int .i64 v.kind, .int .i64 v.int, .string v.text, .slice p.a p.n p.c, .slice q.a q.n q.c]) ∧ PutIs v key x u ∧ HV (fun k => S k ∨ W.heap.size ≤ k) w' u p q ∧ Below W.heap.size W w' := by
  have hcv := fun W1 (hb : Below W.heap.size W W1) => copied_any v hv S W1 r t (fun g hg => Nat.lt_of_lt_of_le (hS g hg) hb.size) (hh.later hb)
  have hcx := fun W1 (hb : Below W.heap.size W W1) => copied_any x hx S W1 rx tx (fun g hg => Nat.lt_of_lt_of_le (hS g hg) hb.size) (hhx.later hb)
  have hfl := ((smallC_eq v).1 hv).2.1
  have hb3 : ∀ o1 o2 o3, Below W.heap.size W (((W.alloc o1).alloc o2).alloc o3) := fun o1 o2 o3 => (((Below.refl _ _).alloc (Nat.le_refl _) o1).alloc (by simp only [size_alloc]; omega) o2).alloc (by simp only [size_alloc]; omega) o3
  have H := Lib.hid (And.intro hcv (And.intro hcx (And.intro hb3 hS)))
  clear hcv hcx hb3 hS hh hhx hv hx
  go_enter Tryd.func23, Tryd.ntmps23
  go_wp2_with fail
  refine (H.out.1 _ (H.out.2.2.1 _ _ _)).mono ?_
  rintro e w1 ⟨p, ⟨qa, qn, qc⟩, rfl, hB, hb1⟩
  have hB2 := hB.map (B' := W.heap.size + 3) (by simp only [size_alloc]; omega) (fun k _ _ => rfl)
  obtain ⟨m0, m1, m2, hb01⟩ := put_new3 hb1
  have hqn : qn = v.fields.length := hB2.hv.2.len
  subst hqn
  have a0 : w1.cell? ⟨W.heap.size, 0, none⟩ = some (.int .i64 v.kind) := by rw [blk_cell m0]; rfl
  have a1 : w1.cell? ⟨W.heap.size, 1, none⟩ = some (.int .i64 v.int) := by rw [blk_cell m0]; rfl
  have a2 : w1.cell? ⟨W.heap.size, 2, none⟩ = some (.string v.text) := by rw [blk_cell m0]; rfl
  have a3 : w1.cell? ⟨W.heap.size, 3, none⟩ = some (.slice r.a r.n r.c) := by rw [blk_cell m0]; rfl
  have a4 : w1.cell? ⟨W.heap.size, 4, none⟩ = some (.slice t.a t.n t.c) := by rw [blk_cell m0]; rfl
  have z0 : w1.cell? ⟨W.heap.size + 2, 0, none⟩ = some (.int .i64 0) := by rw [blk_cell m2]; rfl
  have z1 : w1.cell? ⟨W.heap.size + 2, 1, none⟩ = some (.int .i64 0) := by rw [blk_cell m2]; rfl
  have z2 : w1.cell? ⟨W.heap.size + 2, 2, none⟩ = some (.string ⟨#[]⟩) := by rw [blk_cell m2]; rfl
  have z3 : w1.cell? ⟨W.heap.size + 2, 3, none⟩ = some (.slice none 0 0) := by rw [blk_cell m2]; rfl
  have z4 : w1.cell? ⟨W.heap.size + 2, 4, none⟩ = some (.slice none 0 0) := by rw [blk_cell m2]; rfl
  have fa0 := blk_frozen m0 0
  have fa1 := blk_frozen m0 1
  have fa2 := blk_frozen m0 2
  have fa3 := blk_frozen m0 3
  have fa4 := blk_frozen m0 4
  have fz0 := blk_frozen m2 0
  have fz1 := blk_frozen m2 1
  have fz2 := blk_frozen m2 2
  have fz3 := blk_frozen m2 3
  have fz4 := blk_frozen m2 4
  have l2 := (Array.getElem?_eq_some_iff.1 m2).1
  have l0 : W.heap.size < w1.heap.size := by omega
  have l1 : W.heap.size + 1 < w1.heap.size := by omega
  have H1 := Lib.hid (And.intro hB2 (And.intro hb01 (And.intro m0 (And.intro m1 m2))))
  clear hB hB2 hb1 hb01 m0 m1 m2
  by_cases hk : v.kind = 5
  · have hkb : (v.kind != 5) = false := by simp [hk]
    have Hk := Lib.hid hk
    clear hk
    go_wp2_with fail
    have hvS : HV (fun g => g < (((((w1.setCell ⟨W.heap.size, 0, none⟩ (.int .i64 v.kind)).setCell ⟨W.heap.size, 1, none⟩ (.int .i64 v.int)).setCell ⟨W.heap.size, 2, none⟩ (.string v.text)).setCell ⟨W.heap.size, 3, none⟩ (.slice p.a p.n p.c)).setCell ⟨W.heap.size, 4, none⟩ (.slice qa v.fields.length qc)).heap.size) (((((w1.setCell ⟨W.heap.size, 0, none⟩ (.int .i64 v.kind)).setCell ⟨W.heap.size, 1, none⟩ (.int .i64 v.int)).setCell ⟨W.heap.size, 2, none⟩ (.string v.text)).setCell ⟨W.heap.size, 3, none⟩ (.slice p.a p.n p.c)).setCell ⟨W.heap.size, 4, none⟩ (.slice qa v.fields.length qc)) v p ⟨qa, v.fields.length, qc⟩ := H1.out.1.hv.map (fun k hk hl => ⟨by simpa using hl, far5 (show k ≠ W.heap.size by rcases hk with hk | hk; have := H.out.2.2.2 k hk; omega; omega)⟩)
    refine (place_any v key _ (((((w1.setCell ⟨W.heap.size, 0, none⟩ (.int .i64 v.kind)).setCell ⟨W.heap.size, 1, none⟩ (.int .i64 v.int)).setCell ⟨W.heap.size, 2, none⟩ (.string v.text)).setCell ⟨W.heap.size, 3, none⟩ (.slice p.a p.n p.c)).setCell ⟨W.heap.size, 4, none⟩ (.slice qa v.fields.length qc)) p ⟨qa, v.fields.length, qc⟩ (fun g hg => hg) hvS).mono ?_
    rintro e w2 ⟨rfl, hb2⟩
    have n0 := (hb2.block W.heap.size (by simpa using l0)).trans (set5 (.int .i64 v.kind) (.int .i64 v.int) (.string v.text) (.slice p.a p.n p.c) (.slice qa v.fields.length qc) H1.out.2.2.1)
    have n1 := (hb2.block (W.heap.size + 1) (by simpa using l1)).trans ((far5 (show W.heap.size + 1 ≠ W.heap.size by omega)).trans H1.out.2.2.2.1)
    have n2 := (hb2.block (W.heap.size + 2) (by simpa using l2)).trans ((far5 (show W.heap.size + 2 ≠ W.heap.size by omega)).trans H1.out.2.2.2.2)
    have hB2 : Built S (W.heap.size + 3) w2 v p ⟨qa, v.fields.length, qc⟩ := H1.out.1.map (Nat.le_refl _) (fun k hk hl => (hb2.block k (by simpa using hl)).trans (far5 (show k ≠ W.heap.size by rcases hk with hk | hk; have := H.out.2.2.2 k hk; omega; omega)))
    have hbs : Below W.heap.size W (((((w1.setCell ⟨W.heap.size, 0, none⟩ (.int .i64 v.kind)).setCell ⟨W.heap.size, 1, none⟩ (.int .i64 v.int)).setCell ⟨W.heap.size, 2, none⟩ (.string v.text)).setCell ⟨W.heap.size, 3, none⟩ (.slice p.a p.n p.c)).setCell ⟨W.heap.size, 4, none⟩ (.slice qa v.fields.length qc)) := below5 H1.out.2.1 (Nat.le_refl _) _ _ _ _ _ _ _ _ _ _
    have hb02 : Below W.heap.size W w2 := hbs.trans (hb2.mono hbs.size)
    have c0 : w2.cell? ⟨W.heap.size, 0, none⟩ = some (.int .i64 v.kind) := by rw [blk_cell n0]; rfl
    have c1 : w2.cell? ⟨W.heap.size, 1, none⟩ = some (.int .i64 v.int) := by rw [blk_cell n0]; rfl
    have c2 : w2.cell? ⟨W.heap.size, 2, none⟩ = some (.string v.text) := by rw [blk_cell n0]; rfl
    have c3 : w2.cell? ⟨W.heap.size, 3, none⟩ = some (.slice p.a p.n p.c) := by rw [blk_cell n0]; rfl
    have c4 : w2.cell? ⟨W.heap.size, 4, none⟩ = some (.slice qa v.fields.length qc) := by rw [blk_cell n0]; rfl
    have d0 : w2.cell? ⟨W.heap.size + 1, 0, none⟩ = some (.int .i64 x.kind) := by rw [blk_cell n1]; rfl
    have d1 : w2.cell? ⟨W.heap.size + 1, 1, none⟩ = some (.int .i64 x.int) := by rw [blk_cell n1]; rfl
    have d2 : w2.cell? ⟨W.heap.size + 1, 2, none⟩ = some (.string x.text) := by rw [blk_cell n1]; rfl
    have d3 : w2.cell? ⟨W.heap.size + 1, 3, none⟩ = some (.slice rx.a rx.n rx.c) := by rw [blk_cell n1]; rfl
    have d4 : w2.cell? ⟨W.heap.size + 1, 4, none⟩ = some (.slice tx.a tx.n tx.c) := by rw [blk_cell n1]; rfl
    have e0 : w2.cell? ⟨W.heap.size + 2, 0, none⟩ = some (.int .i64 0) := by rw [blk_cell n2]; rfl
    have e1 : w2.cell? ⟨W.heap.size + 2, 1, none⟩ = some (.int .i64 0) := by rw [blk_cell n2]; rfl
    have e2 : w2.cell? ⟨W.heap.size + 2, 2, none⟩ = some (.string ⟨#[]⟩) := by rw [blk_cell n2]; rfl
    have e3 : w2.cell? ⟨W.heap.size + 2, 3, none⟩ = some (.slice none 0 0) := by rw [blk_cell n2]; rfl
    have e4 : w2.cell? ⟨W.heap.size + 2, 4, none⟩ = some (.slice none 0 0) := by rw [blk_cell n2]; rfl
    have fc0 := blk_frozen n0 0
    have fc1 := blk_frozen n0 1
    have fc2 := blk_frozen n0 2
    have fc3 := blk_frozen n0 3
    have fc4 := blk_frozen n0 4
    have fe0 := blk_frozen n2 0
    have fe1 := blk_frozen n2 1
    have fe2 := blk_frozen n2 2
    have fe3 := blk_frozen n2 3
    have fe4 := blk_frozen n2 4
    have l20 := (Array.getElem?_eq_some_iff.1 n0).1
    have l21 := (Array.getElem?_eq_some_iff.1 n1).1
    have l22 := (Array.getElem?_eq_some_iff.1 n2).1
    obtain ⟨xss, hrc, haz⟩ := hB2.2
    have H2 := Lib.hid (And.intro hB2 (And.intro hb02 (And.intro n0 (And.intro n1 n2))))
    clear hvS hbs hb02 hb2 hB2 n0 n1 n2 a0 a1 a2 a3 a4 z0 z1 z2 z3 z4 fa0 fa1 fa2 fa3 fa4 fz0 fz1 fz2 fz3 fz4
    rcases place_range v key with hp | ⟨k, hkl, hp⟩
    · rw [hp]
      have hown := hrc.2.2.1
      have HO := Lib.hid (And.intro hrc haz)
      obtain ⟨i0', hi0, hz0, hz1, hz2⟩ := info_of info_F
      have Hp := Lib.hid hp
      clear hrc haz hp
      go_wp2_with fail
      go_region_law (first
        | (refine step_append_lies _ (by rfl) (.tmp 27) (.tmp 32) 25 (by rfl) 0 31 i0' zeroF 6 96 Tryd.underlying25 hi0 hz0 hz1 hz2 rfl (by decide) (.slice qa v.fields.length qc) v.fields.length xss.flatten (by rfl) (hownA _) ⟨w4.heap.size, 0, none⟩ 1 1 [.string key, .int .i64 x.kind, .int .i64 x.int, .string x.text, .slice px.a px.n px.c, .slice qx.a qx.n qx.c] (by rfl) (by rfl) (World.news_of_block (cs := #[.string key, .int .i64 x.kind, .int .i64 x.int, .string x.text, .slice px.a px.n px.c, .slice qx.a qx.n qx.c]) (t := 31) (fr := (0, 0)) (block_new w4 _)) (by simp [Value.oneCell']) (by decide) (by unfold maxLen; omega) (by omega) (by simp <;> omega) (w4.heap.size + 1) (by simp) ?_; intro g' cap' w6 hown6 hgrow6 hat6 hlt6; have hq0 := fun k (e : (Value.slice qa v.fields.length qc).ownBlock = some k) => HO.out.1.2.2.2 k e; have m60 := (hgrow6.block W.heap.size (by simp; omega) (fun e => by have := hq0 _ e.symm; omega)).trans ((block_old (by omega)).trans H4.out.2.2.1); have m62 := (hgrow6.block (W.heap.size + 2) (by simp; omega) (fun e => by have := hq0 _ e.symm; omega)).trans ((block_old (by omega)).trans H4.out.2.2.2); have b0 : w6.cell? ⟨W.heap.size, 0, none⟩ = some (.int .i64 v.kind) := (by rw [blk_cell m60]; rfl); have b1 : w6.cell? ⟨W.heap.size, 1, none⟩ = some (.int .i64 v.int) := (by rw [blk_cell m60]; rfl); have b2 : w6.cell? ⟨W.heap.size, 2, none⟩ = some (.string v.text) := (by rw [blk_cell m60]; rfl); have b3 : w6.cell? ⟨W.heap.size, 3, none⟩ = some (.slice p.a p.n p.c) := (by rw [blk_cell m60]; rfl); have b4 : w6.cell? ⟨W.heap.size, 4, none⟩ = some (.slice qa v.fields.length qc) := (by rw [blk_cell m60]; rfl); have fb4 := blk_frozen m60 4; have y0 : w6.cell? ⟨W.heap.size + 2, 0, none⟩ = some (.int .i64 0) := (by rw [blk_cell m62]; rfl); have y1 : w6.cell? ⟨W.heap.size + 2, 1, none⟩ = some (.int .i64 0) := (by rw [blk_cell m62]; rfl); have y2 : w6.cell? ⟨W.heap.size + 2, 2, none⟩ = some (.string ⟨#[]⟩) := (by rw [blk_cell m62]; rfl); have y3 : w6.cell? ⟨W.heap.size + 2, 3, none⟩ = some (.slice none 0 0) := (by rw [blk_cell m62]; rfl); have y4 : w6.cell? ⟨W.heap.size + 2, 4, none⟩ = some (.slice none 0 0) := (by rw [blk_cell m62]; rfl); have fy0 := blk_frozen m62 0; have fy1 := blk_frozen m62 1; have fy2 := blk_frozen m62 2; have fy3 := blk_frozen m62 3; have fy4 := blk_frozen m62 4; have l60 := (Array.getElem?_eq_some_iff.1 m60).1; have l62 := (Array.getElem?_eq_some_iff.1 m62).1; have H6 := Lib.hid (And.intro hown6 (And.intro hgrow6 (And.intro hat6 (And.intro m60 m62)))); clear hown6 hgrow6 hat6 m60 m62 hq0)
        | (go_simp; go_wp2_with (go_at_call 49; refine (H.out.2.1 _ (H2.out.2.1.drew)).mono ?_; rintro e w4 ⟨px, qx, rfl, hBx, hb4d⟩; have hb4 : Below w2.heap.size w2 w4 := (Below.refl w2.heap.size w2).drew.trans hb4d; have m40 := (hb4.block W.heap.size l20).trans H2.out.2.2.1; have m42 := (hb4.block (W.heap.size + 2) l22).trans H2.out.2.2.2.2; have b4 : w4.cell? ⟨W.heap.size, 4, none⟩ = some (.slice qa v.fields.length qc) := (by rw [blk_cell m40]; rfl); have l40 := (Array.getElem?_eq_some_iff.1 m40).1; have l42 := (Array.getElem?_eq_some_iff.1 m42).1; have hownA := fun o => (own_stay (w' := w4) hown (fun g _ hg _ => hb4.block g (Array.getElem?_eq_some_iff.1 hg).1)).alloc o; have H4 := Lib.hid (And.intro (hBx.hv) (And.intro hb4 (And.intro m40 m42))); clear hBx hb4 hb4d m40 m42)))
      all_goals
        go_wp2_with fail
        refine bodyPost_ret (results_cell_row rfl _ _ (W.heap.size + 2) 27 _ (0, 0) _ rfl (set5 _ _ _ _ _ ((blk_far (show W.heap.size + 2 ≠ W.heap.size by omega)).trans H6.out.2.2.2.2)) Tryd.underlying27 rfl size_V) rfl ?_
        have hq0 := fun k (e : (Value.slice qa v.fields.length qc).ownBlock = some k) => HO.out.1.2.2.2 k e
        have hql := fun k (e : (Value.slice qa v.fields.length qc).ownBlock = some k) => (hown.lt k e).2
        have hs4 := H4.out.2.1.size
        have hg3 : W.heap.size + 3 ≤ g' := by
          rcases H6.out.2.2.1 with h | h
          · have := hq0 _ h; omega
          · omega
        have hg6 : ∀ k, W.heap.size + 3 ≤ k ∨ S k → k < w4.heap.size → (Value.slice qa v.fields.length qc).ownBlock ≠ some k → ((((((w6.setCell ⟨W.heap.size, 4, none⟩ (.slice (some ⟨g', 0, none⟩) (v.fields.length + 1) cap')).setCell ⟨W.heap.size + 2, 0, none⟩ (.int .i64 v.kind)).setCell ⟨W.heap.size + 2, 1, none⟩ (.int .i64 v.int)).setCell ⟨W.heap.size + 2, 2, none⟩ (.string v.text)).setCell ⟨W.heap.size + 2, 3, none⟩ (.slice p.a p.n p.c)).setCell ⟨W.heap.size + 2, 4, none⟩ (.slice (some ⟨g', 0, none⟩) (v.fields.length + 1) cap')).heap[k]? = w4.heap[k]? := fun k hk hl hne =>
          (far5 (show k ≠ W.heap.size + 2 by rcases hk with hk | hk; omega; have := H.out.2.2.2 k hk; omega)).trans ((blk_far (show k ≠ W.heap.size by rcases hk with hk | hk; omega; have := H.out.2.2.2 k hk; omega)).trans ((H6.out.2.1.block k (by simp; omega) (fun e => hne e.symm)).trans (block_old hl)))
        have hbW : Below W.heap.size W ((((((w6.setCell ⟨W.heap.size, 4, none⟩ (.slice (some ⟨g', 0, none⟩) (v.fields.length + 1) cap')).setCell ⟨W.heap.size + 2, 0, none⟩ (.int .i64 v.kind)).setCell ⟨W.heap.size + 2, 1, none⟩ (.int .i64 v.int)).setCell ⟨W.heap.size + 2, 2, none⟩ (.string v.text)).setCell ⟨W.heap.size + 2, 3, none⟩ (.slice p.a p.n p.c)).setCell ⟨W.heap.size + 2, 4, none⟩ (.slice (some ⟨g', 0, none⟩) (v.fields.length + 1) cap')) := below5 ((((H2.out.2.1.trans (H4.out.2.1.mono H2.out.2.1.size)).alloc (by omega) _).grown H6.out.2.1 (by simp; omega) (fun e he => by have := hq0 e he; omega)).setCell (p := ⟨W.heap.size, 4, none⟩) (Nat.le_refl _) _) (show W.heap.size ≤ W.heap.size + 2 by omega) _ _ _ _ _ _ _ _ _ _
        refine ⟨.mk v.kind v.int v.text v.list (v.fields ++ [(key, x)]), p, ⟨some ⟨g', 0, none⟩, v.fields.length + 1, cap'⟩, rfl, .inr (.inl ⟨Hk.out, Hp.out, rfl⟩), ⟨?_, xss ++ [cellsF (key, x) px qx], ⟨by simp [HO.out.1.1, V.fields], ?_, ?_, ?_⟩, ?_⟩, hbW⟩
        · exact H2.out.1.1.map (fun k hk hl => ⟨by rcases hk.1 with h | h; exact .inl h; exact .inr (by omega), (hg6 k hk.1.symm (by omega) hk.2).trans (H4.out.2.1.block k hl)⟩)
        · intro xs hxs
          rcases List.mem_append.1 hxs with h | h
          · exact HO.out.1.2.1 xs h
          · rw [List.mem_singleton] at h; subst h; rfl
        · have h6 := H6.out.1
          refine own_put (w := w6) (by
            show w6.ownsRow 0 31 6 (.slice (some ⟨g', 0, none⟩) (v.fields.length + 1) cap') (v.fields ++ [(key, x)]).length (xss ++ [cellsF (key, x) px qx]).flatten
            rw [List.length_append, List.flatten_append]
            exact h6) (fun k e => ?_)
          obtain rfl : g' = k := by injection e
          exact (far5 (show g' ≠ W.heap.size + 2 by omega)).trans (blk_far (show g' ≠ W.heap.size by omega))
        · intro k e
          obtain rfl : g' = k := by injection e
          exact .inr (by omega)
        · refine allZ_snoc HO.out.1.1 (fun i y ys hy hys => ?_) ⟨cellsV x px qx, rfl, (H4.out.1.map (fun k hk hl => ?_)).lies⟩
          · obtain ⟨zs, rfl, hl⟩ := HO.out.2 i y ys hy hys
            exact ⟨zs, rfl, Lies.map (fun k hk hl => ⟨by rcases hk.1 with h | h; exact .inl h; exact .inr (by omega), (hg6 k hk.1.symm (by omega) hk.2).trans (H4.out.2.1.block k hl)⟩) _ _ hl⟩
          · refine ⟨by rcases hk with h | h; exact .inl h; exact .inr (by simp only [World.drew] at h; omega), hg6 k (by rcases hk with h | h; exact .inr h; exact .inl (by simp only [World.drew] at h; omega)) hl (fun e => ?_)⟩
            have h1 := hq0 k e
            have h2 := hql k e
            rcases hk with h | h
            · have := H.out.2.2.2 k h; omega
            · simp only [World.drew] at h; omega
    · rw [hp]
      have hkz : (0 : Int) ≤ (k : Int) := by omega
      have hklz : (k : Int) < (v.fields.length : Int) := by omega
      obtain ⟨g2, xs, ha, -, -, hg3, hg2, hxs, hcs⟩ := hrc.at hkl
      simp only at ha
      subst ha
      obtain ⟨ys, rfl, hly⟩ := haz k v.fields[k] xs (List.getElem?_eq_getElem hkl) hxs
      obtain ⟨f, hf⟩ : ∃ f, f = v.fields[k] := ⟨_, rfl⟩
      rw [← hf] at hly hxs hcs
      obtain ⟨r', t', rfl, -⟩ := lies_iff.1 hly
      have y1 : w2.cell? ⟨g2, k * 6 + 1, none⟩ = some (.int .i64 f.2.kind) := hcs 1 _ rfl
      have y2 : w2.cell? ⟨g2, k * 6 + 2, none⟩ = some (.int .i64 f.2.int) := hcs 2 _ rfl
      have y3 : w2.cell? ⟨g2, k * 6 + 3, none⟩ = some (.string f.2.text) := hcs 3 _ rfl
      have y4 : w2.cell? ⟨g2, k * 6 + 4, none⟩ = some (.slice r'.a r'.n r'.c) := hcs 4 _ rfl
      have y5 : w2.cell? ⟨g2, k * 6 + 5, none⟩ = some (.slice t'.a t'.n t'.c) := hcs 5 _ rfl
      have HF := Lib.hid (fun j => hrc.2.2.1.frozenAt (g := g2) (k * 6 + j))
      have hn0 : ¬ g2 = W.heap.size := by omega
      have hn1 : ¬ W.heap.size = g2 := by omega
      have hn2 : ¬ g2 = W.heap.size + 2 := by omega
      have hn3 : ¬ W.heap.size + 2 = g2 := by omega
      have HO := Lib.hid (And.intro hrc (And.intro haz (And.intro hxs hf)))
      have Hp := Lib.hid hp
      clear hrc haz hp hxs hf hly hcs
      go_wp2_with fail
      go_region_law ((go_simp; go_wp2_with (go_at_call 49; refine (H.out.2.1 _ (H2.out.2.1.drew)).mono ?_; rintro e w4 ⟨px, qx, rfl, hBx, hb4d⟩; have hb4 : Below w2.heap.size w2 w4 := (Below.refl w2.heap.size w2).drew.trans hb4d; have m40 := (hb4.block W.heap.size l20).trans H2.out.2.2.1; have m42 := (hb4.block (W.heap.size + 2) l22).trans H2.out.2.2.2.2; have b0 : w4.cell? ⟨W.heap.size, 0, none⟩ = some (.int .i64 v.kind) := (by rw [blk_cell m40]; rfl); have b1 : w4.cell? ⟨W.heap.size, 1, none⟩ = some (.int .i64 v.int) := (by rw [blk_cell m40]; rfl); have b2 : w4.cell? ⟨W.heap.size, 2, none⟩ = some (.string v.text) := (by rw [blk_cell m40]; rfl); have b3 : w4.cell? ⟨W.heap.size, 3, none⟩ = some (.slice p.a p.n p.c) := (by rw [blk_cell m40]; rfl); have b4 : w4.cell? ⟨W.heap.size, 4, none⟩ = some (.slice (some ⟨g2, 0, none⟩) v.fields.length qc) := (by rw [blk_cell m40]; rfl); have u0 : w4.cell? ⟨W.heap.size + 2, 0, none⟩ = some (.int .i64 0) := (by rw [blk_cell m42]; rfl); have u1 : w4.cell? ⟨W.heap.size + 2, 1, none⟩ = some (.int .i64 0) := (by rw [blk_cell m42]; rfl); have u2 : w4.cell? ⟨W.heap.size + 2, 2, none⟩ = some (.string ⟨#[]⟩) := (by rw [blk_cell m42]; rfl); have u3 : w4.cell? ⟨W.heap.size + 2, 3, none⟩ = some (.slice none 0 0) := (by rw [blk_cell m42]; rfl); have u4 : w4.cell? ⟨W.heap.size + 2, 4, none⟩ = some (.slice none 0 0) := (by rw [blk_cell m42]; rfl); have fu0 := blk_frozen m42 0; have fu1 := blk_frozen m42 1; have fu2 := blk_frozen m42 2; have fu3 := blk_frozen m42 3; have fu4 := blk_frozen m42 4; have l40 := (Array.getElem?_eq_some_iff.1 m40).1; have l42 := (Array.getElem?_eq_some_iff.1 m42).1; have lg4 := Nat.lt_of_lt_of_le hg2 hb4.size; have s1s := (hb4.cell (p := ⟨g2, k * 6 + 1, none⟩) (by exact hg2)).trans y1; have z1 := (hb4.frozen (p := ⟨g2, k * 6 + 1, none⟩) (by exact hg2)).trans (HF.out 1); have s2s := (hb4.cell (p := ⟨g2, k * 6 + 2, none⟩) (by exact hg2)).trans y2; have z2 := (hb4.frozen (p := ⟨g2, k * 6 + 2, none⟩) (by exact hg2)).trans (HF.out 2); have s3s := (hb4.cell (p := ⟨g2, k * 6 + 3, none⟩) (by exact hg2)).trans y3; have z3 := (hb4.frozen (p := ⟨g2, k * 6 + 3, none⟩) (by exact hg2)).trans (HF.out 3); have s4s := (hb4.cell (p := ⟨g2, k * 6 + 4, none⟩) (by exact hg2)).trans y4; have z4 := (hb4.frozen (p := ⟨g2, k * 6 + 4, none⟩) (by exact hg2)).trans (HF.out 4); have s5s := (hb4.cell (p := ⟨g2, k * 6 + 5, none⟩) (by exact hg2)).trans y5; have z5 := (hb4.frozen (p := ⟨g2, k * 6 + 5, none⟩) (by exact hg2)).trans (HF.out 5); have H4 := Lib.hid (And.intro (hBx.hv) (And.intro hb4 (And.intro m40 m42))); clear hBx hb4 hb4d m40 m42)))
      all_goals
        go_wp2_with fail
        refine bodyPost_ret (results_cell_row rfl _ _ (W.heap.size + 2) 27 _ (0, 0) _ rfl (set5 _ _ _ _ _ ((far5 (show W.heap.size + 2 ≠ g2 by omega)).trans H4.out.2.2.2)) Tryd.underlying27 rfl size_V) rfl ?_
        have hs4 := H4.out.2.1.size
        have hq2 : (Value.slice (some ⟨g2, 0, none⟩) v.fields.length qc).ownBlock = some g2 := rfl
        have hSS : ∀ j, ((S j ∨ W.heap.size + 3 ≤ j) ∧ (Value.slice (some ⟨g2, 0, none⟩) v.fields.length qc).ownBlock ≠ some j) → j ≠ g2 := fun j hj e => hj.2 (by rw [e]; rfl)
        have hvx : HV (fun j => (S j ∨ W.heap.size + 3 ≤ j) ∧ (Value.slice (some ⟨g2, 0, none⟩) v.fields.length qc).ownBlock ≠ some j) w4 x px qx := H4.out.1.map (fun j hj hl => ⟨⟨by rcases hj with h | h; exact .inl h; exact .inr (by simp only [World.drew] at h; omega), fun e => by
          obtain rfl : g2 = j := by injection e
          rcases hj with h | h
          · have := H.out.2.2.2 _ h; omega
          · simp only [World.drew] at h; omega⟩, rfl⟩)
        obtain ⟨hr6, ha6⟩ := put6_round HO.out.1 hkl HO.out.2.2.1 HO.out.2.1 hSS H4.out.2.1 hvx rfl
        have hfar2 : ∀ j, S j ∨ W.heap.size + 3 ≤ j → ((((((((((w4.setCell ⟨g2, k * 6 + 1, none⟩ (.int .i64 x.kind)).setCell ⟨g2, k * 6 + 2, none⟩ (.int .i64 x.int)).setCell ⟨g2, k * 6 + 3, none⟩ (.string x.text)).setCell ⟨g2, k * 6 + 4, none⟩ (.slice px.a px.n px.c)).setCell ⟨g2, k * 6 + 5, none⟩ (.slice qx.a qx.n qx.c)).setCell ⟨W.heap.size + 2, 0, none⟩ (.int .i64 v.kind)).setCell ⟨W.heap.size + 2, 1, none⟩ (.int .i64 v.int)).setCell ⟨W.heap.size + 2, 2, none⟩ (.string v.text)).setCell ⟨W.heap.size + 2, 3, none⟩ (.slice p.a p.n p.c)).setCell ⟨W.heap.size + 2, 4, none⟩ (.slice (some ⟨g2, 0, none⟩) v.fields.length qc)).heap[j]? = (((((w4.setCell ⟨g2, k * 6 + 1, none⟩ (.int .i64 x.kind)).setCell ⟨g2, k * 6 + 2, none⟩ (.int .i64 x.int)).setCell ⟨g2, k * 6 + 3, none⟩ (.string x.text)).setCell ⟨g2, k * 6 + 4, none⟩ (.slice px.a px.n px.c)).setCell ⟨g2, k * 6 + 5, none⟩ (.slice qx.a qx.n qx.c)).heap[j]? := fun j hj => far5 (show j ≠ W.heap.size + 2 by rcases hj with h | h; have := H.out.2.2.2 j h; omega; omega)
        refine ⟨.mk v.kind v.int v.text v.list (v.fields.set k (f.1, x)), p, ⟨some ⟨g2, 0, none⟩, v.fields.length, qc⟩, rfl, .inr (.inr ⟨Hk.out, k, hkl, Hp.out, by rw [HO.out.2.2.2]⟩), ⟨?_, xss.set k (cellsF (f.1, x) px qx), ⟨?_, hr6.2.1, ?_, ?_⟩, ?_⟩, ?_⟩
        · exact H2.out.1.1.map (fun j hj hl => ⟨by rcases hj.1 with h | h; exact .inl h; exact .inr (by omega), (hfar2 j hj.1).trans ((far5 (hSS j hj)).trans (H4.out.2.1.block j hl))⟩)
        · exact hr6.1.trans (by show _ = (v.fields.set k (f.1, x)).length; rw [List.length_set])
        · refine own_put (w := (((((w4.setCell ⟨g2, k * 6 + 1, none⟩ (.int .i64 x.kind)).setCell ⟨g2, k * 6 + 2, none⟩ (.int .i64 x.int)).setCell ⟨g2, k * 6 + 3, none⟩ (.string x.text)).setCell ⟨g2, k * 6 + 4, none⟩ (.slice px.a px.n px.c)).setCell ⟨g2, k * 6 + 5, none⟩ (.slice qx.a qx.n qx.c))) (by
            show World.ownsRow _ 0 _ 6 _ (v.fields.set k (f.1, x)).length _
            rw [List.length_set]
            exact hr6.2.2.1) (fun j e => ?_)
          obtain rfl : g2 = j := by injection e
          exact hfar2 _ (.inr hg3)
        · intro j e
          obtain rfl : g2 = j := by injection e
          exact .inr (by omega)
        · intro i y zs hy hzs
          obtain ⟨ys, rfl, hl⟩ := ha6 i y zs hy hzs
          exact ⟨ys, rfl, Lies.map (fun j hj hl => ⟨by rcases hj.1 with h | h; exact .inl h; exact .inr (by omega), hfar2 j hj.1⟩) _ _ hl⟩
        · exact below5 (below5 (H2.out.2.1.trans (H4.out.2.1.mono H2.out.2.1.size)) (show W.heap.size ≤ g2 by omega) _ _ _ _ _ _ _ _ _ _) (show W.heap.size ≤ W.heap.size + 2 by omega) _ _ _ _ _ _ _ _ _ _
  · have hkb : (v.kind != 5) = true := by simpa using hk
    have Hk := Lib.hid hk
    clear hk
    go_wp2_with fail
    have hbl : Below W.heap.size W ((((((((((w1.setCell ⟨W.heap.size, 0, none⟩ (.int .i64 v.kind)).setCell ⟨W.heap.size, 1, none⟩ (.int .i64 v.int)).setCell ⟨W.heap.size, 2, none⟩ (.string v.text)).setCell ⟨W.heap.size, 3, none⟩ (.slice p.a p.n p.c)).setCell ⟨W.heap.size, 4, none⟩ (.slice qa v.fields.length qc)).setCell ⟨W.heap.size + 2, 0, none⟩ (.int .i64 v.kind)).setCell ⟨W.heap.size + 2, 1, none⟩ (.int .i64 v.int)).setCell ⟨W.heap.size + 2, 2, none⟩ (.string v.text)).setCell ⟨W.heap.size + 2, 3, none⟩ (.slice p.a p.n p.c)).setCell ⟨W.heap.size + 2, 4, none⟩ (.slice qa v.fields.length qc)) := below5 (below5 H1.out.2.1 (Nat.le_refl _) _ _ _ _ _ _ _ _ _ _) (show W.heap.size ≤ W.heap.size + 2 by omega) _ _ _ _ _ _ _ _ _ _
    refine bodyPost_ret (results_cell_row rfl _ _ (W.heap.size + 2) 27 _ (0, 0) _ rfl (set5 _ _ _ _ _ ((far5 (show W.heap.size + 2 ≠ W.heap.size by omega)).trans H1.out.2.2.2.2)) Tryd.underlying27 rfl size_V) rfl ?_
    exact ⟨v, p, ⟨qa, v.fields.length, qc⟩, rfl, .inl ⟨Hk.out, rfl⟩, H1.out.1.hv.map (fun k hk hl => ⟨by rcases hk with hk | hk; exact .inl hk; exact .inr (by omega), (far5 (show k ≠ W.heap.size + 2 by rcases hk with hk | hk; have := H.out.2.2.2 k hk; omega; omega)).trans (far5 (show k ≠ W.heap.size by rcases hk with hk | hk; have := H.out.2.2.2 k hk; omega; omega))⟩), hbl⟩
end Go.Proofs.YteocenjneoclbaaDoor.tre

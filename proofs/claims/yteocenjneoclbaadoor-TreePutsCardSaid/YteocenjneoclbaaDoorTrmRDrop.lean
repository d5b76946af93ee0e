/- Layer 4: the document's own Drop. Layer 4: the document's own Put. -/
import Derived.Deep.Onto
import Derived.Test.YteocenjneoclbaaDoorTrmEq
import Derived.Test.YteocenjneoclbaaDoorTrmRMake
namespace Go.Proofs.YteocenjneoclbaaDoor.tre
open Go.RowKit Go.Shelf

/-- A field with the two slices of its value. -/
structure FS where
  g : ByteArray × V
  r : Sl
  t : Sl
def cellsK (ks : List FS) : List Value := (ks.map fun k => cellsF k.g k.r k.t).flatten
theorem cellsK_snoc (ks : List FS) (k : FS) : cellsK (ks ++ [k]) = cellsK ks ++ cellsF k.g k.r k.t := by
  unfold cellsK; simp
/-- What was appended, field by field, is a row of fields. -/
theorem rowK {S S' : Nat → Prop} {W w : World} {B : Nat} {sl : Sl} {ks : List FS} (hr : w.ownsRow B 31 6 (.slice sl.a sl.n sl.c) ks.length (cellsK ks)) (hv : ∀ k ∈ ks, HV S W k.g.2 k.r k.t)
    (hS : ∀ g, B ≤ g → S' g) (hk : ∀ g, S g → g < W.heap.size → S' g ∧ w.heap[g]? = W.heap[g]?) : RowF S' w (ks.map (·.g)) sl := by
  refine ⟨ks.map fun k => cellsF k.g k.r k.t, ⟨by simp, fun xs hx => ?_, ?_, fun g hg => hS g (hr.lt g hg).1⟩, fun i x y hx hy => ?_⟩
  · obtain ⟨k, _, rfl⟩ := List.mem_map.1 hx; rfl
  · rw [List.length_map]
    exact World.ownsRow.mono hr (Nat.zero_le _)
  · rw [List.getElem?_map, Option.map_eq_some_iff] at hx hy
    obtain ⟨k, hk1, rfl⟩ := hx
    obtain ⟨k', hk2, rfl⟩ := hy
    rw [hk1] at hk2
    injection hk2 with e
    subst e
    exact ⟨_, rfl, ((hv k (List.mem_of_getElem? hk1)).map hk).lies⟩
def dropV (v : V) (key : ByteArray) : V := if v.kind = 5 then .mk v.kind v.int v.text v.list (v.fields.filter fun g => !(g.1.toList == key.toList)) else v

set_option maxRecDepth 100000 in
set_option maxHeartbeats 4000000 in
theorem rDrop_any (v : V) (key : ByteArray) (hn : v.fields.length ≤ 100000) (S : Nat → Prop) (W : World) (r t : Sl) (hS : ∀ g, S g → g < W.heap.size) (hh : HV S W v r t) :
    Calls Tryd.prog 26 #[.agg #[.int .i64 v.kind, .int .i64 v.int, .string v.text, .slice r.a r.n r.c, .slice t.a t.n t.c], .string key] W fun e w' =>
      ∃ q : Sl, e = .returned (.agg #[.int .i64 v.kind, .int .i64 v.int, .string v.text, .slice r.a r.n r.c, .slice q.a q.n q.c]) ∧ HV (fun g => S g ∨ W.heap.size ≤ g) w' (dropV v key) r q ∧ Below W.heap.size W w' := by
  obtain ⟨i0, hi0, hz0, hz1, hz2⟩ := info_of info_F
  obtain ⟨ta, tn, tc⟩ := t
  obtain rfl : tn = v.fields.length := hh.2.len
  have hb1 : ∀ o1 o2, Below W.heap.size W ((W.alloc o1).alloc o2) := fun o1 o2 => ((Below.refl _ _).alloc (Nat.le_refl _) o1).alloc (by rw [size_alloc]; omega) o2
  have hx1 : ∀ o1 o2, ((W.alloc o1).alloc o2).heap[W.heap.size]? = some o1 ∧ ((W.alloc o1).alloc o2).heap[W.heap.size + 1]? = some o2 := fun o1 o2 => by
    have h1 := block_new W o1
    have h2 := block_new (W.alloc o1) o2
    rw [size_alloc] at h2
    exact ⟨by rw [block_old (by rw [size_alloc]; omega)]; exact h1, h2⟩
  have H := Lib.hid (And.intro hb1 (And.intro hx1 (And.intro hh hS)))
  clear hb1 hx1 hh hS
  by_cases hk5 : v.kind = 5
  · have k5a : (v.kind != 5) = false := by simp [hk5]
    have Hd := Lib.hid (show dropV v key = .mk v.kind v.int v.text v.list (v.fields.filter fun g => !(g.1.toList == key.toList)) from if_pos hk5)
    clear hk5
    go_enter Tryd.func26, Tryd.ntmps26
    go_wp2
    go_loopg [5, 6] v.fields.length (fun gg s5 s6 wr => ∃ (i : Nat) (sl : Sl) (ks : List FS), i ≤ v.fields.length ∧ v.fields.length - i ≤ gg ∧ ks.length ≤ i ∧ s5 = .slice sl.a sl.n sl.c ∧ s6 = .int .i64 i ∧
      Hid (ks.map (·.g) = (v.fields.take i).filter (fun g => !(g.1.toList == key.toList)) ∧ (∀ k ∈ ks, HV S W k.g.2 k.r k.t) ∧
        wr.ownsRow (W.heap.size + 2) 31 6 (.slice sl.a sl.n sl.c) ks.length (cellsK ks) ∧
        Below (W.heap.size + 2) ((W.alloc (.cells #[.int .i64 v.kind, .int .i64 v.int, .string v.text, .slice r.a r.n r.c, .slice ta v.fields.length tc] 27)).alloc (.cells #[.int .i64 0, .int .i64 0, .string ⟨#[]⟩, .slice none 0 0, .slice none 0 0] 27)) wr))
    case atStart => exact ⟨0, ⟨none, 0, 0⟩, [], Nat.zero_le _, by omega, Nat.le_refl _, rfl, rfl, rfl, by simp, World.ownsRow_nil _ _ _ _, Below.refl _ _⟩
    case round =>
      obtain ⟨i, ⟨sa, sn, sc⟩, ks, hil, hgg, hki, rfl, rfl, HH⟩ := hrel
      simp only at HH
      have HB := Lib.hid ((H.out.1 _ _).trans (HH.out.2.2.2.mono (by omega)))
      have e1 := (HH.out.2.2.2.block W.heap.size (by omega)).trans (H.out.2.1 _ _).1
      have e2 := (HH.out.2.2.2.block (W.heap.size + 1) (by omega)).trans (H.out.2.1 _ _).2
      have hsz : W.heap.size + 2 ≤ wr.heap.size := by have := HH.out.2.2.2.size; rw [size_alloc, size_alloc] at this; exact this
      have b0 : wr.cell? ⟨W.heap.size, 0, none⟩ = some (.int .i64 v.kind) := by rw [blk_cell e1]; rfl
      have b1 : wr.cell? ⟨W.heap.size, 1, none⟩ = some (.int .i64 v.int) := by rw [blk_cell e1]; rfl
      have b2 : wr.cell? ⟨W.heap.size, 2, none⟩ = some (.string v.text) := by rw [blk_cell e1]; rfl
      have b3 : wr.cell? ⟨W.heap.size, 3, none⟩ = some (.slice r.a r.n r.c) := by rw [blk_cell e1]; rfl
      have b4 : wr.cell? ⟨W.heap.size, 4, none⟩ = some (.slice ta v.fields.length tc) := by rw [blk_cell e1]; rfl
      by_cases hlt : i < v.fields.length
      · have hltz : (i : Int) < (v.fields.length : Int) := by omega
        obtain ⟨g1, r', t', ha, hgl, _, hc, hhx⟩ := H.out.2.2.1.2.at hlt
        have htk := List.take_succ_eq_append_getElem hlt
        simp only at ha
        subst ha
        generalize v.fields[i] = x at hc hhx htk
        have hc2 : ∀ j u, (cellsF x r' t')[j]? = some u → wr.cell? ⟨g1, i * 6 + j, none⟩ = some u := fun j u hu => (HB.out.cell (p := ⟨g1, i * 6 + j, none⟩) (by exact hgl)).trans (hc j u hu)
        have c0 : wr.cell? ⟨g1, i * 6, none⟩ = some (.string x.1) := hc2 0 _ rfl
        have c1 : wr.cell? ⟨g1, i * 6 + 1, none⟩ = some (.int .i64 x.2.kind) := hc2 1 _ rfl
        have c2 : wr.cell? ⟨g1, i * 6 + 2, none⟩ = some (.int .i64 x.2.int) := hc2 2 _ rfl
        have c3 : wr.cell? ⟨g1, i * 6 + 3, none⟩ = some (.string x.2.text) := hc2 3 _ rfl
        have c4 : wr.cell? ⟨g1, i * 6 + 4, none⟩ = some (.slice r'.a r'.n r'.c) := hc2 4 _ rfl
        have c5 : wr.cell? ⟨g1, i * 6 + 5, none⟩ = some (.slice t'.a t'.n t'.c) := hc2 5 _ rfl
        have Hx := Lib.hid (And.intro htk hhx)
        clear hc hc2 hhx htk e1 e2
        cases hk : (x.1.toList == key.toList) with
        | true =>
          have Hk := Lib.hid hk
          clear b0 b1 b2 b3 c1 c2 c3 c4 c5
          go_wp2
          go_roundg (v.fields.length - (i + 1))
          case measure => omega
          case rel =>
            refine ⟨i + 1, ⟨sa, sn, sc⟩, ks, by omega, by omega, by omega, rfl, by go_num, ?_, HH.out.2⟩
            rw [Hx.out.1, List.filter_append, HH.out.1]; simp [Hk.out]
        | false =>
          have Hk := Lib.hid hk
          have hownA := fun o1 => HH.out.2.2.1.alloc o1
          have Hnews := Lib.hid (World.news_of_block (w := (wr.alloc (.cells #[.string x.1, .int .i64 x.2.kind, .int .i64 x.2.int, .string x.2.text, .slice r'.a r'.n r'.c, .slice t'.a t'.n t'.c] 31))) (B := wr.heap.size) (block_new wr (.cells #[.string x.1, .int .i64 x.2.kind, .int .i64 x.2.int, .string x.2.text, .slice r'.a r'.n r'.c, .slice t'.a t'.n t'.c] 31)))
          clear b0 b1 b2 b3
          go_wp2_with (at_builtin; refine wpList_append_own_at _ rfl _ _ 25 rfl (W.heap.size + 2) 31 i0 _ 6 96 Tryd.underlying25 hi0 hz0 hz1 hz2 rfl (by decide) _ _ _ rfl (hownA _) _ 1 1 [.string x.1, .int .i64 x.2.kind, .int .i64 x.2.int, .string x.2.text, .slice r'.a r'.n r'.c, .slice t'.a t'.n t'.c] rfl rfl Hnews.out (by simp [Value.oneCell']) (by unfold maxLen; omega) (by omega) (by simp; omega) ?_; intro v' w1 hown1 hgrow1 _ _; obtain ⟨g', cap', rfl, _, _⟩ := hown1.form (by omega))
          go_roundg (v.fields.length - (i + 1))
          case measure => omega
          case rel =>
            refine ⟨i + 1, ⟨some ⟨g', 0, none⟩, ks.length + 1, cap'⟩, ks ++ [⟨x, r', t'⟩], by omega, by omega, by simp; omega, rfl, by go_num, ?_, ?_, ?_, ?_⟩
            · rw [Hx.out.1, List.filter_append, List.map_append, HH.out.1]; simp [Hk.out]
            · intro k hk
              rcases List.mem_append.1 hk with hk | hk
              · exact HH.out.2.1 k hk
              · obtain rfl := List.mem_singleton.1 hk
                exact Hx.out.2
            · rw [cellsK_snoc, List.length_append]
              exact hown1
            · exact (HH.out.2.2.2.alloc hsz _).grown hgrow1 (by rw [size_alloc]; omega) (fun k e => (HH.out.2.2.1.lt k e).1)
      · obtain rfl : i = v.fields.length := by omega
        have f0 := blk_frozen e1 4
        have g0 := blk_frozen e2 0
        have g1 := blk_frozen e2 1
        have g2 := blk_frozen e2 2
        have g3 := blk_frozen e2 3
        have g4 := blk_frozen e2 4
        have d0 : wr.cell? ⟨W.heap.size + 1, 0, none⟩ = some (.int .i64 0) := by rw [blk_cell e2]; rfl
        have d1 : wr.cell? ⟨W.heap.size + 1, 1, none⟩ = some (.int .i64 0) := by rw [blk_cell e2]; rfl
        have d2 : wr.cell? ⟨W.heap.size + 1, 2, none⟩ = some (.string ⟨#[]⟩) := by rw [blk_cell e2]; rfl
        have d3 : wr.cell? ⟨W.heap.size + 1, 3, none⟩ = some (.slice none 0 0) := by rw [blk_cell e2]; rfl
        have d4 : wr.cell? ⟨W.heap.size + 1, 4, none⟩ = some (.slice none 0 0) := by rw [blk_cell e2]; rfl
        have He := Lib.hid (And.intro e1 e2)
        clear e1 e2
        go_wp2
        have hx5 := set5 (.int .i64 v.kind) (.int .i64 v.int) (.string v.text) (.slice r.a r.n r.c) (.slice sa sn sc) ((blk_far (w := wr) (a := ⟨W.heap.size, 4, none⟩) (u := .slice sa sn sc) (k := W.heap.size + 1) (by show ¬ W.heap.size + 1 = W.heap.size; omega)).trans He.out.2)
        refine bodyPost_ret (results_cell_row rfl _ _ (W.heap.size + 1) 27 _ (0, 0) _ rfl hx5 Tryd.underlying27 rfl size_V) rfl ?_
        have hfar : ∀ k, k ≠ W.heap.size → k ≠ W.heap.size + 1 → ((((((wr.setCell ⟨W.heap.size, 4, none⟩ (.slice sa sn sc)).setCell ⟨W.heap.size + 1, 0, none⟩ (.int .i64 v.kind)).setCell ⟨W.heap.size + 1, 1, none⟩ (.int .i64 v.int)).setCell ⟨W.heap.size + 1, 2, none⟩ (.string v.text)).setCell ⟨W.heap.size + 1, 3, none⟩ (.slice r.a r.n r.c)).setCell ⟨W.heap.size + 1, 4, none⟩ (.slice sa sn sc)).heap[k]? = wr.heap[k]? := fun k h1 h2 => (far5 h2).trans (blk_far h1)
        have hbe := below5 (HB.out.setCell (p := ⟨W.heap.size, 4, none⟩) (Nat.le_refl _) (.slice sa sn sc)) (Nat.le_succ W.heap.size) 0 1 2 3 4 (.int .i64 v.kind) (.int .i64 v.int) (.string v.text) (.slice r.a r.n r.c) (.slice sa sn sc)
        refine ⟨⟨sa, sn, sc⟩, rfl, ?_, hbe⟩
        rw [Hd.out]
        refine ⟨H.out.2.2.1.1.map (fun k hk hl => ⟨.inl hk, hbe.block k hl⟩), ?_⟩
        have hrow := rowK (sl := ⟨sa, sn, sc⟩) (B := W.heap.size + 2) (S' := fun g => S g ∨ W.heap.size + 2 ≤ g) (W := W) (w := wr) HH.out.2.2.1 HH.out.2.1 (fun g hg => .inr hg) (fun g hg hl => ⟨.inl hg, HB.out.block g hl⟩)
        rw [HH.out.1, List.take_length] at hrow
        refine hrow.map (fun k hk hl => ?_)
        rcases hk with hk | hk
        · have := H.out.2.2.2 k hk
          exact ⟨.inl hk, hfar k (by omega) (by omega)⟩
        · exact ⟨.inr (by omega), hfar k (by omega) (by omega)⟩
  · have k5a : (v.kind != 5) = true := by simp [hk5]
    have Hd := Lib.hid (show dropV v key = v from if_neg hk5)
    clear hk5
    go_enter Tryd.func26, Tryd.ntmps26
    go_wp2
    refine bodyPost_ret (results_cell_row rfl _ _ (W.heap.size + 1) 27 _ (0, 0) _ rfl (H.out.2.1 _ _).2 Tryd.underlying27 rfl size_V) rfl ?_
    rw [Hd.out]
    exact ⟨⟨ta, v.fields.length, tc⟩, rfl, H.out.2.2.1.map (fun k hk hl => ⟨.inl hk, (H.out.1 _ _).block k hl⟩), H.out.1 _ _⟩
end Go.Proofs.YteocenjneoclbaaDoor.tre
namespace Go.Proofs.YteocenjneoclbaaDoor.tre
open Go.RowKit Go.Shelf

def putF (key : ByteArray) (x : V) (g : ByteArray × V) : ByteArray × V := if (g.1.toList == key.toList) = true then (g.1, x) else g
def putL (key : ByteArray) (x : V) (l : List (ByteArray × V)) : List (ByteArray × V) := if (l.any fun g => g.1.toList == key.toList) = true then l.map (putF key x) else l.map (putF key x) ++ [(key, x)]
def putV (v : V) (key : ByteArray) (x : V) : V := if v.kind = 5 then .mk v.kind v.int v.text v.list (putL key x v.fields) else v
theorem block_new3 (W : World) (o1 o2 o3 : Obj) : (((W.alloc o1).alloc o2).alloc o3).heap[W.heap.size]? = some o1 ∧ (((W.alloc o1).alloc o2).alloc o3).heap[W.heap.size + 1]? = some o2 ∧ (((W.alloc o1).alloc o2).alloc o3).heap[W.heap.size + 2]? = some o3 := by
  have h1 := block_new W o1
  have h2 := block_new (W.alloc o1) o2
  have h3 := block_new ((W.alloc o1).alloc o2) o3
  simp only [size_alloc] at h2 h3
  refine ⟨?_, ?_, h3⟩
  · rw [block_old (by simp only [size_alloc]; omega), block_old (by simp only [size_alloc]; omega)]; exact h1
  · rw [block_old (by simp only [size_alloc]; omega)]; exact h2

set_option maxRecDepth 100000 in
set_option maxHeartbeats 4000000 in
/-- The last part: what was gathered is put into the box, and the box is told. -/
theorem put_end (v : V) (r : Sl) (S : Nat → Prop) (W wf : World) (sl : Sl) (ks : List FS) (hS : ∀ g, S g → g < W.heap.size) (hl : RowV S W v.list r) (hv : ∀ k ∈ ks, HV S W k.g.2 k.r k.t)
    (hr : wf.ownsRow (W.heap.size + 3) 31 6 (.slice sl.a sl.n sl.c) ks.length (cellsK ks)) (hb : Below W.heap.size W wf) (L : List (ByteArray × V)) (hL : ks.map (·.g) = L) :
    HV (fun g => S g ∨ W.heap.size ≤ g) ((((((wf.setCell ⟨W.heap.size, 4, none⟩ (.slice sl.a sl.n sl.c)).setCell ⟨W.heap.size + 2, 0, none⟩ (.int .i64 v.kind)).setCell ⟨W.heap.size + 2, 1, none⟩ (.int .i64 v.int)).setCell ⟨W.heap.size + 2, 2, none⟩ (.string v.text)).setCell ⟨W.heap.size + 2, 3, none⟩ (.slice r.a r.n r.c)).setCell ⟨W.heap.size + 2, 4, none⟩ (.slice sl.a sl.n sl.c)) (.mk v.kind v.int v.text v.list L) r sl ∧
      Below W.heap.size W ((((((wf.setCell ⟨W.heap.size, 4, none⟩ (.slice sl.a sl.n sl.c)).setCell ⟨W.heap.size + 2, 0, none⟩ (.int .i64 v.kind)).setCell ⟨W.heap.size + 2, 1, none⟩ (.int .i64 v.int)).setCell ⟨W.heap.size + 2, 2, none⟩ (.string v.text)).setCell ⟨W.heap.size + 2, 3, none⟩ (.slice r.a r.n r.c)).setCell ⟨W.heap.size + 2, 4, none⟩ (.slice sl.a sl.n sl.c)) := by
  have hfar : ∀ k, k ≠ W.heap.size → k ≠ W.heap.size + 2 → ((((((wf.setCell ⟨W.heap.size, 4, none⟩ (.slice sl.a sl.n sl.c)).setCell ⟨W.heap.size + 2, 0, none⟩ (.int .i64 v.kind)).setCell ⟨W.heap.size + 2, 1, none⟩ (.int .i64 v.int)).setCell ⟨W.heap.size + 2, 2, none⟩ (.string v.text)).setCell ⟨W.heap.size + 2, 3, none⟩ (.slice r.a r.n r.c)).setCell ⟨W.heap.size + 2, 4, none⟩ (.slice sl.a sl.n sl.c)).heap[k]? = wf.heap[k]? := fun k h1 h2 => (far5 h2).trans (blk_far h1)
  have hbe := below5 (hb.setCell (p := ⟨W.heap.size, 4, none⟩) (Nat.le_refl _) (.slice sl.a sl.n sl.c)) (show W.heap.size ≤ W.heap.size + 2 by omega) 0 1 2 3 4 (.int .i64 v.kind) (.int .i64 v.int) (.string v.text) (.slice r.a r.n r.c) (.slice sl.a sl.n sl.c)
  refine ⟨⟨hl.map (fun k hk hl => ⟨.inl hk, hbe.block k hl⟩), ?_⟩, hbe⟩
  have hrow := rowK (sl := sl) (B := W.heap.size + 3) (S' := fun g => S g ∨ W.heap.size + 3 ≤ g) (W := W) (w := wf) hr hv (fun g hg => .inr hg) (fun g hg hl => ⟨.inl hg, hb.block g hl⟩)
  rw [hL] at hrow
  refine hrow.map (fun k hk hl => ?_)
  rcases hk with hk | hk
  · have := hS k hk
    exact ⟨.inl hk, hfar k (by omega) (by omega)⟩
  · exact ⟨.inr (by omega), hfar k (by omega) (by omega)⟩

set_option maxRecDepth 100000 in
set_option maxHeartbeats 4000000 in
theorem rPut_any (v : V) (key : ByteArray) (x : V) (hn : v.fields.length ≤ 100000) (S : Nat → Prop) (W : World) (r t rx tx : Sl) (hS : ∀ g, S g → g < W.heap.size) (hh : HV S W v r t) (hx : HV S W x rx tx) :
    Calls Tryd.prog 24 #[.agg #[.int .i64 v.kind, .int .i64 v.int, .string v.text, .slice r.a r.n r.c, .slice t.a t.n t.c], .string key, .agg #[.int .i64 x.kind, .int .i64 x.int, .string x.text, .slice rx.a rx.n rx.c, .slice tx.a tx.n tx.c]] W fun e w' =>
      ∃ q : Sl, e = .returned (.agg #[.int .i64 v.kind, .int .i64 v.int, .string v.text, .slice r.a r.n r.c, .slice q.a q.n q.c]) ∧ HV (fun g => S g ∨ W.heap.size ≤ g) w' (putV v key x) r q ∧ Below W.heap.size W w' := by
  obtain ⟨i0, hi0, hz0, hz1, hz2⟩ := info_of info_F
  obtain ⟨ta, tn, tc⟩ := t
  obtain rfl : tn = v.fields.length := hh.2.len
  have hb1 : ∀ o1 o2 o3, Below W.heap.size W (((W.alloc o1).alloc o2).alloc o3) := fun o1 o2 o3 => (((Below.refl _ _).alloc (Nat.le_refl _) o1).alloc (by rw [size_alloc]; omega) o2).alloc (by rw [size_alloc, size_alloc]; omega) o3
  have H := Lib.hid (And.intro hb1 (And.intro (block_new3 W) (And.intro hh (And.intro hS hx))))
  clear hb1 hh hS hx
  by_cases hk5 : v.kind = 5
  · have k5a : (v.kind != 5) = false := by simp [hk5]
    have Hd := Lib.hid (show putV v key x = .mk v.kind v.int v.text v.list (putL key x v.fields) from if_pos hk5)
    clear hk5
    go_enter Tryd.func24, Tryd.ntmps24
    go_wp2
    go_loopg [7, 8, 9] v.fields.length (fun gg s7 s8 s9 wr => ∃ (i : Nat) (sl : Sl) (ks : List FS) (th : Bool), i ≤ v.fields.length ∧ v.fields.length - i ≤ gg ∧ ks.length ≤ i ∧ s7 = .slice sl.a sl.n sl.c ∧ s8 = .bool th ∧ s9 = .int .i64 i ∧
      Hid (ks.map (·.g) = (v.fields.take i).map (putF key x) ∧ (∀ k ∈ ks, HV S W k.g.2 k.r k.t) ∧ ((v.fields.take i).any fun g => g.1.toList == key.toList) = th ∧
        wr.ownsRow (W.heap.size + 3) 31 6 (.slice sl.a sl.n sl.c) ks.length (cellsK ks) ∧ Below (W.heap.size + 3) (((W.alloc (.cells #[.int .i64 v.kind, .int .i64 v.int, .string v.text, .slice r.a r.n r.c, .slice ta v.fields.length tc] 27)).alloc (.cells #[.int .i64 x.kind, .int .i64 x.int, .string x.text, .slice rx.a rx.n rx.c, .slice tx.a tx.n tx.c] 27)).alloc (.cells #[.int .i64 0, .int .i64 0, .string ⟨#[]⟩, .slice none 0 0, .slice none 0 0] 27)) wr))
    case atStart => exact ⟨0, ⟨none, 0, 0⟩, [], false, Nat.zero_le _, by omega, Nat.le_refl _, rfl, rfl, rfl, rfl, by simp, rfl, World.ownsRow_nil _ _ _ _, Below.refl _ _⟩
    case round =>
      obtain ⟨i, ⟨sa, sn, sc⟩, ks, th, hil, hgg, hki, rfl, rfl, rfl, HH⟩ := hrel
      simp only at HH
      have HB := Lib.hid ((H.out.1 _ _ _).trans (HH.out.2.2.2.2.mono (by omega)))
      have e1 := (HH.out.2.2.2.2.block W.heap.size (by omega)).trans (H.out.2.1 _ _ _).1
      have e2 := (HH.out.2.2.2.2.block (W.heap.size + 1) (by omega)).trans (H.out.2.1 _ _ _).2.1
      have e3 := (HH.out.2.2.2.2.block (W.heap.size + 2) (by omega)).trans (H.out.2.1 _ _ _).2.2
      have hsz : W.heap.size + 3 ≤ wr.heap.size := by have := HH.out.2.2.2.2.size; rw [size_alloc, size_alloc, size_alloc] at this; exact this
      have b0 : wr.cell? ⟨W.heap.size, 0, none⟩ = some (.int .i64 v.kind) := by rw [blk_cell e1]; rfl
      have b1 : wr.cell? ⟨W.heap.size, 1, none⟩ = some (.int .i64 v.int) := by rw [blk_cell e1]; rfl
      have b2 : wr.cell? ⟨W.heap.size, 2, none⟩ = some (.string v.text) := by rw [blk_cell e1]; rfl
      have b3 : wr.cell? ⟨W.heap.size, 3, none⟩ = some (.slice r.a r.n r.c) := by rw [blk_cell e1]; rfl
      have b4 : wr.cell? ⟨W.heap.size, 4, none⟩ = some (.slice ta v.fields.length tc) := by rw [blk_cell e1]; rfl
      have x0 : wr.cell? ⟨W.heap.size + 1, 0, none⟩ = some (.int .i64 x.kind) := by rw [blk_cell e2]; rfl
      have x1 : wr.cell? ⟨W.heap.size + 1, 1, none⟩ = some (.int .i64 x.int) := by rw [blk_cell e2]; rfl
      have x2 : wr.cell? ⟨W.heap.size + 1, 2, none⟩ = some (.string x.text) := by rw [blk_cell e2]; rfl
      have x3 : wr.cell? ⟨W.heap.size + 1, 3, none⟩ = some (.slice rx.a rx.n rx.c) := by rw [blk_cell e2]; rfl
      have x4 : wr.cell? ⟨W.heap.size + 1, 4, none⟩ = some (.slice tx.a tx.n tx.c) := by rw [blk_cell e2]; rfl
      have l1 : W.heap.size < wr.heap.size := by omega
      have l2 : W.heap.size + 1 < wr.heap.size := by omega
      have l3 : W.heap.size + 2 < wr.heap.size := by omega
      by_cases hlt : i < v.fields.length
      · have hltz : (i : Int) < (v.fields.length : Int) := by omega
        obtain ⟨g1, r', t', ha, hgl, _, hc, hhx⟩ := H.out.2.2.1.2.at hlt
        have htk := List.take_succ_eq_append_getElem hlt
        simp only at ha
        subst ha
        generalize v.fields[i] = y at hc hhx htk
        have hc2 : ∀ j u, (cellsF y r' t')[j]? = some u → wr.cell? ⟨g1, i * 6 + j, none⟩ = some u := fun j u hu => (HB.out.cell (p := ⟨g1, i * 6 + j, none⟩) (by exact hgl)).trans (hc j u hu)
        have c0 : wr.cell? ⟨g1, i * 6, none⟩ = some (.string y.1) := hc2 0 _ rfl
        have c1 : wr.cell? ⟨g1, i * 6 + 1, none⟩ = some (.int .i64 y.2.kind) := hc2 1 _ rfl
        have c2 : wr.cell? ⟨g1, i * 6 + 2, none⟩ = some (.int .i64 y.2.int) := hc2 2 _ rfl
        have c3 : wr.cell? ⟨g1, i * 6 + 3, none⟩ = some (.string y.2.text) := hc2 3 _ rfl
        have c4 : wr.cell? ⟨g1, i * 6 + 4, none⟩ = some (.slice r'.a r'.n r'.c) := hc2 4 _ rfl
        have c5 : wr.cell? ⟨g1, i * 6 + 5, none⟩ = some (.slice t'.a t'.n t'.c) := hc2 5 _ rfl
        have Hx := Lib.hid (And.intro htk hhx)
        clear hc hc2 hhx htk e1 e2 e3
        cases hk : (y.1.toList == key.toList) with
        | true =>
          have hownA := fun o1 o2 => (HH.out.2.2.2.1.alloc o1).alloc o2
          have Hnews := Lib.hid (World.news_of_block (w := ((wr.alloc (.cells #[.string y.1, .int .i64 x.kind, .int .i64 x.int, .string x.text, .slice rx.a rx.n rx.c, .slice tx.a tx.n tx.c] 31)).alloc (.cells #[.string y.1, .int .i64 x.kind, .int .i64 x.int, .string x.text, .slice rx.a rx.n rx.c, .slice tx.a tx.n tx.c] 31))) (B := wr.heap.size + 1) (by
            have := block_new (wr.alloc (.cells #[.string y.1, .int .i64 x.kind, .int .i64 x.int, .string x.text, .slice rx.a rx.n rx.c, .slice tx.a tx.n tx.c] 31)) (.cells #[.string y.1, .int .i64 x.kind, .int .i64 x.int, .string x.text, .slice rx.a rx.n rx.c, .slice tx.a tx.n tx.c] 31)
            rw [size_alloc] at this
            exact this))
          have Hk := Lib.hid hk
          clear b0 b1 b2 b3
          go_wp2_with (at_builtin; refine wpList_append_own_at _ rfl _ _ 25 rfl (W.heap.size + 3) 31 i0 _ 6 96 Tryd.underlying25 hi0 hz0 hz1 hz2 rfl (by decide) _ _ _ rfl (hownA _ _) _ 1 1 [.string y.1, .int .i64 x.kind, .int .i64 x.int, .string x.text, .slice rx.a rx.n rx.c, .slice tx.a tx.n tx.c] rfl rfl Hnews.out (by simp [Value.oneCell']) (by unfold maxLen; omega) (by omega) (by simp; omega) ?_; intro v' w1 hown1 hgrow1 _ _; obtain ⟨g', cap', rfl, _, _⟩ := hown1.form (by omega))
          go_roundg (v.fields.length - (i + 1))
          case measure => omega
          case rel =>
            refine ⟨i + 1, ⟨some ⟨g', 0, none⟩, ks.length + 1, cap'⟩, ks ++ [⟨(y.1, x), rx, tx⟩], true, by omega, by omega, by simp; omega, rfl, rfl, by go_num, ?_, ?_, ?_, ?_, ?_⟩
            · rw [Hx.out.1, List.map_append, List.map_append, HH.out.1]; simp [putF, Hk.out]
            · intro k hk
              rcases List.mem_append.1 hk with hk | hk
              · exact HH.out.2.1 k hk
              · obtain rfl := List.mem_singleton.1 hk
                exact H.out.2.2.2.2
            · rw [Hx.out.1, List.any_append, HH.out.2.2.1]; simp [Hk.out]
            · rw [cellsK_snoc, List.length_append]
              exact hown1
            · exact ((HH.out.2.2.2.2.alloc hsz _).alloc (by rw [size_alloc]; omega) _).grown hgrow1 (by rw [size_alloc, size_alloc]; omega) (fun k e => (HH.out.2.2.2.1.lt k e).1)
        | false =>
          have hownA := fun o1 o2 => (HH.out.2.2.2.1.alloc o1).alloc o2
          have Hnews := Lib.hid (World.news_of_block (w := ((wr.alloc (.cells #[.string y.1, .int .i64 y.2.kind, .int .i64 y.2.int, .string y.2.text, .slice r'.a r'.n r'.c, .slice t'.a t'.n t'.c] 31)).alloc (.cells #[.string y.1, .int .i64 y.2.kind, .int .i64 y.2.int, .string y.2.text, .slice r'.a r'.n r'.c, .slice t'.a t'.n t'.c] 31))) (B := wr.heap.size + 1) (by
            have := block_new (wr.alloc (.cells #[.string y.1, .int .i64 y.2.kind, .int .i64 y.2.int, .string y.2.text, .slice r'.a r'.n r'.c, .slice t'.a t'.n t'.c] 31)) (.cells #[.string y.1, .int .i64 y.2.kind, .int .i64 y.2.int, .string y.2.text, .slice r'.a r'.n r'.c, .slice t'.a t'.n t'.c] 31)
            rw [size_alloc] at this
            exact this))
          have Hk := Lib.hid hk
          clear b0 b1 b2 b3
          go_wp2_with (at_builtin; refine wpList_append_own_at _ rfl _ _ 25 rfl (W.heap.size + 3) 31 i0 _ 6 96 Tryd.underlying25 hi0 hz0 hz1 hz2 rfl (by decide) _ _ _ rfl (hownA _ _) _ 1 1 [.string y.1, .int .i64 y.2.kind, .int .i64 y.2.int, .string y.2.text, .slice r'.a r'.n r'.c, .slice t'.a t'.n t'.c] rfl rfl Hnews.out (by simp [Value.oneCell']) (by unfold maxLen; omega) (by omega) (by simp; omega) ?_; intro v' w1 hown1 hgrow1 _ _; obtain ⟨g', cap', rfl, _, _⟩ := hown1.form (by omega))
          go_roundg (v.fields.length - (i + 1))
          case measure => omega
          case rel =>
            refine ⟨i + 1, ⟨some ⟨g', 0, none⟩, ks.length + 1, cap'⟩, ks ++ [⟨y, r', t'⟩], th, by omega, by omega, by simp; omega, rfl, rfl, by go_num, ?_, ?_, ?_, ?_, ?_⟩
            · rw [Hx.out.1, List.map_append, List.map_append, HH.out.1]; simp [putF, Hk.out]
            · intro k hk
              rcases List.mem_append.1 hk with hk | hk
              · exact HH.out.2.1 k hk
              · obtain rfl := List.mem_singleton.1 hk
                exact Hx.out.2
            · rw [Hx.out.1, List.any_append, HH.out.2.2.1]; simp [Hk.out]
            · rw [cellsK_snoc, List.length_append]
              exact hown1
            · exact ((HH.out.2.2.2.2.alloc hsz _).alloc (by rw [size_alloc]; omega) _).grown hgrow1 (by rw [size_alloc, size_alloc]; omega) (fun k e => (HH.out.2.2.2.1.lt k e).1)
      · obtain rfl : i = v.fields.length := by omega
        have f0 := blk_frozen e1 4
        have g0 := blk_frozen e3 0
        have g1 := blk_frozen e3 1
        have g2 := blk_frozen e3 2
        have g3 := blk_frozen e3 3
        have g4 := blk_frozen e3 4
        have d0 : wr.cell? ⟨W.heap.size + 2, 0, none⟩ = some (.int .i64 0) := by rw [blk_cell e3]; rfl
        have d1 : wr.cell? ⟨W.heap.size + 2, 1, none⟩ = some (.int .i64 0) := by rw [blk_cell e3]; rfl
        have d2 : wr.cell? ⟨W.heap.size + 2, 2, none⟩ = some (.string ⟨#[]⟩) := by rw [blk_cell e3]; rfl
        have d3 : wr.cell? ⟨W.heap.size + 2, 3, none⟩ = some (.slice none 0 0) := by rw [blk_cell e3]; rfl
        have d4 : wr.cell? ⟨W.heap.size + 2, 4, none⟩ = some (.slice none 0 0) := by rw [blk_cell e3]; rfl
        have He := Lib.hid e3
        clear e1 e2 e3
        have ht := HH.out.2.2.1
        have hm := HH.out.1
        rw [List.take_length] at ht hm
        cases th with
        | true =>
          have Hm := Lib.hid (show ks.map (·.g) = putL key x v.fields by unfold putL; rw [if_pos ht]; exact hm)
          clear ht hm
          go_wp2
          refine bodyPost_ret (results_cell_row rfl _ _ (W.heap.size + 2) 27 _ (0, 0) _ rfl (set5 _ _ _ _ _ ((blk_far (by show ¬ W.heap.size + 2 = W.heap.size; omega)).trans He.out)) Tryd.underlying27 rfl size_V) rfl ?_
          rw [Hd.out]
          exact ⟨⟨sa, sn, sc⟩, rfl, put_end v r S W wr ⟨sa, sn, sc⟩ ks H.out.2.2.2.1 H.out.2.2.1.1 HH.out.2.1 HH.out.2.2.2.1 HB.out _ Hm.out⟩
        | false =>
          have Hm := Lib.hid (show ks.map (·.g) ++ [(key, x)] = putL key x v.fields by unfold putL; rw [if_neg (by rw [ht]; exact Bool.false_ne_true), hm])
          have hownA := fun o1 => HH.out.2.2.2.1.alloc o1
          have Hnews := Lib.hid (World.news_of_block (w := (wr.alloc (.cells #[.string key, .int .i64 x.kind, .int .i64 x.int, .string x.text, .slice rx.a rx.n rx.c, .slice tx.a tx.n tx.c] 31))) (B := wr.heap.size) (block_new wr (.cells #[.string key, .int .i64 x.kind, .int .i64 x.int, .string x.text, .slice rx.a rx.n rx.c, .slice tx.a tx.n tx.c] 31)))
          clear ht hm f0 g0 g1 g2 g3 g4 d0 d1 d2 d3 d4
          go_wp2_with (at_builtin; refine wpList_append_own_at _ rfl _ _ 25 rfl (W.heap.size + 3) 31 i0 _ 6 96 Tryd.underlying25 hi0 hz0 hz1 hz2 rfl (by decide) _ _ _ rfl (hownA _) _ 1 1 [.string key, .int .i64 x.kind, .int .i64 x.int, .string x.text, .slice rx.a rx.n rx.c, .slice tx.a tx.n tx.c] rfl rfl Hnews.out (by simp [Value.oneCell']) (by unfold maxLen; omega) (by omega) (by simp; omega) ?_; intro v' w1 hown1 hgrow1 _ _; obtain ⟨g', cap', rfl, _, _⟩ := hown1.form (by omega); have hB1 := (HH.out.2.2.2.2.alloc hsz _).grown hgrow1 (by rw [size_alloc]; omega) (fun k e => (HH.out.2.2.2.1.lt k e).1); have e1 := (hB1.block W.heap.size (by omega)).trans (H.out.2.1 _ _ _).1; have e3 := (hB1.block (W.heap.size + 2) (by omega)).trans (H.out.2.1 _ _ _).2.2; have b0 : w1.cell? ⟨W.heap.size, 0, none⟩ = some (.int .i64 v.kind) := (by rw [blk_cell e1]; rfl); have b1 : w1.cell? ⟨W.heap.size, 1, none⟩ = some (.int .i64 v.int) := (by rw [blk_cell e1]; rfl); have b2 : w1.cell? ⟨W.heap.size, 2, none⟩ = some (.string v.text) := (by rw [blk_cell e1]; rfl); have b3 : w1.cell? ⟨W.heap.size, 3, none⟩ = some (.slice r.a r.n r.c) := (by rw [blk_cell e1]; rfl); have b4 : w1.cell? ⟨W.heap.size, 4, none⟩ = some (.slice ta v.fields.length tc) := (by rw [blk_cell e1]; rfl); have d0 : w1.cell? ⟨W.heap.size + 2, 0, none⟩ = some (.int .i64 0) := (by rw [blk_cell e3]; rfl); have g0 := blk_frozen e3 0; have d1 : w1.cell? ⟨W.heap.size + 2, 1, none⟩ = some (.int .i64 0) := (by rw [blk_cell e3]; rfl); have g1 := blk_frozen e3 1; have d2 : w1.cell? ⟨W.heap.size + 2, 2, none⟩ = some (.string ⟨#[]⟩) := (by rw [blk_cell e3]; rfl); have g2 := blk_frozen e3 2; have d3 : w1.cell? ⟨W.heap.size + 2, 3, none⟩ = some (.slice none 0 0) := (by rw [blk_cell e3]; rfl); have g3 := blk_frozen e3 3; have d4 : w1.cell? ⟨W.heap.size + 2, 4, none⟩ = some (.slice none 0 0) := (by rw [blk_cell e3]; rfl); have g4 := blk_frozen e3 4; have f0 := blk_frozen e1 4; have l4 : W.heap.size < w1.heap.size := (Array.getElem?_eq_some_iff.1 e1).1; have l5 : W.heap.size + 2 < w1.heap.size := (Array.getElem?_eq_some_iff.1 e3).1; have Hf := Lib.hid (And.intro hB1 (And.intro e3 hown1)); clear hB1 e1 e3)
          refine bodyPost_ret (results_cell_row rfl _ _ (W.heap.size + 2) 27 _ (0, 0) _ rfl (set5 _ _ _ _ _ ((blk_far (by show ¬ W.heap.size + 2 = W.heap.size; omega)).trans Hf.out.2.1)) Tryd.underlying27 rfl size_V) rfl ?_
          rw [Hd.out]
          exact ⟨⟨some ⟨g', 0, none⟩, ks.length + 1, cap'⟩, rfl, put_end v r S W w1 ⟨some ⟨g', 0, none⟩, ks.length + 1, cap'⟩ (ks ++ [⟨(key, x), rx, tx⟩]) H.out.2.2.2.1 H.out.2.2.1.1
            (fun k hk => by
              rcases List.mem_append.1 hk with hk | hk
              · exact HH.out.2.1 k hk
              · obtain rfl := List.mem_singleton.1 hk
                exact H.out.2.2.2.2)
            (by rw [cellsK_snoc, List.length_append]; exact Hf.out.2.2)
            ((H.out.1 _ _ _).trans (Hf.out.1.mono (by omega))) _ (by rw [List.map_append]; exact Hm.out)⟩
  · have k5a : (v.kind != 5) = true := by simp [hk5]
    have Hd := Lib.hid (show putV v key x = v from if_neg hk5)
    clear hk5
    go_enter Tryd.func24, Tryd.ntmps24
    go_wp2
    refine bodyPost_ret (results_cell_row rfl _ _ (W.heap.size + 2) 27 _ (0, 0) _ rfl (H.out.2.1 _ _ _).2.2 Tryd.underlying27 rfl size_V) rfl ?_
    rw [Hd.out]
    exact ⟨⟨ta, v.fields.length, tc⟩, rfl, H.out.2.2.1.map (fun k hk hl => ⟨.inl hk, (H.out.1 _ _ _).block k hl⟩), H.out.1 _ _ _⟩
end Go.Proofs.YteocenjneoclbaaDoor.tre

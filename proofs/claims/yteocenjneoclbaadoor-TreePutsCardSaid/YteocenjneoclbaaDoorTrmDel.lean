/- Layer 4: slices.DeleteFunc of fields, by a key. -/
import Derived.BigRegion
import Derived.Laws.CopyRow
import Derived.Test.YteocenjneoclbaaDoorTrmCopy
import Derived.Test.YteocenjneoclbaaDoorTrmSortC
namespace Go.Proofs.YteocenjneoclbaaDoor.tre
open Go.RowKit Go.Shelf

theorem ask_drop (B : Nat) (T : TypeId) (key : ByteArray) (l : List (ByteArray × V)) (s0 : Unit) : AskF (Txt B T key) (fun _ _ _ => False) l s0 51 #[.pointer (some ⟨B, 0, none⟩)] (keyP key) := by
  refine ⟨enters_of Tryd.func51 (by kernel_rfl) rfl, fun i x hx S s W r t hs hi hS hh => ?_⟩
  clear hs hS hh
  have hl := (Array.getElem?_eq_some_iff.1 hi).1
  have c0 : W.cell? ⟨B, 0, none⟩ = some (.string key) := by rw [blk_cell hi]; rfl
  have Hi := Lib.hid (fun o => Step.below (vst_txt B T key) (s := s) hi ((Below.refl _ _).alloc (Nat.le_refl _) o))
  clear hi
  go_enter Tryd.func51, Tryd.ntmps51
  go_wp2
  go_ret
  exact ⟨rfl, Hi.out _⟩
theorem drop1_any (x : El) (key : ByteArray) (B : Nat) (T : TypeId) (W : World) (hi : W.heap[B]? = some (.cells #[.string key] T (0, 0))) :
    Calls Tryd.prog 51 #[.agg #[.string x.k, .int .i64 x.kind, .int .i64 x.int, .string x.text, .slice x.p.a x.p.n x.p.c, .slice x.q.a x.q.n x.q.c], .pointer (some ⟨B, 0, none⟩)] W fun e w' => e = .returned (.bool (x.k.toList == key.toList)) ∧ Below W.heap.size W w' := by
  have hl := (Array.getElem?_eq_some_iff.1 hi).1
  have c0 : W.cell? ⟨B, 0, none⟩ = some (.string key) := by rw [blk_cell hi]; rfl
  have Hi := Lib.hid (fun o => (Below.refl W.heap.size W).alloc (Nat.le_refl _) o)
  clear hi
  go_enter Tryd.func51, Tryd.ntmps51
  go_wp2
  go_ret
  exact ⟨rfl, Hi.out _⟩
theorem idx_first (key : ByteArray) : ∀ (l : List (ByteArray × V)) (s : Unit) (i : Nat),
    ((idxS (keyP key) s l i).1 = -1 ∧ ∀ x ∈ l, (x.1.toList == key.toList) = false) ∨
    ∃ k, ∃ h : k < l.length, (idxS (keyP key) s l i).1 = ((i + k : Nat) : Int) ∧ (l[k].1.toList == key.toList) = true ∧ ∀ x ∈ l.take k, (x.1.toList == key.toList) = false
  | [], _, _ => .inl ⟨rfl, fun _ h => by cases h⟩
  | x :: l, s, i => by
    unfold idxS
    cases hx : (x.1.toList == key.toList) with
    | true => exact .inr ⟨0, by simp, by rw [if_pos (show (keyP key s x).1 = true from hx)]; rfl, hx, fun _ h => by cases h⟩
    | false =>
      rw [if_neg (show ¬ (keyP key s x).1 = true by unfold keyP; simp only; rw [hx]; decide)]
      rcases idx_first key l (keyP key s x).2 (i + 1) with ⟨h1, h2⟩ | ⟨k, hk, h1, h2, h3⟩
      · exact .inl ⟨h1, fun y hy => by rcases List.mem_cons.1 hy with rfl | hy; exact hx; exact h2 y hy⟩
      · exact .inr ⟨k + 1, by simp; omega, by rw [h1]; congr 1; omega, h2, fun y hy => by
          rw [List.take_succ_cons] at hy
          rcases List.mem_cons.1 hy with rfl | hy; exact hx; exact h3 y hy⟩
/-- What stays. -/
def keepE (key : ByteArray) (e : El) : Bool := !(e.k.toList == key.toList)
theorem flat_six (l : List El) : (l.map cellsE).flatten.length = l.length * 6 := by
  induction l with
  | nil => rfl
  | cons x l ih => rw [List.map_cons, List.flatten_cons, List.length_append, ih, List.length_cons]; show 6 + _ = _; omega
theorem take_six (l : List El) (i : Nat) : ((l.map cellsE).flatten).take (i * 6) = ((l.take i).map cellsE).flatten := by
  induction l generalizing i with
  | nil => simp
  | cons x l ih =>
    cases i with
    | zero => simp
    | succ i =>
      rw [List.map_cons, List.flatten_cons, List.take_succ_cons, List.map_cons, List.flatten_cons, show (i + 1) * 6 = (cellsE x).length + i * 6 by show _ = 6 + _; omega, List.take_length_add_append, ih]
theorem RowE.take {g c : Nat} {w : World} {l : List El} (h : RowE g c w l) (i : Nat) (hi : i ≤ l.length) : RowE g c w (l.take i) := by
  obtain ⟨h1, h2, h3, h4⟩ := h
  obtain ⟨h31, h32⟩ := h3
  have hl : (l.take i).length = i := by rw [List.length_take]; omega
  unfold RowE
  rw [hl]
  refine ⟨by rw [List.length_map, hl], fun xs hx => h2 xs (by rw [List.map_take] at hx; exact List.mem_of_mem_take hx), ⟨?_, ?_⟩, fun k e => by injection e with e; exact e.symm⟩
  · rw [flat_six, hl]
  · rcases h32 with ⟨h, _⟩ | ⟨g', cap, cur, hv, hB, hg, hn, hm, hs, ht⟩
    · simp [Sl.val] at h
    · injection hv with e1 e2 e3
      injection e1 with e1
      injection e1 with e1
      subst e1 e3
      refine .inr ⟨g, c, cur, rfl, hB, hg, Nat.le_trans hi hn, hm, hs, ?_⟩
      have e : cur.toList.take (i * 6) = (cur.toList.take (l.length * 6)).take (i * 6) := by rw [List.take_take, Nat.min_eq_left (by omega)]
      rw [e, ht, take_six]
theorem clear_tail {g c : Nat} {w : World} {l : List El} (h : RowE g c w l) {i : Nat} (hi : i < l.length) (cc : Nat) :
    ∃ w', (∀ ty, (Builtin.clear_ #[25] ty #[.slice (some ⟨g, i * 6, none⟩) (l.length - i) cc]).run Tryd.prog w = .ok (.tuple #[]) w') ∧ RowE g c w' (l.take i) ∧ Keeps (fun k => k = g) w w' := by
  have hl : (l.take i).length = i := by rw [List.length_take]; omega
  obtain ⟨h1, h2, ⟨h31, h32⟩, h4⟩ := h
  rcases h32 with ⟨h, _⟩ | ⟨g', cap, cur, hv, hB, hg, hn, hm, hs, ht⟩
  · simp [Sl.val] at h
  injection hv with e1 e2 e3
  injection e1 with e1
  injection e1 with e1
  subst e1 e3
  have hn' : l.length ≤ c := hn
  have hvl : (Builtin.zeroCells zeroF.cells (l.length - i)).toList.length = (l.length - i) * 6 := by
    simp [Builtin.zeroCells, zeroF, Value.cells]
  have hv1 : ∀ v ∈ (Builtin.zeroCells zeroF.cells (l.length - i)).toList, v.oneCell' = true := fun v hv => by
    simp only [Builtin.zeroCells, Array.toList_map, List.mem_map] at hv
    obtain ⟨j, _, rfl⟩ := hv
    have : j % zeroF.cells.size < 6 := Nat.mod_lt _ (by decide)
    generalize j % zeroF.cells.size = m at this
    match m, this with
    | 0, _ => rfl
    | 1, _ => rfl
    | 2, _ => rfl
    | 3, _ => rfl
    | 4, _ => rfl
    | 5, _ => rfl
  have hst := run_storeCells_at (P := Tryd.prog) g (i * 6) 31 (Builtin.zeroCells zeroF.cells (l.length - i)).toList 0 cur w hg (by rw [hvl, hs]; omega) hv1
  refine ⟨w.setRow g (cur.toList.take (i * 6 + 0) ++ (Builtin.zeroCells zeroF.cells (l.length - i)).toList ++ cur.toList.drop (i * 6 + 0 + (Builtin.zeroCells zeroF.cells (l.length - i)).toList.length)).toArray, fun ty => ?_, ?_, ⟨rfl, rfl, rfl, by simp, fun k _ hne => setRow_other w g k _ (fun e => hne e)⟩⟩
  · obtain ⟨m, hm'⟩ : ∃ m, l.length - i = m + 1 := ⟨l.length - i - 1, by omega⟩
    rw [hm'] at hst ⊢
    have e0 : zeroF = .agg #[.string ⟨#[]⟩, .int .i64 0, .int .i64 0, .string ⟨#[]⟩, .slice none 0 0, .slice none 0 0] := rfl
    rw [e0] at hst ⊢
    simp [Builtin.clear_, run_underlying Tryd.underlying25, hst, Result.andThen]
  · have hnew := setRow_heap w g cur (cur.toList.take (i * 6 + 0) ++ (Builtin.zeroCells zeroF.cells (l.length - i)).toList ++ cur.toList.drop (i * 6 + 0 + (Builtin.zeroCells zeroF.cells (l.length - i)).toList.length)).toArray _ _ hg
    unfold RowE
    rw [hl]
    refine ⟨by rw [List.length_map, hl], fun xs hx => h2 xs (by rw [List.map_take] at hx; exact List.mem_of_mem_take hx), ⟨by rw [flat_six, hl], .inr ⟨g, c, _, rfl, hB, hnew, by show i ≤ c; omega, hm, ?_, ?_⟩⟩, fun k e => by injection e with e; exact e.symm⟩
    · have hs' : cur.toList.length = c * 6 := by simpa using hs
      simp only [List.size_toArray, List.length_append, List.length_take, List.length_drop, hvl, hs']
      omega
    · have hlen : (cur.toList.take (i * 6 + 0)).length = i * 6 := by
        have hs' : cur.toList.length = c * 6 := by simpa using hs
        rw [List.length_take, hs']; omega
      rw [List.append_assoc, List.take_left' hlen, Nat.add_zero]
      have e : cur.toList.take (i * 6) = (cur.toList.take (l.length * 6)).take (i * 6) := by rw [List.take_take, Nat.min_eq_left (by omega)]
      rw [e, ht, take_six]
theorem keep_key {le : List El} {l : List (ByteArray × V)} (hk : le.map El.k = l.map (·.1)) {i : Nat} (h1 : i < le.length) (h2 : i < l.length) : le[i].k = l[i].1 := by
  have := congrArg (fun m => m[i]?) hk
  simpa [List.getElem?_map, List.getElem?_eq_getElem h1, List.getElem?_eq_getElem h2] using this
theorem drop_get {l m : List El} {j : Nat} (h : l.drop j = m.drop j) (h1 : j < l.length) (h2 : j < m.length) : l[j] = m[j] ∧ l.drop (j + 1) = m.drop (j + 1) := by
  rw [List.drop_eq_getElem_cons h1, List.drop_eq_getElem_cons h2] at h
  exact ⟨(List.cons.inj h).1, (List.cons.inj h).2⟩
theorem set_steps {l : List El} {i j : Nat} (x : El) (hij : i < j) (hj : j < l.length) : (l.set i x).take (i + 1) = l.take i ++ [x] ∧ (l.set i x).drop (j + 1) = l.drop (j + 1) := by
  constructor
  · rw [List.take_succ_eq_append_getElem (by rw [List.length_set]; omega), List.take_set_of_le (Nat.le_refl _), List.getElem_set_self]
  · rw [List.drop_set_of_lt (by omega)]
set_option maxRecDepth 100000 in
set_option maxHeartbeats 400000 in
theorem delete_any (key : ByteArray) (l : List (ByteArray × V)) (le : List El) (S : Nat → Prop) (g c bk : Nat) (T : TypeId) (w : World) (hn : l.length ≤ 100000) (hrow : RowF S w l ⟨some ⟨g, 0, none⟩, le.length, c⟩) (hS : ∀ k, S k → k < w.heap.size)
    (hE : RowE g c w le) (hk : le.map El.k = l.map (·.1)) (hkey : w.heap[bk]? = some (.cells #[.string key] T (0, 0))) (hbg : bk ≠ g) :
    Calls Tryd.prog 50 #[.slice (some ⟨g, 0, none⟩) le.length c, .func (.func 51) #[] #[.pointer (some ⟨bk, 0, none⟩)]] w fun e w' =>
      e = .returned (.slice (some ⟨g, 0, none⟩) (le.filter (keepE key)).length c) ∧ RowE g c w' (le.filter (keepE key)) ∧ Keeps (fun k => k = g) w w' := by
  have hll : le.length = l.length := by have := congrArg List.length hk; simpa using this
  have hcall := idxF_any (ask_drop bk T key l ()) (w := w) hrow (fun k hk => ⟨hS k hk, fun h => h⟩) (show Txt bk T key () w from hkey)
  simp only at hcall
  have hlc : le.length ≤ c := by
    rcases hE.2.2.1.2 with ⟨h, _⟩ | ⟨_, cap, _, hv, _, _, hn, _⟩
    · simp [Sl.val] at h
    · injection hv with _ _ e3; subst e3; exact hn
  have hfirst := idx_first key l () 0
  generalize (idxS (keyP key) () l 0).1 = z at hcall hfirst
  have H := Lib.hid (And.intro hE (And.intro hk (And.intro hkey hbg)))
  have eg : ∀ args w, (callFunc 51 args).run Tryd.prog w = .ok (.enter 51 args) w := enters_of Tryd.func51 (by kernel_rfl) rfl
  clear hrow hS hE hk hkey hbg
  rcases hfirst with ⟨rfl, hall⟩ | ⟨k, hkl, hz, hkk, hpre⟩
  · have hf : le.filter (keepE key) = le := List.filter_eq_self.2 (fun x hx => by
      obtain ⟨i, hi, rfl⟩ := List.getElem_of_mem hx
      unfold keepE
      rw [keep_key H.out.2.1 hi (by omega), hall _ (List.getElem_mem (by omega))]; rfl)
    have Hf := Lib.hid hf
    clear hf hall hll
    go_enter Tryd.func50, Tryd.ntmps50
    go_wp2_with fail
    refine hcall.mono ?_
    rintro e w1 ⟨rfl, hs1⟩
    have H1 := Lib.hid (hs1.quiet (fun _ h => h))
    clear hs1 hcall
    go_wp2_with fail
    go_ret
    rw [Hf.out]
    exact ⟨rfl, H.out.1.later H1.out, Keeps.of_below H1.out⟩
  · obtain rfl : z = (k : Int) := by rw [hz]; congr 1; omega
    have hke : ((k : Int) == -1) = false := by rw [beq_eq_false_iff_ne]; omega
    have hkL : k < le.length := by omega
    have hst : le.take k = (le.take (k + 1)).filter (keepE key) := by
      rw [List.take_succ_eq_append_getElem hkL, List.filter_append, List.filter_eq_self.2 (fun x hx => ?_)]
      · have : keepE key le[k] = false := by unfold keepE; rw [keep_key H.out.2.1 hkL hkl, hkk]; rfl
        simp [this]
      · obtain ⟨i, hi, rfl⟩ := List.getElem_of_mem hx
        have hi' : i < k := by rw [List.length_take] at hi; omega
        rw [List.getElem_take]
        unfold keepE
        rw [keep_key H.out.2.1 (by omega) (by omega), hpre _ (by rw [List.mem_take_iff_getElem]; exact ⟨i, by omega, rfl⟩)]; rfl
    have Hst := Lib.hid hst
    have hle : le.length ≤ 100000 := by omega
    have Hll := Lib.hid hll
    clear hst hz hkk hpre hll hkl
    go_enter Tryd.func50, Tryd.ntmps50
    go_wp2_with fail
    refine hcall.mono ?_
    rintro e w1 ⟨rfl, hs1⟩
    have H1 := Lib.hid (hs1.quiet (fun _ h => h))
    clear hs1 hcall
    go_wp2_with fail
    go_loopg [5, 6, 7] le.length (fun gg s5 s6 _ wr => ∃ (i j : Nat) (lj : List El), i < j ∧ j ≤ le.length ∧ le.length - j ≤ gg ∧ s5 = .int .i64 i ∧ s6 = .int .i64 j ∧ lj.length = le.length ∧
      Hid (lj.take i = (le.take j).filter (keepE key) ∧ lj.drop j = le.drop j ∧ RowE g c wr lj ∧ Keeps (fun k => k = g) w wr))
    case atStart => exact ⟨k, k + 1, le, Nat.lt_succ_self _, by omega, by omega, rfl, by go_num, rfl, Hst.out, rfl, H.out.1.later H1.out, Keeps.of_below H1.out⟩
    case round =>
      obtain ⟨i, j, lj, hij, hjn, hgg, rfl, rfl, hlj, HH⟩ := hrel
      have hbg := H.out.2.2.2
      have hkw : wr.heap[bk]? = some (.cells #[.string key] T (0, 0)) := (HH.out.2.2.2.block bk (Array.getElem?_eq_some_iff.1 H.out.2.2.1).1 hbg).trans H.out.2.2.1
      have lg := HH.out.2.2.1.lt
      by_cases hlt : j < le.length
      · have hltz : (j : Int) < (le.length : Int) := by omega
        have hiz : (i : Int) < (le.length : Int) := by omega
        have hjl : j < lj.length := by omega
        obtain ⟨hx, hdr⟩ := drop_get HH.out.2.1 hjl hlt
        obtain ⟨⟨x0, x1, x2, x3, x4, x5⟩, -⟩ := HH.out.2.2.1.cell (List.getElem?_eq_getElem hjl)
        obtain ⟨⟨y0, y1, y2, y3, y4, y5⟩, fy⟩ := HH.out.2.2.1.cell (List.getElem?_eq_getElem (show i < lj.length by omega))
        have htk : le.take (j + 1) = le.take j ++ [lj[j]] := by rw [hx]; exact List.take_succ_eq_append_getElem hlt
        have hst := set_steps lj[j] hij hjl
        have hput := HH.out.2.2.1.put (show i < lj.length by omega) lj[j]
        generalize lj[j] = x at x0 x1 x2 x3 x4 x5 htk hst hput
        generalize lj[i] = y at y0 y1 y2 y3 y4 y5
        have fy0 := fy 0
        have fy1 := fy 1
        have fy2 := fy 2
        have fy3 := fy 3
        have fy4 := fy 4
        have fy5 := fy 5
        simp only [Nat.add_zero] at fy0
        have hd := drop1_any x key bk T (wr.alloc (.cells #[.string x.k, .int .i64 x.kind, .int .i64 x.int, .string x.text, .slice x.p.a x.p.n x.p.c, .slice x.q.a x.q.n x.q.c] 31)) ((block_old (Array.getElem?_eq_some_iff.1 hkw).1).trans hkw)
        have HX := Lib.hid (And.intro htk (And.intro hst hdr))
        clear htk hst hdr hx hput fy
        go_wp2_with fail
        go_at_fn 51
        refine hd.mono ?_
        rintro e w4 ⟨rfl, hb4⟩
        have hb0 := ((Below.refl wr.heap.size wr).alloc (Nat.le_refl _) (.cells #[.string x.k, .int .i64 x.kind, .int .i64 x.int, .string x.text, .slice x.p.a x.p.n x.p.c, .slice x.q.a x.q.n x.q.c] 31)).trans (hb4.mono (by rw [size_alloc]; omega))
        have e4 := (hb4.block wr.heap.size (by rw [size_alloc]; omega)).trans (block_new wr (.cells #[.string x.k, .int .i64 x.kind, .int .i64 x.int, .string x.text, .slice x.p.a x.p.n x.p.c, .slice x.q.a x.q.n x.q.c] 31))
        have l4 := (Array.getElem?_eq_some_iff.1 e4).1
        have g4 : g < w4.heap.size := Nat.lt_of_lt_of_le lg hb0.size
        have b0 : w4.cell? ⟨wr.heap.size, 0, none⟩ = some (.string x.k) := by rw [blk_cell e4]; rfl
        have b1 : w4.cell? ⟨wr.heap.size, 1, none⟩ = some (.int .i64 x.kind) := by rw [blk_cell e4]; rfl
        have b2 : w4.cell? ⟨wr.heap.size, 2, none⟩ = some (.int .i64 x.int) := by rw [blk_cell e4]; rfl
        have b3 : w4.cell? ⟨wr.heap.size, 3, none⟩ = some (.string x.text) := by rw [blk_cell e4]; rfl
        have b4 : w4.cell? ⟨wr.heap.size, 4, none⟩ = some (.slice x.p.a x.p.n x.p.c) := by rw [blk_cell e4]; rfl
        have b5 : w4.cell? ⟨wr.heap.size, 5, none⟩ = some (.slice x.q.a x.q.n x.q.c) := by rw [blk_cell e4]; rfl
        have hput := (HH.out.2.2.1.later hb0).put (show i < lj.length by omega) x
        have hkp := (HH.out.2.2.2.trans (Keeps.of_below (X := fun _ => False) hb0) (fun _ h => h.elim))
        have H4 := Lib.hid (And.intro (HH.out.2.2.1.later hb0) (And.intro hput hkp))
        have s0 := (hb0.cell (p := ⟨g, i * 6, none⟩) (by exact lg)).trans y0
        have fs0 := (hb0.frozen (p := ⟨g, i * 6, none⟩) (by exact lg)).trans fy0
        have s1 := (hb0.cell (p := ⟨g, i * 6 + 1, none⟩) (by exact lg)).trans y1
        have fs1 := (hb0.frozen (p := ⟨g, i * 6 + 1, none⟩) (by exact lg)).trans fy1
        have s2 := (hb0.cell (p := ⟨g, i * 6 + 2, none⟩) (by exact lg)).trans y2
        have fs2 := (hb0.frozen (p := ⟨g, i * 6 + 2, none⟩) (by exact lg)).trans fy2
        have s3 := (hb0.cell (p := ⟨g, i * 6 + 3, none⟩) (by exact lg)).trans y3
        have fs3 := (hb0.frozen (p := ⟨g, i * 6 + 3, none⟩) (by exact lg)).trans fy3
        have s4 := (hb0.cell (p := ⟨g, i * 6 + 4, none⟩) (by exact lg)).trans y4
        have fs4 := (hb0.frozen (p := ⟨g, i * 6 + 4, none⟩) (by exact lg)).trans fy4
        have s5 := (hb0.cell (p := ⟨g, i * 6 + 5, none⟩) (by exact lg)).trans y5
        have fs5 := (hb0.frozen (p := ⟨g, i * 6 + 5, none⟩) (by exact lg)).trans fy5
        clear hput hkp hb4 hb0 e4 hd y0 y1 y2 y3 y4 y5 x0 x1 x2 x3 x4 x5 fy0 fy1 fy2 fy3 fy4 fy5
        cases hxk : (x.k.toList == key.toList) with
        | true =>
          have hf : (le.take (j + 1)).filter (keepE key) = (le.take j).filter (keepE key) := by
            rw [HX.out.1, List.filter_append]
            have : keepE key x = false := by unfold keepE; rw [hxk]; rfl
            simp [this]
          have Hf := Lib.hid hf
          clear hf
          go_wp2_with fail
          go_roundg (le.length - (j + 1))
          case measure => omega
          case rel => exact ⟨i, j + 1, lj, by omega, by omega, Nat.le_refl _, rfl, by go_num, hlj, HH.out.1.trans Hf.out.symm, HX.out.2.2, H4.out.1, H4.out.2.2⟩
        | false =>
          have hf : (le.take (j + 1)).filter (keepE key) = (le.take j).filter (keepE key) ++ [x] := by
            rw [HX.out.1, List.filter_append]
            have : keepE key x = true := by unfold keepE; rw [hxk]; rfl
            simp [this]
          have Hf := Lib.hid hf
          clear hf
          go_wp2_with fail
          go_roundg (le.length - (j + 1))
          case measure => omega
          case rel => exact ⟨i + 1, j + 1, lj.set i x, by omega, by omega, Nat.le_refl _, by go_num, by go_num, by rw [List.length_set]; exact hlj, by rw [HX.out.2.1.1, HH.out.1, Hf.out], by rw [HX.out.2.1.2]; exact HX.out.2.2, H4.out.2.1, keeps6 H4.out.2.2 rfl⟩
      · obtain rfl : j = le.length := by omega
        have hil : i < lj.length := by omega
        obtain ⟨w9, hcl, hrow9, hk9⟩ := clear_tail HH.out.2.2.1 hil (c - i)
        rw [hlj] at hcl
        have hfin : lj.take i = le.filter (keepE key) := by have := HH.out.1; rwa [List.take_length] at this
        have hfl : (le.filter (keepE key)).length = i := by rw [← hfin, List.length_take]; omega
        have H9 := Lib.hid (And.intro hrow9 (And.intro hk9 (And.intro hfin hfl)))
        have hltz : ¬ (le.length : Int) < (le.length : Int) := by omega
        have hiz : (i : Int) ≤ (le.length : Int) := by omega
        have hic : (i : Int) ≤ (c : Int) := by omega
        clear hrow9 hk9 hfin hfl
        go_wp2_with fail
        go_ret
        rw [H9.out.2.2.2, ← H9.out.2.2.1]
        exact ⟨rfl, H9.out.1, HH.out.2.2.2.trans H9.out.2.1 (fun _ h => .inl h)⟩
end Go.Proofs.YteocenjneoclbaaDoor.tre

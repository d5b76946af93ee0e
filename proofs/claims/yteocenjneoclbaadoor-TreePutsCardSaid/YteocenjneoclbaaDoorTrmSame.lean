/- Layer 4: tree.Same. -/
import Derived.BigRegion
import Derived.Deep.RegionLaw
import Derived.Test.YteocenjneoclbaaDoorTrmEq
import Derived.Test.YteocenjneoclbaaDoorTrmIdx
import Derived.Test.YteocenjneoclbaaDoorTrmSymG
namespace Go.Proofs.YteocenjneoclbaaDoor.tre
open Go.RowKit Go.Shelf

set_option maxRecDepth 100000 in
set_option maxHeartbeats 4000000 in
theorem eqV_any {l m : List (V)} {g : FuncId} {lb : Array Value} {S : Nat → Prop} {W : World} {p q : Sl} (eg : ∀ args w, (callFunc g args).run Tryd.prog w = .ok (.enter g args) w) (hS : ∀ g, S g → g < W.heap.size) (hl : RowV S W l p) (hm : RowV S W m q)
    (ask : ∀ x ∈ l, ∀ y ∈ m, ∀ (W1 : World) (r t r2 t2 : Sl), Below W.heap.size W W1 → HV S W1 x r t → HV S W1 y r2 t2 →
      Calls Tryd.prog g (#[.agg #[.int .i64 x.kind, .int .i64 x.int, .string x.text, .slice r.a r.n r.c, .slice t.a t.n t.c], .agg #[.int .i64 y.kind, .int .i64 y.int, .string y.text, .slice r2.a r2.n r2.c, .slice t2.a t2.n t2.c]] ++ lb) W1 fun e w' => (∃ z : Bool, e = .returned (.bool z) ∧ (z = true ↔ x = y)) ∧ Below W1.heap.size W1 w') :
    Calls Tryd.prog 56 #[.slice p.a p.n p.c, .slice q.a q.n q.c, .func (.func g) #[] lb] W fun e w' => (∃ z : Bool, e = .returned (.bool z) ∧ (z = true ↔ l = m)) ∧ Below W.heap.size W w' := by
  have hn := hl.len
  have hn2 := hm.len
  have hx := hl.max
  have hx2 := hm.max
  obtain ⟨pa, pn, pc⟩ := p
  obtain ⟨qa, qn, qc⟩ := q
  simp only at hn hn2
  subst hn hn2
  have Hb := Lib.hid (And.intro hS (And.intro hl (And.intro hm ask)))
  clear hS hl hm ask
  by_cases hlm : l.length = m.length
  · have hb : ((l.length : Int) != (m.length : Int)) = false := by rw [hlm]; simp
    have Hlm := Lib.hid hlm
    clear hlm
    go_enter Tryd.func56, Tryd.ntmps56
    go_wp2
    go_loopg [7, 8, 9, 17] l.length (fun gg _ _ _ s17 wr => ∃ i : Nat, i ≤ l.length ∧ l.length - i ≤ gg ∧ s17 = .int .i64 i ∧ Hid (l.take i = m.take i ∧ Below W.heap.size W wr))
    case atStart => exact ⟨0, Nat.zero_le _, by omega, rfl, rfl, Below.refl _ _⟩
    case round =>
      obtain ⟨i, hil, hgg, rfl, H⟩ := hrel
      by_cases hlt : i < l.length
      · have hltz : (i : Int) < (l.length : Int) := by omega
        have hlt2 : i < m.length := by have := Hlm.out; omega
        have hltz2 : (i : Int) < (m.length : Int) := by omega
        have hBW := H.out.2
        obtain ⟨g1, r1, t1, ha, hg1, _, hc, hhx⟩ := (Hb.out.2.1.later hBW).at hlt
        obtain ⟨g2, r2, t2, ha2, hg2, _, hd, hhy⟩ := (Hb.out.2.2.1.later hBW).at hlt2
        have htk := fun h => take_eq_snoc hlt hlt2 H.out.1 h
        have hne : ∀ (_ : ¬ l[i] = m[i]), ¬ l = m := fun h e => h (by subst e; rfl)
        have hi1 := List.getElem_mem hlt
        have hi2 := List.getElem_mem hlt2
        simp only at ha ha2
        subst ha ha2
        generalize l[i] = x at hc hhx htk hne hi1
        generalize m[i] = y at hd hhy htk hne hi2
        have x0 : wr.cell? ⟨g1, i * 5, none⟩ = some (.int .i64 x.kind) := hc 0 _ rfl
        have x1 : wr.cell? ⟨g1, i * 5 + 1, none⟩ = some (.int .i64 x.int) := hc 1 _ rfl
        have x2 : wr.cell? ⟨g1, i * 5 + 2, none⟩ = some (.string x.text) := hc 2 _ rfl
        have x3 : wr.cell? ⟨g1, i * 5 + 3, none⟩ = some (.slice r1.a r1.n r1.c) := hc 3 _ rfl
        have x4 : wr.cell? ⟨g1, i * 5 + 4, none⟩ = some (.slice t1.a t1.n t1.c) := hc 4 _ rfl
        have y0 : wr.cell? ⟨g2, i * 5, none⟩ = some (.int .i64 y.kind) := hd 0 _ rfl
        have y1 : wr.cell? ⟨g2, i * 5 + 1, none⟩ = some (.int .i64 y.int) := hd 1 _ rfl
        have y2 : wr.cell? ⟨g2, i * 5 + 2, none⟩ = some (.string y.text) := hd 2 _ rfl
        have y3 : wr.cell? ⟨g2, i * 5 + 3, none⟩ = some (.slice r2.a r2.n r2.c) := hd 3 _ rfl
        have y4 : wr.cell? ⟨g2, i * 5 + 4, none⟩ = some (.slice t2.a t2.n t2.c) := hd 4 _ rfl
        have hcall := fun W1 (hb : Below wr.heap.size wr W1) => Hb.out.2.2.2 x hi1 y hi2 W1 r1 t1 r2 t2 (hBW.trans (hb.mono hBW.size)) (hhx.later hb) (hhy.later hb)
        have HB := Lib.hid (And.intro hBW (And.intro htk hne))
        clear hc hd hhx hhy htk hne hi1 hi2 hBW
        go_wp2_with fail
        go_at_fn g
        refine (hcall _ (((Below.refl _ _).alloc (Nat.le_refl _) _).alloc (by rw [size_alloc]; omega) _)).mono ?_
        rintro e w4 ⟨⟨z, rfl, hz⟩, hb4⟩
        have hb0 := (((Below.refl wr.heap.size wr).alloc (Nat.le_refl _) _).alloc (by rw [size_alloc]; omega) _).trans (hb4.mono (by rw [size_alloc, size_alloc]; omega))
        have H4 := Lib.hid (And.intro hz hb0)
        clear hz hb0 hb4
        cases z with
        | false =>
          have H5 := Lib.hid (HB.out.2.2 (fun e => by have := H4.out.1.2 e; cases this))
          clear hcall
          go_wp2
          go_ret
          exact ⟨⟨false, rfl, by simp; exact H5.out⟩, HB.out.1.trans (H4.out.2.mono HB.out.1.size)⟩
        | true =>
          clear hcall
          go_wp2
          go_roundg (l.length - (i + 1))
          case measure => omega
          case rel => exact ⟨i + 1, by omega, by omega, by go_num, HB.out.2.1 (by have h := H4.out.1; simpa using h), HB.out.1.trans (H4.out.2.mono HB.out.1.size)⟩
      · obtain rfl : i = l.length := by omega
        have hff : l = m := by
          have := H.out.1
          rw [List.take_length, Hlm.out, List.take_length] at this
          exact this
        have HF := Lib.hid (And.intro hff H.out.2)
        clear hff
        go_wp2
        go_ret
        exact ⟨⟨true, rfl, by simp; exact HF.out.1⟩, HF.out.2⟩
  · have hb : ((l.length : Int) != (m.length : Int)) = true := by simpa [Int.natCast_inj] using hlm
    have Hlm := Lib.hid (show ¬ l = m from fun e => hlm (by rw [e]))
    clear hlm
    go_enter Tryd.func56, Tryd.ntmps56
    go_wp2
    go_ret
    exact ⟨⟨false, rfl, by simp; exact Hlm.out⟩, Below.refl _ _⟩

set_option maxRecDepth 100000 in
set_option maxHeartbeats 4000000 in
theorem eqF_any {l m : List (ByteArray × V)} {g : FuncId} {lb : Array Value} {S : Nat → Prop} {W : World} {p q : Sl} (eg : ∀ args w, (callFunc g args).run Tryd.prog w = .ok (.enter g args) w) (hS : ∀ g, S g → g < W.heap.size) (hl : RowF S W l p) (hm : RowF S W m q)
    (ask : ∀ x ∈ l, ∀ y ∈ m, ∀ (W1 : World) (r t r2 t2 : Sl), Below W.heap.size W W1 → HV S W1 x.2 r t → HV S W1 y.2 r2 t2 →
      Calls Tryd.prog g (#[.agg #[.string x.1, .int .i64 x.2.kind, .int .i64 x.2.int, .string x.2.text, .slice r.a r.n r.c, .slice t.a t.n t.c], .agg #[.string y.1, .int .i64 y.2.kind, .int .i64 y.2.int, .string y.2.text, .slice r2.a r2.n r2.c, .slice t2.a t2.n t2.c]] ++ lb) W1 fun e w' => (∃ z : Bool, e = .returned (.bool z) ∧ (z = true ↔ x = y)) ∧ Below W1.heap.size W1 w') :
    Calls Tryd.prog 57 #[.slice p.a p.n p.c, .slice q.a q.n q.c, .func (.func g) #[] lb] W fun e w' => (∃ z : Bool, e = .returned (.bool z) ∧ (z = true ↔ l = m)) ∧ Below W.heap.size W w' := by
  have hn := hl.len
  have hn2 := hm.len
  have hx := hl.max
  have hx2 := hm.max
  obtain ⟨pa, pn, pc⟩ := p
  obtain ⟨qa, qn, qc⟩ := q
  simp only at hn hn2
  subst hn hn2
  have Hb := Lib.hid (And.intro hS (And.intro hl (And.intro hm ask)))
  clear hS hl hm ask
  by_cases hlm : l.length = m.length
  · have hb : ((l.length : Int) != (m.length : Int)) = false := by rw [hlm]; simp
    have Hlm := Lib.hid hlm
    clear hlm
    go_enter Tryd.func57, Tryd.ntmps57
    go_wp2
    go_loopg [7, 8, 9, 17] l.length (fun gg _ _ _ s17 wr => ∃ i : Nat, i ≤ l.length ∧ l.length - i ≤ gg ∧ s17 = .int .i64 i ∧ Hid (l.take i = m.take i ∧ Below W.heap.size W wr))
    case atStart => exact ⟨0, Nat.zero_le _, by omega, rfl, rfl, Below.refl _ _⟩
    case round =>
      obtain ⟨i, hil, hgg, rfl, H⟩ := hrel
      by_cases hlt : i < l.length
      · have hltz : (i : Int) < (l.length : Int) := by omega
        have hlt2 : i < m.length := by have := Hlm.out; omega
        have hltz2 : (i : Int) < (m.length : Int) := by omega
        have hBW := H.out.2
        obtain ⟨g1, r1, t1, ha, hg1, _, hc, hhx⟩ := (Hb.out.2.1.later hBW).at hlt
        obtain ⟨g2, r2, t2, ha2, hg2, _, hd, hhy⟩ := (Hb.out.2.2.1.later hBW).at hlt2
        have htk := fun h => take_eq_snoc hlt hlt2 H.out.1 h
        have hne : ∀ (_ : ¬ l[i] = m[i]), ¬ l = m := fun h e => h (by subst e; rfl)
        have hi1 := List.getElem_mem hlt
        have hi2 := List.getElem_mem hlt2
        simp only at ha ha2
        subst ha ha2
        generalize l[i] = x at hc hhx htk hne hi1
        generalize m[i] = y at hd hhy htk hne hi2
        have x0 : wr.cell? ⟨g1, i * 6, none⟩ = some (.string x.1) := hc 0 _ rfl
        have x1 : wr.cell? ⟨g1, i * 6 + 1, none⟩ = some (.int .i64 x.2.kind) := hc 1 _ rfl
        have x2 : wr.cell? ⟨g1, i * 6 + 2, none⟩ = some (.int .i64 x.2.int) := hc 2 _ rfl
        have x3 : wr.cell? ⟨g1, i * 6 + 3, none⟩ = some (.string x.2.text) := hc 3 _ rfl
        have x4 : wr.cell? ⟨g1, i * 6 + 4, none⟩ = some (.slice r1.a r1.n r1.c) := hc 4 _ rfl
        have x5 : wr.cell? ⟨g1, i * 6 + 5, none⟩ = some (.slice t1.a t1.n t1.c) := hc 5 _ rfl
        have y0 : wr.cell? ⟨g2, i * 6, none⟩ = some (.string y.1) := hd 0 _ rfl
        have y1 : wr.cell? ⟨g2, i * 6 + 1, none⟩ = some (.int .i64 y.2.kind) := hd 1 _ rfl
        have y2 : wr.cell? ⟨g2, i * 6 + 2, none⟩ = some (.int .i64 y.2.int) := hd 2 _ rfl
        have y3 : wr.cell? ⟨g2, i * 6 + 3, none⟩ = some (.string y.2.text) := hd 3 _ rfl
        have y4 : wr.cell? ⟨g2, i * 6 + 4, none⟩ = some (.slice r2.a r2.n r2.c) := hd 4 _ rfl
        have y5 : wr.cell? ⟨g2, i * 6 + 5, none⟩ = some (.slice t2.a t2.n t2.c) := hd 5 _ rfl
        have hcall := fun W1 (hb : Below wr.heap.size wr W1) => Hb.out.2.2.2 x hi1 y hi2 W1 r1 t1 r2 t2 (hBW.trans (hb.mono hBW.size)) (hhx.later hb) (hhy.later hb)
        have HB := Lib.hid (And.intro hBW (And.intro htk hne))
        clear hc hd hhx hhy htk hne hi1 hi2 hBW
        go_wp2_with fail
        go_at_fn g
        refine (hcall _ (((Below.refl _ _).alloc (Nat.le_refl _) _).alloc (by rw [size_alloc]; omega) _)).mono ?_
        rintro e w4 ⟨⟨z, rfl, hz⟩, hb4⟩
        have hb0 := (((Below.refl wr.heap.size wr).alloc (Nat.le_refl _) _).alloc (by rw [size_alloc]; omega) _).trans (hb4.mono (by rw [size_alloc, size_alloc]; omega))
        have H4 := Lib.hid (And.intro hz hb0)
        clear hz hb0 hb4
        cases z with
        | false =>
          have H5 := Lib.hid (HB.out.2.2 (fun e => by have := H4.out.1.2 e; cases this))
          clear hcall
          go_wp2
          go_ret
          exact ⟨⟨false, rfl, by simp; exact H5.out⟩, HB.out.1.trans (H4.out.2.mono HB.out.1.size)⟩
        | true =>
          clear hcall
          go_wp2
          go_roundg (l.length - (i + 1))
          case measure => omega
          case rel => exact ⟨i + 1, by omega, by omega, by go_num, HB.out.2.1 (by have h := H4.out.1; simpa using h), HB.out.1.trans (H4.out.2.mono HB.out.1.size)⟩
      · obtain rfl : i = l.length := by omega
        have hff : l = m := by
          have := H.out.1
          rw [List.take_length, Hlm.out, List.take_length] at this
          exact this
        have HF := Lib.hid (And.intro hff H.out.2)
        clear hff
        go_wp2
        go_ret
        exact ⟨⟨true, rfl, by simp; exact HF.out.1⟩, HF.out.2⟩
  · have hb : ((l.length : Int) != (m.length : Int)) = true := by simpa [Int.natCast_inj] using hlm
    have Hlm := Lib.hid (show ¬ l = m from fun e => hlm (by rw [e]))
    clear hlm
    go_enter Tryd.func57, Tryd.ntmps57
    go_wp2
    go_ret
    exact ⟨⟨false, rfl, by simp; exact Hlm.out⟩, Below.refl _ _⟩

/-- The two variables that the closures of Same go by. -/
def SB (W : World) (b5 b6 : Nat) : Prop := ∃ T5 T6, W.heap[b5]? = some (.cells #[.func (.func 55) #[] #[.pointer (some ⟨b5, 0, none⟩), .pointer (some ⟨b6, 0, none⟩)]] T5 (0, 0)) ∧ W.heap[b6]? = some (.cells #[.func (.func 54) #[] #[.pointer (some ⟨b5, 0, none⟩)]] T6 (0, 0))
theorem SB.later {W w : World} {b5 b6 : Nat} (h : SB W b5 b6) (hb : Below W.heap.size W w) : SB w b5 b6 := by
  obtain ⟨T5, T6, h1, h2⟩ := h
  exact ⟨T5, T6, (hb.block _ (Array.getElem?_eq_some_iff.1 h1).1).trans h1, (hb.block _ (Array.getElem?_eq_some_iff.1 h2).1).trans h2⟩

/-- What the closure same answers of a value, and another one, wherever they lie. -/
def SameAt (a : V) : Prop := ∀ (b : V) (S : Nat → Prop) (W : World) (r t r2 t2 : Sl) (b5 b6 : Nat), SB W b5 b6 → (∀ g, S g → g < W.heap.size) → HV S W a r t → HV S W b r2 t2 →
    Calls Tryd.prog 55 #[.agg #[.int .i64 a.kind, .int .i64 a.int, .string a.text, .slice r.a r.n r.c, .slice t.a t.n t.c], .agg #[.int .i64 b.kind, .int .i64 b.int, .string b.text, .slice r2.a r2.n r2.c, .slice t2.a t2.n t2.c], .pointer (some ⟨b5, 0, none⟩), .pointer (some ⟨b6, 0, none⟩)] W
      fun e w' => (∃ z : Bool, e = .returned (.bool z) ∧ (z = true ↔ a = b)) ∧ Below W.heap.size W w'

set_option maxRecDepth 100000 in
set_option maxHeartbeats 4000000 in
theorem sameF_any (x y : ByteArray × V) (ih : SameAt x.2) (S : Nat → Prop) (W : World) (r t r2 t2 : Sl) (b5 b6 : Nat) (hB : SB W b5 b6) (hS : ∀ g, S g → g < W.heap.size) (hx : HV S W x.2 r t) (hy : HV S W y.2 r2 t2) :
    Calls Tryd.prog 54 #[.agg #[.string x.1, .int .i64 x.2.kind, .int .i64 x.2.int, .string x.2.text, .slice r.a r.n r.c, .slice t.a t.n t.c], .agg #[.string y.1, .int .i64 y.2.kind, .int .i64 y.2.int, .string y.2.text, .slice r2.a r2.n r2.c, .slice t2.a t2.n t2.c], .pointer (some ⟨b5, 0, none⟩)] W
      fun e w' => (∃ z : Bool, e = .returned (.bool z) ∧ (z = true ↔ x = y)) ∧ Below W.heap.size W w' := by
  have hb2 : ∀ o1 o2, Below W.heap.size W ((W.alloc o1).alloc o2) := fun o1 o2 => ((Below.refl _ _).alloc (Nat.le_refl _) o1).alloc (by rw [size_alloc]; omega) o2
  have hcall := fun o1 o2 => ih y.2 S ((W.alloc o1).alloc o2) r t r2 t2 b5 b6 (hB.later (hb2 o1 o2)) (fun g hg => Nat.lt_of_lt_of_le (hS g hg) (hb2 o1 o2).size) (hx.later (hb2 o1 o2)) (hy.later (hb2 o1 o2))
  have Hb := Lib.hid hb2
  obtain ⟨T5, T6, e5, -⟩ := hB
  have c5 : W.cell? ⟨b5, 0, none⟩ = some (.func (.func 55) #[] #[.pointer (some ⟨b5, 0, none⟩), .pointer (some ⟨b6, 0, none⟩)]) := by rw [blk_cell e5]; rfl
  have l5 := (Array.getElem?_eq_some_iff.1 e5).1
  clear hb2 ih e5 hS hx hy
  cases hk : (x.1.toList == y.1.toList) with
  | false =>
    have Hk := Lib.hid (show ¬ x = y from fun e => by rw [e] at hk; simp at hk)
    clear hcall
    go_enter Tryd.func54, Tryd.ntmps54
    go_wp2
    go_ret
    exact ⟨⟨false, rfl, by simp; exact Hk.out⟩, Hb.out _ _⟩
  | true =>
    have Hk := Lib.hid (text_eq.1 (beq_iff_eq.1 hk))
    go_enter Tryd.func54, Tryd.ntmps54
    go_wp2_with fail
    refine (hcall _ _).mono ?_
    rintro e w4 ⟨⟨z, rfl, hz⟩, hb4⟩
    have H4 := Lib.hid (And.intro hz hb4)
    clear hz hb4 hcall
    go_wp2_with fail
    go_ret
    exact ⟨⟨z, rfl, H4.out.1.trans ⟨fun h => Prod.ext Hk.out h, fun h => by rw [h]⟩⟩, (Hb.out _ _).trans (H4.out.2.mono (Hb.out _ _).size)⟩

set_option maxRecDepth 100000 in
set_option maxHeartbeats 8000000 in
theorem same_any : ∀ a, SameAt a := V.ind fun a ihl ihf => by
  intro b S W r t r2 t2 b5 b6 hB hS hha hhb
  have hb2 : ∀ o1 o2, Below W.heap.size W ((W.alloc o1).alloc o2) := fun o1 o2 => ((Below.refl _ _).alloc (Nat.le_refl _) o1).alloc (by rw [size_alloc]; omega) o2
  have hV := fun W2 (hb : Below W.heap.size W W2) => eqV_any (g := 55) (lb := #[.pointer (some ⟨b5, 0, none⟩), .pointer (some ⟨b6, 0, none⟩)]) (W := W2) (fun _ _ => rfl) (fun g hg => Nat.lt_of_lt_of_le (hS g hg) hb.size) (hha.later hb).1 (hhb.later hb).1
    (fun x hx y _ W1 r t r2 t2 hb1 h1 h2 => ihl x hx y S W1 r t r2 t2 b5 b6 (hB.later (hb.trans (hb1.mono hb.size))) (fun g hg => Nat.lt_of_lt_of_le (hS g hg) (hb.trans (hb1.mono hb.size)).size) h1 h2)
  have hF := fun W2 (hb : Below W.heap.size W W2) => eqF_any (g := 54) (lb := #[.pointer (some ⟨b5, 0, none⟩)]) (W := W2) (fun _ _ => rfl) (fun g hg => Nat.lt_of_lt_of_le (hS g hg) hb.size) (hha.later hb).2 (hhb.later hb).2
    (fun x hx y _ W1 r t r2 t2 hb1 h1 h2 => sameF_any x y (ihf x hx) S W1 r t r2 t2 b5 b6 (hB.later (hb.trans (hb1.mono hb.size))) (fun g hg => Nat.lt_of_lt_of_le (hS g hg) (hb.trans (hb1.mono hb.size)).size) h1 h2)
  have Hb := Lib.hid (And.intro hb2 (And.intro hV hF))
  have hn := Lib.hid (fun (w2 : World) (o1 o2 : Obj) (hb : Below ((W.alloc o1).alloc o2).heap.size ((W.alloc o1).alloc o2) w2) => (show w2.heap[W.heap.size]? = some o1 ∧ w2.heap[W.heap.size + 1]? = some o2 from by
    have h1 := block_new W o1
    have h2 := block_new (W.alloc o1) o2
    rw [size_alloc] at h2
    exact ⟨(hb.block _ (by rw [size_alloc, size_alloc]; omega)).trans ((block_old (by rw [size_alloc]; omega)).trans h1), (hb.block _ (by rw [size_alloc, size_alloc]; omega)).trans h2⟩))
  obtain ⟨T5, T6, e5, e6⟩ := hB
  have c5 : W.cell? ⟨b5, 0, none⟩ = some (.func (.func 55) #[] #[.pointer (some ⟨b5, 0, none⟩), .pointer (some ⟨b6, 0, none⟩)]) := by rw [blk_cell e5]; rfl
  have c6 : W.cell? ⟨b6, 0, none⟩ = some (.func (.func 54) #[] #[.pointer (some ⟨b5, 0, none⟩)]) := by rw [blk_cell e6]; rfl
  have l5 := (Array.getElem?_eq_some_iff.1 e5).1
  have l6 := (Array.getElem?_eq_some_iff.1 e6).1
  clear hb2 hV hF hS hha hhb ihl ihf e5 e6
  cases p1 : (a.kind == b.kind) with
  | false =>
    have Hk := Lib.hid (show ¬ a = b from fun e => by rw [e] at p1; simp at p1)
    go_enter Tryd.func55, Tryd.ntmps55
    go_wp2
    go_ret
    exact ⟨⟨false, rfl, by simp; exact Hk.out⟩, Hb.out.1 _ _⟩
  | true =>
    cases p2 : (a.int == b.int) with
    | false =>
      have Hk := Lib.hid (show ¬ a = b from fun e => by rw [e] at p2; simp at p2)
      go_enter Tryd.func55, Tryd.ntmps55
      go_wp2
      go_ret
      exact ⟨⟨false, rfl, by simp; exact Hk.out⟩, Hb.out.1 _ _⟩
    | true =>
      cases p3 : (a.text.toList == b.text.toList) with
      | false =>
        have Hk := Lib.hid (show ¬ a = b from fun e => by rw [e] at p3; simp at p3)
        go_enter Tryd.func55, Tryd.ntmps55
        go_wp2
        go_ret
        exact ⟨⟨false, rfl, by simp; exact Hk.out⟩, Hb.out.1 _ _⟩
      | true =>
        have Hp := Lib.hid (show a.kind = b.kind ∧ a.int = b.int ∧ a.text = b.text from ⟨beq_iff_eq.1 p1, beq_iff_eq.1 p2, text_eq.1 (beq_iff_eq.1 p3)⟩)
        go_enter Tryd.func55, Tryd.ntmps55
        go_wp2_with fail
        refine (Hb.out.2.1 _ (Hb.out.1 _ _)).mono ?_
        rintro e w4 ⟨⟨z, rfl, hz⟩, hb4⟩
        obtain ⟨m1, m2⟩ := hn.out w4 _ _ hb4
        have hb0 := (Hb.out.1 (.cells #[.int .i64 a.kind, .int .i64 a.int, .string a.text, .slice r.a r.n r.c, .slice t.a t.n t.c] 27) (.cells #[.int .i64 b.kind, .int .i64 b.int, .string b.text, .slice r2.a r2.n r2.c, .slice t2.a t2.n t2.c] 27)).trans (hb4.mono (Hb.out.1 _ _).size)
        have a4 : w4.cell? ⟨W.heap.size, 4, none⟩ = some (.slice t.a t.n t.c) := by rw [blk_cell m1]; rfl
        have b4 : w4.cell? ⟨W.heap.size + 1, 4, none⟩ = some (.slice t2.a t2.n t2.c) := by rw [blk_cell m2]; rfl
        have d6 := (hb0.cell (p := ⟨b6, 0, none⟩) l6).trans c6
        have H4 := Lib.hid (And.intro hz hb0)
        clear hz hb4 hb0 m1 m2
        cases z with
        | false =>
          have H5 := Lib.hid (show ¬ a = b from fun e => by have := H4.out.1.2 (by rw [e]); cases this)
          go_wp2_with fail
          go_ret
          exact ⟨⟨false, rfl, by simp; exact H5.out⟩, H4.out.2⟩
        | true =>
          go_wp2_with fail
          refine (Hb.out.2.2 _ H4.out.2).mono ?_
          rintro e w5 ⟨⟨z, rfl, hz⟩, hb5⟩
          have H5 := Lib.hid (And.intro hz hb5)
          clear hz hb5
          go_wp2_with fail
          go_ret
          exact ⟨⟨z, rfl, H5.out.1.trans ⟨fun h => V.ext_iff.2 ⟨Hp.out.1, Hp.out.2.1, Hp.out.2.2, (by have h4 := H4.out.1; simpa using h4), h⟩, fun h => by rw [h]⟩⟩, H4.out.2.trans (H5.out.2.mono H4.out.2.size)⟩

theorem four_new {W w : World} {o1 o2 o3 o4 : Obj} (hb : Below ((((W.alloc o1).alloc o2).alloc o3).alloc o4).heap.size ((((W.alloc o1).alloc o2).alloc o3).alloc o4) w) :
    w.heap[W.heap.size]? = some o1 ∧ w.heap[W.heap.size + 1]? = some o2 ∧ w.heap[W.heap.size + 2]? = some o3 ∧ w.heap[W.heap.size + 3]? = some o4 := by
  have h1 := block_new W o1
  have h2 := block_new (W.alloc o1) o2
  have h3 := block_new ((W.alloc o1).alloc o2) o3
  have h4 := block_new (((W.alloc o1).alloc o2).alloc o3) o4
  simp only [size_alloc] at h2 h3 h4
  refine ⟨(hb.block _ ?_).trans ((block_old ?_).trans ((block_old ?_).trans ((block_old ?_).trans h1))), (hb.block _ ?_).trans ((block_old ?_).trans ((block_old ?_).trans h2)), (hb.block _ ?_).trans ((block_old ?_).trans h3), (hb.block _ ?_).trans h4⟩ <;> simp only [size_alloc] <;> omega

set_option maxRecDepth 100000 in
set_option maxHeartbeats 8000000 in
theorem Same_any (a b : V) (hoa : okC a) (hob : okC b) (S : Nat → Prop) (W : World) (r t r2 t2 : Sl) (hS : ∀ g, S g → g < W.heap.size) (hha : HV S W a r t) (hhb : HV S W b r2 t2) :
    Calls Tryd.prog 30 #[.agg #[.int .i64 a.kind, .int .i64 a.int, .string a.text, .slice r.a r.n r.c, .slice t.a t.n t.c], .agg #[.int .i64 b.kind, .int .i64 b.int, .string b.text, .slice r2.a r2.n r2.c, .slice t2.a t2.n t2.c]] W
      fun e w' => (∃ z : Bool, e = .returned (.bool z) ∧ (z = true ↔ canonV a = canonV b)) ∧ Below W.heap.size W w' := by
  have hcA := fun W1 (hb : Below W.heap.size W W1) => Canon_any a hoa S W1 r t (fun g hg => Nat.lt_of_lt_of_le (hS g hg) hb.size) (hha.later hb)
  have hcB := fun W1 (hb : Below W.heap.size W W1) => Canon_any b hob S W1 r2 t2 (fun g hg => Nat.lt_of_lt_of_le (hS g hg) hb.size) (hhb.later hb)
  have hcx : (canonV a).kind = a.kind ∧ (canonV a).int = a.int ∧ (canonV a).text = a.text := by rw [canonV_eq]; exact ⟨rfl, rfl, rfl⟩
  have hcy : (canonV b).kind = b.kind ∧ (canonV b).int = b.int ∧ (canonV b).text = b.text := by rw [canonV_eq]; exact ⟨rfl, rfl, rfl⟩
  have hb4 : ∀ o1 o2 o3 o4, Below W.heap.size W ((((W.alloc o1).alloc o2).alloc o3).alloc o4).drew := fun o1 o2 o3 o4 =>
    (((((Below.refl _ _).alloc (Nat.le_refl _) o1).alloc (by rw [size_alloc]; omega) o2).alloc (by simp only [size_alloc]; omega) o3).alloc (by simp only [size_alloc]; omega) o4).drew
  have Hc := Lib.hid (And.intro hcx (And.intro hcy hb4))
  clear hcx hcy hb4 hha hhb hS
  have rs := fun (a : Addr) (w : World) (m : Mode) => run_store (P := Tryd.prog) w a (.func (.func 55) #[] #[.pointer (some ⟨W.heap.size + 2, 0, none⟩), .pointer (some ⟨W.heap.size + 3, 0, none⟩)]) m rfl
  have rs6 := fun (a : Addr) (w : World) (m : Mode) => run_store (P := Tryd.prog) w a (.func (.func 54) #[] #[.pointer (some ⟨W.heap.size + 2, 0, none⟩)]) m rfl
  go_enter Tryd.func30, Tryd.ntmps30
  go_wp2_with fail
  go_region_law ((go_simp; go_wp2_with (first
    | (go_at_call 12; (with_reducible show Calls Tryd.prog 12 #[.agg #[.int .i64 a.kind, .int .i64 a.int, .string a.text, .slice r.a r.n r.c, .slice t.a t.n t.c]] (World.drew _) _); refine (hcA _ (Hc.out.2.2 _ _ _ _)).mono ?_; rintro e w5 ⟨pa, qa, rfl, hB5, hb5⟩; have hb05 := (Hc.out.2.2 _ _ _ _).trans (hb5.mono (Hc.out.2.2 _ _ _ _).size); obtain ⟨e1, e2, e3, e4⟩ := four_new ((Below.refl _ _).drew.trans hb5); have k0 : w5.cell? ⟨W.heap.size, 0, none⟩ = some (.int .i64 a.kind) := (by rw [blk_cell e1]; rfl); have k1 : w5.cell? ⟨W.heap.size, 1, none⟩ = some (.int .i64 a.int) := (by rw [blk_cell e1]; rfl); have k2 : w5.cell? ⟨W.heap.size, 2, none⟩ = some (.string a.text) := (by rw [blk_cell e1]; rfl); have k3 : w5.cell? ⟨W.heap.size, 3, none⟩ = some (.slice r.a r.n r.c) := (by rw [blk_cell e1]; rfl); have k4 : w5.cell? ⟨W.heap.size, 4, none⟩ = some (.slice t.a t.n t.c) := (by rw [blk_cell e1]; rfl); have j0 : w5.cell? ⟨W.heap.size + 1, 0, none⟩ = some (.int .i64 b.kind) := (by rw [blk_cell e2]; rfl); have j1 : w5.cell? ⟨W.heap.size + 1, 1, none⟩ = some (.int .i64 b.int) := (by rw [blk_cell e2]; rfl); have j2 : w5.cell? ⟨W.heap.size + 1, 2, none⟩ = some (.string b.text) := (by rw [blk_cell e2]; rfl); have j3 : w5.cell? ⟨W.heap.size + 1, 3, none⟩ = some (.slice r2.a r2.n r2.c) := (by rw [blk_cell e2]; rfl); have j4 : w5.cell? ⟨W.heap.size + 1, 4, none⟩ = some (.slice t2.a t2.n t2.c) := (by rw [blk_cell e2]; rfl); have s5 : w5.cell? ⟨W.heap.size + 2, 0, none⟩ = some (.func (.func 55) #[] #[.pointer (some ⟨W.heap.size + 2, 0, none⟩), .pointer (some ⟨W.heap.size + 3, 0, none⟩)]) := (by rw [blk_cell e3]; rfl); have H5 := Lib.hid (And.intro hB5 (And.intro hb05 (And.intro e3 e4))); clear hB5 hb5 hb05 e1 e2 e3 e4)
    | (go_at_call 12; (with_reducible show Calls Tryd.prog 12 #[.agg #[.int .i64 b.kind, .int .i64 b.int, .string b.text, .slice r2.a r2.n r2.c, .slice t2.a t2.n t2.c]] (World.drew _) _); refine (hcB _ (Hc.out.2.2 _ _ _ _)).mono ?_; rintro e w5 ⟨pb, qb, rfl, hB5, hb5⟩; have hb05 := (Hc.out.2.2 _ _ _ _).trans (hb5.mono (Hc.out.2.2 _ _ _ _).size); obtain ⟨e1, e2, e3, e4⟩ := four_new ((Below.refl _ _).drew.trans hb5); have k0 : w5.cell? ⟨W.heap.size, 0, none⟩ = some (.int .i64 a.kind) := (by rw [blk_cell e1]; rfl); have k1 : w5.cell? ⟨W.heap.size, 1, none⟩ = some (.int .i64 a.int) := (by rw [blk_cell e1]; rfl); have k2 : w5.cell? ⟨W.heap.size, 2, none⟩ = some (.string a.text) := (by rw [blk_cell e1]; rfl); have k3 : w5.cell? ⟨W.heap.size, 3, none⟩ = some (.slice r.a r.n r.c) := (by rw [blk_cell e1]; rfl); have k4 : w5.cell? ⟨W.heap.size, 4, none⟩ = some (.slice t.a t.n t.c) := (by rw [blk_cell e1]; rfl); have j0 : w5.cell? ⟨W.heap.size + 1, 0, none⟩ = some (.int .i64 b.kind) := (by rw [blk_cell e2]; rfl); have j1 : w5.cell? ⟨W.heap.size + 1, 1, none⟩ = some (.int .i64 b.int) := (by rw [blk_cell e2]; rfl); have j2 : w5.cell? ⟨W.heap.size + 1, 2, none⟩ = some (.string b.text) := (by rw [blk_cell e2]; rfl); have j3 : w5.cell? ⟨W.heap.size + 1, 3, none⟩ = some (.slice r2.a r2.n r2.c) := (by rw [blk_cell e2]; rfl); have j4 : w5.cell? ⟨W.heap.size + 1, 4, none⟩ = some (.slice t2.a t2.n t2.c) := (by rw [blk_cell e2]; rfl); have s5 : w5.cell? ⟨W.heap.size + 2, 0, none⟩ = some (.func (.func 55) #[] #[.pointer (some ⟨W.heap.size + 2, 0, none⟩), .pointer (some ⟨W.heap.size + 3, 0, none⟩)]) := (by rw [blk_cell e3]; rfl); have H5 := Lib.hid (And.intro hB5 (And.intro hb05 (And.intro e3 e4))); clear hB5 hb5 hb05 e1 e2 e3 e4)
    | (go_at_call 12; (with_reducible show Calls Tryd.prog 12 #[.agg #[.int .i64 a.kind, .int .i64 a.int, .string a.text, .slice r.a r.n r.c, .slice t.a t.n t.c]] w5 _); refine (hcA _ H5.out.2.1).mono ?_; rintro e w6 ⟨pa, qa, rfl, hB6, hb6⟩; have e3 := (hb6.block _ (Array.getElem?_eq_some_iff.1 H5.out.2.2.1).1).trans H5.out.2.2.1; have e4 := (hb6.block _ (Array.getElem?_eq_some_iff.1 H5.out.2.2.2).1).trans H5.out.2.2.2; have s6 : w6.cell? ⟨W.heap.size + 2, 0, none⟩ = some (.func (.func 55) #[] #[.pointer (some ⟨W.heap.size + 2, 0, none⟩), .pointer (some ⟨W.heap.size + 3, 0, none⟩)]) := (by rw [blk_cell e3]; rfl); have H6 := Lib.hid (And.intro hB6 (And.intro hb6 (And.intro e3 e4))); clear hB6 hb6 e3 e4)
    | (go_at_call 12; (with_reducible show Calls Tryd.prog 12 #[.agg #[.int .i64 b.kind, .int .i64 b.int, .string b.text, .slice r2.a r2.n r2.c, .slice t2.a t2.n t2.c]] w5 _); refine (hcB _ H5.out.2.1).mono ?_; rintro e w6 ⟨pb, qb, rfl, hB6, hb6⟩; have e3 := (hb6.block _ (Array.getElem?_eq_some_iff.1 H5.out.2.2.1).1).trans H5.out.2.2.1; have e4 := (hb6.block _ (Array.getElem?_eq_some_iff.1 H5.out.2.2.2).1).trans H5.out.2.2.2; have s6 : w6.cell? ⟨W.heap.size + 2, 0, none⟩ = some (.func (.func 55) #[] #[.pointer (some ⟨W.heap.size + 2, 0, none⟩), .pointer (some ⟨W.heap.size + 3, 0, none⟩)]) := (by rw [blk_cell e3]; rfl); have H6 := Lib.hid (And.intro hB6 (And.intro hb6 (And.intro e3 e4))); clear hB6 hb6 e3 e4)
    | (go_at_call 55; have hs := same_any (canonV a) (canonV b) (fun g => g < w6.heap.size) w6 pa qa pb qb (W.heap.size + 2) (W.heap.size + 3) ⟨_, _, H6.out.2.2.1, H6.out.2.2.2⟩ (fun g hg => hg) (H5.out.1.hv.map (fun k _ hl => ⟨Nat.lt_of_lt_of_le hl H6.out.2.1.size, H6.out.2.1.block k hl⟩)) (H6.out.1.hv.map (fun k _ hl => ⟨hl, rfl⟩)); rw [Hc.out.1.1, Hc.out.1.2.1, Hc.out.1.2.2, Hc.out.2.1.1, Hc.out.2.1.2.1, Hc.out.2.1.2.2] at hs; refine hs.mono ?_; rintro e w7 ⟨⟨z, rfl, hz⟩, hb7⟩; have H7 := Lib.hid (And.intro hz hb7); clear hz hb7)
    | (go_at_call 55; have hs := same_any (canonV a) (canonV b) (fun g => g < w6.heap.size) w6 pa qa pb qb (W.heap.size + 2) (W.heap.size + 3) ⟨_, _, H6.out.2.2.1, H6.out.2.2.2⟩ (fun g hg => hg) (H6.out.1.hv.map (fun k _ hl => ⟨hl, rfl⟩)) (H5.out.1.hv.map (fun k _ hl => ⟨Nat.lt_of_lt_of_le hl H6.out.2.1.size, H6.out.2.1.block k hl⟩)); rw [Hc.out.1.1, Hc.out.1.2.1, Hc.out.1.2.2, Hc.out.2.1.1, Hc.out.2.1.2.1, Hc.out.2.1.2.2] at hs; refine hs.mono ?_; rintro e w7 ⟨⟨z, rfl, hz⟩, hb7⟩; have H7 := Lib.hid (And.intro hz hb7); clear hz hb7))))
  all_goals
    go_wp2_with fail
    go_ret
    have hb06 := H5.out.2.1.trans (H6.out.2.1.mono H5.out.2.1.size)
    exact ⟨⟨z, rfl, H7.out.1⟩, hb06.trans (H7.out.2.mono hb06.size)⟩
end Go.Proofs.YteocenjneoclbaaDoor.tre

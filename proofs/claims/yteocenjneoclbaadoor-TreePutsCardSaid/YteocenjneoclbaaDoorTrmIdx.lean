/- Layer 4: the library's IndexFunc and ContainsFunc, and the program's all, over whatever is asked: a state goes from one element to the next. -/
import Derived.Deep.LoopGhost
import Derived.RangeFuncNested
import Derived.Shelf.SlicesQ.Load
import Derived.Test.YteocenjneoclbaaDoorTrmV
namespace Go.Proofs.YteocenjneoclbaaDoor.tre
open Go.RowKit Go.Shelf

/-- The first place at which f says so, or -1; and the state behind it. -/
def idxS {σ E : Type} (f : σ → E → Bool × σ) : σ → List E → Nat → Int × σ
  | s, [], _ => (-1, s)
  | s, x :: l, i => if (f s x).1 = true then ((i : Int), (f s x).2) else idxS f (f s x).2 l (i + 1)
/-- Does f say so of each? And the state behind it. -/
def allS {σ E : Type} (f : σ → E → Bool × σ) : σ → List E → Bool × σ
  | s, [] => (true, s)
  | s, x :: l => if (f s x).1 = true then allS f (f s x).2 l else (false, (f s x).2)
/-- The state behind all of them. -/
def aft {σ E : Type} (f : σ → E → Bool × σ) (s : σ) (l : List E) : σ := l.foldl (fun s x => (f s x).2) s
theorem aft_snoc {σ E : Type} (f : σ → E → Bool × σ) (s : σ) (l : List E) (k : Nat) (h : k < l.length) : aft f s (l.take (k + 1)) = (f (aft f s (l.take k)) l[k]).2 := by
  unfold aft; rw [List.take_succ_eq_append_getElem h, List.foldl_append]; rfl
/-- What is asked, turned round. -/
def notS {σ E : Type} (f : σ → E → Bool × σ) (s : σ) (x : E) : Bool × σ := (!(f s x).1, (f s x).2)
theorem idxS_all {σ E : Type} (f : σ → E → Bool × σ) : ∀ (l : List E) (s : σ) (i : Nat), (!decide (0 ≤ (idxS (notS f) s l i).1)) = (allS f s l).1 ∧ (idxS (notS f) s l i).2 = (allS f s l).2
  | [], _, _ => ⟨rfl, rfl⟩
  | x :: l, s, i => by
    unfold idxS allS
    cases h : (f s x).1 with
    | true =>
      have := idxS_all f l (f s x).2 (i + 1)
      simpa [notS, h] using this
    | false => simp [notS, h]
theorem idxS_step {σ E : Type} (f : σ → E → Bool × σ) (s : σ) (l : List E) (k : Nat) (h : k < l.length) :
    idxS f s (l.drop k) k = if (f s l[k]).1 = true then ((k : Int), (f s l[k]).2) else idxS f (f s l[k]).2 (l.drop (k + 1)) (k + 1) := by
  rw [List.drop_eq_getElem_cons h]; rfl

/-- All blocks but those of X are as they were. -/
structure Keeps (X : Nat → Prop) (w w' : World) : Prop where
  os : w'.os = w.os
  tape : w'.tape = w.tape
  output : w'.output = w.output
  size : w.heap.size ≤ w'.heap.size
  block : ∀ k, k < w.heap.size → ¬ X k → w'.heap[k]? = w.heap[k]?
theorem Keeps.of_below {X : Nat → Prop} {w w' : World} (h : Below w.heap.size w w') : Keeps X w w' := ⟨h.os, h.tape, h.output, h.size, fun k hk _ => h.block k hk⟩
theorem Keeps.trans {X Y : Nat → Prop} {a b c : World} (h : Keeps X a b) (k : Keeps Y b c) (hy : ∀ i, Y i → X i ∨ a.heap.size ≤ i) : Keeps X a c :=
  ⟨k.os.trans h.os, k.tape.trans h.tape, k.output.trans h.output, Nat.le_trans h.size k.size, fun i hi hx =>
    (k.block i (Nat.lt_of_lt_of_le hi h.size) (fun e => by rcases hy i e with e | e; exact hx e; omega)).trans (h.block i hi hx)⟩
theorem Keeps.below {X : Nat → Prop} {B : Nat} {w w' : World} (h : Keeps X w w') (hx : ∀ k, X k → B ≤ k) (hb : B ≤ w.heap.size) : Below B w w' :=
  ⟨h.os, h.tape, h.output, h.size, fun k hk => h.block k (by omega) (fun e => by have := hx k e; omega)⟩

/-- What is kept from one asking to the next: what holds of it in the world, and which blocks are its own. -/
structure Vst {σ : Type} (Inv : σ → World → Prop) (own : σ → World → Nat → Prop) : Prop where
  stab : ∀ s w w', Inv s w → Below w.heap.size w w' → Inv s w'
  lt : ∀ s w b, Inv s w → own s w b → b < w.heap.size
  less : ∀ s w w' b, Inv s w → Below w.heap.size w w' → own s w' b → own s w b
structure Step {σ : Type} (Inv : σ → World → Prop) (own : σ → World → Nat → Prop) (s : σ) (w : World) (s' : σ) (w' : World) : Prop where
  inv : Inv s' w'
  gives : ∀ b, own s' w' b → own s w b ∨ w.heap.size ≤ b
  keeps : Keeps (own s w) w w'
theorem Step.refl {σ : Type} {Inv : σ → World → Prop} {own : σ → World → Nat → Prop} {s : σ} {w : World} (h : Inv s w) : Step Inv own s w s w := ⟨h, fun _ h => .inl h, .of_below (Below.refl _ _)⟩
theorem Step.trans {σ : Type} {Inv : σ → World → Prop} {own : σ → World → Nat → Prop} {s s1 s2 : σ} {w w1 w2 : World} (h : Step Inv own s w s1 w1) (k : Step Inv own s1 w1 s2 w2) : Step Inv own s w s2 w2 :=
  ⟨k.inv, fun b hb => by
    rcases k.gives b hb with h1 | h1
    · exact h.gives b h1
    · have := h.keeps.size; exact .inr (by omega), h.keeps.trans k.keeps h.gives⟩
theorem Step.below {σ : Type} {Inv : σ → World → Prop} {own : σ → World → Nat → Prop} (hV : Vst Inv own) {s : σ} {w w' : World} (h : Inv s w) (hb : Below w.heap.size w w') : Step Inv own s w s w' :=
  ⟨hV.stab s w w' h hb, fun b hh => .inl (hV.less s w w' b h hb hh), .of_below hb⟩
/-- What lies where the state's own blocks aren't lies there behind the step, too; and that is so again. -/
theorem Step.free {σ : Type} {Inv : σ → World → Prop} {own : σ → World → Nat → Prop} {s s' : σ} {w w' : World} (h : Step Inv own s w s' w') {S : Nat → Prop} (hS : ∀ g, S g → g < w.heap.size ∧ ¬ own s w g) :
    (∀ g, S g → g < w'.heap.size ∧ ¬ own s' w' g) ∧ ∀ g, S g → g < w.heap.size → S g ∧ w'.heap[g]? = w.heap[g]? :=
  ⟨fun g hg => ⟨Nat.lt_of_lt_of_le (hS g hg).1 h.keeps.size, fun e => by rcases h.gives g e with e | e; exact (hS g hg).2 e; have := (hS g hg).1; omega⟩,
   fun g hg hl => ⟨hg, h.keeps.block g hl (hS g hg).2⟩⟩

theorem sizeOf_V  (W : World) : Sem.run Tryd.prog (Go.sizeOf 27) W = .ok 5 W := by kernel_rfl
theorem isAgg_V (W : World) : Sem.run Tryd.prog (isAgg 27) W = .ok true W := by kernel_rfl

/-- What a function value answers of each element, wherever it lies. -/
def AskV {σ : Type} (Inv : σ → World → Prop) (own : σ → World → Nat → Prop) (l : List V) (s0 : σ) (g : FuncId) (lb : Array Value) (f : σ → V → Bool × σ) : Prop :=
  (∀ args w, (callFunc g args).run Tryd.prog w = .ok (.enter g args) w) ∧
  ∀ (i : Nat) (x : V), l[i]? = some x → ∀ (S : Nat → Prop) (s : σ) (W : World) (r t : Sl), s = aft f s0 (l.take i) → Inv s W → (∀ g, S g → g < W.heap.size ∧ ¬ own s W g) → HV S W x r t →
    Calls Tryd.prog g (#[.agg #[.int .i64 x.kind, .int .i64 x.int, .string x.text, .slice r.a r.n r.c, .slice t.a t.n t.c]] ++ lb) W fun e w' => e = .returned (.bool (f s x).1) ∧ Step Inv own s W (f s x).2 w'

set_option maxRecDepth 100000 in
set_option maxHeartbeats 2000000 in
theorem idxV_any {σ : Type} {Inv : σ → World → Prop} {own : σ → World → Nat → Prop} {l : List V} {g : FuncId} {lb : Array Value} {f : σ → V → Bool × σ} {s0 : σ} (hf : AskV Inv own l s0 g lb f) {p : Sl}
    {S : Nat → Prop} {w : World} (hrow : RowV S w l p) (hS : ∀ g, S g → g < w.heap.size ∧ ¬ own s0 w g) (h0 : Inv s0 w) :
    Calls Tryd.prog 86 #[.slice p.a p.n p.c, .func (.func g) #[] lb] w fun e w' => e = .returned (.int .i64 (idxS f s0 l 0).1) ∧ Step Inv own s0 w (idxS f s0 l 0).2 w' := by
  obtain ⟨eg, ask⟩ := hf
  have hn := hrow.len
  have hl := hrow.max
  have aE := isAgg_V
  have zE := sizeOf_V
  obtain ⟨pa, pn, pc⟩ := p
  simp only at hn
  subst hn
  go_enter Tryd.func86, Tryd.ntmps86
  go_wp2
  go_loopg [5, 8] l.length (fun gg _ s8 wr => ∃ (kk : Nat) (s : σ), kk ≤ l.length ∧ l.length - kk ≤ gg ∧ s8 = .int .i64 kk ∧ Hid (Step Inv own s0 w s wr ∧ idxS f s (l.drop kk) kk = idxS f s0 l 0 ∧ s = aft f s0 (l.take kk)))
  case atStart => exact ⟨0, s0, Nat.zero_le _, by omega, rfl, Step.refl h0, rfl, rfl⟩
  case round =>
    obtain ⟨kk, s, hkl, hg, rfl, H⟩ := hrel
    by_cases hlt : kk < l.length
    · have hltz : (kk : Int) < (l.length : Int) := by omega
      obtain ⟨b, r, t, ha, hbs, _, hc, hh⟩ := (hrow.map (H.out.1.free hS).2).at hlt
      simp only at ha
      subst ha
      have hst := idxS_step f s l kk hlt
      have hxm := List.getElem?_eq_getElem hlt
      have haf := aft_snoc f s0 l kk hlt
      rw [← H.out.2.2] at haf
      generalize l[kk] = x at hc hh hst hxm haf
      have c0 : wr.cell? ⟨b, kk * 5, none⟩ = some (.int .i64 x.kind) := hc 0 _ rfl
      have c1 : wr.cell? ⟨b, kk * 5 + 1, none⟩ = some (.int .i64 x.int) := hc 1 _ rfl
      have c2 : wr.cell? ⟨b, kk * 5 + 2, none⟩ = some (.string x.text) := hc 2 _ rfl
      have c3 : wr.cell? ⟨b, kk * 5 + 3, none⟩ = some (.slice r.a r.n r.c) := hc 3 _ rfl
      have c4 : wr.cell? ⟨b, kk * 5 + 4, none⟩ = some (.slice t.a t.n t.c) := hc 4 _ rfl
      have hcall : Calls Tryd.prog g (#[.agg #[.int .i64 x.kind, .int .i64 x.int, .string x.text, .slice r.a r.n r.c, .slice t.a t.n t.c]] ++ lb) wr fun e w' => e = .returned (.bool (f s x).1) ∧ Step Inv own s wr (f s x).2 w' := ask kk x hxm S s wr r t H.out.2.2 H.out.1.inv (H.out.1.free hS).1 hh
      clear hc hh hxm
      generalize hy : f s x = y at hcall hst haf
      obtain ⟨yb, ys⟩ := y
      simp only at hcall hst haf
      rw [H.out.2.1] at hst
      cases yb with
      | true =>
        have Hst := Lib.hid hst
        clear hst hy ask hrow haf
        go_wp2_with (go_at_fn g; refine hcall.mono ?_; rintro e w' ⟨rfl, hb'⟩)
        go_ret
        rw [Hst.out]
        exact ⟨rfl, H.out.1.trans hb'⟩
      | false =>
        have Hst := Lib.hid (And.intro hst haf)
        clear hst hy haf
        go_wp2_with (go_at_fn g; refine hcall.mono ?_; rintro e w' ⟨rfl, hb'⟩)
        go_roundg (l.length - (kk + 1))
        case measure => omega
        case rel => exact ⟨kk + 1, ys, by omega, by omega, by go_num, H.out.1.trans hb', Hst.out.1.symm, Hst.out.2.symm⟩
    · have hltz : ¬ (kk : Int) < (l.length : Int) := by omega
      obtain rfl : kk = l.length := by omega
      go_wp2
      go_ret
      have h2 := H.out.2.1
      rw [List.drop_length] at h2
      rw [← h2]
      exact ⟨rfl, H.out.1⟩

/-- ContainsFunc. -/
theorem containsV_any {σ : Type} {Inv : σ → World → Prop} {own : σ → World → Nat → Prop} {l : List V} {g : FuncId} {lb : Array Value} {f : σ → V → Bool × σ} {s0 : σ} (hf : AskV Inv own l s0 g lb f) {p : Sl}
    {S : Nat → Prop} {w : World} (hrow : RowV S w l p) (hS : ∀ g, S g → g < w.heap.size ∧ ¬ own s0 w g) (h0 : Inv s0 w) :
    Calls Tryd.prog 75 #[.slice p.a p.n p.c, .func (.func g) #[] lb] w fun e w' => e = .returned (.bool (decide (0 ≤ (idxS f s0 l 0).1))) ∧ Step Inv own s0 w (idxS f s0 l 0).2 w' := by
  have hc := idxV_any hf hrow hS h0
  clear hf hrow hS h0
  go_enter Tryd.func75, Tryd.ntmps75
  go_wp2_with fail
  refine hc.mono ?_
  rintro e w' ⟨rfl, hb⟩
  go_wp2
  go_ret
  exact ⟨rfl, hb⟩

/-- all's closure, over the cell that holds what is asked. -/
theorem ask_notV {σ : Type} {Inv : σ → World → Prop} {own : σ → World → Nat → Prop} (hV : Vst Inv own) {l : List V} {g : FuncId} {lb : Array Value} {f : σ → V → Bool × σ} {s0 : σ} (hf : AskV Inv own l s0 g lb f) (B : Nat) (T : TypeId) :
    AskV (fun s W => Inv s W ∧ ¬ own s W B ∧ W.heap[B]? = some (.cells #[.func (.func g) #[] lb] T (0, 0))) own l s0 76 #[.pointer (some ⟨B, 0, none⟩)] (notS f) := by
  refine ⟨enters_of Tryd.func76 (by kernel_rfl) rfl, fun i x hx S s W r t hs hi hS hh => ?_⟩
  obtain ⟨hi, hB, hc⟩ := hi
  have hBl := (Array.getElem?_eq_some_iff.1 hc).1
  have hcell : W.cell? ⟨B, 0, none⟩ = some (.func (.func g) #[] lb) := by simp [World.cell?, hc]
  have eg := hf.1
  have hb1 : ∀ o, Below W.heap.size W (W.alloc o) := fun o => (Below.refl _ _).alloc (Nat.le_refl _) o
  have hcall := fun o => hf.2 i x hx S s (W.alloc o) r t hs (hV.stab _ _ _ hi (hb1 o)) ((Step.below hV hi (hb1 o)).free hS).1 (hh.later (hb1 o))
  have Hb := Lib.hid hb1
  clear hf hS hh hb1 hs
  go_enter Tryd.func76, Tryd.ntmps76
  go_wp2_with fail
  refine (hcall _).mono ?_
  rintro e w' ⟨rfl, hb⟩
  go_wp2
  go_ret
  have hst := (Step.below hV hi (Hb.out _)).trans hb
  exact ⟨rfl, ⟨hst.inv, fun e => by rcases hst.gives B e with e | e; exact hB e; omega, (hst.keeps.block B hBl hB).trans hc⟩, hst.gives, hst.keeps⟩

/-- all. -/
theorem allV_any {σ : Type} {Inv : σ → World → Prop} {own : σ → World → Nat → Prop} (hV : Vst Inv own) {l : List V} {g : FuncId} {lb : Array Value} {f : σ → V → Bool × σ} {s0 : σ} (hf : AskV Inv own l s0 g lb f) {p : Sl}
    {S : Nat → Prop} {w : World} (hrow : RowV S w l p) (hS : ∀ g, S g → g < w.heap.size ∧ ¬ own s0 w g) (h0 : Inv s0 w) :
    Calls Tryd.prog 53 #[.slice p.a p.n p.c, .func (.func g) #[] lb] w fun e w' => e = .returned (.bool (allS f s0 l).1) ∧ Step Inv own s0 w (allS f s0 l).2 w' := by
  have hb1 : ∀ o, Below w.heap.size w (w.alloc o) := fun o => (Below.refl _ _).alloc (Nat.le_refl _) o
  have hB : ¬ own s0 w w.heap.size := fun e => by have := hV.lt s0 w _ h0 e; omega
  have hc := fun T => containsV_any (w := w.alloc (.cells #[.func (.func g) #[] lb] T)) (ask_notV hV hf w.heap.size T) (hrow.later (hb1 _)) ((Step.below hV h0 (hb1 _)).free hS).1 ⟨hV.stab _ _ _ h0 (hb1 _), fun e => hB (hV.less _ _ _ _ h0 (hb1 _) e), heap_alloc_new _ _⟩
  have Hb := Lib.hid hb1
  have Ha := Lib.hid (idxS_all f l s0 0)
  clear hf hrow hS hB hb1
  go_enter Tryd.func53, Tryd.ntmps53
  go_wp2_with fail
  refine (hc _).mono ?_
  rintro e w' ⟨rfl, hb⟩
  go_wp2
  go_ret
  rw [← Ha.out.1, ← Ha.out.2]
  exact ⟨rfl, (Step.below hV h0 (Hb.out _)).trans ⟨hb.inv.1, hb.gives, hb.keeps⟩⟩

theorem sizeOf_F  (W : World) : Sem.run Tryd.prog (Go.sizeOf 31) W = .ok 6 W := by kernel_rfl
theorem isAgg_F (W : World) : Sem.run Tryd.prog (isAgg 31) W = .ok true W := by kernel_rfl

/-- What a function value answers of each element, wherever it lies. -/
def AskF {σ : Type} (Inv : σ → World → Prop) (own : σ → World → Nat → Prop) (l : List (ByteArray × V)) (s0 : σ) (g : FuncId) (lb : Array Value) (f : σ → (ByteArray × V) → Bool × σ) : Prop :=
  (∀ args w, (callFunc g args).run Tryd.prog w = .ok (.enter g args) w) ∧
  ∀ (i : Nat) (x : (ByteArray × V)), l[i]? = some x → ∀ (S : Nat → Prop) (s : σ) (W : World) (r t : Sl), s = aft f s0 (l.take i) → Inv s W → (∀ g, S g → g < W.heap.size ∧ ¬ own s W g) → HV S W x.2 r t →
    Calls Tryd.prog g (#[.agg #[.string x.1, .int .i64 x.2.kind, .int .i64 x.2.int, .string x.2.text, .slice r.a r.n r.c, .slice t.a t.n t.c]] ++ lb) W fun e w' => e = .returned (.bool (f s x).1) ∧ Step Inv own s W (f s x).2 w'

set_option maxRecDepth 100000 in
set_option maxHeartbeats 2000000 in
theorem idxF_any {σ : Type} {Inv : σ → World → Prop} {own : σ → World → Nat → Prop} {l : List (ByteArray × V)} {g : FuncId} {lb : Array Value} {f : σ → (ByteArray × V) → Bool × σ} {s0 : σ} (hf : AskF Inv own l s0 g lb f) {p : Sl}
    {S : Nat → Prop} {w : World} (hrow : RowF S w l p) (hS : ∀ g, S g → g < w.heap.size ∧ ¬ own s0 w g) (h0 : Inv s0 w) :
    Calls Tryd.prog 72 #[.slice p.a p.n p.c, .func (.func g) #[] lb] w fun e w' => e = .returned (.int .i64 (idxS f s0 l 0).1) ∧ Step Inv own s0 w (idxS f s0 l 0).2 w' := by
  obtain ⟨eg, ask⟩ := hf
  have hn := hrow.len
  have hl := hrow.max
  have aE := isAgg_F
  have zE := sizeOf_F
  obtain ⟨pa, pn, pc⟩ := p
  simp only at hn
  subst hn
  go_enter Tryd.func72, Tryd.ntmps72
  go_wp2
  go_loopg [5, 8] l.length (fun gg _ s8 wr => ∃ (kk : Nat) (s : σ), kk ≤ l.length ∧ l.length - kk ≤ gg ∧ s8 = .int .i64 kk ∧ Hid (Step Inv own s0 w s wr ∧ idxS f s (l.drop kk) kk = idxS f s0 l 0 ∧ s = aft f s0 (l.take kk)))
  case atStart => exact ⟨0, s0, Nat.zero_le _, by omega, rfl, Step.refl h0, rfl, rfl⟩
  case round =>
    obtain ⟨kk, s, hkl, hg, rfl, H⟩ := hrel
    by_cases hlt : kk < l.length
    · have hltz : (kk : Int) < (l.length : Int) := by omega
      obtain ⟨b, r, t, ha, hbs, _, hc, hh⟩ := (hrow.map (H.out.1.free hS).2).at hlt
      simp only at ha
      subst ha
      have hst := idxS_step f s l kk hlt
      have hxm := List.getElem?_eq_getElem hlt
      have haf := aft_snoc f s0 l kk hlt
      rw [← H.out.2.2] at haf
      generalize l[kk] = x at hc hh hst hxm haf
      have c0 : wr.cell? ⟨b, kk * 6, none⟩ = some (.string x.1) := hc 0 _ rfl
      have c1 : wr.cell? ⟨b, kk * 6 + 1, none⟩ = some (.int .i64 x.2.kind) := hc 1 _ rfl
      have c2 : wr.cell? ⟨b, kk * 6 + 2, none⟩ = some (.int .i64 x.2.int) := hc 2 _ rfl
      have c3 : wr.cell? ⟨b, kk * 6 + 3, none⟩ = some (.string x.2.text) := hc 3 _ rfl
      have c4 : wr.cell? ⟨b, kk * 6 + 4, none⟩ = some (.slice r.a r.n r.c) := hc 4 _ rfl
      have c5 : wr.cell? ⟨b, kk * 6 + 5, none⟩ = some (.slice t.a t.n t.c) := hc 5 _ rfl
      have hcall : Calls Tryd.prog g (#[.agg #[.string x.1, .int .i64 x.2.kind, .int .i64 x.2.int, .string x.2.text, .slice r.a r.n r.c, .slice t.a t.n t.c]] ++ lb) wr fun e w' => e = .returned (.bool (f s x).1) ∧ Step Inv own s wr (f s x).2 w' := ask kk x hxm S s wr r t H.out.2.2 H.out.1.inv (H.out.1.free hS).1 hh
      clear hc hh hxm
      generalize hy : f s x = y at hcall hst haf
      obtain ⟨yb, ys⟩ := y
      simp only at hcall hst haf
      rw [H.out.2.1] at hst
      cases yb with
      | true =>
        have Hst := Lib.hid hst
        clear hst hy ask hrow haf
        go_wp2_with (go_at_fn g; refine hcall.mono ?_; rintro e w' ⟨rfl, hb'⟩)
        go_ret
        rw [Hst.out]
        exact ⟨rfl, H.out.1.trans hb'⟩
      | false =>
        have Hst := Lib.hid (And.intro hst haf)
        clear hst hy haf
        go_wp2_with (go_at_fn g; refine hcall.mono ?_; rintro e w' ⟨rfl, hb'⟩)
        go_roundg (l.length - (kk + 1))
        case measure => omega
        case rel => exact ⟨kk + 1, ys, by omega, by omega, by go_num, H.out.1.trans hb', Hst.out.1.symm, Hst.out.2.symm⟩
    · have hltz : ¬ (kk : Int) < (l.length : Int) := by omega
      obtain rfl : kk = l.length := by omega
      go_wp2
      go_ret
      have h2 := H.out.2.1
      rw [List.drop_length] at h2
      rw [← h2]
      exact ⟨rfl, H.out.1⟩

/-- ContainsFunc. -/
theorem containsF_any {σ : Type} {Inv : σ → World → Prop} {own : σ → World → Nat → Prop} {l : List (ByteArray × V)} {g : FuncId} {lb : Array Value} {f : σ → (ByteArray × V) → Bool × σ} {s0 : σ} (hf : AskF Inv own l s0 g lb f) {p : Sl}
    {S : Nat → Prop} {w : World} (hrow : RowF S w l p) (hS : ∀ g, S g → g < w.heap.size ∧ ¬ own s0 w g) (h0 : Inv s0 w) :
    Calls Tryd.prog 78 #[.slice p.a p.n p.c, .func (.func g) #[] lb] w fun e w' => e = .returned (.bool (decide (0 ≤ (idxS f s0 l 0).1))) ∧ Step Inv own s0 w (idxS f s0 l 0).2 w' := by
  have hc := idxF_any hf hrow hS h0
  clear hf hrow hS h0
  go_enter Tryd.func78, Tryd.ntmps78
  go_wp2_with fail
  refine hc.mono ?_
  rintro e w' ⟨rfl, hb⟩
  go_wp2
  go_ret
  exact ⟨rfl, hb⟩

/-- all's closure, over the cell that holds what is asked. -/
theorem ask_notF {σ : Type} {Inv : σ → World → Prop} {own : σ → World → Nat → Prop} (hV : Vst Inv own) {l : List (ByteArray × V)} {g : FuncId} {lb : Array Value} {f : σ → (ByteArray × V) → Bool × σ} {s0 : σ} (hf : AskF Inv own l s0 g lb f) (B : Nat) (T : TypeId) :
    AskF (fun s W => Inv s W ∧ ¬ own s W B ∧ W.heap[B]? = some (.cells #[.func (.func g) #[] lb] T (0, 0))) own l s0 79 #[.pointer (some ⟨B, 0, none⟩)] (notS f) := by
  refine ⟨enters_of Tryd.func79 (by kernel_rfl) rfl, fun i x hx S s W r t hs hi hS hh => ?_⟩
  obtain ⟨hi, hB, hc⟩ := hi
  have hBl := (Array.getElem?_eq_some_iff.1 hc).1
  have hcell : W.cell? ⟨B, 0, none⟩ = some (.func (.func g) #[] lb) := by simp [World.cell?, hc]
  have eg := hf.1
  have hb1 : ∀ o, Below W.heap.size W (W.alloc o) := fun o => (Below.refl _ _).alloc (Nat.le_refl _) o
  have hcall := fun o => hf.2 i x hx S s (W.alloc o) r t hs (hV.stab _ _ _ hi (hb1 o)) ((Step.below hV hi (hb1 o)).free hS).1 (hh.later (hb1 o))
  have Hb := Lib.hid hb1
  clear hf hS hh hb1 hs
  go_enter Tryd.func79, Tryd.ntmps79
  go_wp2_with fail
  refine (hcall _).mono ?_
  rintro e w' ⟨rfl, hb⟩
  go_wp2
  go_ret
  have hst := (Step.below hV hi (Hb.out _)).trans hb
  exact ⟨rfl, ⟨hst.inv, fun e => by rcases hst.gives B e with e | e; exact hB e; omega, (hst.keeps.block B hBl hB).trans hc⟩, hst.gives, hst.keeps⟩

/-- all. -/
theorem allF_any {σ : Type} {Inv : σ → World → Prop} {own : σ → World → Nat → Prop} (hV : Vst Inv own) {l : List (ByteArray × V)} {g : FuncId} {lb : Array Value} {f : σ → (ByteArray × V) → Bool × σ} {s0 : σ} (hf : AskF Inv own l s0 g lb f) {p : Sl}
    {S : Nat → Prop} {w : World} (hrow : RowF S w l p) (hS : ∀ g, S g → g < w.heap.size ∧ ¬ own s0 w g) (h0 : Inv s0 w) :
    Calls Tryd.prog 62 #[.slice p.a p.n p.c, .func (.func g) #[] lb] w fun e w' => e = .returned (.bool (allS f s0 l).1) ∧ Step Inv own s0 w (allS f s0 l).2 w' := by
  have hb1 : ∀ o, Below w.heap.size w (w.alloc o) := fun o => (Below.refl _ _).alloc (Nat.le_refl _) o
  have hB : ¬ own s0 w w.heap.size := fun e => by have := hV.lt s0 w _ h0 e; omega
  have hc := fun T => containsF_any (w := w.alloc (.cells #[.func (.func g) #[] lb] T)) (ask_notF hV hf w.heap.size T) (hrow.later (hb1 _)) ((Step.below hV h0 (hb1 _)).free hS).1 ⟨hV.stab _ _ _ h0 (hb1 _), fun e => hB (hV.less _ _ _ _ h0 (hb1 _) e), heap_alloc_new _ _⟩
  have Hb := Lib.hid hb1
  have Ha := Lib.hid (idxS_all f l s0 0)
  clear hf hrow hS hB hb1
  go_enter Tryd.func62, Tryd.ntmps62
  go_wp2_with fail
  refine (hc _).mono ?_
  rintro e w' ⟨rfl, hb⟩
  go_wp2
  go_ret
  rw [← Ha.out.1, ← Ha.out.2]
  exact ⟨rfl, (Step.below hV h0 (Hb.out _)).trans ⟨hb.inv.1, hb.gives, hb.keeps⟩⟩
end Go.Proofs.YteocenjneoclbaaDoor.tre

/- Layer 4: walk: a value and all that it has in it, handed one by one to whatever is asked. Layer 4: the library's Clone, at values and at fields: the same cells in a block of its own. Layer 4: the document's own Count and Depth. -/
import Derived.Deep.LoopGhost
import Derived.Test.YteocenjneoclbaaDoorTrmIdx
namespace Go.Proofs.YteocenjneoclbaaDoor.tre
open Go.RowKit Go.Shelf

theorem allS_map {σ E F : Type} (h : E → F) (f : σ → F → Bool × σ) : ∀ (l : List E) (s : σ), allS f s (l.map h) = allS (fun s x => f s (h x)) s l
  | [], _ => rfl
  | x :: l, s => by
    rw [List.map_cons]; unfold allS; rw [allS_map h f l]
/-- A value and all in it, one by one, till one says no. -/
def walkS {σ : Type} (nxt : σ → V → ByteArray → Int → Bool × σ) : V → ByteArray → Int → σ → Bool × σ :=
  V.fold fun v a b key d s =>
    if (nxt s v key d).1 = true then
      if (allS (fun s h => h ⟨#[]⟩ (d + 1) s) (nxt s v key d).2 a).1 = true then
        allS (fun s (g : ByteArray × (ByteArray → Int → σ → Bool × σ)) => g.2 g.1 (d + 1) s) (allS (fun s h => h ⟨#[]⟩ (d + 1) s) (nxt s v key d).2 a).2 b
      else (false, (allS (fun s h => h ⟨#[]⟩ (d + 1) s) (nxt s v key d).2 a).2)
    else (false, (nxt s v key d).2)
def inL {σ : Type} (nxt : σ → V → ByteArray → Int → Bool × σ) (d : Int) (s : σ) (x : V) : Bool × σ := walkS nxt x ⟨#[]⟩ (d + 1) s
def inF {σ : Type} (nxt : σ → V → ByteArray → Int → Bool × σ) (d : Int) (s : σ) (g : ByteArray × V) : Bool × σ := walkS nxt g.2 g.1 (d + 1) s
theorem walkS_eq {σ : Type} (nxt : σ → V → ByteArray → Int → Bool × σ) (v : V) (key : ByteArray) (d : Int) (s : σ) :
    walkS nxt v key d s = if (nxt s v key d).1 = true then
      if (allS (inL nxt d) (nxt s v key d).2 v.list).1 = true then allS (inF nxt d) (allS (inL nxt d) (nxt s v key d).2 v.list).2 v.fields
      else (false, (allS (inL nxt d) (nxt s v key d).2 v.list).2)
    else (false, (nxt s v key d).2) := by
  have := V.fold_eq (α := ByteArray → Int → σ → Bool × σ) (fun v a b key d s =>
    if (nxt s v key d).1 = true then
      if (allS (fun s h => h ⟨#[]⟩ (d + 1) s) (nxt s v key d).2 a).1 = true then
        allS (fun s (g : ByteArray × (ByteArray → Int → σ → Bool × σ)) => g.2 g.1 (d + 1) s) (allS (fun s h => h ⟨#[]⟩ (d + 1) s) (nxt s v key d).2 a).2 b
      else (false, (allS (fun s h => h ⟨#[]⟩ (d + 1) s) (nxt s v key d).2 a).2)
    else (false, (nxt s v key d).2)) v
  have h2 := congrFun (congrFun (congrFun this key) d) s
  rw [allS_map, allS_map] at h2
  exact h2

theorem allS_cnt {σ E : Type} (f : σ → E → Bool × σ) (cnt : σ → Nat) (m : E → Nat) : ∀ (l : List E), (∀ x ∈ l, ∀ s, cnt (f s x).2 ≤ cnt s + m x) → ∀ s, cnt (allS f s l).2 ≤ cnt s + sumN (l.map m)
  | [], _, s => by simp [allS, sumN]
  | x :: l, h, s => by
    have ih := allS_cnt f cnt m l (fun y hy => h y (by simp [hy])) (f s x).2
    have hx := h x (by simp) s
    simp only [List.map_cons, sumN]
    unfold allS
    split
    · omega
    · show cnt (f s x).2 ≤ _
      omega
theorem aft_cnt {σ E : Type} (f : σ → E → Bool × σ) (cnt : σ → Nat) (m : E → Nat) : ∀ (l : List E), (∀ x ∈ l, ∀ s, cnt (f s x).2 ≤ cnt s + m x) → ∀ s, cnt (aft f s l) ≤ cnt s + sumN (l.map m)
  | [], _, s => by simp [aft, sumN]
  | x :: l, h, s => by
    have ih := aft_cnt f cnt m l (fun y hy => h y (by simp [hy])) (f s x).2
    have hx := h x (by simp) s
    simp only [List.map_cons, sumN]
    show cnt (aft f (f s x).2 l) ≤ _
    omega
theorem walk_cnt {σ : Type} (nxt : σ → V → ByteArray → Int → Bool × σ) (cnt : σ → Nat) (h : ∀ s v k d, cnt (nxt s v k d).2 ≤ cnt s + 1) : ∀ (v : V) (key : ByteArray) (d : Int) (s : σ), cnt (walkS nxt v key d s).2 ≤ cnt s + countV v := V.ind fun v ihl ihf => by
  intro key d s
  have h0 := h s v key d
  have h1 := allS_cnt (inL nxt d) cnt countV v.list (fun x hx s => ihl x hx _ _ s) (nxt s v key d).2
  have h2 := allS_cnt (inF nxt d) cnt (fun g => countV g.2) v.fields (fun x hx s => ihf x hx _ _ s) (allS (inL nxt d) (nxt s v key d).2 v.list).2
  have hc := countV_eq v
  rw [walkS_eq]
  split
  · split
    · omega
    · simp only; omega
  · simp only; omega

/-- What is asked of a value, its key and how deep it stands. -/
def Visits {σ : Type} (ok : V → Prop) (cnt : σ → Nat) (N : Nat) (Inv : σ → World → Prop) (own : σ → World → Nat → Prop) (g : FuncId) (lb : Array Value) (nxt : σ → V → ByteArray → Int → Bool × σ) : Prop :=
  (∀ args w, (callFunc g args).run Tryd.prog w = .ok (.enter g args) w) ∧ (∀ s v k d, cnt (nxt s v k d).2 ≤ cnt s + 1) ∧
  ∀ (v : V) (key : ByteArray) (d : Int) (S : Nat → Prop) (s : σ) (W : World) (r t : Sl), ok v → cnt s < N → 0 ≤ d → d < 4611686018427387904 → Inv s W → (∀ g, S g → g < W.heap.size ∧ ¬ own s W g) → HV S W v r t →
    Calls Tryd.prog g (#[.agg #[.int .i64 v.kind, .int .i64 v.int, .string v.text, .slice r.a r.n r.c, .slice t.a t.n t.c], .string key, .int .i64 d] ++ lb) W fun e w' => e = .returned (.bool (nxt s v key d).1) ∧ Step Inv own s W (nxt s v key d).2 w'

/-- Blocks that are none of the state's own, and what they hold. -/
def Fix (bs : List (Nat × Obj)) (X : Nat → Prop) (W : World) : Prop := ∀ p ∈ bs, ¬ X p.1 ∧ W.heap[p.1]? = some p.2
def Also {σ : Type} (bs : List (Nat × Obj)) (Inv : σ → World → Prop) (own : σ → World → Nat → Prop) (s : σ) (W : World) : Prop := Inv s W ∧ Fix bs (own s W) W
theorem fix_cons {p : Nat × Obj} {bs : List (Nat × Obj)} {X : Nat → Prop} {W : World} : Fix (p :: bs) X W ↔ (¬ X p.1 ∧ W.heap[p.1]? = some p.2) ∧ Fix bs X W := by
  unfold Fix; simp
theorem fix_nil {X : Nat → Prop} {W : World} : Fix [] X W := fun _ h => by simp at h
theorem Fix.lt {bs : List (Nat × Obj)} {X : Nat → Prop} {W : World} (h : Fix bs X W) {p : Nat × Obj} (hp : p ∈ bs) : p.1 < W.heap.size := (Array.getElem?_eq_some_iff.1 (h p hp).2).1
theorem Fix.later {bs : List (Nat × Obj)} {X : Nat → Prop} {W W' : World} (h : Fix bs X W) (hb : Below W.heap.size W W') : Fix bs X W' := fun p hp => ⟨(h p hp).1, (hb.block p.1 (h.lt hp)).trans (h p hp).2⟩
theorem Vst.also {σ : Type} {Inv : σ → World → Prop} {own : σ → World → Nat → Prop} (hV : Vst Inv own) (bs : List (Nat × Obj)) : Vst (Also bs Inv own) own :=
  ⟨fun s w w' h hb => ⟨hV.stab s w w' h.1 hb, fun p hp => ⟨fun e => (h.2 p hp).1 (hV.less s w w' p.1 h.1 hb e), (h.2.later hb p hp).2⟩⟩, fun s w b h hb => hV.lt s w b h.1 hb, fun s w w' b h hb e => hV.less s w w' b h.1 hb e⟩
theorem Step.fix {σ : Type} {Inv : σ → World → Prop} {own : σ → World → Nat → Prop} {s s' : σ} {w w' : World} (h : Step Inv own s w s' w') {bs : List (Nat × Obj)} (hf : Fix bs (own s w) w) : Fix bs (own s' w') w' :=
  fun p hp => ⟨fun e => by rcases h.gives p.1 e with e | e; exact (hf p hp).1 e; have := hf.lt hp; omega, (h.keeps.block p.1 (hf.lt hp) (hf p hp).1).trans (hf p hp).2⟩
theorem Step.also {σ : Type} {Inv : σ → World → Prop} {own : σ → World → Nat → Prop} {s s' : σ} {w w' : World} (h : Step Inv own s w s' w') {bs : List (Nat × Obj)} (hf : Fix bs (own s w) w) : Step (Also bs Inv own) own s w s' w' :=
  ⟨⟨h.inv, h.fix hf⟩, h.gives, h.keeps⟩
theorem Step.plain {σ : Type} {Inv : σ → World → Prop} {own : σ → World → Nat → Prop} {s s' : σ} {w w' : World} {bs : List (Nat × Obj)} (h : Step (Also bs Inv own) own s w s' w') : Step Inv own s w s' w' := ⟨h.inv.1, h.gives, h.keeps⟩
theorem cell_of_block {W : World} {b : Nat} {cs : Array Value} {T : TypeId} (h : W.heap[b]? = some (.cells cs T (0, 0))) (j : Nat) : W.cell? ⟨b, j, none⟩ = cs[j]? := by
  simp [World.cell?, h]

/-- The two cells that the closure goes by. -/
def boxes (b3 b4 g : Nat) (lb : Array Value) (T3 T4 : TypeId) : List (Nat × Obj) :=
  [(b3, .cells #[.func (.func g) #[] lb] T3 (0, 0)), (b4, .cells #[.func (.func 60) #[] #[.pointer (some ⟨b3, 0, none⟩), .pointer (some ⟨b4, 0, none⟩)]] T4 (0, 0))]

def FromAt {σ : Type} (ok : V → Prop) (cnt : σ → Nat) (N : Nat) (Inv : σ → World → Prop) (own : σ → World → Nat → Prop) (g : FuncId) (lb : Array Value) (nxt : σ → V → ByteArray → Int → Bool × σ) (b3 b4 : Nat) (T3 T4 : TypeId) (v : V) : Prop :=
  ∀ (key : ByteArray) (d : Int) (S : Nat → Prop) (s : σ) (W : World) (r t : Sl), ok v → cnt s + countV v ≤ N → 0 ≤ d → d + depthV v < 4611686018427387904 → Inv s W → (∀ g, S g → g < W.heap.size ∧ ¬ own s W g) → HV S W v r t → Fix (boxes b3 b4 g lb T3 T4) (own s W) W →
    Calls Tryd.prog 60 #[.agg #[.int .i64 v.kind, .int .i64 v.int, .string v.text, .slice r.a r.n r.c, .slice t.a t.n t.c], .string key, .int .i64 d, .pointer (some ⟨b3, 0, none⟩), .pointer (some ⟨b4, 0, none⟩)] W
      fun e w' => e = .returned (.bool (walkS nxt v key d s).1) ∧ Step Inv own s W (walkS nxt v key d s).2 w'

theorem askL_any {σ : Type} {ok : V → Prop} {cnt : σ → Nat} {N : Nat} {Inv : σ → World → Prop} {own : σ → World → Nat → Prop} (hV : Vst Inv own) {g : FuncId} {lb : Array Value} {nxt : σ → V → ByteArray → Int → Bool × σ} {b3 b4 b7 : Nat} {T3 T4 T7 : TypeId} {d : Int} (hd : 0 ≤ d)
    (s0 : σ) (l : List V) (hl : ∀ x ∈ l, FromAt ok cnt N Inv own g lb nxt b3 b4 T3 T4 x ∧ d + 1 + depthV x < 4611686018427387904 ∧ ok x) (hcn : ∀ s v k d, cnt (nxt s v k d).2 ≤ cnt s + 1) (hN : cnt s0 + sumN (l.map countV) ≤ N) :
    AskV (Also ((b7, .cells #[.int .i64 d] T7 (0, 0)) :: boxes b3 b4 g lb T3 T4) Inv own) own l s0 61 #[.pointer (some ⟨b4, 0, none⟩), .pointer (some ⟨b7, 0, none⟩)] (inL nxt d) := by
  refine ⟨enters_of Tryd.func61 (by kernel_rfl) rfl, fun i x hx S s W r t hs hi hS hh => ?_⟩
  have hbud : cnt s + countV x ≤ N := by
    have h1 := aft_cnt (inL nxt d) cnt countV (l.take i) (fun x _ s => walk_cnt nxt cnt hcn x _ _ s) s0
    have h2 := sum_take countV l i x hx
    rw [← hs] at h1; omega
  clear hs hN
  obtain ⟨hi, hf⟩ := hi
  have hf3 := hf
  unfold boxes at hf3
  rw [fix_cons, fix_cons, fix_cons] at hf3
  obtain ⟨⟨_, c7⟩, _, ⟨_, c4⟩, _⟩ := hf3
  simp only at c7 c4
  have l7 := (Array.getElem?_eq_some_iff.1 c7).1
  have l4 := (Array.getElem?_eq_some_iff.1 c4).1
  replace c7 : W.cell? ⟨b7, 0, none⟩ = some (.int .i64 d) := by rw [cell_of_block c7]; rfl
  replace c4 : W.cell? ⟨b4, 0, none⟩ = some (.func (.func 60) #[] #[.pointer (some ⟨b3, 0, none⟩), .pointer (some ⟨b4, 0, none⟩)]) := by rw [cell_of_block c4]; rfl
  have eg : ∀ args w, (callFunc 60 args).run Tryd.prog w = .ok (.enter 60 args) w := enters_of Tryd.func60 (by kernel_rfl) rfl
  have hb1 : ∀ o, Below W.heap.size W (W.alloc o) := fun o => (Below.refl _ _).alloc (Nat.le_refl _) o
  obtain ⟨hx1, hx2, hx3⟩ := hl x (List.mem_of_getElem? hx)
  have hcall := fun o => hx1 ⟨#[]⟩ (d + 1) S s (W.alloc o) r t hx3 hbud (by omega) hx2 (hV.stab _ _ _ hi (hb1 o)) ((Step.below hV hi (hb1 o)).free hS).1 (hh.later (hb1 o)) (fun p hp => ((Step.below hV hi (hb1 o)).fix hf) p (List.mem_cons_of_mem _ hp))
  have Hb := Lib.hid hb1
  have Hf := Lib.hid hf
  have w1 : IntKind.i64.wrap (d + 1) = d + 1 := IntWalk.i64_in _ (by omega)
  clear hl hx1 hx3 hbud hcn hS hh hb1 hf
  go_enter Tryd.func61, Tryd.ntmps61
  go_wp2_with fail
  refine (hcall _).mono ?_
  rintro e w' ⟨rfl, hb⟩
  go_wp2
  go_ret
  exact ⟨rfl, ((Step.below hV hi (Hb.out _)).trans hb).also Hf.out⟩
theorem askF_any {σ : Type} {ok : V → Prop} {cnt : σ → Nat} {N : Nat} {Inv : σ → World → Prop} {own : σ → World → Nat → Prop} (hV : Vst Inv own) {g : FuncId} {lb : Array Value} {nxt : σ → V → ByteArray → Int → Bool × σ} {b3 b4 b7 : Nat} {T3 T4 T7 : TypeId} {d : Int} (hd : 0 ≤ d)
    (s0 : σ) (l : List (ByteArray × V)) (hl : ∀ x ∈ l, FromAt ok cnt N Inv own g lb nxt b3 b4 T3 T4 x.2 ∧ d + 1 + depthV x.2 < 4611686018427387904 ∧ ok x.2) (hcn : ∀ s v k d, cnt (nxt s v k d).2 ≤ cnt s + 1) (hN : cnt s0 + sumN (l.map fun g => countV g.2) ≤ N) :
    AskF (Also ((b7, .cells #[.int .i64 d] T7 (0, 0)) :: boxes b3 b4 g lb T3 T4) Inv own) own l s0 63 #[.pointer (some ⟨b4, 0, none⟩), .pointer (some ⟨b7, 0, none⟩)] (inF nxt d) := by
  refine ⟨enters_of Tryd.func63 (by kernel_rfl) rfl, fun i x hx S s W r t hs hi hS hh => ?_⟩
  have hbud : cnt s + countV x.2 ≤ N := by
    have h1 := aft_cnt (inF nxt d) cnt (fun g => countV g.2) (l.take i) (fun x _ s => walk_cnt nxt cnt hcn x.2 _ _ s) s0
    have h2 := sum_take (fun g : ByteArray × V => countV g.2) l i x hx
    rw [← hs] at h1; omega
  clear hs hN
  obtain ⟨hi, hf⟩ := hi
  have hf3 := hf
  unfold boxes at hf3
  rw [fix_cons, fix_cons, fix_cons] at hf3
  obtain ⟨⟨_, c7⟩, _, ⟨_, c4⟩, _⟩ := hf3
  simp only at c7 c4
  have l7 := (Array.getElem?_eq_some_iff.1 c7).1
  have l4 := (Array.getElem?_eq_some_iff.1 c4).1
  replace c7 : W.cell? ⟨b7, 0, none⟩ = some (.int .i64 d) := by rw [cell_of_block c7]; rfl
  replace c4 : W.cell? ⟨b4, 0, none⟩ = some (.func (.func 60) #[] #[.pointer (some ⟨b3, 0, none⟩), .pointer (some ⟨b4, 0, none⟩)]) := by rw [cell_of_block c4]; rfl
  have eg : ∀ args w, (callFunc 60 args).run Tryd.prog w = .ok (.enter 60 args) w := enters_of Tryd.func60 (by kernel_rfl) rfl
  have hb1 : ∀ o, Below W.heap.size W (W.alloc o) := fun o => (Below.refl _ _).alloc (Nat.le_refl _) o
  obtain ⟨hx1, hx2, hx3⟩ := hl x (List.mem_of_getElem? hx)
  have hcall := fun o => hx1 x.1 (d + 1) S s (W.alloc o) r t hx3 hbud (by omega) hx2 (hV.stab _ _ _ hi (hb1 o)) ((Step.below hV hi (hb1 o)).free hS).1 (hh.later (hb1 o)) (fun p hp => ((Step.below hV hi (hb1 o)).fix hf) p (List.mem_cons_of_mem _ hp))
  have Hb := Lib.hid hb1
  have Hf := Lib.hid hf
  have w1 : IntKind.i64.wrap (d + 1) = d + 1 := IntWalk.i64_in _ (by omega)
  clear hl hx1 hx3 hbud hcn hS hh hb1 hf
  go_enter Tryd.func63, Tryd.ntmps63
  go_wp2_with fail
  refine (hcall _).mono ?_
  rintro e w' ⟨rfl, hb⟩
  go_wp2
  go_ret
  exact ⟨rfl, ((Step.below hV hi (Hb.out _)).trans hb).also Hf.out⟩

theorem block_new (w : World) (o : Obj) : (w.alloc o).heap[w.heap.size]? = some o := heap_alloc_new w o
theorem block_old {w : World} {o : Obj} {k : Nat} (h : k < w.heap.size) : (w.alloc o).heap[k]? = w.heap[k]? := Below.heap_alloc w o k h
theorem size_alloc (w : World) (o : Obj) : (w.alloc o).heap.size = w.heap.size + 1 := by simp

set_option maxRecDepth 100000 in
set_option maxHeartbeats 4000000 in
theorem from_any {σ : Type} {ok : V → Prop} (her : ∀ v, ok v → (∀ x ∈ v.list, ok x) ∧ ∀ g ∈ v.fields, ok g.2) {cnt : σ → Nat} {N : Nat} {Inv : σ → World → Prop} {own : σ → World → Nat → Prop} (hV : Vst Inv own) {g : FuncId} {lb : Array Value} {nxt : σ → V → ByteArray → Int → Bool × σ} (hg : Visits ok cnt N Inv own g lb nxt) (b3 b4 : Nat) (T3 T4 : TypeId) :
    ∀ v, FromAt ok cnt N Inv own g lb nxt b3 b4 T3 T4 v := V.ind fun v ihl ihf => by
  intro key d S s W r t hok hbd h0 hd hi hS hh hf
  have hcv := countV_eq v
  have hcn := hg.2.1
  have hc1 := hcn s v key d
  obtain ⟨hok1, hok2⟩ := her v hok
  have eg := hg.1
  have hb2 : ∀ o1 o2, Below W.heap.size W ((W.alloc o1).alloc o2) := fun o1 o2 => ((Below.refl _ _).alloc (Nat.le_refl _) o1).alloc (by rw [size_alloc]; omega) o2
  have hcall := fun o1 o2 => hg.2.2 v key d S s ((W.alloc o1).alloc o2) r t hok (by omega) h0 (by omega) (hV.stab _ _ _ hi (hb2 o1 o2)) ((Step.below hV hi (hb2 o1 o2)).free hS).1 (hh.later (hb2 o1 o2))
  have hS2 := fun o1 o2 => ((Step.below hV hi (hb2 o1 o2)).free hS).1
  have hh2 := fun o1 o2 => hh.later (hb2 o1 o2)
  have hF : ∀ o1 o2, Fix ((W.heap.size, o1) :: (W.heap.size + 1, o2) :: boxes b3 b4 g lb T3 T4) (own s ((W.alloc o1).alloc o2)) ((W.alloc o1).alloc o2) := fun o1 o2 =>
    fix_cons.2 ⟨⟨fun e => by have := hV.lt s W _ hi (hV.less _ _ _ _ hi (hb2 o1 o2) e); omega, by rw [block_old (by rw [size_alloc]; omega)]; exact block_new W o1⟩,
      fix_cons.2 ⟨⟨fun e => by have := hV.lt s W _ hi (hV.less _ _ _ _ hi (hb2 o1 o2) e); omega, by have := block_new (W.alloc o1) o2; rwa [size_alloc] at this⟩, (Step.below hV hi (hb2 o1 o2)).fix hf⟩⟩
  have hLall : ∀ T7 S s1 w1 r, cnt s1 + sumN (v.list.map countV) ≤ N → RowV S w1 v.list r → (∀ g, S g → g < w1.heap.size ∧ ¬ own s1 w1 g) → _ → _ := fun T7 S s1 w1 r hb h1 h2 h3 => allV_any (w := w1) (hV.also ((W.heap.size + 1, .cells #[.int .i64 d] T7 (0, 0)) :: boxes b3 b4 g lb T3 T4)) (askL_any hV h0 s1 v.list (fun x hx => ⟨ihl x hx, by have := depth_list hx; omega, hok1 x hx⟩) hcn hb) (p := r) (S := S) h1 h2 h3
  have hFall : ∀ T7 S s1 w1 r, cnt s1 + sumN (v.fields.map fun g => countV g.2) ≤ N → RowF S w1 v.fields r → (∀ g, S g → g < w1.heap.size ∧ ¬ own s1 w1 g) → _ → _ := fun T7 S s1 w1 r hb h1 h2 h3 => allF_any (w := w1) (hV.also ((W.heap.size + 1, .cells #[.int .i64 d] T7 (0, 0)) :: boxes b3 b4 g lb T3 T4)) (askF_any hV h0 s1 v.fields (fun x hx => ⟨ihf x hx, by have := depth_fields hx; omega, hok2 x hx⟩) hcn hb) (p := r) (S := S) h1 h2 h3
  have c3 : ∀ o1 o2, ((W.alloc o1).alloc o2).cell? ⟨b3, 0, none⟩ = some (.func (.func g) #[] lb) := fun o1 o2 => by
    have := (fix_cons.1 (fix_cons.1 (hF o1 o2)).2).2
    unfold boxes at this
    rw [cell_of_block (fix_cons.1 this).1.2]; rfl
  have l3 : b3 < W.heap.size := by unfold boxes at hf; exact hf.lt (List.mem_cons_self ..)
  have HW := Lib.hid (walkS_eq nxt v key d s)
  have Hst := Lib.hid (fun o1 o2 => Step.below hV hi (hb2 o1 o2))
  have hcz := allS_cnt (inL nxt d) cnt countV v.list (fun x _ s => walk_cnt nxt cnt hcn x _ _ s) (nxt s v key d).2
  have hB1 : cnt (nxt s v key d).2 + sumN (v.list.map countV) ≤ N := by omega
  have hB2 : cnt (allS (inL nxt d) (nxt s v key d).2 v.list).2 + sumN (v.fields.map fun g => countV g.2) ≤ N := by omega
  have H := Lib.hid (And.intro hS2 (And.intro hh2 (And.intro hF (And.intro hLall hFall))))
  clear hg hb2 hS hh hf hS2 hh2 hF hLall hFall ihl ihf hok hok1 hok2 her hcz hc1 hcv hbd hcn
  have HB1 := Lib.hid hB1
  have HB2 := Lib.hid hB2
  clear hB1 hB2
  generalize nxt s v key d = y at hcall HW HB1 HB2
  obtain ⟨y1, s1⟩ := y
  simp only at hcall HW HB1 HB2
  cases y1 with
  | false =>
    go_enter Tryd.func60, Tryd.ntmps60
    go_wp2_with fail
    refine (hcall _ _).mono ?_
    rintro e w1 ⟨rfl, hs1⟩
    go_wp2
    go_ret
    rw [HW.out]
    exact ⟨rfl, (Hst.out _ _).trans hs1⟩
  | true =>
    go_enter Tryd.func60, Tryd.ntmps60
    go_wp2_with fail
    refine (hcall _ _).mono ?_
    rintro e w1 ⟨rfl, hs1⟩
    have hfr := hs1.free (H.out.1 _ _)
    have hh1 := (H.out.2.1 _ _).map hfr.2
    have hF1 := hs1.fix (H.out.2.2.1 _ _)
    have e5 := (fix_cons.1 hF1).1.2
    simp only at e5
    have c53 : w1.cell? ⟨W.heap.size, 3, none⟩ = some (.slice r.a r.n r.c) := by rw [cell_of_block e5]; rfl
    have hL := H.out.2.2.2.1 _ S s1 w1 r HB1.out hh1.1 hfr.1 ⟨hs1.inv, (fix_cons.1 hF1).2⟩
    have hs0 := (Hst.out _ _).trans hs1
    have HF := Lib.hid (And.intro hF1 (And.intro hfr.1 (And.intro hh1 hs0)))
    clear e5 hF1 hfr hh1 hs1 hs0
    generalize allS (inL nxt d) s1 v.list = z at hL HW HB2
    obtain ⟨z1, s2⟩ := z
    simp only at hL HW HB2
    cases z1 with
    | false =>
      go_wp2_with fail
      refine hL.mono ?_
      rintro e w2 ⟨rfl, hs2⟩
      go_wp2
      go_ret
      rw [HW.out]
      exact ⟨rfl, HF.out.2.2.2.trans hs2.plain⟩
    | true =>
      go_wp2_with fail
      refine hL.mono ?_
      rintro e w2 ⟨rfl, hs2⟩
      have hfr2 := hs2.plain.free HF.out.2.1
      have hh2 := HF.out.2.2.1.map hfr2.2
      have hF2 := hs2.plain.fix HF.out.1
      have e5 := (fix_cons.1 hF2).1.2
      simp only at e5
      have c54 : w2.cell? ⟨W.heap.size, 4, none⟩ = some (.slice t.a t.n t.c) := by rw [cell_of_block e5]; rfl
      have hL2 := H.out.2.2.2.2 _ S s2 w2 t HB2.out hh2.2 hfr2.1 ⟨hs2.inv.1, (fix_cons.1 hF2).2⟩
      have hs0 := HF.out.2.2.2.trans hs2.plain
      have HS := Lib.hid hs0
      clear e5 hF2 hfr2 hh2 hs2 hs0 hL
      go_wp2_with fail
      refine hL2.mono ?_
      rintro e w3 ⟨rfl, hs3⟩
      go_wp2
      go_ret
      rw [HW.out]
      exact ⟨rfl, HS.out.trans hs3.plain⟩

theorem walk_any {σ : Type} {ok : V → Prop} (her : ∀ v, ok v → (∀ x ∈ v.list, ok x) ∧ ∀ g ∈ v.fields, ok g.2) {cnt : σ → Nat} {N : Nat} {Inv : σ → World → Prop} {own : σ → World → Nat → Prop} (hV : Vst Inv own) {g : FuncId} {lb : Array Value} {nxt : σ → V → ByteArray → Int → Bool × σ} (hg : Visits ok cnt N Inv own g lb nxt)
    (v : V) (hok : ok v) {s : σ} (hcv : cnt s + countV v ≤ N) (hv : depthV v < 4611686018427387904) (S : Nat → Prop) (W : World) (r t : Sl) (hi : Inv s W) (hS : ∀ g, S g → g < W.heap.size ∧ ¬ own s W g) (hh : HV S W v r t) :
    Calls Tryd.prog 35 #[.agg #[.int .i64 v.kind, .int .i64 v.int, .string v.text, .slice r.a r.n r.c, .slice t.a t.n t.c], .func (.func g) #[] lb] W
      fun e w' => e = .returned (.bool (walkS nxt v ⟨#[]⟩ 0 s).1) ∧ Step Inv own s W (walkS nxt v ⟨#[]⟩ 0 s).2 w' := by
  have eg : ∀ args w, (callFunc 60 args).run Tryd.prog w = .ok (.enter 60 args) w := enters_of Tryd.func60 (by kernel_rfl) rfl
  have hb3 : ∀ o1 o2 o3, Below W.heap.size W (((W.alloc o1).alloc o2).alloc o3) := fun o1 o2 o3 =>
    (((Below.refl _ _).alloc (Nat.le_refl _) o1).alloc (by rw [size_alloc]; omega) o2).alloc (by rw [size_alloc, size_alloc]; omega) o3
  have hB : ∀ o1 o2 o3 k, W.heap.size ≤ k → ¬ own s (((W.alloc o1).alloc o2).alloc o3) k := fun o1 o2 o3 k hk e => by have := hV.lt s W _ hi (hV.less _ _ _ _ hi (hb3 o1 o2 o3) e); omega
  have hF : ∀ o1 T3 T4, Fix (boxes (W.heap.size + 1) (W.heap.size + 1 + 1) g lb T3 T4) (own s (((W.alloc o1).alloc (.cells #[.func (.func g) #[] lb] T3)).alloc
      (.cells #[.func (.func 60) #[] #[.pointer (some ⟨W.heap.size + 1, 0, none⟩), .pointer (some ⟨W.heap.size + 1 + 1, 0, none⟩)]] T4))) (((W.alloc o1).alloc (.cells #[.func (.func g) #[] lb] T3)).alloc
      (.cells #[.func (.func 60) #[] #[.pointer (some ⟨W.heap.size + 1, 0, none⟩), .pointer (some ⟨W.heap.size + 1 + 1, 0, none⟩)]] T4)) := fun o1 T3 T4 => by
    unfold boxes
    refine fix_cons.2 ⟨⟨hB _ _ _ _ (by simp), ?_⟩, fix_cons.2 ⟨⟨hB _ _ _ _ (by simp; omega), ?_⟩, fix_nil⟩⟩
    · simp only
      rw [block_old (by rw [size_alloc, size_alloc]; omega)]
      have := block_new (W.alloc o1) (.cells #[.func (.func g) #[] lb] T3)
      rwa [size_alloc] at this
    · simp only
      have := block_new ((W.alloc o1).alloc (.cells #[.func (.func g) #[] lb] T3)) (.cells #[.func (.func 60) #[] #[.pointer (some ⟨W.heap.size + 1, 0, none⟩), .pointer (some ⟨W.heap.size + 1 + 1, 0, none⟩)]] T4)
      rwa [size_alloc, size_alloc] at this
  have hcall := fun o1 T3 T4 => from_any her hV hg (W.heap.size + 1) (W.heap.size + 1 + 1) T3 T4 v ⟨#[]⟩ 0 S s _ r t hok hcv (Int.le_refl 0) (by omega) (hV.stab _ _ _ hi (hb3 o1 _ _)) ((Step.below hV hi (hb3 o1 _ _)).free hS).1 (hh.later (hb3 o1 _ _)) (hF o1 T3 T4)
  have Hst := Lib.hid (fun o1 o2 o3 => Step.below hV hi (hb3 o1 o2 o3))
  clear hg hS hh hb3 hB hF hv hok her hcv
  have rs := fun (a : Addr) (w : World) (m : Mode) => run_store (P := Tryd.prog) w a (.func (.func 60) #[] #[.pointer (some ⟨W.heap.size + 1, 0, none⟩), .pointer (some ⟨W.heap.size + 1 + 1, 0, none⟩)]) m rfl
  go_enter Tryd.func35, Tryd.ntmps35
  go_wp2_with fail
  refine (hcall _ _ _).mono ?_
  rintro e w1 ⟨rfl, hs1⟩
  go_wp2
  go_ret
  exact ⟨rfl, (Hst.out _ _ _).trans hs1⟩
end Go.Proofs.YteocenjneoclbaaDoor.tre
namespace Go.Proofs.YteocenjneoclbaaDoor.tre
open Go.RowKit Go.Shelf

theorem info_of {e : TypeId} {z : Value} {n b : Nat} (h : (Tryd.prog.info? e).map (fun i => (i.zero, i.size, i.bytes)) = some (some z, n, b)) : ∃ i, Tryd.prog.info? e = some i ∧ i.zero = some z ∧ i.size = n ∧ i.bytes = b := by
  cases hi : Tryd.prog.info? e with
  | none => rw [hi] at h; cases h
  | some i =>
    rw [hi] at h
    simp only [Option.map_some, Option.some.injEq, Prod.mk.injEq] at h
    exact ⟨i, rfl, h.1, h.2.1, h.2.2⟩
def zeroV : Value := .agg #[.int .i64 0, .int .i64 0, .string ByteArray.empty, .slice none 0 0, .slice none 0 0]
def zeroF : Value := .agg #[.string ByteArray.empty, .int .i64 0, .int .i64 0, .string ByteArray.empty, .slice none 0 0, .slice none 0 0]
theorem info_V : (Tryd.prog.info? 27).map (fun i => (i.zero, i.size, i.bytes)) = some (some zeroV, 5, 80) := by kernel_rfl
theorem info_F : (Tryd.prog.info? 31).map (fun i => (i.zero, i.size, i.bytes)) = some (some zeroF, 6, 96) := by kernel_rfl
/-- All cells are single ones. -/
def OneC (xss : List (List Value)) : Prop := ∀ u ∈ xss.flatten, u.oneCell' = true
theorem lies_one {S : Nat → Prop} {w : World} {v : V} {cs : List Value} (h : Lies S w v cs) : ∀ u ∈ cs, u.oneCell' = true := by
  obtain ⟨p, q, rfl, _⟩ := lies_iff.1 h
  intro u hu
  simp only [cellsV, List.mem_cons, List.not_mem_nil, or_false] at hu
  rcases hu with rfl | rfl | rfl | rfl | rfl <;> rfl
theorem oneV {S : Nat → Prop} {w : World} {l : List V} {xss : List (List Value)} (hl : xss.length = l.length) (h : AllZ (Lies S w) l xss) : OneC xss := by
  intro u hu
  obtain ⟨xs, hx, hu⟩ := List.mem_flatten.1 hu
  obtain ⟨i, hi⟩ := List.getElem?_of_mem hx
  have hil := (List.getElem?_eq_some_iff.1 hi).1
  exact lies_one (h i (l[i]'(by omega)) xs (List.getElem?_eq_getElem _) hi) u hu
theorem oneF {S : Nat → Prop} {w : World} {l : List (ByteArray × V)} {xss : List (List Value)} (hl : xss.length = l.length) (h : AllZ (fun (g : ByteArray × V) xs => ∃ ys, xs = .string g.1 :: ys ∧ Lies S w g.2 ys) l xss) : OneC xss := by
  intro u hu
  obtain ⟨xs, hx, hu⟩ := List.mem_flatten.1 hu
  obtain ⟨i, hi⟩ := List.getElem?_of_mem hx
  have hil := (List.getElem?_eq_some_iff.1 hi).1
  obtain ⟨ys, rfl, h2⟩ := h i (l[i]'(by omega)) xs (List.getElem?_eq_getElem _) hi
  rcases List.mem_cons.1 hu with rfl | hu
  · rfl
  · exact lies_one h2 u hu
theorem own_nonnil {w : World} {B : Nat} {e : TypeId} {size : Nat} {v : Value} {n : Nat} {xs : List Value} (h : w.ownsRow B e size v n xs) : ∃ a c, v = .slice a n c := by
  rcases h.2 with ⟨h1, h2⟩ | ⟨g, cap, cur, hv, _⟩
  · subst h2; exact ⟨none, 0, h1⟩
  · exact ⟨_, _, hv⟩

set_option maxRecDepth 100000 in
set_option maxHeartbeats 1000000 in
theorem cloneV_any (n : Nat) (hn : n ≤ 100000) (p : Sl) (xss : List (List Value)) (S : Nat → Prop) (w : World) (hrow : RowC S w 27 5 n p xss) (hone : OneC xss) :
    Calls Tryd.prog 65 #[.slice p.a p.n p.c] w fun e w' => ∃ q : Sl, e = .returned (.slice q.a q.n q.c) ∧ RowC (fun g => w.heap.size ≤ g) w' 27 5 n q xss ∧ Below w.heap.size w w' := by
  obtain ⟨i0, hi0, hz0, hz1, hz2⟩ := info_of info_V
  obtain ⟨h1, h2, h3, h4⟩ := hrow
  have hf := (show RowC S w 27 5 n p xss from ⟨h1, h2, h3, h4⟩).form.1
  obtain ⟨pa, pn, pc⟩ := p
  simp only at hf
  subst hf
  rcases h3.2 with ⟨hv, h0⟩ | ⟨g, cap, cur, hv, _, hg, _, _, _⟩
  · simp only [Sl.val, Value.slice.injEq] at hv
    obtain ⟨rfl, rfl, rfl⟩ := hv
    have hnil := fun w => Lib.run_eql_slice_nil (P := Tryd.prog) w 24 27 none 0 0 0 0 Tryd.underlying24
    go_enter Tryd.func65, Tryd.ntmps65
    go_wp2
    go_ret
    exact ⟨⟨none, 0, 0⟩, rfl, ⟨h1, h2, ⟨h3.1, .inl ⟨rfl, rfl⟩⟩, fun g h => by simp [Sl.val, Value.ownBlock] at h⟩, Below.refl _ _⟩
  · simp only [Sl.val, Value.slice.injEq] at hv
    obtain ⟨rfl, _, rfl⟩ := hv
    have Hn := Lib.hid (fun o => (h3.alloc o).cells (g := g) rfl)
    have Hl := Lib.hid (And.intro h1 (And.intro h2 h3.1))
    clear h1 h2 h3 h4 hg
    have hnil := fun w => Lib.run_eql_slice_nil (P := Tryd.prog) w 24 27 (some ⟨g, 0, none⟩) pn pc 0 0 Tryd.underlying24
    go_enter Tryd.func65, Tryd.ntmps65
    go_wp2_with (at_builtin; refine wpList_append_own_at _ rfl _ _ 24 rfl w.heap.size 27 i0 _ 5 80 Tryd.underlying24 hi0 hz0 hz1 hz2 rfl (by decide) _ 0 [] rfl (World.ownsRow_lit w #[] 0 (Nat.le_refl _) (by unfold maxLen; omega) rfl) _ pn pc xss.flatten rfl Hl.out.2.2 (Hn.out _) hone (by unfold maxLen; omega) (by omega) (by simp) ?_; intro v' w1 hown1 hgrow1 _ _; simp only [Nat.zero_add, List.nil_append] at hown1; obtain ⟨a', c', rfl⟩ := own_nonnil hown1)
    go_ret
    refine ⟨⟨a', pn, c'⟩, rfl, ⟨Hl.out.1, Hl.out.2.1, ?_, fun k hk => (hown1.lt k hk).1⟩, ?_⟩
    · rcases hown1.2 with h | ⟨g', cap', cur', hv, hb, r⟩
      · exact ⟨hown1.1, .inl h⟩
      · exact ⟨hown1.1, .inr ⟨g', cap', cur', hv, Nat.zero_le _, r⟩⟩
    · exact ((Below.refl _ _).alloc (Nat.le_refl _) _).grown hgrow1 (by simp) (fun k hk => by cases hk; exact Nat.le_refl _)

set_option maxRecDepth 100000 in
set_option maxHeartbeats 1000000 in
theorem cloneF_any (n : Nat) (hn : n ≤ 100000) (p : Sl) (xss : List (List Value)) (S : Nat → Prop) (w : World) (hrow : RowC S w 31 6 n p xss) (hone : OneC xss) :
    Calls Tryd.prog 66 #[.slice p.a p.n p.c] w fun e w' => ∃ q : Sl, e = .returned (.slice q.a q.n q.c) ∧ RowC (fun g => w.heap.size ≤ g) w' 31 6 n q xss ∧ Below w.heap.size w w' := by
  obtain ⟨i0, hi0, hz0, hz1, hz2⟩ := info_of info_F
  obtain ⟨h1, h2, h3, h4⟩ := hrow
  have hf := (show RowC S w 31 6 n p xss from ⟨h1, h2, h3, h4⟩).form.1
  obtain ⟨pa, pn, pc⟩ := p
  simp only at hf
  subst hf
  rcases h3.2 with ⟨hv, h0⟩ | ⟨g, cap, cur, hv, _, hg, _, _, _⟩
  · simp only [Sl.val, Value.slice.injEq] at hv
    obtain ⟨rfl, rfl, rfl⟩ := hv
    have hnil := fun w => Lib.run_eql_slice_nil (P := Tryd.prog) w 25 31 none 0 0 0 0 Tryd.underlying25
    go_enter Tryd.func66, Tryd.ntmps66
    go_wp2
    go_ret
    exact ⟨⟨none, 0, 0⟩, rfl, ⟨h1, h2, ⟨h3.1, .inl ⟨rfl, rfl⟩⟩, fun g h => by simp [Sl.val, Value.ownBlock] at h⟩, Below.refl _ _⟩
  · simp only [Sl.val, Value.slice.injEq] at hv
    obtain ⟨rfl, _, rfl⟩ := hv
    have Hn := Lib.hid (fun o => (h3.alloc o).cells (g := g) rfl)
    have Hl := Lib.hid (And.intro h1 (And.intro h2 h3.1))
    clear h1 h2 h3 h4 hg
    have hnil := fun w => Lib.run_eql_slice_nil (P := Tryd.prog) w 25 31 (some ⟨g, 0, none⟩) pn pc 0 0 Tryd.underlying25
    go_enter Tryd.func66, Tryd.ntmps66
    go_wp2_with (at_builtin; refine wpList_append_own_at _ rfl _ _ 25 rfl w.heap.size 31 i0 _ 6 96 Tryd.underlying25 hi0 hz0 hz1 hz2 rfl (by decide) _ 0 [] rfl (World.ownsRow_lit w #[] 0 (Nat.le_refl _) (by unfold maxLen; omega) rfl) _ pn pc xss.flatten rfl Hl.out.2.2 (Hn.out _) hone (by unfold maxLen; omega) (by omega) (by simp) ?_; intro v' w1 hown1 hgrow1 _ _; simp only [Nat.zero_add, List.nil_append] at hown1; obtain ⟨a', c', rfl⟩ := own_nonnil hown1)
    go_ret
    refine ⟨⟨a', pn, c'⟩, rfl, ⟨Hl.out.1, Hl.out.2.1, ?_, fun k hk => (hown1.lt k hk).1⟩, ?_⟩
    · rcases hown1.2 with h | ⟨g', cap', cur', hv, hb, r⟩
      · exact ⟨hown1.1, .inl h⟩
      · exact ⟨hown1.1, .inr ⟨g', cap', cur', hv, Nat.zero_le _, r⟩⟩
    · exact ((Below.refl _ _).alloc (Nat.le_refl _) _).grown hgrow1 (by simp) (fun k hk => by cases hk; exact Nat.le_refl _)
end Go.Proofs.YteocenjneoclbaaDoor.tre
namespace Go.Proofs.YteocenjneoclbaaDoor.tre
open Go.RowKit Go.Shelf

theorem sum_snoc {α : Type _} (m : α → Nat) (l : List α) (i : Nat) (h : i < l.length) : sumN ((l.take (i + 1)).map m) = sumN ((l.take i).map m) + m l[i] := by
  have e : ∀ a b : List Nat, sumN (a ++ b) = sumN a + sumN b := by
    intro a b
    induction a with
    | nil => simp [sumN]
    | cons x a ih => simp only [List.cons_append, sumN, ih]; omega
  rw [List.take_succ_eq_append_getElem h, List.map_append, e]
  simp [sumN]
theorem max_snoc {α : Type _} (m : α → Nat) (l : List α) (i : Nat) (h : i < l.length) : maxN ((l.take (i + 1)).map m) = max (maxN ((l.take i).map m)) (m l[i]) := by
  have e : ∀ a b : List Nat, maxN (a ++ b) = max (maxN a) (maxN b) := by
    intro a b
    induction a with
    | nil => simp [maxN]
    | cons x a ih => simp only [List.cons_append, maxN, ih]; omega
  rw [List.take_succ_eq_append_getElem h, List.map_append, e]
  simp [maxN]
/-- The cells of a value in a box. -/
def BoxV (W0 : Nat) (v : V) (r t : Sl) (wr : World) : Prop := wr.heap[W0]? = some (.cells #[.int .i64 v.kind, .int .i64 v.int, .string v.text, .slice r.a r.n r.c, .slice t.a t.n t.c] 27 (0, 0))
theorem BoxV.c {W0 : Nat} {v : V} {r t : Sl} {wr : World} (h : BoxV W0 v r t wr) : wr.cell? ⟨W0, 0, none⟩ = some (.int .i64 v.kind) ∧ wr.cell? ⟨W0, 1, none⟩ = some (.int .i64 v.int) ∧ wr.cell? ⟨W0, 2, none⟩ = some (.string v.text) ∧
    wr.cell? ⟨W0, 3, none⟩ = some (.slice r.a r.n r.c) ∧ wr.cell? ⟨W0, 4, none⟩ = some (.slice t.a t.n t.c) := by
  refine ⟨?_, ?_, ?_, ?_, ?_⟩ <;> (rw [cell_of_block h]; rfl)

set_option maxRecDepth 100000 in
set_option maxHeartbeats 4000000 in
theorem rCount_any : ∀ (v : V) (S : Nat → Prop) (W : World) (r t : Sl), (∀ g, S g → g < W.heap.size) → HV S W v r t → countV v < 4611686018427387904 →
    Calls Tryd.prog 19 #[.agg #[.int .i64 v.kind, .int .i64 v.int, .string v.text, .slice r.a r.n r.c, .slice t.a t.n t.c]] W fun e w' => e = .returned (.int .i64 (countV v)) ∧ Below W.heap.size W w' := V.ind fun v ihl ihf => by
  intro S W r t hS hh hbd
  have hb1 : ∀ o, Below W.heap.size W (W.alloc o) := fun o => (Below.refl _ _).alloc (Nat.le_refl _) o
  have heq := countV_eq v
  have hn1 := hh.1.len
  have hn2 := hh.2.len
  have hm1 := hh.1.max
  have hm2 := hh.2.max
  obtain ⟨ra, rn, rc⟩ := r
  obtain ⟨ta, tn, tc⟩ := t
  simp only at hn1 hn2
  subst hn1 hn2
  have Hb := Lib.hid (And.intro hb1 (And.intro hS (And.intro hh (And.intro ihl ihf))))
  have Hq := Lib.hid (And.intro heq hbd)
  have hbox : ∀ wr, Below (W.heap.size + 1) (W.alloc (.cells #[.int .i64 v.kind, .int .i64 v.int, .string v.text, .slice ra v.list.length rc, .slice ta v.fields.length tc] 27)) wr → BoxV W.heap.size v ⟨ra, v.list.length, rc⟩ ⟨ta, v.fields.length, tc⟩ wr := fun wr hb => (hb.block W.heap.size (Nat.lt_succ_self _)).trans (block_new W _)
  have Hx := Lib.hid hbox
  clear hb1 hS hh ihl ihf heq hbd hbox
  go_enter Tryd.func19, Tryd.ntmps19
  go_wp2
  go_loopg [3, 4] v.list.length (fun gg s3 s4 wr => ∃ i A : Nat, i ≤ v.list.length ∧ v.list.length - i ≤ gg ∧ s3 = .int .i64 (A : Int) ∧ s4 = .int .i64 i ∧
    Hid (A = 1 + sumN ((v.list.take i).map countV) ∧ Below (W.heap.size + 1) (W.alloc (.cells #[.int .i64 v.kind, .int .i64 v.int, .string v.text, .slice ra v.list.length rc, .slice ta v.fields.length tc] 27)) wr))
  case atStart => exact ⟨0, 1, Nat.zero_le _, by omega, rfl, rfl, by simp [sumN], Below.refl _ _⟩
  case round =>
    obtain ⟨i, A, hil, hgg, rfl, rfl, H⟩ := hrel
    have hbx := Hx.out wr H.out.2
    obtain ⟨_, _, _, c53, c54⟩ := hbx.c
    have hBW := (Hb.out.1 (.cells #[.int .i64 v.kind, .int .i64 v.int, .string v.text, .slice ra v.list.length rc, .slice ta v.fields.length tc] 27)).trans (H.out.2.mono (Nat.le_succ _))
    clear hbx
    by_cases hlt : i < v.list.length
    · have hltz : (i : Int) < (v.list.length : Int) := by omega
      obtain ⟨g1, r', t', ha, hgl, _, hc, hhx⟩ := (Hb.out.2.2.1.later hBW).1.at hlt
      have hsn := sum_snoc countV v.list i hlt
      have hin := List.getElem_mem hlt
      have htk := sum_take countV v.list i _ (List.getElem?_eq_getElem hlt)
      simp only at ha
      subst ha
      generalize v.list[i] = x at hc hhx hsn hin htk
      have c0 : wr.cell? ⟨g1, i * 5, none⟩ = some (.int .i64 x.kind) := hc 0 _ rfl
      have c1 : wr.cell? ⟨g1, i * 5 + 1, none⟩ = some (.int .i64 x.int) := hc 1 _ rfl
      have c2 : wr.cell? ⟨g1, i * 5 + 2, none⟩ = some (.string x.text) := hc 2 _ rfl
      have c3 : wr.cell? ⟨g1, i * 5 + 3, none⟩ = some (.slice r'.a r'.n r'.c) := hc 3 _ rfl
      have c4 : wr.cell? ⟨g1, i * 5 + 4, none⟩ = some (.slice t'.a t'.n t'.c) := hc 4 _ rfl
      have hcall := Hb.out.2.2.2.1 x hin S wr r' t' (fun g hg => Nat.lt_of_lt_of_le (Hb.out.2.1 g hg) hBW.size) hhx (by have := Hq.out.1; have := Hq.out.2; omega)
      have hbd1 : (countV x : Int) < 4611686018427387904 ∧ (A : Int) + (countV x : Int) < 9223372036854775808 := by have := Hq.out.1; have := Hq.out.2; have := H.out.1; omega
      have Hsn := Lib.hid hsn
      have HB := Lib.hid hBW
      clear hc hhx hin hsn htk hBW
      go_wp2_with fail
      refine hcall.mono ?_
      rintro e w4 ⟨rfl, hb4⟩
      clear hcall
      go_wp2
      go_roundg (v.list.length - (i + 1))
      case measure => omega
      case rel => exact ⟨i + 1, A + countV x, by omega, by omega, by go_num, by go_num, by rw [Hsn.out, H.out.1]; omega, H.out.2.trans (hb4.mono (by have := H.out.2.size; rw [size_alloc] at this; exact this))⟩
    · obtain rfl : i = v.list.length := by omega
      clear hBW
      go_wp2
      clear c53 c54
      go_loopg [3, 5] v.fields.length (fun gg s3 s5 wr => ∃ i A : Nat, i ≤ v.fields.length ∧ v.fields.length - i ≤ gg ∧ s3 = .int .i64 (A : Int) ∧ s5 = .int .i64 i ∧
        Hid (A = 1 + sumN (v.list.map countV) + sumN ((v.fields.take i).map fun g => countV g.2) ∧ Below (W.heap.size + 1) (W.alloc (.cells #[.int .i64 v.kind, .int .i64 v.int, .string v.text, .slice ra v.list.length rc, .slice ta v.fields.length tc] 27)) wr))
      case atStart => exact ⟨0, A, Nat.zero_le _, by omega, rfl, rfl, by rw [H.out.1, List.take_length]; simp [sumN], H.out.2⟩
      case round =>
        obtain ⟨i, A, hil2, hgg2, rfl, rfl, H2⟩ := hrel
        have hbx := Hx.out wr H2.out.2
        obtain ⟨_, _, _, c53, c54⟩ := hbx.c
        have hBW := (Hb.out.1 (.cells #[.int .i64 v.kind, .int .i64 v.int, .string v.text, .slice ra v.list.length rc, .slice ta v.fields.length tc] 27)).trans (H2.out.2.mono (Nat.le_succ _))
        clear hbx
        by_cases hlf : i < v.fields.length
        · have hltf : (i : Int) < (v.fields.length : Int) := by omega
          obtain ⟨g1, r', t', ha, hgl, _, hc, hhx⟩ := (Hb.out.2.2.1.later hBW).2.at hlf
          have hsn := sum_snoc (fun g : ByteArray × V => countV g.2) v.fields i hlf
          have hin := List.getElem_mem hlf
          have htk := sum_take (fun g : ByteArray × V => countV g.2) v.fields i _ (List.getElem?_eq_getElem hlf)
          simp only at ha
          subst ha
          generalize v.fields[i] = x at hc hhx hsn hin htk
          have c0 : wr.cell? ⟨g1, i * 6 + 1, none⟩ = some (.int .i64 x.2.kind) := hc 1 _ rfl
          have c1 : wr.cell? ⟨g1, i * 6 + 2, none⟩ = some (.int .i64 x.2.int) := hc 2 _ rfl
          have c2 : wr.cell? ⟨g1, i * 6 + 3, none⟩ = some (.string x.2.text) := hc 3 _ rfl
          have c3 : wr.cell? ⟨g1, i * 6 + 4, none⟩ = some (.slice r'.a r'.n r'.c) := hc 4 _ rfl
          have c4 : wr.cell? ⟨g1, i * 6 + 5, none⟩ = some (.slice t'.a t'.n t'.c) := hc 5 _ rfl
          have hcall := Hb.out.2.2.2.2 x hin S wr r' t' (fun g hg => Nat.lt_of_lt_of_le (Hb.out.2.1 g hg) hBW.size) hhx (by have := Hq.out.1; have := Hq.out.2; omega)
          have hbd1 : (countV x.2 : Int) < 4611686018427387904 ∧ (A : Int) + (countV x.2 : Int) < 9223372036854775808 := by have := Hq.out.1; have := Hq.out.2; have := H2.out.1; omega
          have Hsn := Lib.hid hsn
          have HB := Lib.hid hBW
          clear hc hhx hin hsn htk hBW
          go_wp2_with fail
          refine hcall.mono ?_
          rintro e w4 ⟨rfl, hb4⟩
          clear hcall
          go_wp2
          go_roundg (v.fields.length - (i + 1))
          case measure => omega
          case rel => exact ⟨i + 1, A + countV x.2, by omega, by omega, by go_num, by go_num, by rw [Hsn.out, H2.out.1]; omega, H2.out.2.trans (hb4.mono (by have := H2.out.2.size; rw [size_alloc] at this; exact this))⟩
        · obtain rfl : i = v.fields.length := by omega
          have hA := H2.out.1
          rw [List.take_length] at hA
          have hfin : (0 : Int) ≤ 0 := by have := Hq.out.1; have := Hq.out.2; omega
          have HA := Lib.hid hA
          clear hA
          have HB := Lib.hid hBW
          clear hBW
          go_wp2
          go_ret
          refine ⟨?_, HB.out⟩
          have e : A = countV v := by rw [HA.out]; have := Hq.out.1; omega
          rw [← e]; rfl

set_option maxRecDepth 100000 in
set_option maxHeartbeats 4000000 in
theorem rDepth_any : ∀ (v : V) (S : Nat → Prop) (W : World) (r t : Sl), (∀ g, S g → g < W.heap.size) → HV S W v r t → depthV v < 4611686018427387904 →
    Calls Tryd.prog 17 #[.agg #[.int .i64 v.kind, .int .i64 v.int, .string v.text, .slice r.a r.n r.c, .slice t.a t.n t.c]] W fun e w' => e = .returned (.int .i64 (depthV v)) ∧ Below W.heap.size W w' := V.ind fun v ihl ihf => by
  intro S W r t hS hh hbd
  have hb1 : ∀ o, Below W.heap.size W (W.alloc o) := fun o => (Below.refl _ _).alloc (Nat.le_refl _) o
  have heq := depthV_eq v
  have hn1 := hh.1.len
  have hn2 := hh.2.len
  have hm1 := hh.1.max
  have hm2 := hh.2.max
  obtain ⟨ra, rn, rc⟩ := r
  obtain ⟨ta, tn, tc⟩ := t
  simp only at hn1 hn2
  subst hn1 hn2
  have Hb := Lib.hid (And.intro hb1 (And.intro hS (And.intro hh (And.intro ihl ihf))))
  have Hq := Lib.hid (And.intro heq hbd)
  have hbox : ∀ wr, Below (W.heap.size + 1) (W.alloc (.cells #[.int .i64 v.kind, .int .i64 v.int, .string v.text, .slice ra v.list.length rc, .slice ta v.fields.length tc] 27)) wr → BoxV W.heap.size v ⟨ra, v.list.length, rc⟩ ⟨ta, v.fields.length, tc⟩ wr := fun wr hb => (hb.block W.heap.size (Nat.lt_succ_self _)).trans (block_new W _)
  have Hx := Lib.hid hbox
  clear hb1 hS hh ihl ihf heq hbd hbox
  go_enter Tryd.func17, Tryd.ntmps17
  go_wp2
  go_loopg [3, 4, 5] v.list.length (fun gg s3 s4 _ wr => ∃ i A : Nat, i ≤ v.list.length ∧ v.list.length - i ≤ gg ∧ s3 = .int .i64 (A : Int) ∧ s4 = .int .i64 i ∧
    Hid (A = maxN ((v.list.take i).map depthV) ∧ Below (W.heap.size + 1) (W.alloc (.cells #[.int .i64 v.kind, .int .i64 v.int, .string v.text, .slice ra v.list.length rc, .slice ta v.fields.length tc] 27)) wr))
  case atStart => exact ⟨0, 0, Nat.zero_le _, by omega, rfl, rfl, by simp [maxN], Below.refl _ _⟩
  case round =>
    obtain ⟨i, A, hil, hgg, rfl, rfl, H⟩ := hrel
    have hbx := Hx.out wr H.out.2
    obtain ⟨_, _, _, c53, c54⟩ := hbx.c
    have hBW := (Hb.out.1 (.cells #[.int .i64 v.kind, .int .i64 v.int, .string v.text, .slice ra v.list.length rc, .slice ta v.fields.length tc] 27)).trans (H.out.2.mono (Nat.le_succ _))
    clear hbx
    by_cases hlt : i < v.list.length
    · have hltz : (i : Int) < (v.list.length : Int) := by omega
      obtain ⟨g1, r', t', ha, hgl, _, hc, hhx⟩ := (Hb.out.2.2.1.later hBW).1.at hlt
      have hsn := max_snoc depthV v.list i hlt
      have hin := List.getElem_mem hlt
      have htk := le_maxN (List.mem_map_of_mem (f := depthV) hin)
      simp only at ha
      subst ha
      generalize v.list[i] = x at hc hhx hsn hin htk
      have c0 : wr.cell? ⟨g1, i * 5, none⟩ = some (.int .i64 x.kind) := hc 0 _ rfl
      have c1 : wr.cell? ⟨g1, i * 5 + 1, none⟩ = some (.int .i64 x.int) := hc 1 _ rfl
      have c2 : wr.cell? ⟨g1, i * 5 + 2, none⟩ = some (.string x.text) := hc 2 _ rfl
      have c3 : wr.cell? ⟨g1, i * 5 + 3, none⟩ = some (.slice r'.a r'.n r'.c) := hc 3 _ rfl
      have c4 : wr.cell? ⟨g1, i * 5 + 4, none⟩ = some (.slice t'.a t'.n t'.c) := hc 4 _ rfl
      have hcall := Hb.out.2.2.2.1 x hin S wr r' t' (fun g hg => Nat.lt_of_lt_of_le (Hb.out.2.1 g hg) hBW.size) hhx (by have := Hq.out.1; have := Hq.out.2; omega)
      have hbd1 : (depthV x : Int) < 4611686018427387904 ∧ (0 : Int) ≤ 0 := by have := Hq.out.1; have := Hq.out.2; have := H.out.1; omega
      have Hsn := Lib.hid hsn
      have HB := Lib.hid hBW
      clear hc hhx hin hsn htk hBW
      by_cases hgt : A < depthV x
      · have hgtz : (A : Int) < (depthV x : Int) := by omega
        go_wp2_with fail
        refine hcall.mono ?_
        rintro e w4 ⟨rfl, hb4⟩
        clear hcall
        go_wp2
        go_roundg (v.list.length - (i + 1))
        case measure => omega
        case rel => exact ⟨i + 1, depthV x, by omega, by omega, rfl, by go_num, by rw [Hsn.out, ← H.out.1]; omega, H.out.2.trans (hb4.mono (by have := H.out.2.size; rw [size_alloc] at this; exact this))⟩
      · have hgtz : ¬ (A : Int) < (depthV x : Int) := by omega
        go_wp2_with fail
        refine hcall.mono ?_
        rintro e w4 ⟨rfl, hb4⟩
        clear hcall
        go_wp2
        go_roundg (v.list.length - (i + 1))
        case measure => omega
        case rel => exact ⟨i + 1, A, by omega, by omega, rfl, by go_num, by rw [Hsn.out, ← H.out.1]; omega, H.out.2.trans (hb4.mono (by have := H.out.2.size; rw [size_alloc] at this; exact this))⟩
    · obtain rfl : i = v.list.length := by omega
      clear hBW
      go_wp2
      clear c53 c54
      go_loopg [3, 6, 7] v.fields.length (fun gg s3 s6 _ wr => ∃ i A : Nat, i ≤ v.fields.length ∧ v.fields.length - i ≤ gg ∧ s3 = .int .i64 (A : Int) ∧ s6 = .int .i64 i ∧
        Hid (A = max (maxN (v.list.map depthV)) (maxN ((v.fields.take i).map fun g => depthV g.2)) ∧ Below (W.heap.size + 1) (W.alloc (.cells #[.int .i64 v.kind, .int .i64 v.int, .string v.text, .slice ra v.list.length rc, .slice ta v.fields.length tc] 27)) wr))
      case atStart => exact ⟨0, A, Nat.zero_le _, by omega, rfl, rfl, by rw [H.out.1, List.take_length]; simp [maxN], H.out.2⟩
      case round =>
        obtain ⟨i, A, hil2, hgg2, rfl, rfl, H2⟩ := hrel
        have hbx := Hx.out wr H2.out.2
        obtain ⟨_, _, _, c53, c54⟩ := hbx.c
        have hBW := (Hb.out.1 (.cells #[.int .i64 v.kind, .int .i64 v.int, .string v.text, .slice ra v.list.length rc, .slice ta v.fields.length tc] 27)).trans (H2.out.2.mono (Nat.le_succ _))
        clear hbx
        by_cases hlf : i < v.fields.length
        · have hltf : (i : Int) < (v.fields.length : Int) := by omega
          obtain ⟨g1, r', t', ha, hgl, _, hc, hhx⟩ := (Hb.out.2.2.1.later hBW).2.at hlf
          have hsn := max_snoc (fun g : ByteArray × V => depthV g.2) v.fields i hlf
          have hin := List.getElem_mem hlf
          have htk := le_maxN (List.mem_map_of_mem (f := fun g : ByteArray × V => depthV g.2) hin)
          simp only at ha
          subst ha
          generalize v.fields[i] = x at hc hhx hsn hin htk
          have c0 : wr.cell? ⟨g1, i * 6 + 1, none⟩ = some (.int .i64 x.2.kind) := hc 1 _ rfl
          have c1 : wr.cell? ⟨g1, i * 6 + 2, none⟩ = some (.int .i64 x.2.int) := hc 2 _ rfl
          have c2 : wr.cell? ⟨g1, i * 6 + 3, none⟩ = some (.string x.2.text) := hc 3 _ rfl
          have c3 : wr.cell? ⟨g1, i * 6 + 4, none⟩ = some (.slice r'.a r'.n r'.c) := hc 4 _ rfl
          have c4 : wr.cell? ⟨g1, i * 6 + 5, none⟩ = some (.slice t'.a t'.n t'.c) := hc 5 _ rfl
          have hcall := Hb.out.2.2.2.2 x hin S wr r' t' (fun g hg => Nat.lt_of_lt_of_le (Hb.out.2.1 g hg) hBW.size) hhx (by have := Hq.out.1; have := Hq.out.2; omega)
          have hbd1 : (depthV x.2 : Int) < 4611686018427387904 ∧ (0 : Int) ≤ 0 := by have := Hq.out.1; have := Hq.out.2; have := H2.out.1; omega
          have Hsn := Lib.hid hsn
          have HB := Lib.hid hBW
          clear hc hhx hin hsn htk hBW
          by_cases hgt : A < depthV x.2
          · have hgtz : (A : Int) < (depthV x.2 : Int) := by omega
            go_wp2_with fail
            refine hcall.mono ?_
            rintro e w4 ⟨rfl, hb4⟩
            clear hcall
            go_wp2
            go_roundg (v.fields.length - (i + 1))
            case measure => omega
            case rel => exact ⟨i + 1, depthV x.2, by omega, by omega, rfl, by go_num, by rw [Hsn.out]; have := H2.out.1; omega, H2.out.2.trans (hb4.mono (by have := H2.out.2.size; rw [size_alloc] at this; exact this))⟩
          · have hgtz : ¬ (A : Int) < (depthV x.2 : Int) := by omega
            go_wp2_with fail
            refine hcall.mono ?_
            rintro e w4 ⟨rfl, hb4⟩
            clear hcall
            go_wp2
            go_roundg (v.fields.length - (i + 1))
            case measure => omega
            case rel => exact ⟨i + 1, A, by omega, by omega, rfl, by go_num, by rw [Hsn.out]; have := H2.out.1; omega, H2.out.2.trans (hb4.mono (by have := H2.out.2.size; rw [size_alloc] at this; exact this))⟩
        · obtain rfl : i = v.fields.length := by omega
          have hA := H2.out.1
          rw [List.take_length] at hA
          have hfin : (A : Int) + 1 < 9223372036854775808 := by have := Hq.out.1; have := Hq.out.2; omega
          have HA := Lib.hid hA
          clear hA
          have HB := Lib.hid hBW
          clear hBW
          go_wp2
          go_ret
          refine ⟨?_, HB.out⟩
          have e : A + 1 = depthV v := by rw [HA.out]; have := Hq.out.1; omega
          rw [← e]; rfl
end Go.Proofs.YteocenjneoclbaaDoor.tre

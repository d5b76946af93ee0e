/- Layer 4: rebuild and copied. Layer 4: place and Get. -/
import Derived.Test.YteocenjneoclbaaDoorTrmBldPre
namespace Go.Proofs.YteocenjneoclbaaDoor.tre
open Go.RowKit Go.Shelf

theorem Built.map {S : Nat → Prop} {B B' : Nat} {w w' : World} {v : V} {p q : Sl} (h : Built S B w v p q) (hB : B' ≤ B) (hk : ∀ k, (S k ∨ B ≤ k) → k < w.heap.size → w'.heap[k]? = w.heap[k]?) : Built S B' w' v p q := by
  obtain ⟨h1, xss, h2, h3⟩ := h
  have hs : ∀ k, (S k ∨ B ≤ k) → (S k ∨ B' ≤ k) := fun k hk => by rcases hk with hk | hk; exact .inl hk; exact .inr (by omega)
  refine ⟨h1.map (fun k hq hl => ⟨⟨hs k hq.1, hq.2⟩, hk k hq.1 hl⟩), xss, h2.map (fun k hq hl => ⟨Nat.le_trans hB hq, hk k (.inr hq) hl⟩), fun i x y hx hy => ?_⟩
  obtain ⟨ys, e, hl⟩ := h3 i x y hx hy
  exact ⟨ys, e, Lies.map (fun k hq hl => ⟨⟨hs k hq.1, hq.2⟩, hk k hq.1 hl⟩) _ _ hl⟩

theorem block_new4 (W : World) (o1 o2 o3 o4 : Obj) : ((((W.alloc o1).alloc o2).alloc o3).alloc o4).heap[W.heap.size + 1]? = some o2 ∧ ((((W.alloc o1).alloc o2).alloc o3).alloc o4).heap[W.heap.size + 2]? = some o3 ∧ ((((W.alloc o1).alloc o2).alloc o3).alloc o4).heap[W.heap.size + 3]? = some o4 ∧ ((((W.alloc o1).alloc o2).alloc o3).alloc o4).heap.size = W.heap.size + 4 := by
  have h1 := block_new (W.alloc o1) o2
  have h2 := block_new ((W.alloc o1).alloc o2) o3
  have h3 := block_new (((W.alloc o1).alloc o2).alloc o3) o4
  simp only [size_alloc] at h1 h2 h3
  refine ⟨?_, ?_, h3, by simp only [size_alloc]⟩
  · rw [block_old (by simp only [size_alloc]; omega), block_old (by simp only [size_alloc]; omega)]; exact h1
  · rw [block_old (by simp only [size_alloc]; omega)]; exact h2

set_option maxRecDepth 100000 in
set_option maxHeartbeats 1000000 in
theorem rebuild_any {okl : List (ByteArray × V) → Prop} {g : FuncId} {lb : Array Value} {arr : List (ByteArray × V) → List (ByteArray × V)} (hg : Arr okl g lb arr) (okv : V → Prop)
    (her : ∀ v, okv v → (∀ x ∈ v.list, okv x) ∧ (∀ g ∈ v.fields, okv g.2) ∧ v.list.length ≤ 100000 ∧ v.fields.length ≤ 100000 ∧ okl (v.fields.map fun g => (g.1, rebV arr g.2))) (v : V) (hok : okv v)
    (S : Nat → Prop) (W : World) (r t : Sl) (hS : ∀ g, S g → g < W.heap.size) (hh : HV S W v r t) :
    Calls Tryd.prog 38 #[.agg #[.int .i64 v.kind, .int .i64 v.int, .string v.text, .slice r.a r.n r.c, .slice t.a t.n t.c], .func (.func g) #[] lb] W
      fun e w' => ∃ p q : Sl, e = .returned (.agg #[.int .i64 v.kind, .int .i64 v.int, .string v.text, .slice p.a p.n p.c, .slice q.a q.n q.c]) ∧ Built S W.heap.size w' (rebV arr v) p q ∧ Below W.heap.size W w' := by
  have eg : ∀ args w, (callFunc 64 args).run Tryd.prog w = .ok (.enter 64 args) w := enters_of Tryd.func64 (by kernel_rfl) rfl
  have hb4 : ∀ o1 o2 o3 o4, Below W.heap.size W ((((W.alloc o1).alloc o2).alloc o3).alloc o4) := fun o1 o2 o3 o4 =>
    ((((Below.refl _ _).alloc (Nat.le_refl _) o1).alloc (by simp only [size_alloc]; omega) o2).alloc (by simp only [size_alloc]; omega) o3).alloc (by simp only [size_alloc]; omega) o4
  have hcall := fun o1 o3 T1 T2 => build_any hg (W.heap.size + 1 + 1 + 1) (W.heap.size + 1) T1 T2 okv her v hok S ((((W.alloc o1).alloc (.cells #[.func (.func g) #[] lb] T2)).alloc o3).alloc (.cells #[.func (.func 64) #[] #[.pointer (some ⟨W.heap.size + 1 + 1 + 1, 0, none⟩), .pointer (some ⟨W.heap.size + 1, 0, none⟩)]] T1)) r t
    (fun g hg => Nat.lt_of_lt_of_le (hS g hg) (hb4 _ _ _ _).size) (hh.later (hb4 _ _ _ _)) (has_cons.2 ⟨(block_new4 W _ _ _ _).2.2.1, has_cons.2 ⟨(block_new4 W _ _ _ _).1, fun _ h => by simp at h⟩⟩)
  have Hb := Lib.hid (And.intro hb4 hS)
  clear hb4 hS hh hok her hg
  have rs := fun (a : Addr) (w : World) (m : Mode) => run_store (P := Tryd.prog) w a (.func (.func 64) #[] #[.pointer (some ⟨W.heap.size + 1 + 1 + 1, 0, none⟩), .pointer (some ⟨W.heap.size + 1, 0, none⟩)]) m rfl
  go_enter Tryd.func38, Tryd.ntmps38
  go_wp2_with (go_at_call 64; refine (hcall _ _ _ _).mono ?_; rintro e w7 ⟨p, q, rfl, hB, hb7⟩; have q6 := (hb7.block (W.heap.size + 2) (by rw [(block_new4 W _ _ _ _).2.2.2]; omega)).trans (block_new4 W _ _ _ _).2.1; have r0 : w7.cell? ⟨W.heap.size + 1 + 1, 0, none⟩ = some (.int .i64 0) := (by rw [show W.heap.size + 1 + 1 = W.heap.size + 2 from rfl, blk_cell q6]; rfl); have r1 : w7.cell? ⟨W.heap.size + 1 + 1, 1, none⟩ = some (.int .i64 0) := (by rw [show W.heap.size + 1 + 1 = W.heap.size + 2 from rfl, blk_cell q6]; rfl); have r2 : w7.cell? ⟨W.heap.size + 1 + 1, 2, none⟩ = some (.string ⟨#[]⟩) := (by rw [show W.heap.size + 1 + 1 = W.heap.size + 2 from rfl, blk_cell q6]; rfl); have r3 : w7.cell? ⟨W.heap.size + 1 + 1, 3, none⟩ = some (.slice none 0 0) := (by rw [show W.heap.size + 1 + 1 = W.heap.size + 2 from rfl, blk_cell q6]; rfl); have r4 : w7.cell? ⟨W.heap.size + 1 + 1, 4, none⟩ = some (.slice none 0 0) := (by rw [show W.heap.size + 1 + 1 = W.heap.size + 2 from rfl, blk_cell q6]; rfl); have f0 := blk_frozen q6 0; have f1 := blk_frozen q6 1; have f2 := blk_frozen q6 2; have f3 := blk_frozen q6 3; have f4 := blk_frozen q6 4; have H7 := Lib.hid (And.intro q6 (And.intro hB hb7)); clear q6 hB hb7)
  refine bodyPost_ret (results_cell_row rfl _ _ (W.heap.size + 2) 27 _ (0, 0) _ rfl (set5 _ _ _ _ _ H7.out.1) Tryd.underlying27 rfl size_V) rfl ?_
  refine ⟨p, q, rfl, H7.out.2.1.map (by rw [(block_new4 W _ _ _ _).2.2.2]; omega) (fun k hk _ => far5 ?_), ?_⟩
  · rw [(block_new4 W _ _ _ _).2.2.2] at hk
    rcases hk with hk | hk
    · have := Hb.out.2 k hk; omega
    · omega
  · have hb := (Hb.out.1 _ _ _ _).trans (H7.out.2.2.mono (by rw [(block_new4 W _ _ _ _).2.2.2]; omega))
    exact ((((hb.setCell (p := ⟨W.heap.size + 2, 0, none⟩) (by show W.heap.size ≤ W.heap.size + 2; omega) _).setCell (p := ⟨W.heap.size + 2, 1, none⟩) (by show W.heap.size ≤ W.heap.size + 2; omega) _).setCell (p := ⟨W.heap.size + 2, 2, none⟩) (by show W.heap.size ≤ W.heap.size + 2; omega) _).setCell (p := ⟨W.heap.size + 2, 3, none⟩) (by show W.heap.size ≤ W.heap.size + 2; omega) _).setCell (p := ⟨W.heap.size + 2, 4, none⟩) (by show W.heap.size ≤ W.heap.size + 2; omega) _

theorem arr_id : Arr (fun _ => True) 74 #[] id := by
  refine ⟨enters_of Tryd.func74 (by kernel_rfl) rfl, fun Z S w q _ _ _ hrow => ?_⟩
  go_enter Tryd.func74, Tryd.ntmps74
  go_wp2
  go_end0
  exact ⟨rfl, ⟨Z, List.Perm.refl _, rfl, hrow⟩, Keeps.of_below (Below.refl _ _)⟩
theorem rebV_id : ∀ v, rebV id v = v := V.ind fun v ihl ihf => by
  rw [rebV_eq]
  have h1 : v.list.map (rebV id) = v.list := by
    conv => rhs; rw [← List.map_id v.list]
    exact List.map_congr_left ihl
  have h2 : (v.fields.map fun g => (g.1, rebV id g.2)) = v.fields := by
    conv => rhs; rw [← List.map_id v.fields]
    exact List.map_congr_left (fun g hg => by show (g.1, rebV id g.2) = g; rw [ihf g hg])
  rw [h1, h2]
  exact V.eta v
/-- No list in a value is greater than that. -/
def smallC : V → Bool := V.fold fun v a b => decide (v.list.length ≤ 100000) && decide (v.fields.length ≤ 100000) && a.all id && b.all fun g => g.2
theorem smallC_eq (v : V) : smallC v = true ↔ v.list.length ≤ 100000 ∧ v.fields.length ≤ 100000 ∧ (∀ x ∈ v.list, smallC x = true) ∧ ∀ g ∈ v.fields, smallC g.2 = true := by
  unfold smallC; rw [V.fold_eq]; simp [and_assoc]
theorem copied_any (v : V) (hok : smallC v = true) (S : Nat → Prop) (W : World) (r t : Sl) (hS : ∀ g, S g → g < W.heap.size) (hh : HV S W v r t) :
    Calls Tryd.prog 49 #[.agg #[.int .i64 v.kind, .int .i64 v.int, .string v.text, .slice r.a r.n r.c, .slice t.a t.n t.c]] W
      fun e w' => ∃ p q : Sl, e = .returned (.agg #[.int .i64 v.kind, .int .i64 v.int, .string v.text, .slice p.a p.n p.c, .slice q.a q.n q.c]) ∧ Built S W.heap.size w' v p q ∧ Below W.heap.size W w' := by
  have hb2 : ∀ o1 o2, Below W.heap.size W ((W.alloc o1).alloc o2) := fun o1 o2 => ((Below.refl _ _).alloc (Nat.le_refl _) o1).alloc (by rw [size_alloc]; omega) o2
  have hcall := fun o1 o2 => rebuild_any arr_id (fun v => smallC v = true) (fun v h => ⟨((smallC_eq v).1 h).2.2.1, ((smallC_eq v).1 h).2.2.2, ((smallC_eq v).1 h).1, ((smallC_eq v).1 h).2.1, trivial⟩) v hok S ((W.alloc o1).alloc o2) r t (fun g hg => Nat.lt_of_lt_of_le (hS g hg) (hb2 _ _).size) (hh.later (hb2 _ _))
  rw [rebV_id v] at hcall
  have Hb := Lib.hid (And.intro hb2 hS)
  have Hn := Lib.hid (fun o1 o2 => (show ((W.alloc o1).alloc o2).heap[W.heap.size + 1]? = some o2 by have := block_new (W.alloc o1) o2; rwa [size_alloc] at this))
  clear hb2 hS hh hok
  go_enter Tryd.func49, Tryd.ntmps49
  go_wp2_with (go_at_call 38; refine (hcall _ _).mono ?_; rintro e w7 ⟨p, q, rfl, hB, hb7⟩; have q6 := (hb7.block (W.heap.size + 1) (by rw [size_alloc, size_alloc]; omega)).trans (Hn.out _ _); have r0 : w7.cell? ⟨W.heap.size + 1, 0, none⟩ = some (.int .i64 0) := (by rw [blk_cell q6]; rfl); have r1 : w7.cell? ⟨W.heap.size + 1, 1, none⟩ = some (.int .i64 0) := (by rw [blk_cell q6]; rfl); have r2 : w7.cell? ⟨W.heap.size + 1, 2, none⟩ = some (.string ⟨#[]⟩) := (by rw [blk_cell q6]; rfl); have r3 : w7.cell? ⟨W.heap.size + 1, 3, none⟩ = some (.slice none 0 0) := (by rw [blk_cell q6]; rfl); have r4 : w7.cell? ⟨W.heap.size + 1, 4, none⟩ = some (.slice none 0 0) := (by rw [blk_cell q6]; rfl); have f0 := blk_frozen q6 0; have f1 := blk_frozen q6 1; have f2 := blk_frozen q6 2; have f3 := blk_frozen q6 3; have f4 := blk_frozen q6 4; have H7 := Lib.hid (And.intro q6 (And.intro hB hb7)); clear q6 hB hb7)
  refine bodyPost_ret (results_cell_row rfl _ _ (W.heap.size + 1) 27 _ (0, 0) _ rfl (set5 _ _ _ _ _ H7.out.1) Tryd.underlying27 rfl size_V) rfl ?_
  refine ⟨p, q, rfl, H7.out.2.1.map (by rw [size_alloc, size_alloc]; omega) (fun k hk _ => far5 ?_), ?_⟩
  · rw [size_alloc, size_alloc] at hk
    rcases hk with hk | hk
    · have := Hb.out.2 k hk; omega
    · omega
  · have hb := (Hb.out.1 _ _).trans (H7.out.2.2.mono (by rw [size_alloc, size_alloc]; omega))
    exact ((((hb.setCell (p := ⟨W.heap.size + 1, 0, none⟩) (Nat.le_succ _) _).setCell (p := ⟨W.heap.size + 1, 1, none⟩) (Nat.le_succ _) _).setCell (p := ⟨W.heap.size + 1, 2, none⟩) (Nat.le_succ _) _).setCell (p := ⟨W.heap.size + 1, 3, none⟩) (Nat.le_succ _) _).setCell (p := ⟨W.heap.size + 1, 4, none⟩) (Nat.le_succ _) _
end Go.Proofs.YteocenjneoclbaaDoor.tre
namespace Go.Proofs.YteocenjneoclbaaDoor.tre
open Go.RowKit Go.Shelf

/-- Has a field that key? -/
def keyP (key : ByteArray) (_ : Unit) (g : ByteArray × V) : Bool × Unit := (g.1.toList == key.toList, ())
/-- The state: a text in a cell. -/
def Txt (B : Nat) (T : TypeId) (key : ByteArray) (_ : Unit) (W : World) : Prop := W.heap[B]? = some (.cells #[.string key] T (0, 0))
theorem vst_txt (B : Nat) (T : TypeId) (key : ByteArray) : Vst (Txt B T key) (fun _ _ _ => False) :=
  ⟨fun _ _ _ h hb => (hb.block B (Array.getElem?_eq_some_iff.1 h).1).trans h, fun _ _ _ _ hb => hb.elim, fun _ _ _ _ _ _ h => h⟩
theorem Step.quiet {σ : Type} {Inv : σ → World → Prop} {own : σ → World → Nat → Prop} {s s' : σ} {w w' : World} (h : Step Inv own s w s' w') (ho : ∀ b, ¬ own s w b) : Below w.heap.size w w' :=
  h.keeps.below (fun k hk => (ho k hk).elim) (Nat.le_refl _)
theorem ask_place (B : Nat) (T : TypeId) (key : ByteArray) (l : List (ByteArray × V)) (s0 : Unit) : AskF (Txt B T key) (fun _ _ _ => False) l s0 73 #[.pointer (some ⟨B, 0, none⟩)] (keyP key) := by
  refine ⟨enters_of Tryd.func73 (by kernel_rfl) rfl, fun i x hx S s W r t hs hi hS hh => ?_⟩
  clear hs hS hh
  have hl := (Array.getElem?_eq_some_iff.1 hi).1
  have c0 : W.cell? ⟨B, 0, none⟩ = some (.string key) := by rw [blk_cell hi]; rfl
  have Hi := Lib.hid (fun o => Step.below (vst_txt B T key) (s := s) hi ((Below.refl _ _).alloc (Nat.le_refl _) o))
  clear hi
  go_enter Tryd.func73, Tryd.ntmps73
  go_wp2
  go_ret
  exact ⟨rfl, Hi.out _⟩
/-- Where a map has its field of that key. -/
def placeV (v : V) (key : ByteArray) : Int := if v.kind = 5 then (idxS (keyP key) () v.fields 0).1 else -1
theorem place_any (v : V) (key : ByteArray) (S : Nat → Prop) (W : World) (r t : Sl) (hS : ∀ g, S g → g < W.heap.size) (hh : HV S W v r t) :
    Calls Tryd.prog 48 #[.agg #[.int .i64 v.kind, .int .i64 v.int, .string v.text, .slice r.a r.n r.c, .slice t.a t.n t.c], .string key] W fun e w' => e = .returned (.int .i64 (placeV v key)) ∧ Below W.heap.size W w' := by
  have hb2 : ∀ o1 o2, Below W.heap.size W ((W.alloc o1).alloc o2) := fun o1 o2 => ((Below.refl _ _).alloc (Nat.le_refl _) o1).alloc (by rw [size_alloc]; omega) o2
  have hcall := fun o1 T => idxF_any (ask_place (W.heap.size + 1) T key v.fields ()) (w := (W.alloc o1).alloc (.cells #[.string key] T)) (p := t) (S := S) (hh.2.later (hb2 _ _)) (fun g hg => ⟨Nat.lt_of_lt_of_le (hS g hg) (hb2 _ _).size, fun h => h⟩)
    (show Txt _ _ _ _ _ by have := block_new (W.alloc o1) (.cells #[.string key] T); rwa [size_alloc] at this)
  have Hb := Lib.hid hb2
  clear hb2 hh hS
  by_cases hk : v.kind = 5
  · have H := Lib.hid (show placeV v key = (idxS (keyP key) () v.fields 0).1 from if_pos hk)
    have e0 : (v.kind != 5) = false := by simp [hk]
    go_enter Tryd.func48, Tryd.ntmps48
    go_wp2_with fail
    rw [← hk]
    refine (hcall _ _).mono ?_
    rintro e w1 ⟨rfl, hs1⟩
    go_wp2
    go_ret
    rw [H.out]
    exact ⟨rfl, (Hb.out _ _).trans ((hs1.quiet (fun _ h => h)).mono (Hb.out _ _).size)⟩
  · have H := Lib.hid (show placeV v key = -1 from if_neg hk)
    have e0 : (v.kind != 5) = true := by simp [hk]
    clear hcall
    go_enter Tryd.func48, Tryd.ntmps48
    go_wp2
    go_ret
    rw [H.out]
    exact ⟨rfl, Hb.out _ _⟩

theorem results_pair {P : Program} {fn : Func} {p u : Tmp} {ty : TypeId} (h : fn.results = #[.cell p ty, .tmp u]) (tmps : Array Value) (w : World) (g : Nat) (t : TypeId) (cs : Array Value) (fr : Nat × Nat) (d : TypeDesc)
    (hp : tmps.getD p undef = .pointer (some ⟨g, 0, none⟩)) (hg : w.heap[g]? = some (.cells cs t fr))
    (hu : P.underlying ty = some d) (hd : (match d with | .struct _ | .array _ _ => true | _ => false) = true) (hi : (P.info? ty).map (·.size) = some cs.size) :
    (results fn tmps).run P w = .ok (.tuple #[.agg cs, tmps.getD u undef]) w := by
  rw [results_cell_tmp h, hp]
  simp [asAddr, run_loadVar_row w g t ty cs fr d hg hu hd hi, Result.andThen]

theorem idx_range {σ E : Type} (f : σ → E → Bool × σ) : ∀ (l : List E) (s : σ) (i : Nat), (idxS f s l i).1 = -1 ∨ ∃ k, k < l.length ∧ (idxS f s l i).1 = ((i + k : Nat) : Int)
  | [], _, _ => .inl rfl
  | x :: l, s, i => by
    unfold idxS
    split
    · exact .inr ⟨0, by simp, rfl⟩
    · rcases idx_range f l (f s x).2 (i + 1) with h | ⟨k, hk, h⟩
      · exact .inl h
      · exact .inr ⟨k + 1, by simp; omega, by rw [h]; congr 1; omega⟩
theorem place_range (v : V) (key : ByteArray) : placeV v key = -1 ∨ ∃ k, k < v.fields.length ∧ placeV v key = (k : Int) := by
  unfold placeV
  split
  · rcases idx_range (keyP key) v.fields () 0 with h | ⟨k, hk, h⟩
    · exact .inl h
    · exact .inr ⟨k, hk, by rw [h]; congr 1; omega⟩
  · exact .inl rfl
def nilV : V := .mk 0 0 ⟨#[]⟩ [] []
theorem nilV_lies (S : Nat → Prop) (w : World) : HV S w nilV ⟨none, 0, 0⟩ ⟨none, 0, 0⟩ := ⟨RowV.nil S w, RowF.nil S w⟩
/-- What stands under these keys, one in the other. -/
def getV : V → List ByteArray → Option V
  | v, [] => some v
  | v, k :: ks => if h : 0 ≤ placeV v k ∧ (placeV v k).toNat < v.fields.length then getV (v.fields[(placeV v k).toNat]'h.2).2 ks else none
def getR (v : V) (ks : List ByteArray) : V × Bool := match getV v ks with | some u => (u, true) | none => (nilV, false)

set_option maxRecDepth 100000 in
set_option maxHeartbeats 2000000 in
theorem Get_any (v : V) (hok : smallC v = true) (ks : List ByteArray) (hks : ks.length ≤ 100) (bk kc : Nat) (S : Nat → Prop) (W : World) (r t : Sl) (hS : ∀ g, S g → g < W.heap.size) (hh : HV S W v r t)
    (hbk : bk < W.heap.size) (hkc : ∀ j (h : j < ks.length), W.cell? ⟨bk, j, none⟩ = some (.string ks[j])) :
    Calls Tryd.prog 21 #[.agg #[.int .i64 v.kind, .int .i64 v.int, .string v.text, .slice r.a r.n r.c, .slice t.a t.n t.c], .slice (some ⟨bk, 0, none⟩) ks.length kc] W
      fun e w' => ∃ p q : Sl, e = .returned (.tuple #[.agg #[.int .i64 (getR v ks).1.kind, .int .i64 (getR v ks).1.int, .string (getR v ks).1.text, .slice p.a p.n p.c, .slice q.a q.n q.c], .bool (getR v ks).2]) ∧
        HV (fun g => S g ∨ W.heap.size ≤ g) w' (getR v ks).1 p q ∧ Below W.heap.size W w' := by
  have hb2 : ∀ o1 o2, Below W.heap.size W ((W.alloc o1).alloc o2) := fun o1 o2 => ((Below.refl _ _).alloc (Nat.le_refl _) o1).alloc (by rw [size_alloc]; omega) o2
  have hn2 : ∀ o1 o2, ((W.alloc o1).alloc o2).heap[W.heap.size]? = some o1 ∧ ((W.alloc o1).alloc o2).heap[W.heap.size + 1]? = some o2 := fun o1 o2 =>
    ⟨by rw [block_old (by rw [size_alloc]; omega)]; exact block_new W o1, by have := block_new (W.alloc o1) o2; rwa [size_alloc] at this⟩
  have Hb := Lib.hid (And.intro hb2 (And.intro hn2 (And.intro hS (And.intro hh (And.intro hbk (And.intro hkc hok))))))
  clear hb2 hn2 hS hh hkc hok
  go_enter Tryd.func21, Tryd.ntmps21
  go_wp2
  go_loopg [7, 8, 11] ks.length (fun gg _ _ s11 wr => ∃ (i : Nat) (u : V) (p q : Sl), i ≤ ks.length ∧ ks.length - i ≤ gg ∧ s11 = .int .i64 i ∧
    Hid (wr.heap[W.heap.size]? = some (.cells #[.int .i64 u.kind, .int .i64 u.int, .string u.text, .slice p.a p.n p.c, .slice q.a q.n q.c] 27 (0, 0)) ∧
      wr.heap[W.heap.size + 1]? = some (.cells #[.int .i64 0, .int .i64 0, .string ⟨#[]⟩, .slice none 0 0, .slice none 0 0] 27 (0, 0)) ∧
      HV S wr u p q ∧ Below W.heap.size W wr ∧ getV u (ks.drop i) = getV v ks ∧ smallC u = true))
  case atStart =>
    exact ⟨0, v, r, t, Nat.zero_le _, by omega, rfl, (Hb.out.2.1 _ _).1, (Hb.out.2.1 _ _).2, Hb.out.2.2.2.1.later (Hb.out.1 _ _), Hb.out.1 _ _, rfl, Hb.out.2.2.2.2.2.2⟩
  case round =>
    obtain ⟨i, u, p, q, hil, hgg, rfl, H⟩ := hrel
    obtain ⟨e0, e1, hu, hb, hget, hsm⟩ := H.out
    have c0 : wr.cell? ⟨W.heap.size, 0, none⟩ = some (.int .i64 u.kind) := by rw [blk_cell e0]; rfl
    have c1 : wr.cell? ⟨W.heap.size, 1, none⟩ = some (.int .i64 u.int) := by rw [blk_cell e0]; rfl
    have c2 : wr.cell? ⟨W.heap.size, 2, none⟩ = some (.string u.text) := by rw [blk_cell e0]; rfl
    have c3 : wr.cell? ⟨W.heap.size, 3, none⟩ = some (.slice p.a p.n p.c) := by rw [blk_cell e0]; rfl
    have c4 : wr.cell? ⟨W.heap.size, 4, none⟩ = some (.slice q.a q.n q.c) := by rw [blk_cell e0]; rfl
    have l0 := (Array.getElem?_eq_some_iff.1 e0).1
    have l1 := (Array.getElem?_eq_some_iff.1 e1).1
    by_cases hlt : i < ks.length
    · have hltz : (i : Int) < (ks.length : Int) := by omega
      have ck : wr.cell? ⟨bk, i, none⟩ = some (.string ks[i]) := (hb.cell (by exact hbk)).trans (Hb.out.2.2.2.2.2.1 i hlt)
      have hdr : ks.drop i = ks[i] :: ks.drop (i + 1) := List.drop_eq_getElem_cons hlt
      have hpl := place_any u ks[i] S wr p q (fun g hg => Nat.lt_of_lt_of_le (Hb.out.2.2.1 g hg) hb.size) hu
      rw [hdr] at hget
      generalize ks[i] = key at ck hget hpl hdr
      have hn := hu.2.len
      rcases place_range u key with hp | ⟨k, hk, hp⟩
      · have hnone : getV v ks = none := by rw [← hget]; unfold getV; rw [dif_neg (by rw [hp]; omega)]
        have H2 := Lib.hid (show getR v ks = (nilV, false) by unfold getR; rw [hnone])
        rw [hp] at hpl
        clear hget hnone hp hsm hu hdr e0 e1 hb hn
        go_wp2_with (go_at_call 48; refine hpl.mono ?_; rintro e w7 ⟨rfl, hb7⟩; have q6 := (hb7.block (W.heap.size + 1) l1).trans H.out.2.1; have r0 : w7.cell? ⟨W.heap.size + 1, 0, none⟩ = some (.int .i64 0) := (by rw [blk_cell q6]; rfl); have r1 : w7.cell? ⟨W.heap.size + 1, 1, none⟩ = some (.int .i64 0) := (by rw [blk_cell q6]; rfl); have r2 : w7.cell? ⟨W.heap.size + 1, 2, none⟩ = some (.string ⟨#[]⟩) := (by rw [blk_cell q6]; rfl); have r3 : w7.cell? ⟨W.heap.size + 1, 3, none⟩ = some (.slice none 0 0) := (by rw [blk_cell q6]; rfl); have r4 : w7.cell? ⟨W.heap.size + 1, 4, none⟩ = some (.slice none 0 0) := (by rw [blk_cell q6]; rfl); have f0 := blk_frozen q6 0; have f1 := blk_frozen q6 1; have f2 := blk_frozen q6 2; have f3 := blk_frozen q6 3; have f4 := blk_frozen q6 4; have H7 := Lib.hid (And.intro q6 hb7); clear q6 hb7)
        refine bodyPost_ret (results_pair rfl _ _ (W.heap.size + 1) 27 _ (0, 0) _ rfl (set5 _ _ _ _ _ H7.out.1) Tryd.underlying27 rfl size_V) rfl ?_
        rw [H2.out]
        refine ⟨⟨none, 0, 0⟩, ⟨none, 0, 0⟩, rfl, nilV_lies _ _, ?_⟩
        have hbb := H.out.2.2.2.1.trans (H7.out.2.mono H.out.2.2.2.1.size)
        exact ((((hbb.setCell (p := ⟨W.heap.size + 1, 0, none⟩) (Nat.le_succ _) _).setCell (p := ⟨W.heap.size + 1, 1, none⟩) (Nat.le_succ _) _).setCell (p := ⟨W.heap.size + 1, 2, none⟩) (Nat.le_succ _) _).setCell (p := ⟨W.heap.size + 1, 3, none⟩) (Nat.le_succ _) _).setCell (p := ⟨W.heap.size + 1, 4, none⟩) (Nat.le_succ _) _
      · obtain ⟨g2, r', t', hqa, hg2, hS2, hc, hhx⟩ := hu.2.at hk
        have hget2 : getV u.fields[k].2 (ks.drop (i + 1)) = getV v ks := by
          rw [← hget]
          conv => rhs; unfold getV
          rw [dif_pos (by rw [hp]; exact ⟨by omega, by simpa using hk⟩)]
          simp only [hp, Int.toNat_natCast]
        have hsm2 := ((smallC_eq u).1 hsm).2.2.2 _ (List.getElem_mem hk)
        rw [hp] at hpl
        obtain ⟨qa, qn, qc⟩ := q
        simp only at hqa hn
        subst hqa hn
        have hg2w := Hb.out.2.2.1 g2 hS2
        have hkz : (k : Int) < (u.fields.length : Int) := by omega
        have hkz0 : ¬ (k : Int) < 0 := by omega
        generalize u.fields[k] = f at hc hhx hget2 hsm2
        have H2 := Lib.hid (And.intro hget2 (And.intro hsm2 hhx))
        have Hc := Lib.hid hc
        clear hget hp hsm hu hdr e1 hb hget2 hsm2 hhx hc
        go_wp2_with (go_at_call 48; refine hpl.mono ?_; rintro e w7 ⟨rfl, hb7⟩; have q5 := (hb7.block W.heap.size l0).trans H.out.1; have d0 : w7.cell? ⟨W.heap.size, 0, none⟩ = some (.int .i64 u.kind) := (by rw [blk_cell q5]; rfl); have d1 : w7.cell? ⟨W.heap.size, 1, none⟩ = some (.int .i64 u.int) := (by rw [blk_cell q5]; rfl); have d2 : w7.cell? ⟨W.heap.size, 2, none⟩ = some (.string u.text) := (by rw [blk_cell q5]; rfl); have d3 : w7.cell? ⟨W.heap.size, 3, none⟩ = some (.slice p.a p.n p.c) := (by rw [blk_cell q5]; rfl); have d4 : w7.cell? ⟨W.heap.size, 4, none⟩ = some (.slice (some ⟨g2, 0, none⟩) u.fields.length qc) := (by rw [blk_cell q5]; rfl); have f0 := blk_frozen q5 0; have f1 := blk_frozen q5 1; have f2 := blk_frozen q5 2; have f3 := blk_frozen q5 3; have f4 := blk_frozen q5 4; have y1 : w7.cell? ⟨g2, k * 6 + 1, none⟩ = some (.int .i64 f.2.kind) := (hb7.cell (by show g2 < _; omega)).trans (Hc.out 1 _ rfl); have y2 : w7.cell? ⟨g2, k * 6 + 2, none⟩ = some (.int .i64 f.2.int) := (hb7.cell (by show g2 < _; omega)).trans (Hc.out 2 _ rfl); have y3 : w7.cell? ⟨g2, k * 6 + 3, none⟩ = some (.string f.2.text) := (hb7.cell (by show g2 < _; omega)).trans (Hc.out 3 _ rfl); have y4 : w7.cell? ⟨g2, k * 6 + 4, none⟩ = some (.slice r'.a r'.n r'.c) := (hb7.cell (by show g2 < _; omega)).trans (Hc.out 4 _ rfl); have y5 : w7.cell? ⟨g2, k * 6 + 5, none⟩ = some (.slice t'.a t'.n t'.c) := (hb7.cell (by show g2 < _; omega)).trans (Hc.out 5 _ rfl); have H7 := Lib.hid (And.intro q5 hb7); clear q5 hb7)
        go_roundg (ks.length - (i + 1))
        case measure => omega
        case rel =>
          have hbb := H.out.2.2.2.1.trans (H7.out.2.mono H.out.2.2.2.1.size)
          refine ⟨i + 1, f.2, r', t', by omega, by omega, by go_num, set5 _ _ _ _ _ H7.out.1, ?_, ?_, ?_, H2.out.1, H2.out.2.1⟩
          · exact (far5 (by omega)).trans ((H7.out.2.block _ l1).trans H.out.2.1)
          · exact H2.out.2.2.map (fun k hk hl => ⟨hk, (far5 (by have := Hb.out.2.2.1 k hk; omega)).trans (H7.out.2.block k hl)⟩)
          · exact ((((hbb.setCell (p := ⟨W.heap.size, 0, none⟩) (Nat.le_refl _) _).setCell (p := ⟨W.heap.size, 1, none⟩) (Nat.le_refl _) _).setCell (p := ⟨W.heap.size, 2, none⟩) (Nat.le_refl _) _).setCell (p := ⟨W.heap.size, 3, none⟩) (Nat.le_refl _) _).setCell (p := ⟨W.heap.size, 4, none⟩) (Nat.le_refl _) _
    · obtain rfl : i = ks.length := by omega
      rw [List.drop_length] at hget
      have H2 := Lib.hid (show getR v ks = (u, true) by unfold getR; rw [← hget]; rfl)
      have hcp := copied_any u hsm S wr p q (fun g hg => Nat.lt_of_lt_of_le (Hb.out.2.2.1 g hg) hb.size) hu
      clear hget hsm hu e0 e1 hb
      go_wp2_with (go_at_call 49; refine hcp.mono ?_; rintro e w7 ⟨p1, q1, rfl, hB7, hb7⟩; have q6 := (hb7.block (W.heap.size + 1) l1).trans H.out.2.1; have r0 : w7.cell? ⟨W.heap.size + 1, 0, none⟩ = some (.int .i64 0) := (by rw [blk_cell q6]; rfl); have r1 : w7.cell? ⟨W.heap.size + 1, 1, none⟩ = some (.int .i64 0) := (by rw [blk_cell q6]; rfl); have r2 : w7.cell? ⟨W.heap.size + 1, 2, none⟩ = some (.string ⟨#[]⟩) := (by rw [blk_cell q6]; rfl); have r3 : w7.cell? ⟨W.heap.size + 1, 3, none⟩ = some (.slice none 0 0) := (by rw [blk_cell q6]; rfl); have r4 : w7.cell? ⟨W.heap.size + 1, 4, none⟩ = some (.slice none 0 0) := (by rw [blk_cell q6]; rfl); have f0 := blk_frozen q6 0; have f1 := blk_frozen q6 1; have f2 := blk_frozen q6 2; have f3 := blk_frozen q6 3; have f4 := blk_frozen q6 4; have H7 := Lib.hid (And.intro q6 (And.intro hB7 hb7)); clear q6 hB7 hb7)
      refine bodyPost_ret (results_pair rfl _ _ (W.heap.size + 1) 27 _ (0, 0) _ rfl (set5 _ _ _ _ _ H7.out.1) Tryd.underlying27 rfl size_V) rfl ?_
      rw [H2.out]
      have hbb := H.out.2.2.2.1.trans (H7.out.2.2.mono H.out.2.2.2.1.size)
      have hsz := H.out.2.2.2.1.size
      refine ⟨p1, q1, rfl, (H7.out.2.1.hv).map (fun k hk hl => ⟨by rcases hk with hk | hk; exact .inl hk; exact .inr (by omega), far5 ?_⟩), ?_⟩
      · rcases hk with hk | hk
        · have := Hb.out.2.2.1 k hk; omega
        · omega
      · exact ((((hbb.setCell (p := ⟨W.heap.size + 1, 0, none⟩) (Nat.le_succ _) _).setCell (p := ⟨W.heap.size + 1, 1, none⟩) (Nat.le_succ _) _).setCell (p := ⟨W.heap.size + 1, 2, none⟩) (Nat.le_succ _) _).setCell (p := ⟨W.heap.size + 1, 3, none⟩) (Nat.le_succ _) _).setCell (p := ⟨W.heap.size + 1, 4, none⟩) (Nat.le_succ _) _
end Go.Proofs.YteocenjneoclbaaDoor.tre

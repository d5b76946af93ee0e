/- Layer 4: rebuild and copied. -/
import Derived.Test.YtkecimhohmkkkaaDoorTreBuild
namespace Go.Proofs.YtkecimhohmkkkaaDoor.tre
open Go.RowKit Go.Shelf

theorem Built.map {S : Nat → Prop} {B B' : Nat} {w w' : World} {v : V} {p q : Sl} (h : Built S B w v p q) (hB : B' ≤ B) (hk : ∀ k, (S k ∨ B ≤ k) → k < w.heap.size → w'.heap[k]? = w.heap[k]?) : Built S B' w' v p q := by
  obtain ⟨h1, xss, h2, h3⟩ := h
  have hs : ∀ k, (S k ∨ B ≤ k) → (S k ∨ B' ≤ k) := fun k hk => by rcases hk with hk | hk; exact .inl hk; exact .inr (by omega)
  refine ⟨h1.map (fun k hq hl => ⟨⟨hs k hq.1, hq.2⟩, hk k hq.1 hl⟩), xss, h2.map (fun k hq hl => ⟨Nat.le_trans hB hq, hk k (.inr hq) hl⟩), fun i x y hx hy => ?_⟩
  obtain ⟨ys, e, hl⟩ := h3 i x y hx hy
  exact ⟨ys, e, Lies.map (fun k hq hl => ⟨⟨hs k hq.1, hq.2⟩, hk k hq.1 hl⟩) _ _ hl⟩

theorem block_new4 (W : World) (o1 o2 o3 o4 : Obj) : ((((W.alloc o1).alloc o2).alloc o3).alloc o4).heap[W.heap.size + 1]? = some o2 ∧ ((((W.alloc o1).alloc o2).alloc o3).alloc o4).heap[W.heap.size + 2]? = some o3 ∧ ((((W.alloc o1).alloc o2).alloc o3).alloc o4).heap[W.heap.size + 3]? = some o4 ∧ ((((W.alloc o1).alloc o2).alloc o3).alloc o4).heap.size = W.heap.size + 4 := by
  have h1 := block_new (W.alloc o1) o2
  have h2 := block_new ((W.alloc o1).alloc o2) o3
  have h3 := block_new (((W.alloc o1).alloc o2).alloc o3) o4
  simp only [size_alloc] at h1 h2 h3
  refine ⟨?_, ?_, h3, by simp only [size_alloc]⟩
  · rw [block_old (by simp only [size_alloc]; omega), block_old (by simp only [size_alloc]; omega)]; exact h1
  · rw [block_old (by simp only [size_alloc]; omega)]; exact h2

set_option maxRecDepth 100000 in
set_option maxHeartbeats 1000000 in
theorem rebuild_any {okl : List (ByteArray × V) → Prop} {g : FuncId} {lb : Array Value} {arr : List (ByteArray × V) → List (ByteArray × V)} (hg : Arr okl g lb arr) (okv : V → Prop)
    (her : ∀ v, okv v → (∀ x ∈ v.list, okv x) ∧ (∀ g ∈ v.fields, okv g.2) ∧ v.list.length ≤ 100000 ∧ v.fields.length ≤ 100000 ∧ okl (v.fields.map fun g => (g.1, rebV arr g.2))) (v : V) (hok : okv v)
    (S : Nat → Prop) (W : World) (r t : Sl) (hS : ∀ g, S g → g < W.heap.size) (hh : HV S W v r t) :
    Calls Tryd.prog 45 #[.agg #[.int .i64 v.kind, .int .i64 v.int, .string v.text, .slice r.a r.n r.c, .slice t.a t.n t.c], .func (.func g) #[] lb] W
      fun e w' => ∃ p q : Sl, e = .returned (.agg #[.int .i64 v.kind, .int .i64 v.int, .string v.text, .slice p.a p.n p.c, .slice q.a q.n q.c]) ∧ Built S W.heap.size w' (rebV arr v) p q ∧ Below W.heap.size W w' := by
  have eg : ∀ args w, (callFunc 70 args).run Tryd.prog w = .ok (.enter 70 args) w := enters_of Tryd.func70 (by kernel_rfl) rfl
  have hb4 : ∀ o1 o2 o3 o4, Below W.heap.size W ((((W.alloc o1).alloc o2).alloc o3).alloc o4) := fun o1 o2 o3 o4 =>
    ((((Below.refl _ _).alloc (Nat.le_refl _) o1).alloc (by simp only [size_alloc]; omega) o2).alloc (by simp only [size_alloc]; omega) o3).alloc (by simp only [size_alloc]; omega) o4
  have hcall := fun o1 o3 T1 T2 => build_any hg (W.heap.size + 1 + 1 + 1) (W.heap.size + 1) T1 T2 okv her v hok S ((((W.alloc o1).alloc (.cells #[.func (.func g) #[] lb] T2)).alloc o3).alloc (.cells #[.func (.func 70) #[] #[.pointer (some ⟨W.heap.size + 1 + 1 + 1, 0, none⟩), .pointer (some ⟨W.heap.size + 1, 0, none⟩)]] T1)) r t
    (fun g hg => Nat.lt_of_lt_of_le (hS g hg) (hb4 _ _ _ _).size) (hh.later (hb4 _ _ _ _)) (has_cons.2 ⟨(block_new4 W _ _ _ _).2.2.1, has_cons.2 ⟨(block_new4 W _ _ _ _).1, fun _ h => by simp at h⟩⟩)
  have Hb := Lib.hid (And.intro hb4 hS)
  clear hb4 hS hh hok her hg
  have rs := fun (a : Addr) (w : World) (m : Mode) => run_store (P := Tryd.prog) w a (.func (.func 70) #[] #[.pointer (some ⟨W.heap.size + 1 + 1 + 1, 0, none⟩), .pointer (some ⟨W.heap.size + 1, 0, none⟩)]) m rfl
  go_enter Tryd.func45, Tryd.ntmps45
  go_wp2_with (go_at_call 70; refine (hcall _ _ _ _).mono ?_; rintro e w7 ⟨p, q, rfl, hB, hb7⟩; have q6 := (hb7.block (W.heap.size + 2) (by rw [(block_new4 W _ _ _ _).2.2.2]; omega)).trans (block_new4 W _ _ _ _).2.1; have r0 : w7.cell? ⟨W.heap.size + 1 + 1, 0, none⟩ = some (.int .i64 0) := (by rw [show W.heap.size + 1 + 1 = W.heap.size + 2 from rfl, blk_cell q6]; rfl); have r1 : w7.cell? ⟨W.heap.size + 1 + 1, 1, none⟩ = some (.int .i64 0) := (by rw [show W.heap.size + 1 + 1 = W.heap.size + 2 from rfl, blk_cell q6]; rfl); have r2 : w7.cell? ⟨W.heap.size + 1 + 1, 2, none⟩ = some (.string ⟨#[]⟩) := (by rw [show W.heap.size + 1 + 1 = W.heap.size + 2 from rfl, blk_cell q6]; rfl); have r3 : w7.cell? ⟨W.heap.size + 1 + 1, 3, none⟩ = some (.slice none 0 0) := (by rw [show W.heap.size + 1 + 1 = W.heap.size + 2 from rfl, blk_cell q6]; rfl); have r4 : w7.cell? ⟨W.heap.size + 1 + 1, 4, none⟩ = some (.slice none 0 0) := (by rw [show W.heap.size + 1 + 1 = W.heap.size + 2 from rfl, blk_cell q6]; rfl); have f0 := blk_frozen q6 0; have f1 := blk_frozen q6 1; have f2 := blk_frozen q6 2; have f3 := blk_frozen q6 3; have f4 := blk_frozen q6 4; have H7 := Lib.hid (And.intro q6 (And.intro hB hb7)); clear q6 hB hb7)
  refine bodyPost_ret (results_cell_row rfl _ _ (W.heap.size + 2) 28 _ (0, 0) _ rfl (set5 _ _ _ _ _ H7.out.1) Tryd.underlying28 rfl size_V) rfl ?_
  refine ⟨p, q, rfl, H7.out.2.1.map (by rw [(block_new4 W _ _ _ _).2.2.2]; omega) (fun k hk _ => far5 ?_), ?_⟩
  · rw [(block_new4 W _ _ _ _).2.2.2] at hk
    rcases hk with hk | hk
    · have := Hb.out.2 k hk; omega
    · omega
  · have hb := (Hb.out.1 _ _ _ _).trans (H7.out.2.2.mono (by rw [(block_new4 W _ _ _ _).2.2.2]; omega))
    exact ((((hb.setCell (p := ⟨W.heap.size + 2, 0, none⟩) (by show W.heap.size ≤ W.heap.size + 2; omega) _).setCell (p := ⟨W.heap.size + 2, 1, none⟩) (by show W.heap.size ≤ W.heap.size + 2; omega) _).setCell (p := ⟨W.heap.size + 2, 2, none⟩) (by show W.heap.size ≤ W.heap.size + 2; omega) _).setCell (p := ⟨W.heap.size + 2, 3, none⟩) (by show W.heap.size ≤ W.heap.size + 2; omega) _).setCell (p := ⟨W.heap.size + 2, 4, none⟩) (by show W.heap.size ≤ W.heap.size + 2; omega) _

theorem arr_id : Arr (fun _ => True) 80 #[] id := by
  refine ⟨enters_of Tryd.func80 (by kernel_rfl) rfl, fun Z S w q _ _ _ hrow => ?_⟩
  go_enter Tryd.func80, Tryd.ntmps80
  go_wp2
  go_end0
  exact ⟨rfl, ⟨Z, List.Perm.refl _, rfl, hrow⟩, Keeps.of_below (Below.refl _ _)⟩
theorem rebV_id : ∀ v, rebV id v = v := V.ind fun v ihl ihf => by
  rw [rebV_eq]
  have h1 : v.list.map (rebV id) = v.list := by
    conv => rhs; rw [← List.map_id v.list]
    exact List.map_congr_left ihl
  have h2 : (v.fields.map fun g => (g.1, rebV id g.2)) = v.fields := by
    conv => rhs; rw [← List.map_id v.fields]
    exact List.map_congr_left (fun g hg => by show (g.1, rebV id g.2) = g; rw [ihf g hg])
  rw [h1, h2]
  exact V.eta v
/-- No list in a value is greater than that. -/
def smallC : V → Bool := V.fold fun v a b => decide (v.list.length ≤ 100000) && decide (v.fields.length ≤ 100000) && a.all id && b.all fun g => g.2
theorem smallC_eq (v : V) : smallC v = true ↔ v.list.length ≤ 100000 ∧ v.fields.length ≤ 100000 ∧ (∀ x ∈ v.list, smallC x = true) ∧ ∀ g ∈ v.fields, smallC g.2 = true := by
  unfold smallC; rw [V.fold_eq]; simp [and_assoc]
theorem copied_any (v : V) (hok : smallC v = true) (S : Nat → Prop) (W : World) (r t : Sl) (hS : ∀ g, S g → g < W.heap.size) (hh : HV S W v r t) :
    Calls Tryd.prog 56 #[.agg #[.int .i64 v.kind, .int .i64 v.int, .string v.text, .slice r.a r.n r.c, .slice t.a t.n t.c]] W
      fun e w' => ∃ p q : Sl, e = .returned (.agg #[.int .i64 v.kind, .int .i64 v.int, .string v.text, .slice p.a p.n p.c, .slice q.a q.n q.c]) ∧ Built S W.heap.size w' v p q ∧ Below W.heap.size W w' := by
  have hb2 : ∀ o1 o2, Below W.heap.size W ((W.alloc o1).alloc o2) := fun o1 o2 => ((Below.refl _ _).alloc (Nat.le_refl _) o1).alloc (by rw [size_alloc]; omega) o2
  have hcall := fun o1 o2 => rebuild_any arr_id (fun v => smallC v = true) (fun v h => ⟨((smallC_eq v).1 h).2.2.1, ((smallC_eq v).1 h).2.2.2, ((smallC_eq v).1 h).1, ((smallC_eq v).1 h).2.1, trivial⟩) v hok S ((W.alloc o1).alloc o2) r t (fun g hg => Nat.lt_of_lt_of_le (hS g hg) (hb2 _ _).size) (hh.later (hb2 _ _))
  rw [rebV_id v] at hcall
  have Hb := Lib.hid (And.intro hb2 hS)
  have Hn := Lib.hid (fun o1 o2 => (show ((W.alloc o1).alloc o2).heap[W.heap.size + 1]? = some o2 by have := block_new (W.alloc o1) o2; rwa [size_alloc] at this))
  clear hb2 hS hh hok
  go_enter Tryd.func56, Tryd.ntmps56
  go_wp2_with (go_at_call 45; refine (hcall _ _).mono ?_; rintro e w7 ⟨p, q, rfl, hB, hb7⟩; have q6 := (hb7.block (W.heap.size + 1) (by rw [size_alloc, size_alloc]; omega)).trans (Hn.out _ _); have r0 : w7.cell? ⟨W.heap.size + 1, 0, none⟩ = some (.int .i64 0) := (by rw [blk_cell q6]; rfl); have r1 : w7.cell? ⟨W.heap.size + 1, 1, none⟩ = some (.int .i64 0) := (by rw [blk_cell q6]; rfl); have r2 : w7.cell? ⟨W.heap.size + 1, 2, none⟩ = some (.string ⟨#[]⟩) := (by rw [blk_cell q6]; rfl); have r3 : w7.cell? ⟨W.heap.size + 1, 3, none⟩ = some (.slice none 0 0) := (by rw [blk_cell q6]; rfl); have r4 : w7.cell? ⟨W.heap.size + 1, 4, none⟩ = some (.slice none 0 0) := (by rw [blk_cell q6]; rfl); have f0 := blk_frozen q6 0; have f1 := blk_frozen q6 1; have f2 := blk_frozen q6 2; have f3 := blk_frozen q6 3; have f4 := blk_frozen q6 4; have H7 := Lib.hid (And.intro q6 (And.intro hB hb7)); clear q6 hB hb7)
  refine bodyPost_ret (results_cell_row rfl _ _ (W.heap.size + 1) 28 _ (0, 0) _ rfl (set5 _ _ _ _ _ H7.out.1) Tryd.underlying28 rfl size_V) rfl ?_
  refine ⟨p, q, rfl, H7.out.2.1.map (by rw [size_alloc, size_alloc]; omega) (fun k hk _ => far5 ?_), ?_⟩
  · rw [size_alloc, size_alloc] at hk
    rcases hk with hk | hk
    · have := Hb.out.2 k hk; omega
    · omega
  · have hb := (Hb.out.1 _ _).trans (H7.out.2.2.mono (by rw [size_alloc, size_alloc]; omega))
    exact ((((hb.setCell (p := ⟨W.heap.size + 1, 0, none⟩) (Nat.le_succ _) _).setCell (p := ⟨W.heap.size + 1, 1, none⟩) (Nat.le_succ _) _).setCell (p := ⟨W.heap.size + 1, 2, none⟩) (Nat.le_succ _) _).setCell (p := ⟨W.heap.size + 1, 3, none⟩) (Nat.le_succ _) _).setCell (p := ⟨W.heap.size + 1, 4, none⟩) (Nat.le_succ _) _
end Go.Proofs.YtkecimhohmkkkaaDoor.tre

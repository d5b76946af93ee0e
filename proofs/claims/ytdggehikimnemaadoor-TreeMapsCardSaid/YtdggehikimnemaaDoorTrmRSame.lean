/- Layer 4: the document's Same. -/
import Derived.BigRegion
import Derived.Deep.RegionLaw
import Derived.Test.YtdggehikimnemaaDoorTrmEq
import Derived.Test.YtdggehikimnemaaDoorTrmRCanon
namespace Go.Proofs.YtdggehikimnemaaDoor.tre
open Go.RowKit Go.Shelf

theorem two_new {W w : World} {o1 o2 : Obj} (hb : Below ((W.alloc o1).alloc o2).heap.size ((W.alloc o1).alloc o2) w) : w.heap[W.heap.size]? = some o1 ∧ w.heap[W.heap.size + 1]? = some o2 := by
  have h1 := block_new W o1
  have h2 := block_new (W.alloc o1) o2
  simp only [size_alloc] at h2
  refine ⟨(hb.block _ ?_).trans ((block_old ?_).trans h1), (hb.block _ ?_).trans h2⟩ <;> simp only [size_alloc] <;> omega

set_option maxRecDepth 100000 in
set_option maxHeartbeats 4000000 in
theorem rSame_any (a b : V) (hoa : okC a) (hob : okC b) (S : Nat → Prop) (W : World) (r t r2 t2 : Sl) (hS : ∀ g, S g → g < W.heap.size) (hha : HV S W a r t) (hhb : HV S W b r2 t2) :
    Calls Tryd.prog 37 #[.agg #[.int .i64 a.kind, .int .i64 a.int, .string a.text, .slice r.a r.n r.c, .slice t.a t.n t.c], .agg #[.int .i64 b.kind, .int .i64 b.int, .string b.text, .slice r2.a r2.n r2.c, .slice t2.a t2.n t2.c]] W
      fun e w' => (∃ z : Bool, e = .returned (.bool z) ∧ (z = true ↔ canonV a = canonV b)) ∧ Below W.heap.size W w' := by
  have hcA := fun W1 (hb : Below W.heap.size W W1) => rCanon_any a hoa S W1 r t (fun g hg => Nat.lt_of_lt_of_le (hS g hg) hb.size) (hha.later hb)
  have hcB := fun W1 (hb : Below W.heap.size W W1) => rCanon_any b hob S W1 r2 t2 (fun g hg => Nat.lt_of_lt_of_le (hS g hg) hb.size) (hhb.later hb)
  have hcx : (canonV a).kind = a.kind ∧ (canonV a).int = a.int ∧ (canonV a).text = a.text := by rw [canonV_eq]; exact ⟨rfl, rfl, rfl⟩
  have hcy : (canonV b).kind = b.kind ∧ (canonV b).int = b.int ∧ (canonV b).text = b.text := by rw [canonV_eq]; exact ⟨rfl, rfl, rfl⟩
  have hb4 : ∀ o1 o2, Below W.heap.size W ((W.alloc o1).alloc o2).drew := fun o1 o2 => (((Below.refl _ _).alloc (Nat.le_refl _) o1).alloc (by rw [size_alloc]; omega) o2).drew
  have Hc := Lib.hid (And.intro hcx (And.intro hcy hb4))
  clear hcx hcy hb4 hha hhb hS
  go_enter Tryd.func37, Tryd.ntmps37
  go_wp2_with fail
  go_region_law ((go_simp; go_wp2_with (first
    | (go_at_call 19; (with_reducible show Calls Tryd.prog 19 #[.agg #[.int .i64 a.kind, .int .i64 a.int, .string a.text, .slice r.a r.n r.c, .slice t.a t.n t.c]] (World.drew _) _); refine (hcA _ (Hc.out.2.2 _ _)).mono ?_; rintro e w5 ⟨pa, qa, rfl, hB5, hb5⟩; have hb05 := (Hc.out.2.2 _ _).trans (hb5.mono (Hc.out.2.2 _ _).size); obtain ⟨e1, e2⟩ := two_new ((Below.refl _ _).drew.trans hb5); have k0 : w5.cell? ⟨W.heap.size, 0, none⟩ = some (.int .i64 a.kind) := (by rw [blk_cell e1]; rfl); have k1 : w5.cell? ⟨W.heap.size, 1, none⟩ = some (.int .i64 a.int) := (by rw [blk_cell e1]; rfl); have k2 : w5.cell? ⟨W.heap.size, 2, none⟩ = some (.string a.text) := (by rw [blk_cell e1]; rfl); have k3 : w5.cell? ⟨W.heap.size, 3, none⟩ = some (.slice r.a r.n r.c) := (by rw [blk_cell e1]; rfl); have k4 : w5.cell? ⟨W.heap.size, 4, none⟩ = some (.slice t.a t.n t.c) := (by rw [blk_cell e1]; rfl); have j0 : w5.cell? ⟨W.heap.size + 1, 0, none⟩ = some (.int .i64 b.kind) := (by rw [blk_cell e2]; rfl); have j1 : w5.cell? ⟨W.heap.size + 1, 1, none⟩ = some (.int .i64 b.int) := (by rw [blk_cell e2]; rfl); have j2 : w5.cell? ⟨W.heap.size + 1, 2, none⟩ = some (.string b.text) := (by rw [blk_cell e2]; rfl); have j3 : w5.cell? ⟨W.heap.size + 1, 3, none⟩ = some (.slice r2.a r2.n r2.c) := (by rw [blk_cell e2]; rfl); have j4 : w5.cell? ⟨W.heap.size + 1, 4, none⟩ = some (.slice t2.a t2.n t2.c) := (by rw [blk_cell e2]; rfl); have H5 := Lib.hid (And.intro hB5 hb05); clear hB5 hb5 hb05 e1 e2)
    | (go_at_call 19; (with_reducible show Calls Tryd.prog 19 #[.agg #[.int .i64 b.kind, .int .i64 b.int, .string b.text, .slice r2.a r2.n r2.c, .slice t2.a t2.n t2.c]] (World.drew _) _); refine (hcB _ (Hc.out.2.2 _ _)).mono ?_; rintro e w5 ⟨pb, qb, rfl, hB5, hb5⟩; have hb05 := (Hc.out.2.2 _ _).trans (hb5.mono (Hc.out.2.2 _ _).size); obtain ⟨e1, e2⟩ := two_new ((Below.refl _ _).drew.trans hb5); have k0 : w5.cell? ⟨W.heap.size, 0, none⟩ = some (.int .i64 a.kind) := (by rw [blk_cell e1]; rfl); have k1 : w5.cell? ⟨W.heap.size, 1, none⟩ = some (.int .i64 a.int) := (by rw [blk_cell e1]; rfl); have k2 : w5.cell? ⟨W.heap.size, 2, none⟩ = some (.string a.text) := (by rw [blk_cell e1]; rfl); have k3 : w5.cell? ⟨W.heap.size, 3, none⟩ = some (.slice r.a r.n r.c) := (by rw [blk_cell e1]; rfl); have k4 : w5.cell? ⟨W.heap.size, 4, none⟩ = some (.slice t.a t.n t.c) := (by rw [blk_cell e1]; rfl); have j0 : w5.cell? ⟨W.heap.size + 1, 0, none⟩ = some (.int .i64 b.kind) := (by rw [blk_cell e2]; rfl); have j1 : w5.cell? ⟨W.heap.size + 1, 1, none⟩ = some (.int .i64 b.int) := (by rw [blk_cell e2]; rfl); have j2 : w5.cell? ⟨W.heap.size + 1, 2, none⟩ = some (.string b.text) := (by rw [blk_cell e2]; rfl); have j3 : w5.cell? ⟨W.heap.size + 1, 3, none⟩ = some (.slice r2.a r2.n r2.c) := (by rw [blk_cell e2]; rfl); have j4 : w5.cell? ⟨W.heap.size + 1, 4, none⟩ = some (.slice t2.a t2.n t2.c) := (by rw [blk_cell e2]; rfl); have H5 := Lib.hid (And.intro hB5 hb05); clear hB5 hb5 hb05 e1 e2)
    | (go_at_call 19; (with_reducible show Calls Tryd.prog 19 #[.agg #[.int .i64 a.kind, .int .i64 a.int, .string a.text, .slice r.a r.n r.c, .slice t.a t.n t.c]] w5 _); refine (hcA _ H5.out.2).mono ?_; rintro e w6 ⟨pa, qa, rfl, hB6, hb6⟩; have H6 := Lib.hid (And.intro hB6 hb6); clear hB6 hb6)
    | (go_at_call 19; (with_reducible show Calls Tryd.prog 19 #[.agg #[.int .i64 b.kind, .int .i64 b.int, .string b.text, .slice r2.a r2.n r2.c, .slice t2.a t2.n t2.c]] w5 _); refine (hcB _ H5.out.2).mono ?_; rintro e w6 ⟨pb, qb, rfl, hB6, hb6⟩; have H6 := Lib.hid (And.intro hB6 hb6); clear hB6 hb6)
    | (go_at_call 13; have hs := Equal_any (canonV a) (canonV b) (fun g => g < w6.heap.size) w6 pa qa pb qb (fun g hg => hg) (H5.out.1.map (fun k _ hl => ⟨Nat.lt_of_lt_of_le hl H6.out.2.size, H6.out.2.block k hl⟩)) (H6.out.1.map (fun k _ hl => ⟨hl, rfl⟩)); rw [Hc.out.1.1, Hc.out.1.2.1, Hc.out.1.2.2, Hc.out.2.1.1, Hc.out.2.1.2.1, Hc.out.2.1.2.2] at hs; refine hs.mono ?_; rintro e w7 ⟨⟨z, rfl, hz⟩, hb7⟩; have H7 := Lib.hid (And.intro hz hb7); clear hz hb7)
    | (go_at_call 13; have hs := Equal_any (canonV a) (canonV b) (fun g => g < w6.heap.size) w6 pa qa pb qb (fun g hg => hg) (H6.out.1.map (fun k _ hl => ⟨hl, rfl⟩)) (H5.out.1.map (fun k _ hl => ⟨Nat.lt_of_lt_of_le hl H6.out.2.size, H6.out.2.block k hl⟩)); rw [Hc.out.1.1, Hc.out.1.2.1, Hc.out.1.2.2, Hc.out.2.1.1, Hc.out.2.1.2.1, Hc.out.2.1.2.2] at hs; refine hs.mono ?_; rintro e w7 ⟨⟨z, rfl, hz⟩, hb7⟩; have H7 := Lib.hid (And.intro hz hb7); clear hz hb7))))
  all_goals
    go_wp2_with fail
    go_ret
    have hb06 := H5.out.2.trans (H6.out.2.mono H5.out.2.size)
    exact ⟨⟨z, rfl, H7.out.1⟩, hb06.trans (H7.out.2.mono hb06.size)⟩
end Go.Proofs.YtdggehikimnemaaDoor.tre

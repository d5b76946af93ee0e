/- Layer 4: the law TreeBack. -/
import Derived.Test.YtdggehikimnemaaDoorTrmSame
import Derived.Test.YtdggehikimnemaaDoorTrmShaped
namespace Go.Proofs.YtdggehikimnemaaDoor.tre
open Go.RowKit Go.Shelf

set_option maxRecDepth 100000 in
set_option maxHeartbeats 8000000 in
theorem lawBack (a : Option Addr) (c : Nat) (l : List It) {W : World} (h : ItemsIn W a l) (hT : utf.Tab W) :
    Calls Tryd.prog 6 #[.slice a l.length c] W fun e w' => e = .returned (.bool true) ∧ Below W.heap.size W w' := by
  have haw := awake_any W hT
  have hsh := fun w1 (hb : Below W.heap.size W w1) => shaped_any a c l (h.later hb)
  have H := Lib.hid (And.intro hsh hT)
  clear hsh hT h
  go_enter Tryd.func6, Tryd.ntmps6
  go_wp2_with fail
  refine haw.mono ?_
  rintro e w1 ⟨rfl, hb1⟩
  have H1 := Lib.hid hb1
  clear hb1 haw
  go_wp2_with fail
  refine (H.out.1 w1 H1.out).mono ?_
  rintro e w2 ⟨v, px, qx, rfl, hv⟩
  have hb02 := H1.out.trans (hv.out.2.2.2.mono H1.out.size)
  obtain ⟨hd12, hc2k, hshape⟩ := check_parts hv.out.1
  have hck : checkW v = true := (checkW_eq v (by omega)).trans hv.out.1
  have hok := ok_of_check hv.out.1
  have hrow := makeR_row v hv.out.1
  have hlen := rowV_len v 0 ⟨#[]⟩
  have hit : ∀ y ∈ rowV v 0 ⟨#[]⟩, y.key.size ≤ 1000 ∧ y.text.size ≤ 1000 := row_small v 0 ⟨#[]⟩ (by decide) hv.out.2.1
  have H2 := Lib.hid (And.intro hb02 (And.intro hv.out.2.2.1 (And.intro hok (And.intro hit (And.intro hv.out.2.1 (And.intro hrow hd12))))))
  have hcc := fun (w3 : World) (S : Nat → Prop) (hS : ∀ g, S g → g < w3.heap.size) (hh : HV S w3 v px qx) (hT : utf.Tab w3) => Check_any v hv.out.2.1 (by omega) S w3 px qx hS hh hT
  rw [hck] at hcc
  have Hc := Lib.hid (And.intro hcc hlen)
  clear hv hb02 hck hok hrow hit hcc hshape hlen
  go_wp2_with fail
  refine (Hc.out.1 _ (fun g => W.heap.size ≤ g ∧ g < w2.heap.size) (fun g hg => by rw [size_alloc]; omega) (H2.out.2.1.map (fun k hk hl => ⟨⟨by have := H1.out.size; omega, hl⟩, block_old hl⟩)) (H.out.2.self (H2.out.1.alloc H2.out.1.size _))).mono ?_
  rintro e w3 ⟨rfl, hb3⟩
  have l2 : w2.heap.size < w3.heap.size := by have := hb3.size; rw [size_alloc] at this; omega
  have hb03 := (H2.out.1.alloc H2.out.1.size (.cells #[.int .i64 v.kind, .int .i64 v.int, .string v.text, .slice px.a px.n px.c, .slice qx.a qx.n qx.c] 28)).trans (hb3.mono (H2.out.1.alloc H2.out.1.size _).size)
  have m3 := (hb3.block w2.heap.size (by rw [size_alloc]; omega)).trans (block_new w2 (.cells #[.int .i64 v.kind, .int .i64 v.int, .string v.text, .slice px.a px.n px.c, .slice qx.a qx.n qx.c] 28))
  have hv3 : HV (fun g => W.heap.size ≤ g ∧ g < w3.heap.size) w3 v px qx := H2.out.2.1.map (fun k hk hl => ⟨⟨by have := H1.out.size; omega, by omega⟩, (hb3.block k (by rw [size_alloc]; omega)).trans (block_old hl)⟩)
  have v30 : w3.cell? ⟨w2.heap.size, 0, none⟩ = some (.int .i64 v.kind) := by rw [blk_cell m3]; rfl
  have v31 : w3.cell? ⟨w2.heap.size, 1, none⟩ = some (.int .i64 v.int) := by rw [blk_cell m3]; rfl
  have v32 : w3.cell? ⟨w2.heap.size, 2, none⟩ = some (.string v.text) := by rw [blk_cell m3]; rfl
  have v33 : w3.cell? ⟨w2.heap.size, 3, none⟩ = some (.slice px.a px.n px.c) := by rw [blk_cell m3]; rfl
  have v34 : w3.cell? ⟨w2.heap.size, 4, none⟩ = some (.slice qx.a qx.n qx.c) := by rw [blk_cell m3]; rfl
  have H3 := Lib.hid (And.intro hb03 (And.intro m3 hv3))
  clear hb3 hb03 m3 hv3
  go_wp2_with fail
  refine (Row_any v (by omega) (by have := H2.out.2.2.2.2.2.2; omega) (fun g => W.heap.size ≤ g ∧ g < w3.heap.size) w3 px qx (fun g hg => hg.2) H3.out.2.2).mono ?_
  rintro e w4 ⟨⟨ra, rn, rc⟩, rfl, hown, hb4⟩
  have hrn : rn = (rowV v 0 ⟨#[]⟩).length := (own_form hown).1
  simp only at hown
  have hb04 := H3.out.1.trans (hb4.mono H3.out.1.size)
  have hmk := Make_row (rowV v 0 ⟨#[]⟩) (by have := Hc.out.2; omega) H2.out.2.2.2.1 w3.heap.size ⟨ra, rn, rc⟩ w4 hown (H.out.2.self hb04)
  rw [H2.out.2.2.2.2.2.1] at hmk
  rw [Hc.out.2] at hrn
  subst hrn
  have hs4 := hb4.size
  have H4 := Lib.hid (And.intro hb4 hb04)
  clear hb4 hb04 hown v30 v31 v32 v33 v34
  go_wp2_with fail
  refine hmk.mono ?_
  rintro e w5 ⟨py, qy, rfl, hvy, hb5⟩
  have m5 := (hb5.block w2.heap.size (by omega)).trans ((H4.out.1.block w2.heap.size l2).trans H3.out.2.1)
  have hb05 := H4.out.2.trans (hb5.mono H4.out.2.size)
  have hv5 : HV (fun g => g < (w5.alloc (.cells #[.int .i64 v.kind, .int .i64 v.int, .string v.text, .slice py.a py.n py.c, .slice qy.a qy.n qy.c] 28)).heap.size) (w5.alloc (.cells #[.int .i64 v.kind, .int .i64 v.int, .string v.text, .slice py.a py.n py.c, .slice qy.a qy.n qy.c] 28)) v px qx :=
    H3.out.2.2.map (fun k hk hl => ⟨by rw [size_alloc]; have := hb5.size; omega, (block_old (by have := hb5.size; omega)).trans ((hb5.block k (by omega)).trans (H4.out.1.block k hl))⟩)
  have hw5 : HV (fun g => g < (w5.alloc (.cells #[.int .i64 v.kind, .int .i64 v.int, .string v.text, .slice py.a py.n py.c, .slice qy.a qy.n qy.c] 28)).heap.size) (w5.alloc (.cells #[.int .i64 v.kind, .int .i64 v.int, .string v.text, .slice py.a py.n py.c, .slice qy.a qy.n qy.c] 28)) v py qy :=
    hvy.map (fun k hk hl => ⟨by rw [size_alloc]; omega, block_old hl⟩)
  have hsame := Same_any v v H2.out.2.2.1 H2.out.2.2.1 _ _ px qx py qy (fun g hg => hg) hv5 hw5
  have v50 : w5.cell? ⟨w2.heap.size, 0, none⟩ = some (.int .i64 v.kind) := by rw [blk_cell m5]; rfl
  have v51 : w5.cell? ⟨w2.heap.size, 1, none⟩ = some (.int .i64 v.int) := by rw [blk_cell m5]; rfl
  have v52 : w5.cell? ⟨w2.heap.size, 2, none⟩ = some (.string v.text) := by rw [blk_cell m5]; rfl
  have v53 : w5.cell? ⟨w2.heap.size, 3, none⟩ = some (.slice px.a px.n px.c) := by rw [blk_cell m5]; rfl
  have v54 : w5.cell? ⟨w2.heap.size, 4, none⟩ = some (.slice qx.a qx.n qx.c) := by rw [blk_cell m5]; rfl
  have l5 := (Array.getElem?_eq_some_iff.1 m5).1
  have H5 := Lib.hid (And.intro hb05 (And.intro hv5 m5))
  clear hb05 hv5 hw5 m5 hvy hb5 hmk
  go_wp2_with fail
  refine hsame.mono ?_
  rintro e w6 ⟨⟨z, rfl, hz⟩, hb6⟩
  obtain rfl : z = true := by simpa using hz
  have hb06 := (H5.out.1.alloc H5.out.1.size (.cells #[.int .i64 v.kind, .int .i64 v.int, .string v.text, .slice py.a py.n py.c, .slice qy.a qy.n qy.c] 28)).trans (hb6.mono (H5.out.1.alloc H5.out.1.size _).size)
  have m6 := (hb6.block w2.heap.size (by rw [size_alloc]; omega)).trans ((block_old l5).trans H5.out.2.2)
  have v60 : w6.cell? ⟨w2.heap.size, 0, none⟩ = some (.int .i64 v.kind) := by rw [blk_cell m6]; rfl
  have v61 : w6.cell? ⟨w2.heap.size, 1, none⟩ = some (.int .i64 v.int) := by rw [blk_cell m6]; rfl
  have v62 : w6.cell? ⟨w2.heap.size, 2, none⟩ = some (.string v.text) := by rw [blk_cell m6]; rfl
  have v63 : w6.cell? ⟨w2.heap.size, 3, none⟩ = some (.slice px.a px.n px.c) := by rw [blk_cell m6]; rfl
  have v64 : w6.cell? ⟨w2.heap.size, 4, none⟩ = some (.slice qx.a qx.n qx.c) := by rw [blk_cell m6]; rfl
  have hcount := Count_any v (by have := H2.out.2.2.2.2.2.2; omega) (by omega) (fun g => g < w6.heap.size) w6 px qx (fun g hg => hg) (H5.out.2.1.map (fun k hk hl => ⟨by have := hb6.size; omega, hb6.block k hl⟩))
  have H6 := Lib.hid hb06
  clear hb6 hb06 m6 hsame hz
  go_wp2_with fail
  refine hcount.mono ?_
  rintro e w7 ⟨rfl, hb7⟩
  have H7 := Lib.hid hb7
  clear hb7 hcount
  go_wp2_with fail
  go_ret
  exact ⟨rfl, H6.out.trans (H7.out.mono H6.out.size)⟩
end Go.Proofs.YtdggehikimnemaaDoor.tre

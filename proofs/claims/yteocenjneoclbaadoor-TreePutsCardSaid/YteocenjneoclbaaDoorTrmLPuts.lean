/- Layer 4: the law TreePuts. -/
import Derived.Deep.RegionHeld3
import Derived.Test.YteocenjneoclbaaDoorTrmDrop
import Derived.Test.YteocenjneoclbaaDoorTrmPutsP
import Derived.Test.YteocenjneoclbaaDoorTrmQuiet
import Derived.Test.YteocenjneoclbaaDoorTrmRGet
import Derived.Test.YteocenjneoclbaaDoorTrmSame
import Derived.Test.YteocenjneoclbaaDoorTrmSt
namespace Go.Proofs.YteocenjneoclbaaDoor.tre
open Go.RowKit Go.Shelf

theorem later3 {W w w' : World} {bv bx bu : Nat} {v x u : V} {k0 i0 : Int} {t0 : ByteArray} {pv qv px qx pu qu : Sl} (h : St W w bv bx v x pv qv px qx ∧ w.heap[bu]? = some (.cells #[.int .i64 k0, .int .i64 i0, .string t0, .slice pu.a pu.n pu.c, .slice qu.a qu.n qu.c] 27 (0, 0)) ∧ HV (fun g => g < w.heap.size) w u pu qu) (hb : Below w.heap.size w w') :
    St W w' bv bx v x pv qv px qx ∧ w'.heap[bu]? = some (.cells #[.int .i64 k0, .int .i64 i0, .string t0, .slice pu.a pu.n pu.c, .slice qu.a qu.n qu.c] 27 (0, 0)) ∧ HV (fun g => g < w'.heap.size) w' u pu qu :=
  ⟨h.1.later hb, (hb.block _ (Array.getElem?_eq_some_iff.1 h.2.1).1).trans h.2.1, h.2.2.map (fun k _ hl => ⟨Nat.lt_of_lt_of_le hl hb.size, hb.block k hl⟩)⟩
set_option maxRecDepth 100000 in
set_option maxHeartbeats 4000000 in
theorem lawPuts (a : Option Addr) (c : Nat) (l : List It) {W : World} (h : ItemsIn W a l) (a' : Option Addr) (c' : Nat) (l' : List It) (h' : ItemsIn W a' l') (ks : ByteArray) (hks : ks.size ≤ maxLen) (hT : utf.Tab W) :
    Calls Tryd.prog 5 #[.slice a l.length c, .slice a' l'.length c', .string ks] W fun e w' => e = .returned (.bool true) ∧ Below W.heap.size W w' := by
  have haw := awake_any W hT
  have hs1 := fun w1 (hb : Below W.heap.size W w1) => shaped_any a c l (h.later hb)
  have hs2 := fun w1 (hb : Below W.heap.size W w1) => shaped_any a' c' l' (h'.later hb)
  have H := Lib.hid (And.intro hs1 (And.intro hs2 (fun w => short_any ks hks w)))
  clear hs1 hs2 h h' hks hT
  go_enter Tryd.func5, Tryd.ntmps5
  go_wp2_with fail
  refine haw.mono ?_
  rintro e w1 ⟨rfl, hb1⟩
  have H1 := Lib.hid hb1
  clear haw hb1
  go_wp2_with fail
  refine (H.out.1 w1 H1.out).mono ?_
  rintro e w2 ⟨v, pv, qv, rfl, hv⟩
  have hb02 := H1.out.trans (hv.out.2.2.2.mono H1.out.size)
  have hb2a := hb02.alloc hb02.size (.cells #[.int .i64 v.kind, .int .i64 v.int, .string v.text, .slice pv.a pv.n pv.c, .slice qv.a qv.n qv.c] 27)
  have H2 := Lib.hid (And.intro hb2a hv.out)
  clear hb02 hb2a hv
  go_wp2_with fail
  refine (H.out.2.1 _ H2.out.1).mono ?_
  rintro e w3 ⟨x, px, qx, rfl, hx⟩
  have hb03 := H2.out.1.trans (hx.out.2.2.2.mono H2.out.1.size)
  have l23 : w2.heap.size < w3.heap.size := by have := hx.out.2.2.2.size; rw [size_alloc] at this; omega
  have mV3 := (hx.out.2.2.2.block w2.heap.size (by rw [size_alloc]; omega)).trans (block_new w2 (.cells #[.int .i64 v.kind, .int .i64 v.int, .string v.text, .slice pv.a pv.n pv.c, .slice qv.a qv.n qv.c] 27))
  have hvv : HV (fun g => g < w3.heap.size) w3 v pv qv := H2.out.2.2.2.1.map (fun k hk hl => ⟨by omega, (hx.out.2.2.2.block k (by rw [size_alloc]; omega)).trans (block_old hl)⟩)
  have hxx : HV (fun g => g < w3.heap.size) w3 x px qx := hx.out.2.2.1.map (fun k hk hl => ⟨hl, rfl⟩)
  have hsx : St W (w3.alloc (.cells #[.int .i64 x.kind, .int .i64 x.int, .string x.text, .slice px.a px.n px.c, .slice qx.a qx.n qx.c] 27)) w2.heap.size w3.heap.size v x pv qv px qx := ⟨hb03.alloc hb03.size _, (block_old l23).trans mV3, block_new w3 _, hvv.map (fun k hk hl => ⟨by rw [size_alloc]; omega, block_old hl⟩), hxx.map (fun k hk hl => ⟨by rw [size_alloc]; omega, block_old hl⟩)⟩
  have v0 : w3.cell? ⟨w2.heap.size, 0, none⟩ = some (.int .i64 v.kind) := by rw [blk_cell mV3]; rfl
  have v1 : w3.cell? ⟨w2.heap.size, 1, none⟩ = some (.int .i64 v.int) := by rw [blk_cell mV3]; rfl
  have v2 : w3.cell? ⟨w2.heap.size, 2, none⟩ = some (.string v.text) := by rw [blk_cell mV3]; rfl
  have v3 : w3.cell? ⟨w2.heap.size, 3, none⟩ = some (.slice pv.a pv.n pv.c) := by rw [blk_cell mV3]; rfl
  have v4 : w3.cell? ⟨w2.heap.size, 4, none⟩ = some (.slice qv.a qv.n qv.c) := by rw [blk_cell mV3]; rfl
  have hokv := ok_of_check H2.out.2.1
  have hokx := ok_of_check hx.out.1
  have hvn : qv.n = v.fields.length := hvv.2.len
  have HO := Lib.hid (And.intro hokv (And.intro hokx (And.intro (check_parts H2.out.2.1) hvn)))
  have H3 := Lib.hid hsx
  clear hb03 mV3 hvv hxx hx hsx hokv hokx hvn
  go_wp2_with fail
  refine (H.out.2.2 _).mono ?_
  rintro e w4 ⟨rfl, rfl⟩
  generalize cut12 ks = k
  go_wp2_with fail
  refine (Put_any v k x (small_of_ok v HO.out.1) (small_of_ok x HO.out.2.1) _ _ pv qv px qx (fun g hg => hg) H3.out.2.2.2.1 H3.out.2.2.2.2).mono ?_
  rintro e w5 ⟨u, pu, qu, rfl, hu, hu5, hb5⟩
  obtain rfl := put_put ((okC_eq v).1 HO.out.1).2.2.1 hu
  have hs5 := H3.out.later hb5
  have hb5a := (Below.refl w5.heap.size w5).alloc (Nat.le_refl _) (.cells #[.int .i64 v.kind, .int .i64 v.int, .string v.text, .slice pu.a pu.n pu.c, .slice qu.a qu.n qu.c] 27)
  have H5 := Lib.hid (show (St W (w5.alloc (.cells #[.int .i64 v.kind, .int .i64 v.int, .string v.text, .slice pu.a pu.n pu.c, .slice qu.a qu.n qu.c] 27)) w2.heap.size w3.heap.size v x pv qv px qx ∧ (w5.alloc (.cells #[.int .i64 v.kind, .int .i64 v.int, .string v.text, .slice pu.a pu.n pu.c, .slice qu.a qu.n qu.c] 27)).heap[w5.heap.size]? = some (.cells #[.int .i64 v.kind, .int .i64 v.int, .string v.text, .slice pu.a pu.n pu.c, .slice qu.a qu.n qu.c] 27 (0, 0)) ∧ HV (fun g => g < (w5.alloc (.cells #[.int .i64 v.kind, .int .i64 v.int, .string v.text, .slice pu.a pu.n pu.c, .slice qu.a qu.n qu.c] 27)).heap.size) (w5.alloc (.cells #[.int .i64 v.kind, .int .i64 v.int, .string v.text, .slice pu.a pu.n pu.c, .slice qu.a qu.n qu.c] 27)) (putV v k x) pu qu) from ⟨hs5.later hb5a, block_new w5 _, hu5.map (fun k hk hl => ⟨by rw [size_alloc]; omega, block_old hl⟩)⟩)
  have y0 : w5.cell? ⟨w2.heap.size, 0, none⟩ = some (.int .i64 v.kind) := by rw [blk_cell hs5.2.1]; rfl
  have y1 : w5.cell? ⟨w2.heap.size, 1, none⟩ = some (.int .i64 v.int) := by rw [blk_cell hs5.2.1]; rfl
  have y2 : w5.cell? ⟨w2.heap.size, 2, none⟩ = some (.string v.text) := by rw [blk_cell hs5.2.1]; rfl
  have y3 : w5.cell? ⟨w2.heap.size, 3, none⟩ = some (.slice pv.a pv.n pv.c) := by rw [blk_cell hs5.2.1]; rfl
  have y4 : w5.cell? ⟨w2.heap.size, 4, none⟩ = some (.slice qv.a qv.n qv.c) := by rw [blk_cell hs5.2.1]; rfl
  have l25 := (Array.getElem?_eq_some_iff.1 hs5.2.1).1
  have l35 := (Array.getElem?_eq_some_iff.1 hs5.2.2.1).1
  clear hs5 hb5a hb5 hu5 hu v0 v1 v2 v3 v4
  by_cases hk5 : v.kind = 5
  · have hkb : (v.kind != 5) = false := by simp [hk5]
    have Hk := Lib.hid hk5
    clear hk5
    have hk5 := Hk.out
    have hokp := put_ok (k := k) HO.out.1 HO.out.2.1 (by have h1 := countV_eq v; have h2 := len_count (fun g : ByteArray × V => countV g.2) (fun y => by have := countV_eq y.2; omega) v.fields; have h3 := HO.out.2.2.1.2.1; omega)
    have hcell1 : ∀ (w : World) (q : ByteArray), ∀ j (h : j < [q].length), (w.alloc (.cells #[.string q] 9)).cell? ⟨w.heap.size, j, none⟩ = some (.string [q][j]) := fun w q j hj => by
      rw [blk_cell (block_new w _)]
      match j, hj with
      | 0, _ => rfl
    have hG := fun (w : World) (q : ByteArray) (y : V) (hy : getR (putV v k x) [q] = (y, true)) (hs : (St W w w2.heap.size w3.heap.size v x pv qv px qx ∧ w.heap[w5.heap.size]? = some (.cells #[.int .i64 v.kind, .int .i64 v.int, .string v.text, .slice pu.a pu.n pu.c, .slice qu.a qu.n qu.c] 27 (0, 0)) ∧ HV (fun g => g < w.heap.size) w (putV v k x) pu qu)) => (show Calls Tryd.prog 21 #[.agg #[.int .i64 v.kind, .int .i64 v.int, .string v.text, .slice pu.a pu.n pu.c, .slice qu.a qu.n qu.c], .slice (some ⟨w.heap.size, 0, none⟩) 1 1] (w.alloc (.cells #[.string q] 9)) (fun e w' => ∃ p q' : Sl, e = .returned (.tuple #[.agg #[.int .i64 y.kind, .int .i64 y.int, .string y.text, .slice p.a p.n p.c, .slice q'.a q'.n q'.c], .bool true]) ∧
        HV (fun g => g < w'.heap.size) w' y p q' ∧ Below w.heap.size w w') from by
      have hb := (Below.refl w.heap.size w).alloc (Nat.le_refl _) (.cells #[.string q] 9)
      have g1 := Get_any (putV v k x) (small_of_ok _ hokp) [q] (by show 1 ≤ 100; omega) w.heap.size 1 _ _ pu qu (fun g hg => hg) (later3 hs hb).2.2 (by rw [size_alloc]; omega) (hcell1 w q)
      rw [hy, put_form hk5] at g1
      exact g1.mono (fun e w' ⟨p, q, he, hh, hb'⟩ => ⟨p, q, he, hh.map (fun k _ hl => ⟨hl, rfl⟩), hb.trans (hb'.mono hb.size)⟩))
    have HG := Lib.hid (And.intro hG (And.intro hokp hcell1))
    have HD := Lib.hid (show (St W (w5.alloc (.cells #[.int .i64 v.kind, .int .i64 v.int, .string v.text, .slice pu.a pu.n pu.c, .slice qu.a qu.n qu.c] 27)) w2.heap.size w3.heap.size v x pv qv px qx ∧ (w5.alloc (.cells #[.int .i64 v.kind, .int .i64 v.int, .string v.text, .slice pu.a pu.n pu.c, .slice qu.a qu.n qu.c] 27)).heap[w5.heap.size]? = some (.cells #[.int .i64 v.kind, .int .i64 v.int, .string v.text, .slice pu.a pu.n pu.c, .slice qu.a qu.n qu.c] 27 (0, 0)) ∧ HV (fun g => g < (w5.alloc (.cells #[.int .i64 v.kind, .int .i64 v.int, .string v.text, .slice pu.a pu.n pu.c, .slice qu.a qu.n qu.c] 27)).heap.size) (w5.alloc (.cells #[.int .i64 v.kind, .int .i64 v.int, .string v.text, .slice pu.a pu.n pu.c, .slice qu.a qu.n qu.c] 27)) (putV v k x) pu qu) from H5.out)
    have hg1 := HG.out.1 _ k x (get_put hk5) HD.out
    rw [size_alloc] at hg1
    clear hk5 hG hokp hcell1
    go_wp2_with fail
    refine hg1.mono ?_
    rintro e w6 ⟨py, qy, rfl, hy6, hb6⟩
    replace hb6 : Below (w5.alloc (.cells #[.int .i64 v.kind, .int .i64 v.int, .string v.text, .slice pu.a pu.n pu.c, .slice qu.a qu.n qu.c] 27)).heap.size (w5.alloc (.cells #[.int .i64 v.kind, .int .i64 v.int, .string v.text, .slice pu.a pu.n pu.c, .slice qu.a qu.n qu.c] 27)) w6 := by rw [size_alloc]; exact hb6
    have hs6 := later3 HD.out hb6
    have hb6a := (Below.refl w6.heap.size w6).alloc (Nat.le_refl _) (.cells #[.int .i64 x.kind, .int .i64 x.int, .string x.text, .slice py.a py.n py.c, .slice qy.a qy.n qy.c] 27)
    have H6 := Lib.hid (And.intro (later3 hs6 hb6a) (hy6.map (S' := fun g => g < (w6.alloc (.cells #[.int .i64 x.kind, .int .i64 x.int, .string x.text, .slice py.a py.n py.c, .slice qy.a qy.n qy.c] 27)).heap.size) (w' := w6.alloc (.cells #[.int .i64 x.kind, .int .i64 x.int, .string x.text, .slice py.a py.n py.c, .slice qy.a qy.n qy.c] 27)) (fun k hk hl => ⟨by rw [size_alloc]; omega, block_old hl⟩)))
    have x0 : w6.cell? ⟨w3.heap.size, 0, none⟩ = some (.int .i64 x.kind) := by rw [blk_cell hs6.1.2.2.1]; rfl
    have x1 : w6.cell? ⟨w3.heap.size, 1, none⟩ = some (.int .i64 x.int) := by rw [blk_cell hs6.1.2.2.1]; rfl
    have x2 : w6.cell? ⟨w3.heap.size, 2, none⟩ = some (.string x.text) := by rw [blk_cell hs6.1.2.2.1]; rfl
    have x3 : w6.cell? ⟨w3.heap.size, 3, none⟩ = some (.slice px.a px.n px.c) := by rw [blk_cell hs6.1.2.2.1]; rfl
    have x4 : w6.cell? ⟨w3.heap.size, 4, none⟩ = some (.slice qx.a qx.n qx.c) := by rw [blk_cell hs6.1.2.2.1]; rfl
    have l36 := (Array.getElem?_eq_some_iff.1 hs6.1.2.2.1).1
    have hsm := Same_any x x HO.out.2.1 HO.out.2.1 _ _ px qx py qy (fun g hg => hg) H6.out.1.1.2.2.2.2 H6.out.2
    clear hs6 hb6 hb6a hy6 hg1 y0 y1 y2 y3 y4
    go_wp2_with fail
    refine hsm.mono ?_
    rintro e w7 ⟨⟨z, rfl, hz⟩, hb7⟩
    obtain rfl : z = true := by simpa using hz
    have H7 := Lib.hid (later3 H6.out.1 hb7)
    have hnl : v.fields.length ≤ 100000 := ((okC_eq v).1 HO.out.1).2.1
    clear hsm hb7 hz x0 x1 x2 x3 x4 l25 l35 l36
    have y0 : w7.cell? ⟨w2.heap.size, 0, none⟩ = some (.int .i64 v.kind) := by rw [blk_cell H7.out.1.2.1]; rfl
    have y1 : w7.cell? ⟨w2.heap.size, 1, none⟩ = some (.int .i64 v.int) := by rw [blk_cell H7.out.1.2.1]; rfl
    have y2 : w7.cell? ⟨w2.heap.size, 2, none⟩ = some (.string v.text) := by rw [blk_cell H7.out.1.2.1]; rfl
    have y3 : w7.cell? ⟨w2.heap.size, 3, none⟩ = some (.slice pv.a pv.n pv.c) := by rw [blk_cell H7.out.1.2.1]; rfl
    have y4 : w7.cell? ⟨w2.heap.size, 4, none⟩ = some (.slice qv.a qv.n qv.c) := by rw [blk_cell H7.out.1.2.1]; rfl
    have lv7 := (Array.getElem?_eq_some_iff.1 H7.out.1.2.1).1
    go_wp2_with fail
    go_loopg [14, 15, 16, 17] v.fields.length (fun gg s14 _ _ _ wr => ∃ i : Nat, i ≤ v.fields.length ∧ v.fields.length - i ≤ gg ∧ s14 = .int .i64 i ∧ Hid ((St W wr w2.heap.size w3.heap.size v x pv qv px qx ∧ wr.heap[w5.heap.size]? = some (.cells #[.int .i64 v.kind, .int .i64 v.int, .string v.text, .slice pu.a pu.n pu.c, .slice qu.a qu.n qu.c] 27 (0, 0)) ∧ HV (fun g => g < wr.heap.size) wr (putV v k x) pu qu)))
    case atStart => exact ⟨0, Nat.zero_le _, by omega, rfl, H7.out⟩
    case round =>
      clear y0 y1 y2 y3 y4 lv7
      obtain ⟨i, hil, hgg, rfl, HI⟩ := hrel
      have y0 : wr.cell? ⟨w2.heap.size, 0, none⟩ = some (.int .i64 v.kind) := by rw [blk_cell HI.out.1.2.1]; rfl
      have y1 : wr.cell? ⟨w2.heap.size, 1, none⟩ = some (.int .i64 v.int) := by rw [blk_cell HI.out.1.2.1]; rfl
      have y2 : wr.cell? ⟨w2.heap.size, 2, none⟩ = some (.string v.text) := by rw [blk_cell HI.out.1.2.1]; rfl
      have y3 : wr.cell? ⟨w2.heap.size, 3, none⟩ = some (.slice pv.a pv.n pv.c) := by rw [blk_cell HI.out.1.2.1]; rfl
      have y4 : wr.cell? ⟨w2.heap.size, 4, none⟩ = some (.slice qv.a qv.n qv.c) := by rw [blk_cell HI.out.1.2.1]; rfl
      have u0 : wr.cell? ⟨w5.heap.size, 0, none⟩ = some (.int .i64 v.kind) := by rw [blk_cell HI.out.2.1]; rfl
      have u1 : wr.cell? ⟨w5.heap.size, 1, none⟩ = some (.int .i64 v.int) := by rw [blk_cell HI.out.2.1]; rfl
      have u2 : wr.cell? ⟨w5.heap.size, 2, none⟩ = some (.string v.text) := by rw [blk_cell HI.out.2.1]; rfl
      have u3 : wr.cell? ⟨w5.heap.size, 3, none⟩ = some (.slice pu.a pu.n pu.c) := by rw [blk_cell HI.out.2.1]; rfl
      have u4 : wr.cell? ⟨w5.heap.size, 4, none⟩ = some (.slice qu.a qu.n qu.c) := by rw [blk_cell HI.out.2.1]; rfl
      have lv := (Array.getElem?_eq_some_iff.1 HI.out.1.2.1).1
      have lu := (Array.getElem?_eq_some_iff.1 HI.out.2.1).1
      have hqn := HO.out.2.2.2
      by_cases hlt : i < v.fields.length
      · have hltz : (i : Int) < (qv.n : Int) := by omega
        obtain ⟨g, r', t', ha, hg, -, hc, hh⟩ := HI.out.1.2.2.2.1.2.at hlt
        have hin := List.getElem_mem hlt
        generalize v.fields[i] = f at hc hh hin
        rw [ha] at y4
        clear ha hqn
        have x0 := hc 0 _ rfl
        have x1 := hc 1 _ rfl
        have x2 := hc 2 _ rfl
        have x3 := hc 3 _ rfl
        have x4 := hc 4 _ rfl
        have x5 := hc 5 _ rfl
        simp only [Nat.add_zero] at x0
        have hbf := (Below.refl wr.heap.size wr).alloc (Nat.le_refl _) (.cells #[.string f.1, .int .i64 f.2.kind, .int .i64 f.2.int, .string f.2.text, .slice r'.a r'.n r'.c, .slice t'.a t'.n t'.c] 31)
        obtain ⟨z, hz⟩ : ∃ z : V, z = (if (f.1.toList == k.toList) = true then x else f.2) := ⟨_, rfl⟩
        have hget : getR (putV v k x) [f.1] = (z, true) := by
          rw [hz]
          split
          · rename_i h; rw [text_eq.1 (beq_iff_eq.1 h)]; exact get_put Hk.out
          · rename_i h; exact get_put_other Hk.out ((okC_eq v).1 HO.out.1).2.2.1 hin (by simpa using h)
        have hg1 := HG.out.1 _ f.1 z hget (later3 HI.out hbf)
        rw [size_alloc] at hg1
        have Hz := Lib.hid (And.intro hz (And.intro hh (And.intro hbf hin)))
        clear hz hget hh hbf hc hin
        go_wp2_with fail
        refine hg1.mono ?_
        rintro e w8 ⟨pz, qz, rfl, hz8, hb8⟩
        replace hb8 : Below (wr.alloc (.cells #[.string f.1, .int .i64 f.2.kind, .int .i64 f.2.int, .string f.2.text, .slice r'.a r'.n r'.c, .slice t'.a t'.n t'.c] 31)).heap.size (wr.alloc (.cells #[.string f.1, .int .i64 f.2.kind, .int .i64 f.2.int, .string f.2.text, .slice r'.a r'.n r'.c, .slice t'.a t'.n t'.c] 31)) w8 := by rw [size_alloc]; exact hb8
        have hs8 := later3 (later3 HI.out Hz.out.2.2.1) hb8
        have mF := (hb8.block wr.heap.size (by rw [size_alloc]; omega)).trans (block_new wr (.cells #[.string f.1, .int .i64 f.2.kind, .int .i64 f.2.int, .string f.2.text, .slice r'.a r'.n r'.c, .slice t'.a t'.n t'.c] 31))
        have lF := (Array.getElem?_eq_some_iff.1 mF).1
        have hbz := (Below.refl w8.heap.size w8).alloc (Nat.le_refl _) (.cells #[.int .i64 z.kind, .int .i64 z.int, .string z.text, .slice pz.a pz.n pz.c, .slice qz.a qz.n qz.c] 27)
        have hf8 : HV (fun g => g < w8.heap.size) w8 f.2 r' t' := Hz.out.2.1.map (fun k hk hl => ⟨by have := hb8.size; rw [size_alloc] at this; omega, (hb8.block k (by rw [size_alloc]; omega)).trans (block_old hl)⟩)
        have H8 := Lib.hid (And.intro (later3 hs8 hbz) (And.intro (hz8.map (S' := fun g => g < (w8.alloc (.cells #[.int .i64 z.kind, .int .i64 z.int, .string z.text, .slice pz.a pz.n pz.c, .slice qz.a qz.n qz.c] 27)).heap.size) (w' := w8.alloc (.cells #[.int .i64 z.kind, .int .i64 z.int, .string z.text, .slice pz.a pz.n pz.c, .slice qz.a qz.n qz.c] 27)) (fun k hk hl => ⟨by rw [size_alloc]; omega, block_old hl⟩)) (And.intro (hf8.map (S' := fun g => g < (w8.alloc (.cells #[.int .i64 z.kind, .int .i64 z.int, .string z.text, .slice pz.a pz.n pz.c, .slice qz.a qz.n qz.c] 27)).heap.size) (w' := w8.alloc (.cells #[.int .i64 z.kind, .int .i64 z.int, .string z.text, .slice pz.a pz.n pz.c, .slice qz.a qz.n qz.c] 27)) (fun k hk hl => ⟨by rw [size_alloc]; omega, block_old hl⟩)) mF)))
        have b0 : w8.cell? ⟨wr.heap.size, 0, none⟩ = some (.string f.1) := by rw [blk_cell mF]; rfl
        have b1 : w8.cell? ⟨wr.heap.size, 1, none⟩ = some (.int .i64 f.2.kind) := by rw [blk_cell mF]; rfl
        have b2 : w8.cell? ⟨wr.heap.size, 2, none⟩ = some (.int .i64 f.2.int) := by rw [blk_cell mF]; rfl
        have b3 : w8.cell? ⟨wr.heap.size, 3, none⟩ = some (.string f.2.text) := by rw [blk_cell mF]; rfl
        have b4 : w8.cell? ⟨wr.heap.size, 4, none⟩ = some (.slice r'.a r'.n r'.c) := by rw [blk_cell mF]; rfl
        have b5 : w8.cell? ⟨wr.heap.size, 5, none⟩ = some (.slice t'.a t'.n t'.c) := by rw [blk_cell mF]; rfl
        clear hb8 hs8 hbz hf8 hz8 mF hg1 x0 x1 x2 x3 x4 x5 y0 y1 y2 y3 y4 u0 u1 u2 u3 u4
        cases hkf : (f.1.toList == k.toList) with
        | true =>
          have hkb2 : (f.1.toList != k.toList) = false := by simp only [bne, hkf]; rfl
          go_wp2_with fail
          go_roundg (v.fields.length - (i + 1))
          case measure => omega
          case rel => exact ⟨i + 1, by omega, Nat.le_refl _, by go_num, H8.out.1⟩
        | false =>
          have hkb2 : (f.1.toList != k.toList) = true := by simp only [bne, hkf]; rfl
          obtain rfl : z = f.2 := by have h := Hz.out.1; rw [hkf] at h; simpa using h
          have hokf := ((okC_eq v).1 HO.out.1).2.2.2.2 f Hz.out.2.2.2
          have hsm8 := Same_any f.2 f.2 hokf hokf _ _ pz qz r' t' (fun g hg => hg) H8.out.2.1 H8.out.2.2.1
          go_wp2_with fail
          refine hsm8.mono ?_
          rintro e w9 ⟨⟨z9, rfl, hz9⟩, hb9⟩
          obtain rfl : z9 = true := by simpa using hz9
          have H9 := Lib.hid (later3 H8.out.1 hb9)
          clear hb9 hz9 hsm8
          go_wp2_with fail
          go_roundg (v.fields.length - (i + 1))
          case measure => omega
          case rel => exact ⟨i + 1, by omega, Nat.le_refl _, by go_num, H9.out⟩
      · have hltz : ¬ (i : Int) < (qv.n : Int) := by omega
        clear hqn
        have hpk : (putV v k x).kind = v.kind ∧ (putV v k x).int = v.int ∧ (putV v k x).text = v.text := by unfold putV; split <;> exact ⟨rfl, rfl, rfl⟩
        have hdk : (dropV (putV v k x) k).kind = v.kind ∧ (dropV (putV v k x) k).int = v.int ∧ (dropV (putV v k x) k).text = v.text := by
          refine ⟨?_, ?_, ?_⟩
          · rw [← hpk.1]; unfold dropV; split <;> rfl
          · rw [← hpk.2.1]; unfold dropV; split <;> rfl
          · rw [← hpk.2.2]; unfold dropV; split <;> rfl
        have hDr := fun (w : World) (hs : (St W w w2.heap.size w3.heap.size v x pv qv px qx ∧ w.heap[w5.heap.size]? = some (.cells #[.int .i64 v.kind, .int .i64 v.int, .string v.text, .slice pu.a pu.n pu.c, .slice qu.a qu.n qu.c] 27 (0, 0)) ∧ HV (fun g => g < w.heap.size) w (putV v k x) pu qu)) => Drop_any (putV v k x) k (small_of_ok _ HG.out.2.1) _ w pu qu (fun g hg => hg) hs.2.2
        rw [hpk.1, hpk.2.1, hpk.2.2] at hDr
        have HDr := Lib.hid hDr
        have HK := Lib.hid (And.intro hpk hdk)
        clear hpk hdk hDr
        go_wp2_with fail
        refine (HDr.out wr HI.out).mono ?_
        rintro e w10 ⟨pd, qd, rfl, hd10, hb10⟩
        have hs10 := later3 HI.out hb10
        have hbk := (Below.refl w10.heap.size w10).alloc (Nat.le_refl _) (.cells #[.string k] 9)
        have hd10b : HV (fun g => g < (w10.alloc (.cells #[.string k] 9)).heap.size) (w10.alloc (.cells #[.string k] 9)) (dropV (putV v k x) k) pd qd := hd10.map (fun j _ hl => ⟨by rw [size_alloc]; omega, block_old hl⟩)
        have hg10 := Get_any (dropV (putV v k x) k) (small_of_ok _ (drop_ok k HG.out.2.1)) [k] (by show 1 ≤ 100; omega) w10.heap.size 1 _ _ pd qd (fun g hg => hg) hd10b (by rw [size_alloc]; omega) (HG.out.2.2 w10 k)
        rw [get_drop, HK.out.2.1, HK.out.2.2.1, HK.out.2.2.2] at hg10
        have H10 := Lib.hid (And.intro hs10 hbk)
        clear hs10 hbk hd10 hd10b hb10 y0 y1 y2 y3 y4 u0 u1 u2 u3 u4 lv lu
        go_wp2_with fail
        refine hg10.mono ?_
        rintro e w11 ⟨pn, qn, rfl, -, hb11⟩
        have hs11 := later3 (later3 H10.out.1 H10.out.2) hb11
        have y0 : w11.cell? ⟨w2.heap.size, 0, none⟩ = some (.int .i64 v.kind) := by rw [blk_cell hs11.1.2.1]; rfl
        have y1 : w11.cell? ⟨w2.heap.size, 1, none⟩ = some (.int .i64 v.int) := by rw [blk_cell hs11.1.2.1]; rfl
        have y2 : w11.cell? ⟨w2.heap.size, 2, none⟩ = some (.string v.text) := by rw [blk_cell hs11.1.2.1]; rfl
        have y3 : w11.cell? ⟨w2.heap.size, 3, none⟩ = some (.slice pv.a pv.n pv.c) := by rw [blk_cell hs11.1.2.1]; rfl
        have y4 : w11.cell? ⟨w2.heap.size, 4, none⟩ = some (.slice qv.a qv.n qv.c) := by rw [blk_cell hs11.1.2.1]; rfl
        have lv11 := (Array.getElem?_eq_some_iff.1 hs11.1.2.1).1
        have hbn := (Below.refl w11.heap.size w11).alloc (Nat.le_refl _) (.cells #[.int .i64 nilV.kind, .int .i64 nilV.int, .string nilV.text, .slice pn.a pn.n pn.c, .slice qn.a qn.n qn.c] 27)
        have H11 := Lib.hid (later3 hs11 hbn)
        have hbk := (Below.refl (w11.alloc (.cells #[.int .i64 nilV.kind, .int .i64 nilV.int, .string nilV.text, .slice pn.a pn.n pn.c, .slice qn.a qn.n qn.c] 27)).heap.size (w11.alloc (.cells #[.int .i64 nilV.kind, .int .i64 nilV.int, .string nilV.text, .slice pn.a pn.n pn.c, .slice qn.a qn.n qn.c] 27))).alloc (Nat.le_refl _) (.cells #[.string k] 9)
        have hg12 := Get_any v (small_of_ok _ HO.out.1) [k] (by show 1 ≤ 100; omega) (w11.alloc (.cells #[.int .i64 nilV.kind, .int .i64 nilV.int, .string nilV.text, .slice pn.a pn.n pn.c, .slice qn.a qn.n qn.c] 27)).heap.size 1 _ _ pv qv (fun g hg => hg) (later3 H11.out hbk).1.2.2.2.1 (by simp only [size_alloc]; omega) (HG.out.2.2 _ k)
        have H12 := Lib.hid (later3 H11.out hbk)
        obtain ⟨yw, hyw⟩ : ∃ yw, getR v [k] = yw := ⟨_, rfl⟩
        rw [hyw] at hg12
        obtain ⟨yv, was⟩ := yw
        have Hw := Lib.hid hyw
        simp only at hg12
        clear hs11 hbn hbk hg10 hb11 hyw
        simp only [size_alloc] at hg12
        go_wp2_with fail
        refine hg12.mono ?_
        rintro e w13 ⟨pw, qw, rfl, -, hb13⟩
        have hs13 := later3 H12.out (show Below ((w11.alloc (.cells #[.int .i64 nilV.kind, .int .i64 nilV.int, .string nilV.text, .slice pn.a pn.n pn.c, .slice qn.a qn.n qn.c] 27)).alloc (.cells #[.string k] 9)).heap.size ((w11.alloc (.cells #[.int .i64 nilV.kind, .int .i64 nilV.int, .string nilV.text, .slice pn.a pn.n pn.c, .slice qn.a qn.n qn.c] 27)).alloc (.cells #[.string k] 9)) w13 by simp only [size_alloc]; exact hb13)
        have hbw := (Below.refl w13.heap.size w13).alloc (Nat.le_refl _) (.cells #[.int .i64 yv.kind, .int .i64 yv.int, .string yv.text, .slice pw.a pw.n pw.c, .slice qw.a qw.n qw.c] 27)
        have H13 := Lib.hid (later3 hs13 hbw)
        have y0 : w13.cell? ⟨w2.heap.size, 0, none⟩ = some (.int .i64 v.kind) := by rw [blk_cell hs13.1.2.1]; rfl
        have y1 : w13.cell? ⟨w2.heap.size, 1, none⟩ = some (.int .i64 v.int) := by rw [blk_cell hs13.1.2.1]; rfl
        have y2 : w13.cell? ⟨w2.heap.size, 2, none⟩ = some (.string v.text) := by rw [blk_cell hs13.1.2.1]; rfl
        have y3 : w13.cell? ⟨w2.heap.size, 3, none⟩ = some (.slice pv.a pv.n pv.c) := by rw [blk_cell hs13.1.2.1]; rfl
        have y4 : w13.cell? ⟨w2.heap.size, 4, none⟩ = some (.slice qv.a qv.n qv.c) := by rw [blk_cell hs13.1.2.1]; rfl
        have u0 : w13.cell? ⟨w5.heap.size, 0, none⟩ = some (.int .i64 v.kind) := by rw [blk_cell hs13.2.1]; rfl
        have u1 : w13.cell? ⟨w5.heap.size, 1, none⟩ = some (.int .i64 v.int) := by rw [blk_cell hs13.2.1]; rfl
        have u2 : w13.cell? ⟨w5.heap.size, 2, none⟩ = some (.string v.text) := by rw [blk_cell hs13.2.1]; rfl
        have u3 : w13.cell? ⟨w5.heap.size, 3, none⟩ = some (.slice pu.a pu.n pu.c) := by rw [blk_cell hs13.2.1]; rfl
        have u4 : w13.cell? ⟨w5.heap.size, 4, none⟩ = some (.slice qu.a qu.n qu.c) := by rw [blk_cell hs13.2.1]; rfl
        have lv13 := (Array.getElem?_eq_some_iff.1 hs13.1.2.1).1
        have lu13 := (Array.getElem?_eq_some_iff.1 hs13.2.1).1
        clear hs13 hbw hb13 hg12
        have mixed := mixed
        cases was with
        | true =>
          go_wp2_with fail
          go_quiet (fail)
          go_wp2_with fail
          go_ret
          exact ⟨rfl, Below.drewN H13.out.1.1 nq⟩
        | false =>
          have hdp := drop_put (x := x) Hk.out (by rw [Hw.out])
          have HP := Lib.hid hdp
          clear hdp y0 y1 y2 y3 y4 u0 u1 u2 u3 u4 lv13 lu13
          go_wp2_with fail
          generalize w13.alloc (.cells #[.int .i64 yv.kind, .int .i64 yv.int, .string yv.text, .slice pw.a pw.n pw.c, .slice qw.a qw.n qw.c] 27) = wq at H13 ⊢
          have HD2 := Lib.hid (show (St W wq.drew w2.heap.size w3.heap.size v x pv qv px qx ∧ wq.drew.heap[w5.heap.size]? = some (.cells #[.int .i64 v.kind, .int .i64 v.int, .string v.text, .slice pu.a pu.n pu.c, .slice qu.a qu.n qu.c] 27 (0, 0)) ∧ HV (fun g => g < wq.drew.heap.size) wq.drew (putV v k x) pu qu) from ⟨⟨H13.out.1.1.drew, H13.out.1.2⟩, H13.out.2⟩)
          have y0 : wq.cell? ⟨w2.heap.size, 0, none⟩ = some (.int .i64 v.kind) := by rw [blk_cell H13.out.1.2.1]; rfl
          have y1 : wq.cell? ⟨w2.heap.size, 1, none⟩ = some (.int .i64 v.int) := by rw [blk_cell H13.out.1.2.1]; rfl
          have y2 : wq.cell? ⟨w2.heap.size, 2, none⟩ = some (.string v.text) := by rw [blk_cell H13.out.1.2.1]; rfl
          have y3 : wq.cell? ⟨w2.heap.size, 3, none⟩ = some (.slice pv.a pv.n pv.c) := by rw [blk_cell H13.out.1.2.1]; rfl
          have y4 : wq.cell? ⟨w2.heap.size, 4, none⟩ = some (.slice qv.a qv.n qv.c) := by rw [blk_cell H13.out.1.2.1]; rfl
          have o0 : wq.cell? ⟨w5.heap.size, 0, none⟩ = some (.int .i64 v.kind) := by rw [blk_cell H13.out.2.1]; rfl
          have o1 : wq.cell? ⟨w5.heap.size, 1, none⟩ = some (.int .i64 v.int) := by rw [blk_cell H13.out.2.1]; rfl
          have o2 : wq.cell? ⟨w5.heap.size, 2, none⟩ = some (.string v.text) := by rw [blk_cell H13.out.2.1]; rfl
          have o3 : wq.cell? ⟨w5.heap.size, 3, none⟩ = some (.slice pu.a pu.n pu.c) := by rw [blk_cell H13.out.2.1]; rfl
          have o4 : wq.cell? ⟨w5.heap.size, 4, none⟩ = some (.slice qu.a qu.n qu.c) := by rw [blk_cell H13.out.2.1]; rfl
          have lvq := (Array.getElem?_eq_some_iff.1 H13.out.1.2.1).1
          have luq := (Array.getElem?_eq_some_iff.1 H13.out.2.1).1
          clear mixed H13 H12 H11 H10 HI HK HG HD H7 H6 H5 H3 H2 H1 H Hw Hk
          go_region_held3 (fun w' => w'.cell? ⟨w2.heap.size, 0, none⟩ = some (.int .i64 v.kind) ∧ w'.cell? ⟨w2.heap.size, 1, none⟩ = some (.int .i64 v.int) ∧ w'.cell? ⟨w2.heap.size, 2, none⟩ = some (.string v.text) ∧ w'.cell? ⟨w2.heap.size, 3, none⟩ = some (.slice pv.a pv.n pv.c) ∧ w'.cell? ⟨w2.heap.size, 4, none⟩ = some (.slice qv.a qv.n qv.c) ∧ w'.cell? ⟨w5.heap.size, 0, none⟩ = some (.int .i64 v.kind) ∧ w'.cell? ⟨w5.heap.size, 1, none⟩ = some (.int .i64 v.int) ∧ w'.cell? ⟨w5.heap.size, 2, none⟩ = some (.string v.text) ∧ w'.cell? ⟨w5.heap.size, 3, none⟩ = some (.slice pu.a pu.n pu.c) ∧ w'.cell? ⟨w5.heap.size, 4, none⟩ = some (.slice qu.a qu.n qu.c))
            (first | go_keep)
            (first
              | (go_at_call 25; refine (HDr.out _ HD2.out).mono ?_; rintro e w14 ⟨pe, qe, rfl, hd14, hb14⟩; rw [HP.out] at hd14; have hs14 := later3 HD2.out hb14; have y0 : w14.cell? ⟨w2.heap.size, 0, none⟩ = some (.int .i64 v.kind) := (by rw [blk_cell hs14.1.2.1]; rfl); have y1 : w14.cell? ⟨w2.heap.size, 1, none⟩ = some (.int .i64 v.int) := (by rw [blk_cell hs14.1.2.1]; rfl); have y2 : w14.cell? ⟨w2.heap.size, 2, none⟩ = some (.string v.text) := (by rw [blk_cell hs14.1.2.1]; rfl); have y3 : w14.cell? ⟨w2.heap.size, 3, none⟩ = some (.slice pv.a pv.n pv.c) := (by rw [blk_cell hs14.1.2.1]; rfl); have y4 : w14.cell? ⟨w2.heap.size, 4, none⟩ = some (.slice qv.a qv.n qv.c) := (by rw [blk_cell hs14.1.2.1]; rfl); have o0 : w14.cell? ⟨w5.heap.size, 0, none⟩ = some (.int .i64 v.kind) := (by rw [blk_cell hs14.2.1]; rfl); have o1 : w14.cell? ⟨w5.heap.size, 1, none⟩ = some (.int .i64 v.int) := (by rw [blk_cell hs14.2.1]; rfl); have o2 : w14.cell? ⟨w5.heap.size, 2, none⟩ = some (.string v.text) := (by rw [blk_cell hs14.2.1]; rfl); have o3 : w14.cell? ⟨w5.heap.size, 3, none⟩ = some (.slice pu.a pu.n pu.c) := (by rw [blk_cell hs14.2.1]; rfl); have o4 : w14.cell? ⟨w5.heap.size, 4, none⟩ = some (.slice qu.a qu.n qu.c) := (by rw [blk_cell hs14.2.1]; rfl); have lv14 := (Array.getElem?_eq_some_iff.1 hs14.1.2.1).1; have H14 := Lib.hid (And.intro hs14 (hd14.map (S' := fun g => g < w14.heap.size) (fun k _ hl => ⟨hl, rfl⟩))); clear hs14 hd14 hb14)
              | (go_at_call 30; refine (Same_any v v HO.out.1 HO.out.1 _ w14 pe qe pv qv (fun g hg => hg) H14.out.2 H14.out.1.1.2.2.2.1).mono ?_; rintro e w15 ⟨⟨z, rfl, hz⟩, hb15⟩; obtain rfl : z = true := (by simpa using hz); have hs15 := later3 H14.out.1 hb15; have z0 : w15.cell? ⟨w2.heap.size, 0, none⟩ = some (.int .i64 v.kind) := (by rw [blk_cell hs15.1.2.1]; rfl); have z1 : w15.cell? ⟨w2.heap.size, 1, none⟩ = some (.int .i64 v.int) := (by rw [blk_cell hs15.1.2.1]; rfl); have z2 : w15.cell? ⟨w2.heap.size, 2, none⟩ = some (.string v.text) := (by rw [blk_cell hs15.1.2.1]; rfl); have z3 : w15.cell? ⟨w2.heap.size, 3, none⟩ = some (.slice pv.a pv.n pv.c) := (by rw [blk_cell hs15.1.2.1]; rfl); have z4 : w15.cell? ⟨w2.heap.size, 4, none⟩ = some (.slice qv.a qv.n qv.c) := (by rw [blk_cell hs15.1.2.1]; rfl); have p0 : w15.cell? ⟨w5.heap.size, 0, none⟩ = some (.int .i64 v.kind) := (by rw [blk_cell hs15.2.1]; rfl); have p1 : w15.cell? ⟨w5.heap.size, 1, none⟩ = some (.int .i64 v.int) := (by rw [blk_cell hs15.2.1]; rfl); have p2 : w15.cell? ⟨w5.heap.size, 2, none⟩ = some (.string v.text) := (by rw [blk_cell hs15.2.1]; rfl); have p3 : w15.cell? ⟨w5.heap.size, 3, none⟩ = some (.slice pu.a pu.n pu.c) := (by rw [blk_cell hs15.2.1]; rfl); have p4 : w15.cell? ⟨w5.heap.size, 4, none⟩ = some (.slice qu.a qu.n qu.c) := (by rw [blk_cell hs15.2.1]; rfl); have H15 := Lib.hid hs15; clear hb15 hz hs15))
          all_goals
            go_wp2_with fail
            go_ret
            exact ⟨rfl, H15.out.1.1⟩
  · have hkb : (v.kind != 5) = true := by simpa using hk5
    have hpv : putV v k x = v := if_neg hk5
    have hdv : dropV v k = v := if_neg hk5
    have Hd := Lib.hid (And.intro hpv hdv)
    have HD := Lib.hid (show (St W (w5.alloc (.cells #[.int .i64 v.kind, .int .i64 v.int, .string v.text, .slice pu.a pu.n pu.c, .slice qu.a qu.n qu.c] 27)).drew w2.heap.size w3.heap.size v x pv qv px qx ∧ (w5.alloc (.cells #[.int .i64 v.kind, .int .i64 v.int, .string v.text, .slice pu.a pu.n pu.c, .slice qu.a qu.n qu.c] 27)).drew.heap[w5.heap.size]? = some (.cells #[.int .i64 v.kind, .int .i64 v.int, .string v.text, .slice pu.a pu.n pu.c, .slice qu.a qu.n qu.c] 27 (0, 0)) ∧ HV (fun g => g < (w5.alloc (.cells #[.int .i64 v.kind, .int .i64 v.int, .string v.text, .slice pu.a pu.n pu.c, .slice qu.a qu.n qu.c] 27)).drew.heap.size) (w5.alloc (.cells #[.int .i64 v.kind, .int .i64 v.int, .string v.text, .slice pu.a pu.n pu.c, .slice qu.a qu.n qu.c] 27)).drew (putV v k x) pu qu) from ⟨⟨H5.out.1.1.drew, H5.out.1.2⟩, H5.out.2⟩)
    have hS1 := fun (w : World) (hs : (St W w w2.heap.size w3.heap.size v x pv qv px qx ∧ w.heap[w5.heap.size]? = some (.cells #[.int .i64 v.kind, .int .i64 v.int, .string v.text, .slice pu.a pu.n pu.c, .slice qu.a qu.n qu.c] 27 (0, 0)) ∧ HV (fun g => g < w.heap.size) w (putV v k x) pu qu)) => Same_any v (putV v k x) HO.out.1 (by rw [Hd.out.1]; exact HO.out.1) _ w pv qv pu qu (fun g hg => hg) hs.1.2.2.2.1 hs.2.2
    have hS2 := fun (w : World) (hs : (St W w w2.heap.size w3.heap.size v x pv qv px qx ∧ w.heap[w5.heap.size]? = some (.cells #[.int .i64 v.kind, .int .i64 v.int, .string v.text, .slice pu.a pu.n pu.c, .slice qu.a qu.n qu.c] 27 (0, 0)) ∧ HV (fun g => g < w.heap.size) w (putV v k x) pu qu)) => Drop_any v k (small_of_ok v HO.out.1) _ w pv qv (fun g hg => hg) hs.1.2.2.2.1
    rw [hpv] at hS1
    rw [hdv] at hS2
    have HS := Lib.hid (And.intro (fun w (hs : (St W w w2.heap.size w3.heap.size v x pv qv px qx ∧ w.heap[w5.heap.size]? = some (.cells #[.int .i64 v.kind, .int .i64 v.int, .string v.text, .slice pu.a pu.n pu.c, .slice qu.a qu.n qu.c] 27 (0, 0)) ∧ HV (fun g => g < w.heap.size) w (putV v k x) pu qu)) => hS1 w ⟨hs.1, hs.2.1, by have h2 := hs.2.2; rwa [hpv] at h2⟩) hS2)
    clear hk5 hpv hdv hS1 hS2
    go_wp2_with fail
    go_region_law ((go_simp; go_wp2_with (first
      | (go_at_call 30; (with_reducible show Calls Tryd.prog 30 #[.agg #[.int .i64 v.kind, .int .i64 v.int, .string v.text, .slice pv.a pv.n pv.c, .slice qv.a qv.n qv.c], .agg #[.int .i64 v.kind, .int .i64 v.int, .string v.text, .slice pu.a pu.n pu.c, .slice qu.a qu.n qu.c]] _ _); refine (HS.out.1 _ HD.out).mono ?_; rintro e w6 ⟨⟨z, rfl, hz⟩, hb6⟩; obtain rfl : z = true := (by simpa using hz); have hs6 := later3 HD.out hb6; have y0 : w6.cell? ⟨w2.heap.size, 0, none⟩ = some (.int .i64 v.kind) := (by rw [blk_cell hs6.1.2.1]; rfl); have y1 : w6.cell? ⟨w2.heap.size, 1, none⟩ = some (.int .i64 v.int) := (by rw [blk_cell hs6.1.2.1]; rfl); have y2 : w6.cell? ⟨w2.heap.size, 2, none⟩ = some (.string v.text) := (by rw [blk_cell hs6.1.2.1]; rfl); have y3 : w6.cell? ⟨w2.heap.size, 3, none⟩ = some (.slice pv.a pv.n pv.c) := (by rw [blk_cell hs6.1.2.1]; rfl); have y4 : w6.cell? ⟨w2.heap.size, 4, none⟩ = some (.slice qv.a qv.n qv.c) := (by rw [blk_cell hs6.1.2.1]; rfl); have lv6 := (Array.getElem?_eq_some_iff.1 hs6.1.2.1).1; have H6 := Lib.hid hs6; clear hs6 hb6 hz)
      | (go_at_call 25; refine (HS.out.2 _ H6.out).mono ?_; rintro e w7 ⟨pd, qd, rfl, hd7, hb7⟩; have hs7 := later3 H6.out hb7; have y0 : w7.cell? ⟨w2.heap.size, 0, none⟩ = some (.int .i64 v.kind) := (by rw [blk_cell hs7.1.2.1]; rfl); have y1 : w7.cell? ⟨w2.heap.size, 1, none⟩ = some (.int .i64 v.int) := (by rw [blk_cell hs7.1.2.1]; rfl); have y2 : w7.cell? ⟨w2.heap.size, 2, none⟩ = some (.string v.text) := (by rw [blk_cell hs7.1.2.1]; rfl); have y3 : w7.cell? ⟨w2.heap.size, 3, none⟩ = some (.slice pv.a pv.n pv.c) := (by rw [blk_cell hs7.1.2.1]; rfl); have y4 : w7.cell? ⟨w2.heap.size, 4, none⟩ = some (.slice qv.a qv.n qv.c) := (by rw [blk_cell hs7.1.2.1]; rfl); have lv7 := (Array.getElem?_eq_some_iff.1 hs7.1.2.1).1; have H7 := Lib.hid (And.intro hs7 (hd7.map (S' := fun g => g < w7.heap.size) (fun k _ hl => ⟨hl, rfl⟩))); clear hs7 hd7 hb7)
      | (go_at_call 30; refine (Same_any v v HO.out.1 HO.out.1 _ w7 pd qd pv qv (fun g hg => hg) H7.out.2 H7.out.1.1.2.2.2.1).mono ?_; rintro e w8 ⟨⟨z, rfl, hz⟩, hb8⟩; obtain rfl : z = true := (by simpa using hz); have H8 := Lib.hid (later3 H7.out.1 hb8); clear hb8 hz))))
    all_goals
      go_wp2_with fail
      go_ret
      exact ⟨rfl, H8.out.1.1⟩
end Go.Proofs.YteocenjneoclbaaDoor.tre

/- Layer 4: the law TreeMaps . -/
import Derived.Test.YtdggehikimnemaaDoorTrmDrop
import Derived.Test.YtdggehikimnemaaDoorTrmMapP
import Derived.Test.YtdggehikimnemaaDoorTrmQuiet
import Derived.Test.YtdggehikimnemaaDoorTrmRSame
import Derived.Test.YtdggehikimnemaaDoorTrmRTexts
import Derived.Test.YtdggehikimnemaaDoorTrmSame
import Derived.Test.YtdggehikimnemaaDoorTrmTexts
namespace Go.Proofs.YtdggehikimnemaaDoor.tre
open Go.RowKit Go.Shelf

/-- Two values in variables, and what they are of. -/
def St (W w : World) (bv bx : Nat) (v x : V) (pv qv px qx : Sl) : Prop := Below W.heap.size W w ∧ w.heap[bv]? = some (.cells #[.int .i64 v.kind, .int .i64 v.int, .string v.text, .slice pv.a pv.n pv.c, .slice qv.a qv.n qv.c] 28 (0, 0)) ∧ w.heap[bx]? = some (.cells #[.int .i64 x.kind, .int .i64 x.int, .string x.text, .slice px.a px.n px.c, .slice qx.a qx.n qx.c] 28 (0, 0)) ∧
  HV (fun g => g < w.heap.size) w v pv qv ∧ HV (fun g => g < w.heap.size) w x px qx
theorem St.later {W w w' : World} {bv bx : Nat} {v x : V} {pv qv px qx : Sl} (h : St W w bv bx v x pv qv px qx) (hb : Below w.heap.size w w') : St W w' bv bx v x pv qv px qx :=
  ⟨h.1.trans (hb.mono h.1.size), (hb.block _ (Array.getElem?_eq_some_iff.1 h.2.1).1).trans h.2.1, (hb.block _ (Array.getElem?_eq_some_iff.1 h.2.2.1).1).trans h.2.2.1, h.2.2.2.1.map (fun k _ hl => ⟨Nat.lt_of_lt_of_le hl hb.size, hb.block k hl⟩), h.2.2.2.2.map (fun k _ hl => ⟨Nat.lt_of_lt_of_le hl hb.size, hb.block k hl⟩)⟩
set_option maxRecDepth 100000 in
set_option maxHeartbeats 16000000 in
theorem lawMaps (a : Option Addr) (c : Nat) (l : List It) {W : World} (h : ItemsIn W a l) (a' : Option Addr) (c' : Nat) (l' : List It) (h' : ItemsIn W a' l') (ka kb : ByteArray) (ko : Bool) (hka : ka.size ≤ maxLen) (hkb : kb.size ≤ maxLen) (hT : utf.Tab W) :
    Calls Tryd.prog 5 #[.slice a l.length c, .slice a' l'.length c', .agg #[.string ka, .string kb, .bool ko]] W fun e w' => e = .returned (.bool true) ∧ Below W.heap.size W w' := by
  have hb0 : Below W.heap.size W (W.alloc (.cells #[.string ka, .string kb, .bool ko] 44)) := (Below.refl _ _).alloc (Nat.le_refl _) _
  have haw := awake_any (W.alloc (.cells #[.string ka, .string kb, .bool ko] 44)) (hT.self hb0)
  have hs1 := fun w1 (hb : Below W.heap.size W w1) => shaped_any a c l (h.later hb)
  have hs2 := fun w1 (hb : Below W.heap.size W w1) => shaped_any a' c' l' (h'.later hb)
  have H := Lib.hid (And.intro hs1 (And.intro hs2 (And.intro (fun w => short_any ka hka w) (And.intro (fun w => short_any kb hkb w) hb0))))
  clear hs1 hs2 hb0 h h' hka hkb hT
  go_enter Tryd.func5, Tryd.ntmps5
  go_wp2_with fail
  refine haw.mono ?_
  rintro e w1 ⟨rfl, hb1⟩
  have mQ1 := (hb1.block W.heap.size (by rw [size_alloc]; omega)).trans (block_new W (.cells #[.string ka, .string kb, .bool ko] 44))
  have hb01 := H.out.2.2.2.2.trans (hb1.mono H.out.2.2.2.2.size)
  have H1 := Lib.hid (And.intro hb01 mQ1)
  clear haw hb1 hb01 mQ1
  go_wp2_with fail
  refine (H.out.1 w1 H1.out.1).mono ?_
  rintro e w2 ⟨v, pv, qv, rfl, hv⟩
  have hb02 := H1.out.1.trans (hv.out.2.2.2.mono H1.out.1.size)
  have hb2a := hb02.alloc hb02.size (.cells #[.int .i64 v.kind, .int .i64 v.int, .string v.text, .slice pv.a pv.n pv.c, .slice qv.a qv.n qv.c] 28)
  have mQ2 := (hv.out.2.2.2.block W.heap.size (Array.getElem?_eq_some_iff.1 H1.out.2).1).trans H1.out.2
  have H2 := Lib.hid (And.intro hb2a (And.intro mQ2 hv.out))
  clear hb02 hb2a mQ2 hv
  go_wp2_with fail
  refine (H.out.2.1 _ H2.out.1).mono ?_
  rintro e w3 ⟨x, px, qx, rfl, hx⟩
  have hb03 := H2.out.1.trans (hx.out.2.2.2.mono H2.out.1.size)
  have l23 : w2.heap.size < w3.heap.size := by have := hx.out.2.2.2.size; rw [size_alloc] at this; omega
  have lq2 := (Array.getElem?_eq_some_iff.1 H2.out.2.1).1
  have mQ3 := (hx.out.2.2.2.block W.heap.size (by rw [size_alloc]; omega)).trans ((block_old lq2).trans H2.out.2.1)
  have mV3 := (hx.out.2.2.2.block w2.heap.size (by rw [size_alloc]; omega)).trans (block_new w2 (.cells #[.int .i64 v.kind, .int .i64 v.int, .string v.text, .slice pv.a pv.n pv.c, .slice qv.a qv.n qv.c] 28))
  have hvv : HV (fun g => g < w3.heap.size) w3 v pv qv := H2.out.2.2.2.2.1.map (fun k hk hl => ⟨by omega, (hx.out.2.2.2.block k (by rw [size_alloc]; omega)).trans (block_old hl)⟩)
  have hxx : HV (fun g => g < w3.heap.size) w3 x px qx := hx.out.2.2.1.map (fun k hk hl => ⟨hl, rfl⟩)
  have lq3 := (Array.getElem?_eq_some_iff.1 mQ3).1
  have hsx : St W (w3.alloc (.cells #[.int .i64 x.kind, .int .i64 x.int, .string x.text, .slice px.a px.n px.c, .slice qx.a qx.n qx.c] 28)) w2.heap.size w3.heap.size v x pv qv px qx := ⟨hb03.alloc hb03.size _, (block_old l23).trans mV3, block_new w3 _, hvv.map (fun k hk hl => ⟨by rw [size_alloc]; omega, block_old hl⟩), hxx.map (fun k hk hl => ⟨by rw [size_alloc]; omega, block_old hl⟩)⟩
  have q0 : w3.cell? ⟨W.heap.size, 0, none⟩ = some (.string ka) := by rw [blk_cell mQ3]; rfl
  have q1 : w3.cell? ⟨W.heap.size, 1, none⟩ = some (.string kb) := by rw [blk_cell mQ3]; rfl
  have q2 : w3.cell? ⟨W.heap.size, 2, none⟩ = some (.bool ko) := by rw [blk_cell mQ3]; rfl
  have v0 : w3.cell? ⟨w2.heap.size, 0, none⟩ = some (.int .i64 v.kind) := by rw [blk_cell mV3]; rfl
  have v1 : w3.cell? ⟨w2.heap.size, 1, none⟩ = some (.int .i64 v.int) := by rw [blk_cell mV3]; rfl
  have v2 : w3.cell? ⟨w2.heap.size, 2, none⟩ = some (.string v.text) := by rw [blk_cell mV3]; rfl
  have v3 : w3.cell? ⟨w2.heap.size, 3, none⟩ = some (.slice pv.a pv.n pv.c) := by rw [blk_cell mV3]; rfl
  have v4 : w3.cell? ⟨w2.heap.size, 4, none⟩ = some (.slice qv.a qv.n qv.c) := by rw [blk_cell mV3]; rfl
  have hokv := ok_of_check H2.out.2.2.1
  have hokx := ok_of_check hx.out.1
  have HO := Lib.hid (And.intro hokv (And.intro hokx (And.intro (check_parts H2.out.2.2.1) hvv)))
  have H3 := Lib.hid hsx
  have hvn : qv.n = v.fields.length := hvv.2.len
  have Hvn := Lib.hid hvn
  clear hb03 mQ3 mV3 hvv hxx hx hsx hokv hokx hvn
  go_wp2_with fail
  refine (H.out.2.2.1 _).mono ?_
  rintro e w4 ⟨rfl, rfl⟩
  go_wp2_with fail
  refine (H.out.2.2.2.1 _).mono ?_
  rintro e w4 ⟨rfl, rfl⟩
  generalize cut12 ka = sa
  generalize cut12 kb = sb
  go_upto_region 6 with fail
  go_cut [43] from 36 to 43 (fun s wc => ∃ b : Bool, s = .bool b ∧ (b = true → 0 < qv.n) ∧ wc = (w3.alloc (.cells #[.int .i64 x.kind, .int .i64 x.int, .string x.text, .slice px.a px.n px.c, .slice qx.a qx.n qx.c] 28)))
  case first =>
    cases ko with
    | false =>
      go_wp2_with fail
      go_meet
      exact ⟨false, rfl, (fun h => by cases h), rfl⟩
    | true =>
      by_cases hz : 0 < qv.n
      · have hzz : (0 : Int) < (qv.n : Int) := by omega
        go_wp2_with fail
        go_meet
        exact ⟨true, rfl, fun _ => hz, rfl⟩
      · have hzz : ¬ (0 : Int) < (qv.n : Int) := by omega
        go_wp2_with fail
        go_meet
        exact ⟨false, rfl, (fun h => by cases h), rfl⟩
  case rest =>
  obtain ⟨b, rfl, hbq, rfl⟩ := hcut
  go_upto_if 43 with (fail)
  go_cut [10, 11] from 44 to 62 (fun s10 s11 wc => ∃ ka1 kb1 : ByteArray, s10 = .string ka1 ∧ s11 = .string kb1 ∧ Hid (St W wc w2.heap.size w3.heap.size v x pv qv px qx))
  case first =>
    cases b with
    | false =>
      go_wp2_with fail
      go_meet
      exact ⟨sa, sb, rfl, rfl, H3.out⟩
    | true =>
      have hpos := hbq rfl
      have hposz : (0 : Int) < (qv.n : Int) := by omega
      have hfl : 0 < v.fields.length := by have := Hvn.out; omega
      obtain ⟨g, r', t', ha, hg, -, hc, hh⟩ := HO.out.2.2.2.2.at hfl
      obtain ⟨f, hf⟩ : ∃ f, f = v.fields[0] := ⟨_, rfl⟩
      rw [← hf] at hc hh
      obtain ⟨qva, qvn, qvc⟩ := qv
      simp only at ha
      subst ha
      have x0 := hc 0 _ rfl
      have x1 := hc 1 _ rfl
      have x2 := hc 2 _ rfl
      have x3 := hc 3 _ rfl
      have x4 := hc 4 _ rfl
      have x5 := hc 5 _ rfl
      simp only [Nat.zero_mul, Nat.zero_add, Nat.add_zero] at x0 x1 x2 x3 x4 x5
      have htn : t'.n = f.2.fields.length := hh.2.len
      have HH := Lib.hid (And.intro hh htn)
      clear hc hh hf htn
      by_cases hy : 0 < t'.n
      · have hyz : (0 : Int) < (t'.n : Int) := by omega
        obtain ⟨g2, r2, t2, ha2, hg2, -, hc2, -⟩ := HH.out.1.2.at (i := 0) (by have := HH.out.2; omega)
        generalize f.2.fields[0]'(by have := HH.out.2; omega) = f2 at hc2
        have y0 := hc2 0 _ rfl
        simp only [Nat.zero_mul, Nat.add_zero] at y0
        obtain ⟨ta, tn, tc⟩ := t'
        simp only at ha2
        subst ha2
        clear hc2
        go_wp2_with fail
        go_meet
        exact ⟨f.1, f2.1, rfl, rfl, H3.out.later ((Below.refl _ _).alloc (Nat.le_refl _) _)⟩
      · have hyz : ¬ (0 : Int) < (t'.n : Int) := by omega
        go_wp2_with fail
        go_meet
        exact ⟨f.1, sb, rfl, rfl, H3.out.later ((Below.refl _ _).alloc (Nat.le_refl _) _)⟩
  case rest =>
  obtain ⟨ka1, kb1, rfl, rfl, HC⟩ := hcut
  have v0 : wc.cell? ⟨w2.heap.size, 0, none⟩ = some (.int .i64 v.kind) := by rw [blk_cell HC.out.2.1]; rfl
  have v1 : wc.cell? ⟨w2.heap.size, 1, none⟩ = some (.int .i64 v.int) := by rw [blk_cell HC.out.2.1]; rfl
  have v2 : wc.cell? ⟨w2.heap.size, 2, none⟩ = some (.string v.text) := by rw [blk_cell HC.out.2.1]; rfl
  have v3 : wc.cell? ⟨w2.heap.size, 3, none⟩ = some (.slice pv.a pv.n pv.c) := by rw [blk_cell HC.out.2.1]; rfl
  have v4 : wc.cell? ⟨w2.heap.size, 4, none⟩ = some (.slice qv.a qv.n qv.c) := by rw [blk_cell HC.out.2.1]; rfl
  have x0 : wc.cell? ⟨w3.heap.size, 0, none⟩ = some (.int .i64 x.kind) := by rw [blk_cell HC.out.2.2.1]; rfl
  have x1 : wc.cell? ⟨w3.heap.size, 1, none⟩ = some (.int .i64 x.int) := by rw [blk_cell HC.out.2.2.1]; rfl
  have x2 : wc.cell? ⟨w3.heap.size, 2, none⟩ = some (.string x.text) := by rw [blk_cell HC.out.2.2.1]; rfl
  have x3 : wc.cell? ⟨w3.heap.size, 3, none⟩ = some (.slice px.a px.n px.c) := by rw [blk_cell HC.out.2.2.1]; rfl
  have x4 : wc.cell? ⟨w3.heap.size, 4, none⟩ = some (.slice qx.a qx.n qx.c) := by rw [blk_cell HC.out.2.2.1]; rfl
  have lvc := (Array.getElem?_eq_some_iff.1 HC.out.2.1).1
  have lxc := (Array.getElem?_eq_some_iff.1 HC.out.2.2.1).1
  clear q0 q1 q2
  have HG := Lib.hid (fun (w : World) (hs : St W w w2.heap.size w3.heap.size v x pv qv px qx) => (show (Calls Tryd.prog 27 #[.agg #[.int .i64 v.kind, .int .i64 v.int, .string v.text, .slice pv.a pv.n pv.c, .slice qv.a qv.n qv.c], .slice (some ⟨w.heap.size, 0, none⟩) 2 2] (w.alloc (.cells #[.string ka1, .string kb1] 9)) (fun e w' => ∃ p q : Sl, e = .returned (.tuple #[.agg #[.int .i64 (getR v [ka1, kb1]).1.kind, .int .i64 (getR v [ka1, kb1]).1.int, .string (getR v [ka1, kb1]).1.text, .slice p.a p.n p.c, .slice q.a q.n q.c], .bool (getR v [ka1, kb1]).2]) ∧
        HV (fun g => g < w'.heap.size) w' (getR v [ka1, kb1]).1 p q ∧ Below w.heap.size w w')) ∧
      (Calls Tryd.prog 28 #[.agg #[.int .i64 v.kind, .int .i64 v.int, .string v.text, .slice pv.a pv.n pv.c, .slice qv.a qv.n qv.c], .slice (some ⟨w.heap.size, 0, none⟩) 2 2] (w.alloc (.cells #[.string ka1, .string kb1] 9)) (fun e w' => ∃ p q : Sl, e = .returned (.tuple #[.agg #[.int .i64 (getR v [ka1, kb1]).1.kind, .int .i64 (getR v [ka1, kb1]).1.int, .string (getR v [ka1, kb1]).1.text, .slice p.a p.n p.c, .slice q.a q.n q.c], .bool (getR v [ka1, kb1]).2]) ∧
        HV (fun g => g < w'.heap.size) w' (getR v [ka1, kb1]).1 p q ∧ Below w.heap.size w w')) from by
    have hb := (Below.refl w.heap.size w).alloc (Nat.le_refl _) (.cells #[.string ka1, .string kb1] 9)
    have hv := (hs.later hb).2.2.2.1
    have hk : ∀ j (h : j < [ka1, kb1].length), (w.alloc (.cells #[.string ka1, .string kb1] 9)).cell? ⟨w.heap.size, j, none⟩ = some (.string [ka1, kb1][j]) := fun j hj => by
      rw [blk_cell (block_new w _)]
      match j, hj with
      | 0, _ => rfl
      | 1, _ => rfl
    have g1 := Get_any v (small_of_ok v HO.out.1) [ka1, kb1] (by show 2 ≤ 100; omega) w.heap.size 2 _ _ pv qv (fun g hg => hg) hv (by rw [size_alloc]; omega) hk
    have g2 := rGet_any v [ka1, kb1] (by show 2 ≤ 100; omega) w.heap.size 2 _ _ pv qv (fun g hg => hg) hv (by rw [size_alloc]; omega) hk
    exact ⟨g1.mono (fun e w' ⟨p, q, he, hh, hb'⟩ => ⟨p, q, he, hh.map (fun k _ hl => ⟨hl, rfl⟩), hb.trans (hb'.mono hb.size)⟩), g2.mono (fun e w' ⟨p, q, he, hh, hb'⟩ => ⟨p, q, he, hh.map (fun k _ hl => ⟨hl, rfl⟩), hb.trans (hb'.mono hb.size)⟩)⟩))
  generalize (getR v [ka1, kb1]) = y at HG
  obtain ⟨u, ub⟩ := y
  simp only at HG
  go_wp2_with fail
  refine ((HG.out wc HC.out).1).mono ?_
  rintro e w5 ⟨pc, qc, rfl, hu5, hb5⟩
  have hs5 := (HC.out.later hb5)
  have hb5a := (Below.refl w5.heap.size w5).alloc (Nat.le_refl _) (.cells #[.int .i64 u.kind, .int .i64 u.int, .string u.text, .slice pc.a pc.n pc.c, .slice qc.a qc.n qc.c] 28)
  have H5 := Lib.hid (And.intro (hs5.later hb5a) (And.intro hu5 (block_new w5 (.cells #[.int .i64 u.kind, .int .i64 u.int, .string u.text, .slice pc.a pc.n pc.c, .slice qc.a qc.n qc.c] 28))))
  clear v0 v1 v2 v3 v4 x0 x1 x2 x3 x4 lvc lxc
  have l25 := (Array.getElem?_eq_some_iff.1 hs5.2.1).1
  have v0 : w5.cell? ⟨w2.heap.size, 0, none⟩ = some (.int .i64 v.kind) := by rw [blk_cell hs5.2.1]; rfl
  have v1 : w5.cell? ⟨w2.heap.size, 1, none⟩ = some (.int .i64 v.int) := by rw [blk_cell hs5.2.1]; rfl
  have v2 : w5.cell? ⟨w2.heap.size, 2, none⟩ = some (.string v.text) := by rw [blk_cell hs5.2.1]; rfl
  have v3 : w5.cell? ⟨w2.heap.size, 3, none⟩ = some (.slice pv.a pv.n pv.c) := by rw [blk_cell hs5.2.1]; rfl
  have v4 : w5.cell? ⟨w2.heap.size, 4, none⟩ = some (.slice qv.a qv.n qv.c) := by rw [blk_cell hs5.2.1]; rfl
  clear hs5 hb5 hb5a hu5
  go_wp2_with fail
  have hg2 := (HG.out _ H5.out.1).2
  rw [size_alloc] at hg2
  refine hg2.mono ?_
  rintro e w6 ⟨pd, qd, rfl, hu6, hb6⟩
  replace hb6 : Below (w5.alloc (.cells #[.int .i64 u.kind, .int .i64 u.int, .string u.text, .slice pc.a pc.n pc.c, .slice qc.a qc.n qc.c] 28)).heap.size (w5.alloc (.cells #[.int .i64 u.kind, .int .i64 u.int, .string u.text, .slice pc.a pc.n pc.c, .slice qc.a qc.n qc.c] 28)) w6 := by rw [size_alloc]; exact hb6
  have hs6 := H5.out.1.later hb6
  have mC6 := (hb6.block w5.heap.size (by rw [size_alloc]; omega)).trans H5.out.2.2
  have y0 : w6.cell? ⟨w5.heap.size, 0, none⟩ = some (.int .i64 u.kind) := by rw [blk_cell mC6]; rfl
  have y1 : w6.cell? ⟨w5.heap.size, 1, none⟩ = some (.int .i64 u.int) := by rw [blk_cell mC6]; rfl
  have y2 : w6.cell? ⟨w5.heap.size, 2, none⟩ = some (.string u.text) := by rw [blk_cell mC6]; rfl
  have y3 : w6.cell? ⟨w5.heap.size, 3, none⟩ = some (.slice pc.a pc.n pc.c) := by rw [blk_cell mC6]; rfl
  have y4 : w6.cell? ⟨w5.heap.size, 4, none⟩ = some (.slice qc.a qc.n qc.c) := by rw [blk_cell mC6]; rfl
  have l56 := (Array.getElem?_eq_some_iff.1 mC6).1
  have hb6a := (Below.refl w6.heap.size w6).alloc (Nat.le_refl _) (.cells #[.int .i64 u.kind, .int .i64 u.int, .string u.text, .slice pd.a pd.n pd.c, .slice qd.a qd.n qd.c] 28)
  have hu5 : HV (fun g => g < (w6.alloc (.cells #[.int .i64 u.kind, .int .i64 u.int, .string u.text, .slice pd.a pd.n pd.c, .slice qd.a qd.n qd.c] 28)).heap.size) (w6.alloc (.cells #[.int .i64 u.kind, .int .i64 u.int, .string u.text, .slice pd.a pd.n pd.c, .slice qd.a qd.n qd.c] 28)) u pc qc := H5.out.2.1.map (fun k hk hl => ⟨by rw [size_alloc]; omega, (block_old (by omega)).trans ((hb6.block k (by rw [size_alloc]; omega)).trans (block_old hl))⟩)
  have heq := Equal_any u u _ _ pc qc pd qd (fun g hg => hg) hu5 (hu6.map (fun k hk hl => ⟨by rw [size_alloc]; omega, block_old hl⟩))
  have H6 := Lib.hid (hs6.later hb6a)
  clear hs6 hb6 mC6 hu5 hu6 hb6a hg2 v0 v1 v2 v3 v4
  go_wp2_with fail
  refine heq.mono ?_
  rintro e w7 ⟨⟨z, rfl, hz⟩, hb7⟩
  obtain rfl : z = true := by simpa using hz
  have hs7 := H6.out.later hb7
  have H7 := Lib.hid hs7
  have v0 : w7.cell? ⟨w2.heap.size, 0, none⟩ = some (.int .i64 v.kind) := by rw [blk_cell H7.out.2.1]; rfl
  have v1 : w7.cell? ⟨w2.heap.size, 1, none⟩ = some (.int .i64 v.int) := by rw [blk_cell H7.out.2.1]; rfl
  have v2 : w7.cell? ⟨w2.heap.size, 2, none⟩ = some (.string v.text) := by rw [blk_cell H7.out.2.1]; rfl
  have v3 : w7.cell? ⟨w2.heap.size, 3, none⟩ = some (.slice pv.a pv.n pv.c) := by rw [blk_cell H7.out.2.1]; rfl
  have v4 : w7.cell? ⟨w2.heap.size, 4, none⟩ = some (.slice qv.a qv.n qv.c) := by rw [blk_cell H7.out.2.1]; rfl
  have x0 : w7.cell? ⟨w3.heap.size, 0, none⟩ = some (.int .i64 x.kind) := by rw [blk_cell H7.out.2.2.1]; rfl
  have x1 : w7.cell? ⟨w3.heap.size, 1, none⟩ = some (.int .i64 x.int) := by rw [blk_cell H7.out.2.2.1]; rfl
  have x2 : w7.cell? ⟨w3.heap.size, 2, none⟩ = some (.string x.text) := by rw [blk_cell H7.out.2.2.1]; rfl
  have x3 : w7.cell? ⟨w3.heap.size, 3, none⟩ = some (.slice px.a px.n px.c) := by rw [blk_cell H7.out.2.2.1]; rfl
  have x4 : w7.cell? ⟨w3.heap.size, 4, none⟩ = some (.slice qx.a qx.n qx.c) := by rw [blk_cell H7.out.2.2.1]; rfl
  have lv7 := (Array.getElem?_eq_some_iff.1 hs7.2.1).1
  have lx7 := (Array.getElem?_eq_some_iff.1 hs7.2.2.1).1
  clear hz hb7 heq y0 y1 y2 y3 y4 hs7
  go_wp2_with fail
  go_cut [18] from 82 to 90 (fun s wc => s = .bool true ∧ Hid (St W wc w2.heap.size w3.heap.size v x pv qv px qx))
  case first =>
    have HD8 := Lib.hid (show St W w7.drew w2.heap.size w3.heap.size v x pv qv px qx from ⟨H7.out.1.drew, H7.out.2⟩)
    have HU8 := Lib.hid (show (putV v ka1 x).kind = v.kind ∧ (putV v ka1 x).int = v.int ∧ (putV v ka1 x).text = v.text from by unfold putV; split <;> exact ⟨rfl, rfl, rfl⟩)
    have HP8 := Lib.hid (fun (w : World) (hs : St W w w2.heap.size w3.heap.size v x pv qv px qx) => (show (Calls Tryd.prog 29 #[.agg #[.int .i64 v.kind, .int .i64 v.int, .string v.text, .slice pv.a pv.n pv.c, .slice qv.a qv.n qv.c], .string ka1, .agg #[.int .i64 x.kind, .int .i64 x.int, .string x.text, .slice px.a px.n px.c, .slice qx.a qx.n qx.c]] w (fun e w' => ∃ p q : Sl, e = .returned (.agg #[.int .i64 v.kind, .int .i64 v.int, .string v.text, .slice p.a p.n p.c, .slice q.a q.n q.c]) ∧ HV (fun g => g < w'.heap.size) w' (putV v ka1 x) p q ∧ Below w.heap.size w w')) ∧ (Calls Tryd.prog 30 #[.agg #[.int .i64 v.kind, .int .i64 v.int, .string v.text, .slice pv.a pv.n pv.c, .slice qv.a qv.n qv.c], .string ka1, .agg #[.int .i64 x.kind, .int .i64 x.int, .string x.text, .slice px.a px.n px.c, .slice qx.a qx.n qx.c]] w (fun e w' => ∃ p q : Sl, e = .returned (.agg #[.int .i64 v.kind, .int .i64 v.int, .string v.text, .slice p.a p.n p.c, .slice q.a q.n q.c]) ∧ HV (fun g => g < w'.heap.size) w' (putV v ka1 x) p q ∧ Below w.heap.size w w')) from
      ⟨(Put_any v ka1 x (small_of_ok v HO.out.1) (small_of_ok x HO.out.2.1) _ w pv qv px qx (fun g hg => hg) hs.2.2.2.1 hs.2.2.2.2).mono (fun e w' ⟨u, p, q, he, hu, hh, hb⟩ => ⟨p, q, he, (put_put ((okC_eq v).1 HO.out.1).2.2.1 hu) ▸ hh.map (fun k _ hl => ⟨hl, rfl⟩), hb⟩),
       (rPut_any v ka1 x ((okC_eq v).1 HO.out.1).2.1 _ w pv qv px qx (fun g hg => hg) hs.2.2.2.1 hs.2.2.2.2).mono (fun e w' ⟨q, he, hh, hb⟩ => ⟨pv, q, he, hh.map (fun k _ hl => ⟨hl, rfl⟩), hb⟩)⟩))
    go_region_law ((go_simp; go_wp2_with (first
      | (go_at_call 29; (with_reducible show Calls Tryd.prog 29 #[.agg #[.int .i64 v.kind, .int .i64 v.int, .string v.text, .slice pv.a pv.n pv.c, .slice qv.a qv.n qv.c], .string ka1, .agg #[.int .i64 x.kind, .int .i64 x.int, .string x.text, .slice px.a px.n px.c, .slice qx.a qx.n qx.c]] (World.drew _) _); refine ((HP8.out _ HD8.out).1).mono ?_; rintro e w8 ⟨ap8, aq8, rfl, hu8, hb8⟩; have hs8 := HD8.out.later hb8; have v0 : w8.cell? ⟨w2.heap.size, 0, none⟩ = some (.int .i64 v.kind) := (by rw [blk_cell hs8.2.1]; rfl); have v1 : w8.cell? ⟨w2.heap.size, 1, none⟩ = some (.int .i64 v.int) := (by rw [blk_cell hs8.2.1]; rfl); have v2 : w8.cell? ⟨w2.heap.size, 2, none⟩ = some (.string v.text) := (by rw [blk_cell hs8.2.1]; rfl); have v3 : w8.cell? ⟨w2.heap.size, 3, none⟩ = some (.slice pv.a pv.n pv.c) := (by rw [blk_cell hs8.2.1]; rfl); have v4 : w8.cell? ⟨w2.heap.size, 4, none⟩ = some (.slice qv.a qv.n qv.c) := (by rw [blk_cell hs8.2.1]; rfl); have x0 : w8.cell? ⟨w3.heap.size, 0, none⟩ = some (.int .i64 x.kind) := (by rw [blk_cell hs8.2.2.1]; rfl); have x1 : w8.cell? ⟨w3.heap.size, 1, none⟩ = some (.int .i64 x.int) := (by rw [blk_cell hs8.2.2.1]; rfl); have x2 : w8.cell? ⟨w3.heap.size, 2, none⟩ = some (.string x.text) := (by rw [blk_cell hs8.2.2.1]; rfl); have x3 : w8.cell? ⟨w3.heap.size, 3, none⟩ = some (.slice px.a px.n px.c) := (by rw [blk_cell hs8.2.2.1]; rfl); have x4 : w8.cell? ⟨w3.heap.size, 4, none⟩ = some (.slice qx.a qx.n qx.c) := (by rw [blk_cell hs8.2.2.1]; rfl); have lv8 := (Array.getElem?_eq_some_iff.1 hs8.2.1).1; have lx8 := (Array.getElem?_eq_some_iff.1 hs8.2.2.1).1; have H8 := Lib.hid (And.intro hs8 hu8); clear hs8 hu8 hb8)
      | (go_at_call 30; (with_reducible show Calls Tryd.prog 30 #[.agg #[.int .i64 v.kind, .int .i64 v.int, .string v.text, .slice pv.a pv.n pv.c, .slice qv.a qv.n qv.c], .string ka1, .agg #[.int .i64 x.kind, .int .i64 x.int, .string x.text, .slice px.a px.n px.c, .slice qx.a qx.n qx.c]] (World.drew _) _); refine ((HP8.out _ HD8.out).2).mono ?_; rintro e w8 ⟨rp8, rq8, rfl, hu8, hb8⟩; have hs8 := HD8.out.later hb8; have v0 : w8.cell? ⟨w2.heap.size, 0, none⟩ = some (.int .i64 v.kind) := (by rw [blk_cell hs8.2.1]; rfl); have v1 : w8.cell? ⟨w2.heap.size, 1, none⟩ = some (.int .i64 v.int) := (by rw [blk_cell hs8.2.1]; rfl); have v2 : w8.cell? ⟨w2.heap.size, 2, none⟩ = some (.string v.text) := (by rw [blk_cell hs8.2.1]; rfl); have v3 : w8.cell? ⟨w2.heap.size, 3, none⟩ = some (.slice pv.a pv.n pv.c) := (by rw [blk_cell hs8.2.1]; rfl); have v4 : w8.cell? ⟨w2.heap.size, 4, none⟩ = some (.slice qv.a qv.n qv.c) := (by rw [blk_cell hs8.2.1]; rfl); have x0 : w8.cell? ⟨w3.heap.size, 0, none⟩ = some (.int .i64 x.kind) := (by rw [blk_cell hs8.2.2.1]; rfl); have x1 : w8.cell? ⟨w3.heap.size, 1, none⟩ = some (.int .i64 x.int) := (by rw [blk_cell hs8.2.2.1]; rfl); have x2 : w8.cell? ⟨w3.heap.size, 2, none⟩ = some (.string x.text) := (by rw [blk_cell hs8.2.2.1]; rfl); have x3 : w8.cell? ⟨w3.heap.size, 3, none⟩ = some (.slice px.a px.n px.c) := (by rw [blk_cell hs8.2.2.1]; rfl); have x4 : w8.cell? ⟨w3.heap.size, 4, none⟩ = some (.slice qx.a qx.n qx.c) := (by rw [blk_cell hs8.2.2.1]; rfl); have lv8 := (Array.getElem?_eq_some_iff.1 hs8.2.1).1; have lx8 := (Array.getElem?_eq_some_iff.1 hs8.2.2.1).1; have H8 := Lib.hid (And.intro hs8 hu8); clear hs8 hu8 hb8)
      | (go_at_call 29; (with_reducible show Calls Tryd.prog 29 #[.agg #[.int .i64 v.kind, .int .i64 v.int, .string v.text, .slice pv.a pv.n pv.c, .slice qv.a qv.n qv.c], .string ka1, .agg #[.int .i64 x.kind, .int .i64 x.int, .string x.text, .slice px.a px.n px.c, .slice qx.a qx.n qx.c]] w8 _); refine ((HP8.out _ H8.out.1).1).mono ?_; rintro e w9 ⟨ap8, aq8, rfl, hu9, hb9⟩; have hs9 := H8.out.1.later hb9; have H9 := Lib.hid (And.intro hs9 (And.intro hu9 hb9)); clear hs9 hu9 hb9)
      | (go_at_call 30; (with_reducible show Calls Tryd.prog 30 #[.agg #[.int .i64 v.kind, .int .i64 v.int, .string v.text, .slice pv.a pv.n pv.c, .slice qv.a qv.n qv.c], .string ka1, .agg #[.int .i64 x.kind, .int .i64 x.int, .string x.text, .slice px.a px.n px.c, .slice qx.a qx.n qx.c]] w8 _); refine ((HP8.out _ H8.out.1).2).mono ?_; rintro e w9 ⟨rp8, rq8, rfl, hu9, hb9⟩; have hs9 := H8.out.1.later hb9; have H9 := Lib.hid (And.intro hs9 (And.intro hu9 hb9)); clear hs9 hu9 hb9)
      | (go_at_call 13; have hs := Equal_any (putV v ka1 x) (putV v ka1 x) (fun g => g < w9.heap.size) w9 ap8 aq8 rp8 rq8 (fun g hg => hg) (H8.out.2.map (fun k _ hl => ⟨Nat.lt_of_lt_of_le hl H9.out.2.2.size, H9.out.2.2.block k hl⟩)) (H9.out.2.1); rw [HU8.out.1, HU8.out.2.1, HU8.out.2.2] at hs; refine hs.mono ?_; rintro e w10 ⟨⟨z, rfl, hz⟩, hb10⟩; obtain rfl : z = true := (by simpa using hz); have hs10 := H9.out.1.later hb10; have H10 := Lib.hid hs10; clear hs10 hb10 hz hs)
      | (go_at_call 13; have hs := Equal_any (putV v ka1 x) (putV v ka1 x) (fun g => g < w9.heap.size) w9 ap8 aq8 rp8 rq8 (fun g hg => hg) (H9.out.2.1) (H8.out.2.map (fun k _ hl => ⟨Nat.lt_of_lt_of_le hl H9.out.2.2.size, H9.out.2.2.block k hl⟩)); rw [HU8.out.1, HU8.out.2.1, HU8.out.2.2] at hs; refine hs.mono ?_; rintro e w10 ⟨⟨z, rfl, hz⟩, hb10⟩; obtain rfl : z = true := (by simpa using hz); have hs10 := H9.out.1.later hb10; have H10 := Lib.hid hs10; clear hs10 hb10 hz hs))))
    all_goals
      go_wp2_with fail
      go_meet
      exact ⟨rfl, H10.out⟩
  case rest =>
  obtain ⟨rfl, HA⟩ := hcut
  obtain ⟨wa, rfl⟩ : ∃ w', w' = wc := ⟨wc, rfl⟩
  clear v0 v1 v2 v3 v4 x0 x1 x2 x3 x4 lv7 lx7
  have v0 : wa.cell? ⟨w2.heap.size, 0, none⟩ = some (.int .i64 v.kind) := by rw [blk_cell HA.out.2.1]; rfl
  have v1 : wa.cell? ⟨w2.heap.size, 1, none⟩ = some (.int .i64 v.int) := by rw [blk_cell HA.out.2.1]; rfl
  have v2 : wa.cell? ⟨w2.heap.size, 2, none⟩ = some (.string v.text) := by rw [blk_cell HA.out.2.1]; rfl
  have v3 : wa.cell? ⟨w2.heap.size, 3, none⟩ = some (.slice pv.a pv.n pv.c) := by rw [blk_cell HA.out.2.1]; rfl
  have v4 : wa.cell? ⟨w2.heap.size, 4, none⟩ = some (.slice qv.a qv.n qv.c) := by rw [blk_cell HA.out.2.1]; rfl
  have x0 : wa.cell? ⟨w3.heap.size, 0, none⟩ = some (.int .i64 x.kind) := by rw [blk_cell HA.out.2.2.1]; rfl
  have x1 : wa.cell? ⟨w3.heap.size, 1, none⟩ = some (.int .i64 x.int) := by rw [blk_cell HA.out.2.2.1]; rfl
  have x2 : wa.cell? ⟨w3.heap.size, 2, none⟩ = some (.string x.text) := by rw [blk_cell HA.out.2.2.1]; rfl
  have x3 : wa.cell? ⟨w3.heap.size, 3, none⟩ = some (.slice px.a px.n px.c) := by rw [blk_cell HA.out.2.2.1]; rfl
  have x4 : wa.cell? ⟨w3.heap.size, 4, none⟩ = some (.slice qx.a qx.n qx.c) := by rw [blk_cell HA.out.2.2.1]; rfl
  have lva := (Array.getElem?_eq_some_iff.1 HA.out.2.1).1
  have lxa := (Array.getElem?_eq_some_iff.1 HA.out.2.2.1).1
  go_wp2_with fail
  go_cut [19] from 91 to 97 (fun s wc => s = .bool true ∧ Hid (St W wc w2.heap.size w3.heap.size v x pv qv px qx))
  case first =>
    have HD11 := Lib.hid (show St W wa.drew w2.heap.size w3.heap.size v x pv qv px qx from ⟨HA.out.1.drew, HA.out.2⟩)
    have HU11 := Lib.hid (show (dropV v ka1).kind = v.kind ∧ (dropV v ka1).int = v.int ∧ (dropV v ka1).text = v.text from by unfold dropV; split <;> exact ⟨rfl, rfl, rfl⟩)
    have HP11 := Lib.hid (fun (w : World) (hs : St W w w2.heap.size w3.heap.size v x pv qv px qx) => (show (Calls Tryd.prog 31 #[.agg #[.int .i64 v.kind, .int .i64 v.int, .string v.text, .slice pv.a pv.n pv.c, .slice qv.a qv.n qv.c], .string ka1] w (fun e w' => ∃ p q : Sl, e = .returned (.agg #[.int .i64 v.kind, .int .i64 v.int, .string v.text, .slice p.a p.n p.c, .slice q.a q.n q.c]) ∧ HV (fun g => g < w'.heap.size) w' (dropV v ka1) p q ∧ Below w.heap.size w w')) ∧ (Calls Tryd.prog 32 #[.agg #[.int .i64 v.kind, .int .i64 v.int, .string v.text, .slice pv.a pv.n pv.c, .slice qv.a qv.n qv.c], .string ka1] w (fun e w' => ∃ p q : Sl, e = .returned (.agg #[.int .i64 v.kind, .int .i64 v.int, .string v.text, .slice p.a p.n p.c, .slice q.a q.n q.c]) ∧ HV (fun g => g < w'.heap.size) w' (dropV v ka1) p q ∧ Below w.heap.size w w')) from
      ⟨(Drop_any v ka1 (small_of_ok v HO.out.1) _ w pv qv (fun g hg => hg) hs.2.2.2.1).mono (fun e w' ⟨p, q, he, hh, hb⟩ => ⟨p, q, he, hh.map (fun k _ hl => ⟨hl, rfl⟩), hb⟩),
       (rDrop_any v ka1 ((okC_eq v).1 HO.out.1).2.1 _ w pv qv (fun g hg => hg) hs.2.2.2.1).mono (fun e w' ⟨q, he, hh, hb⟩ => ⟨pv, q, he, hh.map (fun k _ hl => ⟨hl, rfl⟩), hb⟩)⟩))
    go_region_law ((go_simp; go_wp2_with (first
      | (go_at_call 31; (with_reducible show Calls Tryd.prog 31 #[.agg #[.int .i64 v.kind, .int .i64 v.int, .string v.text, .slice pv.a pv.n pv.c, .slice qv.a qv.n qv.c], .string ka1] (World.drew _) _); refine ((HP11.out _ HD11.out).1).mono ?_; rintro e w11 ⟨ap11, aq11, rfl, hu11, hb11⟩; have hs11 := HD11.out.later hb11; have v0 : w11.cell? ⟨w2.heap.size, 0, none⟩ = some (.int .i64 v.kind) := (by rw [blk_cell hs11.2.1]; rfl); have v1 : w11.cell? ⟨w2.heap.size, 1, none⟩ = some (.int .i64 v.int) := (by rw [blk_cell hs11.2.1]; rfl); have v2 : w11.cell? ⟨w2.heap.size, 2, none⟩ = some (.string v.text) := (by rw [blk_cell hs11.2.1]; rfl); have v3 : w11.cell? ⟨w2.heap.size, 3, none⟩ = some (.slice pv.a pv.n pv.c) := (by rw [blk_cell hs11.2.1]; rfl); have v4 : w11.cell? ⟨w2.heap.size, 4, none⟩ = some (.slice qv.a qv.n qv.c) := (by rw [blk_cell hs11.2.1]; rfl); have x0 : w11.cell? ⟨w3.heap.size, 0, none⟩ = some (.int .i64 x.kind) := (by rw [blk_cell hs11.2.2.1]; rfl); have x1 : w11.cell? ⟨w3.heap.size, 1, none⟩ = some (.int .i64 x.int) := (by rw [blk_cell hs11.2.2.1]; rfl); have x2 : w11.cell? ⟨w3.heap.size, 2, none⟩ = some (.string x.text) := (by rw [blk_cell hs11.2.2.1]; rfl); have x3 : w11.cell? ⟨w3.heap.size, 3, none⟩ = some (.slice px.a px.n px.c) := (by rw [blk_cell hs11.2.2.1]; rfl); have x4 : w11.cell? ⟨w3.heap.size, 4, none⟩ = some (.slice qx.a qx.n qx.c) := (by rw [blk_cell hs11.2.2.1]; rfl); have lv11 := (Array.getElem?_eq_some_iff.1 hs11.2.1).1; have lx11 := (Array.getElem?_eq_some_iff.1 hs11.2.2.1).1; have H11 := Lib.hid (And.intro hs11 hu11); clear hs11 hu11 hb11)
      | (go_at_call 32; (with_reducible show Calls Tryd.prog 32 #[.agg #[.int .i64 v.kind, .int .i64 v.int, .string v.text, .slice pv.a pv.n pv.c, .slice qv.a qv.n qv.c], .string ka1] (World.drew _) _); refine ((HP11.out _ HD11.out).2).mono ?_; rintro e w11 ⟨rp11, rq11, rfl, hu11, hb11⟩; have hs11 := HD11.out.later hb11; have v0 : w11.cell? ⟨w2.heap.size, 0, none⟩ = some (.int .i64 v.kind) := (by rw [blk_cell hs11.2.1]; rfl); have v1 : w11.cell? ⟨w2.heap.size, 1, none⟩ = some (.int .i64 v.int) := (by rw [blk_cell hs11.2.1]; rfl); have v2 : w11.cell? ⟨w2.heap.size, 2, none⟩ = some (.string v.text) := (by rw [blk_cell hs11.2.1]; rfl); have v3 : w11.cell? ⟨w2.heap.size, 3, none⟩ = some (.slice pv.a pv.n pv.c) := (by rw [blk_cell hs11.2.1]; rfl); have v4 : w11.cell? ⟨w2.heap.size, 4, none⟩ = some (.slice qv.a qv.n qv.c) := (by rw [blk_cell hs11.2.1]; rfl); have x0 : w11.cell? ⟨w3.heap.size, 0, none⟩ = some (.int .i64 x.kind) := (by rw [blk_cell hs11.2.2.1]; rfl); have x1 : w11.cell? ⟨w3.heap.size, 1, none⟩ = some (.int .i64 x.int) := (by rw [blk_cell hs11.2.2.1]; rfl); have x2 : w11.cell? ⟨w3.heap.size, 2, none⟩ = some (.string x.text) := (by rw [blk_cell hs11.2.2.1]; rfl); have x3 : w11.cell? ⟨w3.heap.size, 3, none⟩ = some (.slice px.a px.n px.c) := (by rw [blk_cell hs11.2.2.1]; rfl); have x4 : w11.cell? ⟨w3.heap.size, 4, none⟩ = some (.slice qx.a qx.n qx.c) := (by rw [blk_cell hs11.2.2.1]; rfl); have lv11 := (Array.getElem?_eq_some_iff.1 hs11.2.1).1; have lx11 := (Array.getElem?_eq_some_iff.1 hs11.2.2.1).1; have H11 := Lib.hid (And.intro hs11 hu11); clear hs11 hu11 hb11)
      | (go_at_call 31; (with_reducible show Calls Tryd.prog 31 #[.agg #[.int .i64 v.kind, .int .i64 v.int, .string v.text, .slice pv.a pv.n pv.c, .slice qv.a qv.n qv.c], .string ka1] w11 _); refine ((HP11.out _ H11.out.1).1).mono ?_; rintro e w12 ⟨ap11, aq11, rfl, hu12, hb12⟩; have hs12 := H11.out.1.later hb12; have H12 := Lib.hid (And.intro hs12 (And.intro hu12 hb12)); clear hs12 hu12 hb12)
      | (go_at_call 32; (with_reducible show Calls Tryd.prog 32 #[.agg #[.int .i64 v.kind, .int .i64 v.int, .string v.text, .slice pv.a pv.n pv.c, .slice qv.a qv.n qv.c], .string ka1] w11 _); refine ((HP11.out _ H11.out.1).2).mono ?_; rintro e w12 ⟨rp11, rq11, rfl, hu12, hb12⟩; have hs12 := H11.out.1.later hb12; have H12 := Lib.hid (And.intro hs12 (And.intro hu12 hb12)); clear hs12 hu12 hb12)
      | (go_at_call 13; have hs := Equal_any (dropV v ka1) (dropV v ka1) (fun g => g < w12.heap.size) w12 ap11 aq11 rp11 rq11 (fun g hg => hg) (H11.out.2.map (fun k _ hl => ⟨Nat.lt_of_lt_of_le hl H12.out.2.2.size, H12.out.2.2.block k hl⟩)) (H12.out.2.1); rw [HU11.out.1, HU11.out.2.1, HU11.out.2.2] at hs; refine hs.mono ?_; rintro e w13 ⟨⟨z, rfl, hz⟩, hb13⟩; obtain rfl : z = true := (by simpa using hz); have hs13 := H12.out.1.later hb13; have H13 := Lib.hid hs13; clear hs13 hb13 hz hs)
      | (go_at_call 13; have hs := Equal_any (dropV v ka1) (dropV v ka1) (fun g => g < w12.heap.size) w12 ap11 aq11 rp11 rq11 (fun g hg => hg) (H12.out.2.1) (H11.out.2.map (fun k _ hl => ⟨Nat.lt_of_lt_of_le hl H12.out.2.2.size, H12.out.2.2.block k hl⟩)); rw [HU11.out.1, HU11.out.2.1, HU11.out.2.2] at hs; refine hs.mono ?_; rintro e w13 ⟨⟨z, rfl, hz⟩, hb13⟩; obtain rfl : z = true := (by simpa using hz); have hs13 := H12.out.1.later hb13; have H13 := Lib.hid hs13; clear hs13 hb13 hz hs))))
    all_goals
      go_wp2_with fail
      go_meet
      exact ⟨rfl, H13.out⟩
  case rest =>
  obtain ⟨rfl, HB⟩ := hcut
  clear v0 v1 v2 v3 v4 x0 x1 x2 x3 x4 lva lxa
  have v0 : wc.cell? ⟨w2.heap.size, 0, none⟩ = some (.int .i64 v.kind) := by rw [blk_cell HB.out.2.1]; rfl
  have v1 : wc.cell? ⟨w2.heap.size, 1, none⟩ = some (.int .i64 v.int) := by rw [blk_cell HB.out.2.1]; rfl
  have v2 : wc.cell? ⟨w2.heap.size, 2, none⟩ = some (.string v.text) := by rw [blk_cell HB.out.2.1]; rfl
  have v3 : wc.cell? ⟨w2.heap.size, 3, none⟩ = some (.slice pv.a pv.n pv.c) := by rw [blk_cell HB.out.2.1]; rfl
  have v4 : wc.cell? ⟨w2.heap.size, 4, none⟩ = some (.slice qv.a qv.n qv.c) := by rw [blk_cell HB.out.2.1]; rfl
  have x0 : wc.cell? ⟨w3.heap.size, 0, none⟩ = some (.int .i64 x.kind) := by rw [blk_cell HB.out.2.2.1]; rfl
  have x1 : wc.cell? ⟨w3.heap.size, 1, none⟩ = some (.int .i64 x.int) := by rw [blk_cell HB.out.2.2.1]; rfl
  have x2 : wc.cell? ⟨w3.heap.size, 2, none⟩ = some (.string x.text) := by rw [blk_cell HB.out.2.2.1]; rfl
  have x3 : wc.cell? ⟨w3.heap.size, 3, none⟩ = some (.slice px.a px.n px.c) := by rw [blk_cell HB.out.2.2.1]; rfl
  have x4 : wc.cell? ⟨w3.heap.size, 4, none⟩ = some (.slice qx.a qx.n qx.c) := by rw [blk_cell HB.out.2.2.1]; rfl
  have lvb := (Array.getElem?_eq_some_iff.1 HB.out.2.1).1
  have lxb := (Array.getElem?_eq_some_iff.1 HB.out.2.2.1).1
  have hvl := ((okC_eq v).1 HO.out.1).1
  go_wp2_with fail
  refine (Texts_any v hvl _ wc pv qv (fun g hg => hg) HB.out.2.2.2.1).mono ?_
  rintro e w13 ⟨⟨ta, tn, tc⟩, rfl, hown13, hb13⟩
  have hs13 := HB.out.later hb13
  have H13 := Lib.hid (And.intro hs13 (And.intro hown13 hb13))
  clear v0 v1 v2 v3 v4 x0 x1 x2 x3 x4 lvb lxb hs13 hown13 hb13
  have v0 : w13.cell? ⟨w2.heap.size, 0, none⟩ = some (.int .i64 v.kind) := by rw [blk_cell H13.out.1.2.1]; rfl
  have v1 : w13.cell? ⟨w2.heap.size, 1, none⟩ = some (.int .i64 v.int) := by rw [blk_cell H13.out.1.2.1]; rfl
  have v2 : w13.cell? ⟨w2.heap.size, 2, none⟩ = some (.string v.text) := by rw [blk_cell H13.out.1.2.1]; rfl
  have v3 : w13.cell? ⟨w2.heap.size, 3, none⟩ = some (.slice pv.a pv.n pv.c) := by rw [blk_cell H13.out.1.2.1]; rfl
  have v4 : w13.cell? ⟨w2.heap.size, 4, none⟩ = some (.slice qv.a qv.n qv.c) := by rw [blk_cell H13.out.1.2.1]; rfl
  go_wp2_with fail
  refine (rTexts_any v hvl _ w13 pv qv (fun g hg => hg) H13.out.1.2.2.2.1).mono ?_
  rintro e w14 ⟨⟨sa1, sn1, sc1⟩, rfl, hown14, hb14⟩
  have hs14 := H13.out.1.later hb14
  have H14 := Lib.hid (And.intro hs14 (And.intro hown14 hb14))
  clear v0 v1 v2 v3 v4 hs14 hown14 hb14
  go_wp2_with fail
  have htl : (textsV v).1.length ≤ 100000 := by
    unfold textsV
    split
    · simp
    · split
      · simpa using hvl
      · simp
  refine (SameTexts_any (textsV v).1 (textsV v).1 htl htl ⟨ta, tn, tc⟩ ⟨sa1, sn1, sc1⟩ w14 ((TextAt.of_own (sl := ⟨ta, tn, tc⟩) H13.out.2.1).later H14.out.2.2) (TextAt.of_own (sl := ⟨sa1, sn1, sc1⟩) H14.out.2.1)).mono ?_
  rintro e w15 ⟨⟨z, rfl, hz⟩, hb15⟩
  obtain rfl : z = true := by simpa using hz
  have hs15 := H14.out.1.later hb15
  have H15 := Lib.hid hs15
  clear hb15 hz hs15 htl
  have cV0 := cell_below (a := ⟨w2.heap.size, 0, none⟩) (v := .int .i64 v.kind) (Array.getElem?_eq_some_iff.1 H15.out.2.1).1 (by rw [blk_cell H15.out.2.1]; rfl)
  have cV1 := cell_below (a := ⟨w2.heap.size, 1, none⟩) (v := .int .i64 v.int) (Array.getElem?_eq_some_iff.1 H15.out.2.1).1 (by rw [blk_cell H15.out.2.1]; rfl)
  have cV2 := cell_below (a := ⟨w2.heap.size, 2, none⟩) (v := .string v.text) (Array.getElem?_eq_some_iff.1 H15.out.2.1).1 (by rw [blk_cell H15.out.2.1]; rfl)
  have cV3 := cell_below (a := ⟨w2.heap.size, 3, none⟩) (v := .slice pv.a pv.n pv.c) (Array.getElem?_eq_some_iff.1 H15.out.2.1).1 (by rw [blk_cell H15.out.2.1]; rfl)
  have cV4 := cell_below (a := ⟨w2.heap.size, 4, none⟩) (v := .slice qv.a qv.n qv.c) (Array.getElem?_eq_some_iff.1 H15.out.2.1).1 (by rw [blk_cell H15.out.2.1]; rfl)
  have cX0 := cell_below (a := ⟨w3.heap.size, 0, none⟩) (v := .int .i64 x.kind) (Array.getElem?_eq_some_iff.1 H15.out.2.2.1).1 (by rw [blk_cell H15.out.2.2.1]; rfl)
  have cX1 := cell_below (a := ⟨w3.heap.size, 1, none⟩) (v := .int .i64 x.int) (Array.getElem?_eq_some_iff.1 H15.out.2.2.1).1 (by rw [blk_cell H15.out.2.2.1]; rfl)
  have cX2 := cell_below (a := ⟨w3.heap.size, 2, none⟩) (v := .string x.text) (Array.getElem?_eq_some_iff.1 H15.out.2.2.1).1 (by rw [blk_cell H15.out.2.2.1]; rfl)
  have cX3 := cell_below (a := ⟨w3.heap.size, 3, none⟩) (v := .slice px.a px.n px.c) (Array.getElem?_eq_some_iff.1 H15.out.2.2.1).1 (by rw [blk_cell H15.out.2.2.1]; rfl)
  have cX4 := cell_below (a := ⟨w3.heap.size, 4, none⟩) (v := .slice qx.a qx.n qx.c) (Array.getElem?_eq_some_iff.1 H15.out.2.2.1).1 (by rw [blk_cell H15.out.2.2.1]; rfl)
  obtain ⟨zs, hzs⟩ : ∃ zs : Bool, zs = true ↔ canonV v = canonV x := by
    classical exact ⟨decide (canonV v = canonV x), by simp⟩
  have hq1 : ∀ W1, Below w15.heap.size w15 W1 → Calls Tryd.prog 36 #[.agg #[.int .i64 v.kind, .int .i64 v.int, .string v.text, .slice pv.a pv.n pv.c, .slice qv.a qv.n qv.c], .agg #[.int .i64 x.kind, .int .i64 x.int, .string x.text, .slice px.a px.n px.c, .slice qx.a qx.n qx.c]] W1 fun e w' => e = .returned (.bool zs) ∧ Below W1.heap.size W1 w' := fun W1 hw => by
    refine (Same_any v x HO.out.1 HO.out.2.1 _ W1 pv qv px qx (fun g hg => Nat.lt_of_lt_of_le hg hw.size) (H15.out.2.2.2.1.later hw) (H15.out.2.2.2.2.later hw)).mono ?_
    rintro e w' ⟨⟨y, rfl, hy⟩, hb'⟩
    obtain rfl : y = zs := by rw [Bool.eq_iff_iff]; exact hy.trans hzs.symm
    exact ⟨rfl, hb'⟩
  have hq2 : ∀ W1, Below w15.heap.size w15 W1 → Calls Tryd.prog 37 #[.agg #[.int .i64 v.kind, .int .i64 v.int, .string v.text, .slice pv.a pv.n pv.c, .slice qv.a qv.n qv.c], .agg #[.int .i64 x.kind, .int .i64 x.int, .string x.text, .slice px.a px.n px.c, .slice qx.a qx.n qx.c]] W1 fun e w' => e = .returned (.bool zs) ∧ Below W1.heap.size W1 w' := fun W1 hw => by
    refine (rSame_any v x HO.out.1 HO.out.2.1 _ W1 pv qv px qx (fun g hg => Nat.lt_of_lt_of_le hg hw.size) (H15.out.2.2.2.1.later hw) (H15.out.2.2.2.2.later hw)).mono ?_
    rintro e w' ⟨⟨y, rfl, hy⟩, hb'⟩
    obtain rfl : y = zs := by rw [Bool.eq_iff_iff]; exact hy.trans hzs.symm
    exact ⟨rfl, hb'⟩
  have HS := Lib.hid (And.intro hq1 hq2)
  have mixed := mixed
  clear hq1 hq2 hzs hvl
  generalize (textsV v).2 = tb
  go_wp2_with fail
  refine wp_region_quiet_below (by assumption) (by kernel_rfl) ?_
  repeat (quiet_step (first
    | (go_at_call 36; exact calls_below (HS.out.1 _ (below_of_grown _ _)))
    | (go_at_call 37; exact calls_below (HS.out.2 _ (below_of_grown _ _)))))
  refine wpQuiet_nil ?_
  intro _ hw'
  obtain ⟨⟨nq, osq⟩, hw''⟩ := hw'
  subst hw''
  go_wp2_with fail
  go_ret
  exact ⟨rfl, H15.out.1.trans ((below_of_grown nq osq).mono H15.out.1.size)⟩
end Go.Proofs.YtdggehikimnemaaDoor.tre

/- Layer 8: the law RulePaths. -/
import Derived.Test.YthflpgeonllgdaaDoorRulPathP
import Derived.Test.YthflpgeonllgdaaDoorRulAwake
import Derived.Test.YthflpgeonllgdaaDoorRulFrame
import Derived.Test.YthflpgeonllgdaaDoorRepK
namespace Go.Proofs.YthflpgeonllgdaaDoor.rul
open Go.RowKit Go.Proofs.YthflpgeonllgdaaDoor.rep Go.Proofs.YthflpgeonllgdaaDoor.lab

theorem pathsW (W wa wb wc : World) (s : ByteArray) (hs : s.size ≤ 100) (ha : wa = W.alloc (.cells #[.string ⟨#[103, 101, 116]⟩] 9)) (hb : wb = wa.alloc (.cells #[.string s] 9)) (hc : wc = wb.alloc (.cells #[.slice (some ⟨W.heap.size, 0, none⟩) 1 1, .slice none 0 0, .slice none 0 0, .slice none 0 0, .slice (some ⟨W.heap.size + 1, 0, none⟩) 1 1] 24)) :
    wc.heap.size = W.heap.size + 1 + 1 + 1 ∧ Below W.heap.size W wc ∧ ∀ V, Below wc.heap.size wc V → ruAt 100 V (.slice (some ⟨W.heap.size, 0, none⟩) 1 1) (.slice none 0 0) (.slice none 0 0) (.slice none 0 0) (.slice (some ⟨W.heap.size + 1, 0, none⟩) 1 1) (pathRu s) ∧ V.heap[W.heap.size + 1 + 1]? = some (.cells #[.slice (some ⟨W.heap.size, 0, none⟩) 1 1, .slice none 0 0, .slice none 0 0, .slice none 0 0, .slice (some ⟨W.heap.size + 1, 0, none⟩) 1 1] 24) := by
  have sa : wa.heap.size = W.heap.size + 1 := by rw [ha, World.size_alloc]
  have sb : wb.heap.size = W.heap.size + 1 + 1 := by rw [hb, World.size_alloc, sa]
  have ba : Below W.heap.size W wa := by rw [ha]; exact below_new _ _
  have bb : Below wa.heap.size wa wb := by rw [hb]; exact below_new _ _
  have bc : Below wb.heap.size wb wc := by rw [hc]; exact below_new _ _
  have r1 : RowAt 100 (text 100) wa (.slice (some ⟨W.heap.size, 0, none⟩) 1 1) [getS] := by rw [ha]; exact row_at W [getS] 9 (by decide) (by decide) (by omega)
  have r2 : RowAt 100 (text 100) wb (.slice (some ⟨W.heap.size + 1, 0, none⟩) 1 1) [s] := by rw [hb, ← sa]; exact row_at wa [s] 9 (by simpa using hs) (by show 1 ≤ 100; omega) (by omega)
  have g1 : wc.heap[W.heap.size + 1 + 1]? = some (.cells #[.slice (some ⟨W.heap.size, 0, none⟩) 1 1, .slice none 0 0, .slice none 0 0, .slice none 0 0, .slice (some ⟨W.heap.size + 1, 0, none⟩) 1 1] 24) := by rw [hc, ← sb]; exact heap_alloc_new _ _
  refine ⟨by rw [hc, World.size_alloc, sb], chain (chain ba bb) bc, fun V hV => ⟨⟨((r1.later bb).later bc).later hV, row_none _, row_none _, row_none _, (r2.later bc).later hV⟩, blk_later g1 hV⟩⟩
theorem ok_ask {v y : ByteArray} (hv : v.size ≤ 100) (hy : y.size ≤ 100) : akOk 100 (askP v y) := ⟨hv, Nat.zero_le _, Nat.zero_le _, Nat.zero_le _, Nat.zero_le _, Nat.zero_le _, hy⟩
theorem any_one (p : ByteArray → Bool) (s : ByteArray) : [s].any p = p s := by rw [List.any_cons, List.any_nil, Bool.or_false]
set_option maxRecDepth 100000 in
set_option maxHeartbeats 8000000 in
theorem lawPaths (B : Nat) (_hB : B ≤ 140737488355328) (_hB2 : 100 ≤ B) (u : Value) (la : List Int) (v : Value) (lb : List Int) (star : Bool) (w : World) (hu : RowAt B num w u la) (hv : RowAt B num w v lb) (hm : nam.MaxL w) :
    Calls Tryd.prog 8 #[u, v, .bool star] w fun e w' => e = .returned (.bool true) ∧ Below w.heap.size w w' := by
  obtain ⟨a, ac, rfl, _, _, hla, hra⟩ := hu
  obtain ⟨b, bc, rfl, _, _, hlb, hrb⟩ := hv
  have HA := Lib.hid hra
  have HB := Lib.hid hrb
  have HM := Lib.hid hm
  clear hra hrb hm
  go_enter Tryd.func8, Tryd.ntmps8
  go_wp2_with fail
  refine (awake_any _ HM.out).mono ?_
  rintro e w1 ⟨rfl, hb1⟩
  go_wp2
  go_loopw [8, 9] (fun t i wr => ∃ (k : Nat) (s : ByteArray), k ≤ 4 ∧ k ≤ la.length ∧ t = .string s ∧ i = .int .i64 k ∧ Hid (PathW k s) ∧ s.size ≤ 13 ∧ Below w.heap.size w wr) (fun _ i _ => 4 - (intOf i).toNat)
  case atStart => exact ⟨0, _, by omega, by omega, rfl, rfl, pathW_first, by decide, hb1⟩
  case round =>
    obtain ⟨k1, x1, hk41, hkl1, rfl, rfl, P1, hz1, h1⟩ := hrel
    obtain ⟨wl1, rfl⟩ : ∃ w', w' = wr := ⟨wr, rfl⟩
    by_cases hk1 : k1 < 4 ∧ k1 < la.length
    case pos =>
      obtain ⟨hka, hkb⟩ := hk1
      have kia : (k1 : Int) < 4 := by omega
      have kib : (k1 : Int) < (la.length : Int) := by omega
      obtain ⟨bb, off, hva, hbl, cs, hat, hcell⟩ := (HA.out.later h1).get hkb
      subst hva
      obtain ⟨hcs, hwf⟩ := hat
      subst hcs
      have c0 : wl1.cell? ⟨bb, off + k1, none⟩ = some (.int .i64 la[k1]) := by have := hcell 0 _ rfl; simpa [num] using this
      clear hcell
      go_wp2_with fail
      refine (word_txt _ _).mono ?_
      rintro e w9 ⟨y, hy, rfl, hb9⟩
      have hzy := word_size hy
      have Hn := Lib.hid (pathW_next P1.out hy)
      have hz2 : (x1 ++ y).size ≤ 13 := by have := (pathW_size Hn.out).2; omega
      go_wp2
      go_roundw
      case rel => exact ⟨k1 + 1, _, by omega, by omega, rfl, by go_num, Hn, hz2, chain h1 hb9⟩
      case measure => simp [intOf]; omega
    case neg =>
      by_cases hq1 : k1 < la.length
      case pos =>
        have hi4 : ¬ (k1 : Int) < 4 := by omega
        have hil : (k1 : Int) < (la.length : Int) := by omega
        clear hk1
        go_wp2
        go_loopw [10, 11] (fun t i wr => ∃ (k : Nat) (s : ByteArray), k ≤ 4 ∧ k ≤ lb.length ∧ t = .string s ∧ i = .int .i64 k ∧ Hid (PathW k s) ∧ s.size ≤ 13 ∧ Below w.heap.size w wr) (fun _ i _ => 4 - (intOf i).toNat)
        case atStart => exact ⟨0, _, by omega, by omega, rfl, rfl, pathW_first, by decide, h1⟩
        case round =>
          obtain ⟨k2, x2, hk42, hkl2, rfl, rfl, P2, hz2, h2⟩ := hrel
          obtain ⟨wl2, rfl⟩ : ∃ w', w' = wr := ⟨wr, rfl⟩
          by_cases hk2 : k2 < 4 ∧ k2 < lb.length
          case pos =>
            obtain ⟨hka, hkb⟩ := hk2
            have kia : (k2 : Int) < 4 := by omega
            have kib : (k2 : Int) < (lb.length : Int) := by omega
            obtain ⟨bb, off, hva, hbl, cs, hat, hcell⟩ := (HB.out.later h2).get hkb
            subst hva
            obtain ⟨hcs, hwf⟩ := hat
            subst hcs
            have c0 : wl2.cell? ⟨bb, off + k2, none⟩ = some (.int .i64 lb[k2]) := by have := hcell 0 _ rfl; simpa [num] using this
            clear hcell
            go_wp2_with fail
            refine (word_txt _ _).mono ?_
            rintro e w9 ⟨y, hy, rfl, hb9⟩
            have hzy := word_size hy
            have Hn := Lib.hid (pathW_next P2.out hy)
            have hz2 : (x2 ++ y).size ≤ 13 := by have := (pathW_size Hn.out).2; omega
            go_wp2
            go_roundw
            case rel => exact ⟨k2 + 1, _, by omega, by omega, rfl, by go_num, Hn, hz2, chain h2 hb9⟩
            case measure => simp [intOf]; omega
          case neg =>
            by_cases hq2 : k2 < lb.length
            case pos =>
              have hi4 : ¬ (k2 : Int) < 4 := by omega
              have hil : (k2 : Int) < (lb.length : Int) := by omega
              clear hk2
              cases star with
              | false =>
                cases t1 : (x1.toList == x2.toList) <;>
                ·
                  have CP := Lib.hid (fun a W hr => Path_any 100 (by omega) a 1 [x1] (by show 1 ≤ _; omega) x2 W hr)
                  have CG := Lib.hid (fun v g s n p W hu => Allows_any 100 (by omega) (pathRu (x1)) v g s n p (askP getS x2) W hu (ok_ask (by decide) (by omega)))
                  have CL := Lib.hid (fun v g s n p W hu => Allows_any 100 (by omega) (pathRu (x1)) v g s n p (askP listS x2) W hu (ok_ask (by decide) (by omega)))
                  have CT := Lib.hid (fun v g s n p W hu hm => Check_any 100 (by omega) (pathRu (x1)) v g s n p true W hu hm)
                  have CF := Lib.hid (fun v g s n p W hu hm => Check_any 100 (by omega) (pathRu (x1)) v g s n p false W hu hm)
                  have cP := CP.out
                  have cG := CG.out
                  have cL := CL.out
                  have cT := CT.out
                  have cF := CF.out
                  rw [any_one, at_no P1.out P2.out, t1] at cP
                  rw [allow_get P2.out, at_no P1.out P2.out, t1] at cG
                  rw [allow_list] at cL
                  rw [check_path (pathE_no P1.out (by omega))] at cT cF
                  clear CP CG CL CT CF
                  have hsz : (x1).size ≤ 100 := by omega
                  obtain ⟨wa, hwa⟩ : ∃ wa, wa = wl2.alloc (.cells #[.string ⟨#[103, 101, 116]⟩] 9) := ⟨_, rfl⟩
                  obtain ⟨wb, hwb⟩ : ∃ wb, wb = wa.alloc (.cells #[.string x1] 9) := ⟨_, rfl⟩
                  obtain ⟨wc, hwc⟩ : ∃ wc, wc = wb.alloc (.cells #[.slice (some ⟨wl2.heap.size, 0, none⟩) 1 1, .slice none 0 0, .slice none 0 0, .slice none 0 0, .slice (some ⟨wl2.heap.size + 1, 0, none⟩) 1 1] 24) := ⟨_, rfl⟩
                  obtain ⟨hsc, bw, K0⟩ := pathsW wl2 wa wb wc (x1) hsz hwa hwb hwc
                  have K := Lib.hid K0
                  have HW := Lib.hid (show wc = ((wl2.alloc (.cells #[.string ⟨#[103, 101, 116]⟩] 9)).alloc (.cells #[.string x1] 9)).alloc (.cells #[.slice (some ⟨wl2.heap.size, 0, none⟩) 1 1, .slice none 0 0, .slice none 0 0, .slice none 0 0, .slice (some ⟨wl2.heap.size + 1, 0, none⟩) 1 1] 24) by rw [hwc, hwb, hwa])
                  have S0 := chain h2 bw
                  clear hwa hwb hwc K0
                  go_wp2_with fail
                  have Hw := HW.out
                  rw [← Hw]
                  clear Hw
                  have hn := below_new wc (.cells #[.string x1] 9)
                  have hrw := row_new (B := 100) wc [x1] 9 (by simpa using hsz)
                  rw [hsc] at hrw
                  refine (cP _ _ hrw).mono ?_
                  rintro e v1 ⟨rfl, hv1⟩
                  have s1 := chain hn hv1
                  obtain ⟨u1, g1⟩ := K.out _ s1
                  have p0 := blk_cell g1 0
                  have p1 := blk_cell g1 1
                  have p2 := blk_cell g1 2
                  have p3 := blk_cell g1 3
                  have p4 := blk_cell g1 4
                  go_wp2_with fail
                  refine (cG _ _ _ _ _ _ u1).mono ?_
                  rintro e v2 ⟨rfl, hv2⟩
                  have s2 := chain s1 hv2
                  clear u1 g1 p0 p1 p2 p3 p4
                  obtain ⟨u1, g1⟩ := K.out _ s2
                  have p0 := blk_cell g1 0
                  have p1 := blk_cell g1 1
                  have p2 := blk_cell g1 2
                  have p3 := blk_cell g1 3
                  have p4 := blk_cell g1 4
                  go_wp2_with fail
                  refine (cL _ _ _ _ _ _ u1).mono ?_
                  rintro e v3 ⟨rfl, hv3⟩
                  have s3 := chain s2 hv3
                  clear u1 g1 p0 p1 p2 p3 p4
                  obtain ⟨u1, g1⟩ := K.out _ s3
                  have p0 := blk_cell g1 0
                  have p1 := blk_cell g1 1
                  have p2 := blk_cell g1 2
                  have p3 := blk_cell g1 3
                  have p4 := blk_cell g1 4
                  go_wp2_with fail
                  refine (cT _ _ _ _ _ _ u1 (HM.out.later (chain S0 s3))).mono ?_
                  rintro e v4 ⟨rfl, hv4⟩
                  have s4 := chain s3 hv4
                  clear u1 g1 p0 p1 p2 p3 p4
                  obtain ⟨u1, g1⟩ := K.out _ s4
                  have p0 := blk_cell g1 0
                  have p1 := blk_cell g1 1
                  have p2 := blk_cell g1 2
                  have p3 := blk_cell g1 3
                  have p4 := blk_cell g1 4
                  go_wp2_with fail
                  refine (cF _ _ _ _ _ _ u1 (HM.out.later (chain S0 s4))).mono ?_
                  rintro e v5 ⟨rfl, hv5⟩
                  go_wp2
                  go_ret
                  exact ⟨rfl, chain S0 (chain s4 hv5)⟩
              | true =>
                by_cases t2 : x1.size ≤ x2.size
                case neg =>
                  have t3 : ¬ (x1.size : Int) ≤ (x2.size : Int) := by omega
                  have CP := Lib.hid (fun a W hr => Path_any 100 (by omega) a 1 [x1 ++ ⟨#[42]⟩] (by show 1 ≤ _; omega) x2 W hr)
                  have CG := Lib.hid (fun v g s n p W hu => Allows_any 100 (by omega) (pathRu (x1 ++ ⟨#[42]⟩)) v g s n p (askP getS x2) W hu (ok_ask (by decide) (by omega)))
                  have CL := Lib.hid (fun v g s n p W hu => Allows_any 100 (by omega) (pathRu (x1 ++ ⟨#[42]⟩)) v g s n p (askP listS x2) W hu (ok_ask (by decide) (by omega)))
                  have CT := Lib.hid (fun v g s n p W hu hm => Check_any 100 (by omega) (pathRu (x1 ++ ⟨#[42]⟩)) v g s n p true W hu hm)
                  have CF := Lib.hid (fun v g s n p W hu hm => Check_any 100 (by omega) (pathRu (x1 ++ ⟨#[42]⟩)) v g s n p false W hu hm)
                  have cP := CP.out
                  have cG := CG.out
                  have cL := CL.out
                  have cT := CT.out
                  have cF := CF.out
                  rw [any_one, (show pathAt x2 (x1 ++ ⟨#[42]⟩) = _ from at_yes P1.out P2.out), decide_eq_false t2, Bool.false_and] at cP
                  rw [allow_get P2.out, (show pathAt x2 (x1 ++ ⟨#[42]⟩) = _ from at_yes P1.out P2.out), decide_eq_false t2, Bool.false_and] at cG
                  rw [allow_list] at cL
                  rw [check_path (show pathE (x1 ++ ⟨#[42]⟩ : ByteArray).data.toList = true from pathE_yes P1.out (by omega))] at cT cF
                  clear CP CG CL CT CF
                  have hsz : (x1 ++ ⟨#[42]⟩).size ≤ 100 := by rw [ByteArray.size_append]; show x1.size + 1 ≤ 100; omega
                  obtain ⟨wa, hwa⟩ : ∃ wa, wa = wl2.alloc (.cells #[.string ⟨#[103, 101, 116]⟩] 9) := ⟨_, rfl⟩
                  obtain ⟨wb, hwb⟩ : ∃ wb, wb = wa.alloc (.cells #[.string (x1 ++ ⟨#[42]⟩)] 9) := ⟨_, rfl⟩
                  obtain ⟨wc, hwc⟩ : ∃ wc, wc = wb.alloc (.cells #[.slice (some ⟨wl2.heap.size, 0, none⟩) 1 1, .slice none 0 0, .slice none 0 0, .slice none 0 0, .slice (some ⟨wl2.heap.size + 1, 0, none⟩) 1 1] 24) := ⟨_, rfl⟩
                  obtain ⟨hsc, bw, K0⟩ := pathsW wl2 wa wb wc (x1 ++ ⟨#[42]⟩) hsz hwa hwb hwc
                  have K := Lib.hid K0
                  have HW := Lib.hid (show wc = ((wl2.alloc (.cells #[.string ⟨#[103, 101, 116]⟩] 9)).alloc (.cells #[.string (x1 ++ ⟨#[42]⟩)] 9)).alloc (.cells #[.slice (some ⟨wl2.heap.size, 0, none⟩) 1 1, .slice none 0 0, .slice none 0 0, .slice none 0 0, .slice (some ⟨wl2.heap.size + 1, 0, none⟩) 1 1] 24) by rw [hwc, hwb, hwa])
                  have S0 := chain h2 bw
                  clear hwa hwb hwc K0
                  go_wp2_with fail
                  have Hw := HW.out
                  rw [← Hw]
                  clear Hw
                  have hn := below_new wc (.cells #[.string (x1 ++ ⟨#[42]⟩)] 9)
                  have hrw := row_new (B := 100) wc [x1 ++ ⟨#[42]⟩] 9 (by simpa using hsz)
                  rw [hsc] at hrw
                  refine (cP _ _ hrw).mono ?_
                  rintro e v1 ⟨rfl, hv1⟩
                  have s1 := chain hn hv1
                  obtain ⟨u1, g1⟩ := K.out _ s1
                  have p0 := blk_cell g1 0
                  have p1 := blk_cell g1 1
                  have p2 := blk_cell g1 2
                  have p3 := blk_cell g1 3
                  have p4 := blk_cell g1 4
                  go_wp2_with fail
                  refine (cG _ _ _ _ _ _ u1).mono ?_
                  rintro e v2 ⟨rfl, hv2⟩
                  have s2 := chain s1 hv2
                  clear u1 g1 p0 p1 p2 p3 p4
                  obtain ⟨u1, g1⟩ := K.out _ s2
                  have p0 := blk_cell g1 0
                  have p1 := blk_cell g1 1
                  have p2 := blk_cell g1 2
                  have p3 := blk_cell g1 3
                  have p4 := blk_cell g1 4
                  go_wp2_with fail
                  refine (cL _ _ _ _ _ _ u1).mono ?_
                  rintro e v3 ⟨rfl, hv3⟩
                  have s3 := chain s2 hv3
                  clear u1 g1 p0 p1 p2 p3 p4
                  obtain ⟨u1, g1⟩ := K.out _ s3
                  have p0 := blk_cell g1 0
                  have p1 := blk_cell g1 1
                  have p2 := blk_cell g1 2
                  have p3 := blk_cell g1 3
                  have p4 := blk_cell g1 4
                  go_wp2_with fail
                  refine (cT _ _ _ _ _ _ u1 (HM.out.later (chain S0 s3))).mono ?_
                  rintro e v4 ⟨rfl, hv4⟩
                  have s4 := chain s3 hv4
                  clear u1 g1 p0 p1 p2 p3 p4
                  obtain ⟨u1, g1⟩ := K.out _ s4
                  have p0 := blk_cell g1 0
                  have p1 := blk_cell g1 1
                  have p2 := blk_cell g1 2
                  have p3 := blk_cell g1 3
                  have p4 := blk_cell g1 4
                  go_wp2_with fail
                  refine (cF _ _ _ _ _ _ u1 (HM.out.later (chain S0 s4))).mono ?_
                  rintro e v5 ⟨rfl, hv5⟩
                  go_wp2
                  go_ret
                  exact ⟨rfl, chain S0 (chain s4 hv5)⟩
                case pos =>
                  have t3 : (x1.size : Int) ≤ (x2.size : Int) := by omega
                  cases t4 : ((x2.extract 0 x1.size).toList == x1.toList) <;>
                  ·
                    have CP := Lib.hid (fun a W hr => Path_any 100 (by omega) a 1 [x1 ++ ⟨#[42]⟩] (by show 1 ≤ _; omega) x2 W hr)
                    have CG := Lib.hid (fun v g s n p W hu => Allows_any 100 (by omega) (pathRu (x1 ++ ⟨#[42]⟩)) v g s n p (askP getS x2) W hu (ok_ask (by decide) (by omega)))
                    have CL := Lib.hid (fun v g s n p W hu => Allows_any 100 (by omega) (pathRu (x1 ++ ⟨#[42]⟩)) v g s n p (askP listS x2) W hu (ok_ask (by decide) (by omega)))
                    have CT := Lib.hid (fun v g s n p W hu hm => Check_any 100 (by omega) (pathRu (x1 ++ ⟨#[42]⟩)) v g s n p true W hu hm)
                    have CF := Lib.hid (fun v g s n p W hu hm => Check_any 100 (by omega) (pathRu (x1 ++ ⟨#[42]⟩)) v g s n p false W hu hm)
                    have cP := CP.out
                    have cG := CG.out
                    have cL := CL.out
                    have cT := CT.out
                    have cF := CF.out
                    rw [any_one, (show pathAt x2 (x1 ++ ⟨#[42]⟩) = _ from at_yes P1.out P2.out), decide_eq_true t2, t4, Bool.true_and] at cP
                    rw [allow_get P2.out, (show pathAt x2 (x1 ++ ⟨#[42]⟩) = _ from at_yes P1.out P2.out), decide_eq_true t2, t4, Bool.true_and] at cG
                    rw [allow_list] at cL
                    rw [check_path (show pathE (x1 ++ ⟨#[42]⟩ : ByteArray).data.toList = true from pathE_yes P1.out (by omega))] at cT cF
                    clear CP CG CL CT CF
                    have hsz : (x1 ++ ⟨#[42]⟩).size ≤ 100 := by rw [ByteArray.size_append]; show x1.size + 1 ≤ 100; omega
                    obtain ⟨wa, hwa⟩ : ∃ wa, wa = wl2.alloc (.cells #[.string ⟨#[103, 101, 116]⟩] 9) := ⟨_, rfl⟩
                    obtain ⟨wb, hwb⟩ : ∃ wb, wb = wa.alloc (.cells #[.string (x1 ++ ⟨#[42]⟩)] 9) := ⟨_, rfl⟩
                    obtain ⟨wc, hwc⟩ : ∃ wc, wc = wb.alloc (.cells #[.slice (some ⟨wl2.heap.size, 0, none⟩) 1 1, .slice none 0 0, .slice none 0 0, .slice none 0 0, .slice (some ⟨wl2.heap.size + 1, 0, none⟩) 1 1] 24) := ⟨_, rfl⟩
                    obtain ⟨hsc, bw, K0⟩ := pathsW wl2 wa wb wc (x1 ++ ⟨#[42]⟩) hsz hwa hwb hwc
                    have K := Lib.hid K0
                    have HW := Lib.hid (show wc = ((wl2.alloc (.cells #[.string ⟨#[103, 101, 116]⟩] 9)).alloc (.cells #[.string (x1 ++ ⟨#[42]⟩)] 9)).alloc (.cells #[.slice (some ⟨wl2.heap.size, 0, none⟩) 1 1, .slice none 0 0, .slice none 0 0, .slice none 0 0, .slice (some ⟨wl2.heap.size + 1, 0, none⟩) 1 1] 24) by rw [hwc, hwb, hwa])
                    have S0 := chain h2 bw
                    clear hwa hwb hwc K0
                    go_wp2_with fail
                    have Hw := HW.out
                    rw [← Hw]
                    clear Hw
                    have hn := below_new wc (.cells #[.string (x1 ++ ⟨#[42]⟩)] 9)
                    have hrw := row_new (B := 100) wc [x1 ++ ⟨#[42]⟩] 9 (by simpa using hsz)
                    rw [hsc] at hrw
                    refine (cP _ _ hrw).mono ?_
                    rintro e v1 ⟨rfl, hv1⟩
                    have s1 := chain hn hv1
                    obtain ⟨u1, g1⟩ := K.out _ s1
                    have p0 := blk_cell g1 0
                    have p1 := blk_cell g1 1
                    have p2 := blk_cell g1 2
                    have p3 := blk_cell g1 3
                    have p4 := blk_cell g1 4
                    go_wp2_with fail
                    refine (cG _ _ _ _ _ _ u1).mono ?_
                    rintro e v2 ⟨rfl, hv2⟩
                    have s2 := chain s1 hv2
                    clear u1 g1 p0 p1 p2 p3 p4
                    obtain ⟨u1, g1⟩ := K.out _ s2
                    have p0 := blk_cell g1 0
                    have p1 := blk_cell g1 1
                    have p2 := blk_cell g1 2
                    have p3 := blk_cell g1 3
                    have p4 := blk_cell g1 4
                    go_wp2_with fail
                    refine (cL _ _ _ _ _ _ u1).mono ?_
                    rintro e v3 ⟨rfl, hv3⟩
                    have s3 := chain s2 hv3
                    clear u1 g1 p0 p1 p2 p3 p4
                    obtain ⟨u1, g1⟩ := K.out _ s3
                    have p0 := blk_cell g1 0
                    have p1 := blk_cell g1 1
                    have p2 := blk_cell g1 2
                    have p3 := blk_cell g1 3
                    have p4 := blk_cell g1 4
                    go_wp2_with fail
                    refine (cT _ _ _ _ _ _ u1 (HM.out.later (chain S0 s3))).mono ?_
                    rintro e v4 ⟨rfl, hv4⟩
                    have s4 := chain s3 hv4
                    clear u1 g1 p0 p1 p2 p3 p4
                    obtain ⟨u1, g1⟩ := K.out _ s4
                    have p0 := blk_cell g1 0
                    have p1 := blk_cell g1 1
                    have p2 := blk_cell g1 2
                    have p3 := blk_cell g1 3
                    have p4 := blk_cell g1 4
                    go_wp2_with fail
                    refine (cF _ _ _ _ _ _ u1 (HM.out.later (chain S0 s4))).mono ?_
                    rintro e v5 ⟨rfl, hv5⟩
                    go_wp2
                    go_ret
                    exact ⟨rfl, chain S0 (chain s4 hv5)⟩
            case neg =>
              have hil : ¬ (k2 : Int) < (lb.length : Int) := by omega
              clear hk2
              cases star with
              | false =>
                cases t1 : (x1.toList == x2.toList) <;>
                ·
                  have CP := Lib.hid (fun a W hr => Path_any 100 (by omega) a 1 [x1] (by show 1 ≤ _; omega) x2 W hr)
                  have CG := Lib.hid (fun v g s n p W hu => Allows_any 100 (by omega) (pathRu (x1)) v g s n p (askP getS x2) W hu (ok_ask (by decide) (by omega)))
                  have CL := Lib.hid (fun v g s n p W hu => Allows_any 100 (by omega) (pathRu (x1)) v g s n p (askP listS x2) W hu (ok_ask (by decide) (by omega)))
                  have CT := Lib.hid (fun v g s n p W hu hm => Check_any 100 (by omega) (pathRu (x1)) v g s n p true W hu hm)
                  have CF := Lib.hid (fun v g s n p W hu hm => Check_any 100 (by omega) (pathRu (x1)) v g s n p false W hu hm)
                  have cP := CP.out
                  have cG := CG.out
                  have cL := CL.out
                  have cT := CT.out
                  have cF := CF.out
                  rw [any_one, at_no P1.out P2.out, t1] at cP
                  rw [allow_get P2.out, at_no P1.out P2.out, t1] at cG
                  rw [allow_list] at cL
                  rw [check_path (pathE_no P1.out (by omega))] at cT cF
                  clear CP CG CL CT CF
                  have hsz : (x1).size ≤ 100 := by omega
                  obtain ⟨wa, hwa⟩ : ∃ wa, wa = wl2.alloc (.cells #[.string ⟨#[103, 101, 116]⟩] 9) := ⟨_, rfl⟩
                  obtain ⟨wb, hwb⟩ : ∃ wb, wb = wa.alloc (.cells #[.string x1] 9) := ⟨_, rfl⟩
                  obtain ⟨wc, hwc⟩ : ∃ wc, wc = wb.alloc (.cells #[.slice (some ⟨wl2.heap.size, 0, none⟩) 1 1, .slice none 0 0, .slice none 0 0, .slice none 0 0, .slice (some ⟨wl2.heap.size + 1, 0, none⟩) 1 1] 24) := ⟨_, rfl⟩
                  obtain ⟨hsc, bw, K0⟩ := pathsW wl2 wa wb wc (x1) hsz hwa hwb hwc
                  have K := Lib.hid K0
                  have HW := Lib.hid (show wc = ((wl2.alloc (.cells #[.string ⟨#[103, 101, 116]⟩] 9)).alloc (.cells #[.string x1] 9)).alloc (.cells #[.slice (some ⟨wl2.heap.size, 0, none⟩) 1 1, .slice none 0 0, .slice none 0 0, .slice none 0 0, .slice (some ⟨wl2.heap.size + 1, 0, none⟩) 1 1] 24) by rw [hwc, hwb, hwa])
                  have S0 := chain h2 bw
                  clear hwa hwb hwc K0
                  go_wp2_with fail
                  have Hw := HW.out
                  rw [← Hw]
                  clear Hw
                  have hn := below_new wc (.cells #[.string x1] 9)
                  have hrw := row_new (B := 100) wc [x1] 9 (by simpa using hsz)
                  rw [hsc] at hrw
                  refine (cP _ _ hrw).mono ?_
                  rintro e v1 ⟨rfl, hv1⟩
                  have s1 := chain hn hv1
                  obtain ⟨u1, g1⟩ := K.out _ s1
                  have p0 := blk_cell g1 0
                  have p1 := blk_cell g1 1
                  have p2 := blk_cell g1 2
                  have p3 := blk_cell g1 3
                  have p4 := blk_cell g1 4
                  go_wp2_with fail
                  refine (cG _ _ _ _ _ _ u1).mono ?_
                  rintro e v2 ⟨rfl, hv2⟩
                  have s2 := chain s1 hv2
                  clear u1 g1 p0 p1 p2 p3 p4
                  obtain ⟨u1, g1⟩ := K.out _ s2
                  have p0 := blk_cell g1 0
                  have p1 := blk_cell g1 1
                  have p2 := blk_cell g1 2
                  have p3 := blk_cell g1 3
                  have p4 := blk_cell g1 4
                  go_wp2_with fail
                  refine (cL _ _ _ _ _ _ u1).mono ?_
                  rintro e v3 ⟨rfl, hv3⟩
                  have s3 := chain s2 hv3
                  clear u1 g1 p0 p1 p2 p3 p4
                  obtain ⟨u1, g1⟩ := K.out _ s3
                  have p0 := blk_cell g1 0
                  have p1 := blk_cell g1 1
                  have p2 := blk_cell g1 2
                  have p3 := blk_cell g1 3
                  have p4 := blk_cell g1 4
                  go_wp2_with fail
                  refine (cT _ _ _ _ _ _ u1 (HM.out.later (chain S0 s3))).mono ?_
                  rintro e v4 ⟨rfl, hv4⟩
                  have s4 := chain s3 hv4
                  clear u1 g1 p0 p1 p2 p3 p4
                  obtain ⟨u1, g1⟩ := K.out _ s4
                  have p0 := blk_cell g1 0
                  have p1 := blk_cell g1 1
                  have p2 := blk_cell g1 2
                  have p3 := blk_cell g1 3
                  have p4 := blk_cell g1 4
                  go_wp2_with fail
                  refine (cF _ _ _ _ _ _ u1 (HM.out.later (chain S0 s4))).mono ?_
                  rintro e v5 ⟨rfl, hv5⟩
                  go_wp2
                  go_ret
                  exact ⟨rfl, chain S0 (chain s4 hv5)⟩
              | true =>
                by_cases t2 : x1.size ≤ x2.size
                case neg =>
                  have t3 : ¬ (x1.size : Int) ≤ (x2.size : Int) := by omega
                  have CP := Lib.hid (fun a W hr => Path_any 100 (by omega) a 1 [x1 ++ ⟨#[42]⟩] (by show 1 ≤ _; omega) x2 W hr)
                  have CG := Lib.hid (fun v g s n p W hu => Allows_any 100 (by omega) (pathRu (x1 ++ ⟨#[42]⟩)) v g s n p (askP getS x2) W hu (ok_ask (by decide) (by omega)))
                  have CL := Lib.hid (fun v g s n p W hu => Allows_any 100 (by omega) (pathRu (x1 ++ ⟨#[42]⟩)) v g s n p (askP listS x2) W hu (ok_ask (by decide) (by omega)))
                  have CT := Lib.hid (fun v g s n p W hu hm => Check_any 100 (by omega) (pathRu (x1 ++ ⟨#[42]⟩)) v g s n p true W hu hm)
                  have CF := Lib.hid (fun v g s n p W hu hm => Check_any 100 (by omega) (pathRu (x1 ++ ⟨#[42]⟩)) v g s n p false W hu hm)
                  have cP := CP.out
                  have cG := CG.out
                  have cL := CL.out
                  have cT := CT.out
                  have cF := CF.out
                  rw [any_one, (show pathAt x2 (x1 ++ ⟨#[42]⟩) = _ from at_yes P1.out P2.out), decide_eq_false t2, Bool.false_and] at cP
                  rw [allow_get P2.out, (show pathAt x2 (x1 ++ ⟨#[42]⟩) = _ from at_yes P1.out P2.out), decide_eq_false t2, Bool.false_and] at cG
                  rw [allow_list] at cL
                  rw [check_path (show pathE (x1 ++ ⟨#[42]⟩ : ByteArray).data.toList = true from pathE_yes P1.out (by omega))] at cT cF
                  clear CP CG CL CT CF
                  have hsz : (x1 ++ ⟨#[42]⟩).size ≤ 100 := by rw [ByteArray.size_append]; show x1.size + 1 ≤ 100; omega
                  obtain ⟨wa, hwa⟩ : ∃ wa, wa = wl2.alloc (.cells #[.string ⟨#[103, 101, 116]⟩] 9) := ⟨_, rfl⟩
                  obtain ⟨wb, hwb⟩ : ∃ wb, wb = wa.alloc (.cells #[.string (x1 ++ ⟨#[42]⟩)] 9) := ⟨_, rfl⟩
                  obtain ⟨wc, hwc⟩ : ∃ wc, wc = wb.alloc (.cells #[.slice (some ⟨wl2.heap.size, 0, none⟩) 1 1, .slice none 0 0, .slice none 0 0, .slice none 0 0, .slice (some ⟨wl2.heap.size + 1, 0, none⟩) 1 1] 24) := ⟨_, rfl⟩
                  obtain ⟨hsc, bw, K0⟩ := pathsW wl2 wa wb wc (x1 ++ ⟨#[42]⟩) hsz hwa hwb hwc
                  have K := Lib.hid K0
                  have HW := Lib.hid (show wc = ((wl2.alloc (.cells #[.string ⟨#[103, 101, 116]⟩] 9)).alloc (.cells #[.string (x1 ++ ⟨#[42]⟩)] 9)).alloc (.cells #[.slice (some ⟨wl2.heap.size, 0, none⟩) 1 1, .slice none 0 0, .slice none 0 0, .slice none 0 0, .slice (some ⟨wl2.heap.size + 1, 0, none⟩) 1 1] 24) by rw [hwc, hwb, hwa])
                  have S0 := chain h2 bw
                  clear hwa hwb hwc K0
                  go_wp2_with fail
                  have Hw := HW.out
                  rw [← Hw]
                  clear Hw
                  have hn := below_new wc (.cells #[.string (x1 ++ ⟨#[42]⟩)] 9)
                  have hrw := row_new (B := 100) wc [x1 ++ ⟨#[42]⟩] 9 (by simpa using hsz)
                  rw [hsc] at hrw
                  refine (cP _ _ hrw).mono ?_
                  rintro e v1 ⟨rfl, hv1⟩
                  have s1 := chain hn hv1
                  obtain ⟨u1, g1⟩ := K.out _ s1
                  have p0 := blk_cell g1 0
                  have p1 := blk_cell g1 1
                  have p2 := blk_cell g1 2
                  have p3 := blk_cell g1 3
                  have p4 := blk_cell g1 4
                  go_wp2_with fail
                  refine (cG _ _ _ _ _ _ u1).mono ?_
                  rintro e v2 ⟨rfl, hv2⟩
                  have s2 := chain s1 hv2
                  clear u1 g1 p0 p1 p2 p3 p4
                  obtain ⟨u1, g1⟩ := K.out _ s2
                  have p0 := blk_cell g1 0
                  have p1 := blk_cell g1 1
                  have p2 := blk_cell g1 2
                  have p3 := blk_cell g1 3
                  have p4 := blk_cell g1 4
                  go_wp2_with fail
                  refine (cL _ _ _ _ _ _ u1).mono ?_
                  rintro e v3 ⟨rfl, hv3⟩
                  have s3 := chain s2 hv3
                  clear u1 g1 p0 p1 p2 p3 p4
                  obtain ⟨u1, g1⟩ := K.out _ s3
                  have p0 := blk_cell g1 0
                  have p1 := blk_cell g1 1
                  have p2 := blk_cell g1 2
                  have p3 := blk_cell g1 3
                  have p4 := blk_cell g1 4
                  go_wp2_with fail
                  refine (cT _ _ _ _ _ _ u1 (HM.out.later (chain S0 s3))).mono ?_
                  rintro e v4 ⟨rfl, hv4⟩
                  have s4 := chain s3 hv4
                  clear u1 g1 p0 p1 p2 p3 p4
                  obtain ⟨u1, g1⟩ := K.out _ s4
                  have p0 := blk_cell g1 0
                  have p1 := blk_cell g1 1
                  have p2 := blk_cell g1 2
                  have p3 := blk_cell g1 3
                  have p4 := blk_cell g1 4
                  go_wp2_with fail
                  refine (cF _ _ _ _ _ _ u1 (HM.out.later (chain S0 s4))).mono ?_
                  rintro e v5 ⟨rfl, hv5⟩
                  go_wp2
                  go_ret
                  exact ⟨rfl, chain S0 (chain s4 hv5)⟩
                case pos =>
                  have t3 : (x1.size : Int) ≤ (x2.size : Int) := by omega
                  cases t4 : ((x2.extract 0 x1.size).toList == x1.toList) <;>
                  ·
                    have CP := Lib.hid (fun a W hr => Path_any 100 (by omega) a 1 [x1 ++ ⟨#[42]⟩] (by show 1 ≤ _; omega) x2 W hr)
                    have CG := Lib.hid (fun v g s n p W hu => Allows_any 100 (by omega) (pathRu (x1 ++ ⟨#[42]⟩)) v g s n p (askP getS x2) W hu (ok_ask (by decide) (by omega)))
                    have CL := Lib.hid (fun v g s n p W hu => Allows_any 100 (by omega) (pathRu (x1 ++ ⟨#[42]⟩)) v g s n p (askP listS x2) W hu (ok_ask (by decide) (by omega)))
                    have CT := Lib.hid (fun v g s n p W hu hm => Check_any 100 (by omega) (pathRu (x1 ++ ⟨#[42]⟩)) v g s n p true W hu hm)
                    have CF := Lib.hid (fun v g s n p W hu hm => Check_any 100 (by omega) (pathRu (x1 ++ ⟨#[42]⟩)) v g s n p false W hu hm)
                    have cP := CP.out
                    have cG := CG.out
                    have cL := CL.out
                    have cT := CT.out
                    have cF := CF.out
                    rw [any_one, (show pathAt x2 (x1 ++ ⟨#[42]⟩) = _ from at_yes P1.out P2.out), decide_eq_true t2, t4, Bool.true_and] at cP
                    rw [allow_get P2.out, (show pathAt x2 (x1 ++ ⟨#[42]⟩) = _ from at_yes P1.out P2.out), decide_eq_true t2, t4, Bool.true_and] at cG
                    rw [allow_list] at cL
                    rw [check_path (show pathE (x1 ++ ⟨#[42]⟩ : ByteArray).data.toList = true from pathE_yes P1.out (by omega))] at cT cF
                    clear CP CG CL CT CF
                    have hsz : (x1 ++ ⟨#[42]⟩).size ≤ 100 := by rw [ByteArray.size_append]; show x1.size + 1 ≤ 100; omega
                    obtain ⟨wa, hwa⟩ : ∃ wa, wa = wl2.alloc (.cells #[.string ⟨#[103, 101, 116]⟩] 9) := ⟨_, rfl⟩
                    obtain ⟨wb, hwb⟩ : ∃ wb, wb = wa.alloc (.cells #[.string (x1 ++ ⟨#[42]⟩)] 9) := ⟨_, rfl⟩
                    obtain ⟨wc, hwc⟩ : ∃ wc, wc = wb.alloc (.cells #[.slice (some ⟨wl2.heap.size, 0, none⟩) 1 1, .slice none 0 0, .slice none 0 0, .slice none 0 0, .slice (some ⟨wl2.heap.size + 1, 0, none⟩) 1 1] 24) := ⟨_, rfl⟩
                    obtain ⟨hsc, bw, K0⟩ := pathsW wl2 wa wb wc (x1 ++ ⟨#[42]⟩) hsz hwa hwb hwc
                    have K := Lib.hid K0
                    have HW := Lib.hid (show wc = ((wl2.alloc (.cells #[.string ⟨#[103, 101, 116]⟩] 9)).alloc (.cells #[.string (x1 ++ ⟨#[42]⟩)] 9)).alloc (.cells #[.slice (some ⟨wl2.heap.size, 0, none⟩) 1 1, .slice none 0 0, .slice none 0 0, .slice none 0 0, .slice (some ⟨wl2.heap.size + 1, 0, none⟩) 1 1] 24) by rw [hwc, hwb, hwa])
                    have S0 := chain h2 bw
                    clear hwa hwb hwc K0
                    go_wp2_with fail
                    have Hw := HW.out
                    rw [← Hw]
                    clear Hw
                    have hn := below_new wc (.cells #[.string (x1 ++ ⟨#[42]⟩)] 9)
                    have hrw := row_new (B := 100) wc [x1 ++ ⟨#[42]⟩] 9 (by simpa using hsz)
                    rw [hsc] at hrw
                    refine (cP _ _ hrw).mono ?_
                    rintro e v1 ⟨rfl, hv1⟩
                    have s1 := chain hn hv1
                    obtain ⟨u1, g1⟩ := K.out _ s1
                    have p0 := blk_cell g1 0
                    have p1 := blk_cell g1 1
                    have p2 := blk_cell g1 2
                    have p3 := blk_cell g1 3
                    have p4 := blk_cell g1 4
                    go_wp2_with fail
                    refine (cG _ _ _ _ _ _ u1).mono ?_
                    rintro e v2 ⟨rfl, hv2⟩
                    have s2 := chain s1 hv2
                    clear u1 g1 p0 p1 p2 p3 p4
                    obtain ⟨u1, g1⟩ := K.out _ s2
                    have p0 := blk_cell g1 0
                    have p1 := blk_cell g1 1
                    have p2 := blk_cell g1 2
                    have p3 := blk_cell g1 3
                    have p4 := blk_cell g1 4
                    go_wp2_with fail
                    refine (cL _ _ _ _ _ _ u1).mono ?_
                    rintro e v3 ⟨rfl, hv3⟩
                    have s3 := chain s2 hv3
                    clear u1 g1 p0 p1 p2 p3 p4
                    obtain ⟨u1, g1⟩ := K.out _ s3
                    have p0 := blk_cell g1 0
                    have p1 := blk_cell g1 1
                    have p2 := blk_cell g1 2
                    have p3 := blk_cell g1 3
                    have p4 := blk_cell g1 4
                    go_wp2_with fail
                    refine (cT _ _ _ _ _ _ u1 (HM.out.later (chain S0 s3))).mono ?_
                    rintro e v4 ⟨rfl, hv4⟩
                    have s4 := chain s3 hv4
                    clear u1 g1 p0 p1 p2 p3 p4
                    obtain ⟨u1, g1⟩ := K.out _ s4
                    have p0 := blk_cell g1 0
                    have p1 := blk_cell g1 1
                    have p2 := blk_cell g1 2
                    have p3 := blk_cell g1 3
                    have p4 := blk_cell g1 4
                    go_wp2_with fail
                    refine (cF _ _ _ _ _ _ u1 (HM.out.later (chain S0 s4))).mono ?_
                    rintro e v5 ⟨rfl, hv5⟩
                    go_wp2
                    go_ret
                    exact ⟨rfl, chain S0 (chain s4 hv5)⟩
      case neg =>
        have hil : ¬ (k1 : Int) < (la.length : Int) := by omega
        clear hk1
        go_wp2
        go_loopw [10, 11] (fun t i wr => ∃ (k : Nat) (s : ByteArray), k ≤ 4 ∧ k ≤ lb.length ∧ t = .string s ∧ i = .int .i64 k ∧ Hid (PathW k s) ∧ s.size ≤ 13 ∧ Below w.heap.size w wr) (fun _ i _ => 4 - (intOf i).toNat)
        case atStart => exact ⟨0, _, by omega, by omega, rfl, rfl, pathW_first, by decide, h1⟩
        case round =>
          obtain ⟨k2, x2, hk42, hkl2, rfl, rfl, P2, hz2, h2⟩ := hrel
          obtain ⟨wl2, rfl⟩ : ∃ w', w' = wr := ⟨wr, rfl⟩
          by_cases hk2 : k2 < 4 ∧ k2 < lb.length
          case pos =>
            obtain ⟨hka, hkb⟩ := hk2
            have kia : (k2 : Int) < 4 := by omega
            have kib : (k2 : Int) < (lb.length : Int) := by omega
            obtain ⟨bb, off, hva, hbl, cs, hat, hcell⟩ := (HB.out.later h2).get hkb
            subst hva
            obtain ⟨hcs, hwf⟩ := hat
            subst hcs
            have c0 : wl2.cell? ⟨bb, off + k2, none⟩ = some (.int .i64 lb[k2]) := by have := hcell 0 _ rfl; simpa [num] using this
            clear hcell
            go_wp2_with fail
            refine (word_txt _ _).mono ?_
            rintro e w9 ⟨y, hy, rfl, hb9⟩
            have hzy := word_size hy
            have Hn := Lib.hid (pathW_next P2.out hy)
            have hz2 : (x2 ++ y).size ≤ 13 := by have := (pathW_size Hn.out).2; omega
            go_wp2
            go_roundw
            case rel => exact ⟨k2 + 1, _, by omega, by omega, rfl, by go_num, Hn, hz2, chain h2 hb9⟩
            case measure => simp [intOf]; omega
          case neg =>
            by_cases hq2 : k2 < lb.length
            case pos =>
              have hi4 : ¬ (k2 : Int) < 4 := by omega
              have hil : (k2 : Int) < (lb.length : Int) := by omega
              clear hk2
              cases star with
              | false =>
                cases t1 : (x1.toList == x2.toList) <;>
                ·
                  have CP := Lib.hid (fun a W hr => Path_any 100 (by omega) a 1 [x1] (by show 1 ≤ _; omega) x2 W hr)
                  have CG := Lib.hid (fun v g s n p W hu => Allows_any 100 (by omega) (pathRu (x1)) v g s n p (askP getS x2) W hu (ok_ask (by decide) (by omega)))
                  have CL := Lib.hid (fun v g s n p W hu => Allows_any 100 (by omega) (pathRu (x1)) v g s n p (askP listS x2) W hu (ok_ask (by decide) (by omega)))
                  have CT := Lib.hid (fun v g s n p W hu hm => Check_any 100 (by omega) (pathRu (x1)) v g s n p true W hu hm)
                  have CF := Lib.hid (fun v g s n p W hu hm => Check_any 100 (by omega) (pathRu (x1)) v g s n p false W hu hm)
                  have cP := CP.out
                  have cG := CG.out
                  have cL := CL.out
                  have cT := CT.out
                  have cF := CF.out
                  rw [any_one, at_no P1.out P2.out, t1] at cP
                  rw [allow_get P2.out, at_no P1.out P2.out, t1] at cG
                  rw [allow_list] at cL
                  rw [check_path (pathE_no P1.out (by omega))] at cT cF
                  clear CP CG CL CT CF
                  have hsz : (x1).size ≤ 100 := by omega
                  obtain ⟨wa, hwa⟩ : ∃ wa, wa = wl2.alloc (.cells #[.string ⟨#[103, 101, 116]⟩] 9) := ⟨_, rfl⟩
                  obtain ⟨wb, hwb⟩ : ∃ wb, wb = wa.alloc (.cells #[.string x1] 9) := ⟨_, rfl⟩
                  obtain ⟨wc, hwc⟩ : ∃ wc, wc = wb.alloc (.cells #[.slice (some ⟨wl2.heap.size, 0, none⟩) 1 1, .slice none 0 0, .slice none 0 0, .slice none 0 0, .slice (some ⟨wl2.heap.size + 1, 0, none⟩) 1 1] 24) := ⟨_, rfl⟩
                  obtain ⟨hsc, bw, K0⟩ := pathsW wl2 wa wb wc (x1) hsz hwa hwb hwc
                  have K := Lib.hid K0
                  have HW := Lib.hid (show wc = ((wl2.alloc (.cells #[.string ⟨#[103, 101, 116]⟩] 9)).alloc (.cells #[.string x1] 9)).alloc (.cells #[.slice (some ⟨wl2.heap.size, 0, none⟩) 1 1, .slice none 0 0, .slice none 0 0, .slice none 0 0, .slice (some ⟨wl2.heap.size + 1, 0, none⟩) 1 1] 24) by rw [hwc, hwb, hwa])
                  have S0 := chain h2 bw
                  clear hwa hwb hwc K0
                  go_wp2_with fail
                  have Hw := HW.out
                  rw [← Hw]
                  clear Hw
                  have hn := below_new wc (.cells #[.string x1] 9)
                  have hrw := row_new (B := 100) wc [x1] 9 (by simpa using hsz)
                  rw [hsc] at hrw
                  refine (cP _ _ hrw).mono ?_
                  rintro e v1 ⟨rfl, hv1⟩
                  have s1 := chain hn hv1
                  obtain ⟨u1, g1⟩ := K.out _ s1
                  have p0 := blk_cell g1 0
                  have p1 := blk_cell g1 1
                  have p2 := blk_cell g1 2
                  have p3 := blk_cell g1 3
                  have p4 := blk_cell g1 4
                  go_wp2_with fail
                  refine (cG _ _ _ _ _ _ u1).mono ?_
                  rintro e v2 ⟨rfl, hv2⟩
                  have s2 := chain s1 hv2
                  clear u1 g1 p0 p1 p2 p3 p4
                  obtain ⟨u1, g1⟩ := K.out _ s2
                  have p0 := blk_cell g1 0
                  have p1 := blk_cell g1 1
                  have p2 := blk_cell g1 2
                  have p3 := blk_cell g1 3
                  have p4 := blk_cell g1 4
                  go_wp2_with fail
                  refine (cL _ _ _ _ _ _ u1).mono ?_
                  rintro e v3 ⟨rfl, hv3⟩
                  have s3 := chain s2 hv3
                  clear u1 g1 p0 p1 p2 p3 p4
                  obtain ⟨u1, g1⟩ := K.out _ s3
                  have p0 := blk_cell g1 0
                  have p1 := blk_cell g1 1
                  have p2 := blk_cell g1 2
                  have p3 := blk_cell g1 3
                  have p4 := blk_cell g1 4
                  go_wp2_with fail
                  refine (cT _ _ _ _ _ _ u1 (HM.out.later (chain S0 s3))).mono ?_
                  rintro e v4 ⟨rfl, hv4⟩
                  have s4 := chain s3 hv4
                  clear u1 g1 p0 p1 p2 p3 p4
                  obtain ⟨u1, g1⟩ := K.out _ s4
                  have p0 := blk_cell g1 0
                  have p1 := blk_cell g1 1
                  have p2 := blk_cell g1 2
                  have p3 := blk_cell g1 3
                  have p4 := blk_cell g1 4
                  go_wp2_with fail
                  refine (cF _ _ _ _ _ _ u1 (HM.out.later (chain S0 s4))).mono ?_
                  rintro e v5 ⟨rfl, hv5⟩
                  go_wp2
                  go_ret
                  exact ⟨rfl, chain S0 (chain s4 hv5)⟩
              | true =>
                by_cases t2 : x1.size ≤ x2.size
                case neg =>
                  have t3 : ¬ (x1.size : Int) ≤ (x2.size : Int) := by omega
                  have CP := Lib.hid (fun a W hr => Path_any 100 (by omega) a 1 [x1 ++ ⟨#[42]⟩] (by show 1 ≤ _; omega) x2 W hr)
                  have CG := Lib.hid (fun v g s n p W hu => Allows_any 100 (by omega) (pathRu (x1 ++ ⟨#[42]⟩)) v g s n p (askP getS x2) W hu (ok_ask (by decide) (by omega)))
                  have CL := Lib.hid (fun v g s n p W hu => Allows_any 100 (by omega) (pathRu (x1 ++ ⟨#[42]⟩)) v g s n p (askP listS x2) W hu (ok_ask (by decide) (by omega)))
                  have CT := Lib.hid (fun v g s n p W hu hm => Check_any 100 (by omega) (pathRu (x1 ++ ⟨#[42]⟩)) v g s n p true W hu hm)
                  have CF := Lib.hid (fun v g s n p W hu hm => Check_any 100 (by omega) (pathRu (x1 ++ ⟨#[42]⟩)) v g s n p false W hu hm)
                  have cP := CP.out
                  have cG := CG.out
                  have cL := CL.out
                  have cT := CT.out
                  have cF := CF.out
                  rw [any_one, (show pathAt x2 (x1 ++ ⟨#[42]⟩) = _ from at_yes P1.out P2.out), decide_eq_false t2, Bool.false_and] at cP
                  rw [allow_get P2.out, (show pathAt x2 (x1 ++ ⟨#[42]⟩) = _ from at_yes P1.out P2.out), decide_eq_false t2, Bool.false_and] at cG
                  rw [allow_list] at cL
                  rw [check_path (show pathE (x1 ++ ⟨#[42]⟩ : ByteArray).data.toList = true from pathE_yes P1.out (by omega))] at cT cF
                  clear CP CG CL CT CF
                  have hsz : (x1 ++ ⟨#[42]⟩).size ≤ 100 := by rw [ByteArray.size_append]; show x1.size + 1 ≤ 100; omega
                  obtain ⟨wa, hwa⟩ : ∃ wa, wa = wl2.alloc (.cells #[.string ⟨#[103, 101, 116]⟩] 9) := ⟨_, rfl⟩
                  obtain ⟨wb, hwb⟩ : ∃ wb, wb = wa.alloc (.cells #[.string (x1 ++ ⟨#[42]⟩)] 9) := ⟨_, rfl⟩
                  obtain ⟨wc, hwc⟩ : ∃ wc, wc = wb.alloc (.cells #[.slice (some ⟨wl2.heap.size, 0, none⟩) 1 1, .slice none 0 0, .slice none 0 0, .slice none 0 0, .slice (some ⟨wl2.heap.size + 1, 0, none⟩) 1 1] 24) := ⟨_, rfl⟩
                  obtain ⟨hsc, bw, K0⟩ := pathsW wl2 wa wb wc (x1 ++ ⟨#[42]⟩) hsz hwa hwb hwc
                  have K := Lib.hid K0
                  have HW := Lib.hid (show wc = ((wl2.alloc (.cells #[.string ⟨#[103, 101, 116]⟩] 9)).alloc (.cells #[.string (x1 ++ ⟨#[42]⟩)] 9)).alloc (.cells #[.slice (some ⟨wl2.heap.size, 0, none⟩) 1 1, .slice none 0 0, .slice none 0 0, .slice none 0 0, .slice (some ⟨wl2.heap.size + 1, 0, none⟩) 1 1] 24) by rw [hwc, hwb, hwa])
                  have S0 := chain h2 bw
                  clear hwa hwb hwc K0
                  go_wp2_with fail
                  have Hw := HW.out
                  rw [← Hw]
                  clear Hw
                  have hn := below_new wc (.cells #[.string (x1 ++ ⟨#[42]⟩)] 9)
                  have hrw := row_new (B := 100) wc [x1 ++ ⟨#[42]⟩] 9 (by simpa using hsz)
                  rw [hsc] at hrw
                  refine (cP _ _ hrw).mono ?_
                  rintro e v1 ⟨rfl, hv1⟩
                  have s1 := chain hn hv1
                  obtain ⟨u1, g1⟩ := K.out _ s1
                  have p0 := blk_cell g1 0
                  have p1 := blk_cell g1 1
                  have p2 := blk_cell g1 2
                  have p3 := blk_cell g1 3
                  have p4 := blk_cell g1 4
                  go_wp2_with fail
                  refine (cG _ _ _ _ _ _ u1).mono ?_
                  rintro e v2 ⟨rfl, hv2⟩
                  have s2 := chain s1 hv2
                  clear u1 g1 p0 p1 p2 p3 p4
                  obtain ⟨u1, g1⟩ := K.out _ s2
                  have p0 := blk_cell g1 0
                  have p1 := blk_cell g1 1
                  have p2 := blk_cell g1 2
                  have p3 := blk_cell g1 3
                  have p4 := blk_cell g1 4
                  go_wp2_with fail
                  refine (cL _ _ _ _ _ _ u1).mono ?_
                  rintro e v3 ⟨rfl, hv3⟩
                  have s3 := chain s2 hv3
                  clear u1 g1 p0 p1 p2 p3 p4
                  obtain ⟨u1, g1⟩ := K.out _ s3
                  have p0 := blk_cell g1 0
                  have p1 := blk_cell g1 1
                  have p2 := blk_cell g1 2
                  have p3 := blk_cell g1 3
                  have p4 := blk_cell g1 4
                  go_wp2_with fail
                  refine (cT _ _ _ _ _ _ u1 (HM.out.later (chain S0 s3))).mono ?_
                  rintro e v4 ⟨rfl, hv4⟩
                  have s4 := chain s3 hv4
                  clear u1 g1 p0 p1 p2 p3 p4
                  obtain ⟨u1, g1⟩ := K.out _ s4
                  have p0 := blk_cell g1 0
                  have p1 := blk_cell g1 1
                  have p2 := blk_cell g1 2
                  have p3 := blk_cell g1 3
                  have p4 := blk_cell g1 4
                  go_wp2_with fail
                  refine (cF _ _ _ _ _ _ u1 (HM.out.later (chain S0 s4))).mono ?_
                  rintro e v5 ⟨rfl, hv5⟩
                  go_wp2
                  go_ret
                  exact ⟨rfl, chain S0 (chain s4 hv5)⟩
                case pos =>
                  have t3 : (x1.size : Int) ≤ (x2.size : Int) := by omega
                  cases t4 : ((x2.extract 0 x1.size).toList == x1.toList) <;>
                  ·
                    have CP := Lib.hid (fun a W hr => Path_any 100 (by omega) a 1 [x1 ++ ⟨#[42]⟩] (by show 1 ≤ _; omega) x2 W hr)
                    have CG := Lib.hid (fun v g s n p W hu => Allows_any 100 (by omega) (pathRu (x1 ++ ⟨#[42]⟩)) v g s n p (askP getS x2) W hu (ok_ask (by decide) (by omega)))
                    have CL := Lib.hid (fun v g s n p W hu => Allows_any 100 (by omega) (pathRu (x1 ++ ⟨#[42]⟩)) v g s n p (askP listS x2) W hu (ok_ask (by decide) (by omega)))
                    have CT := Lib.hid (fun v g s n p W hu hm => Check_any 100 (by omega) (pathRu (x1 ++ ⟨#[42]⟩)) v g s n p true W hu hm)
                    have CF := Lib.hid (fun v g s n p W hu hm => Check_any 100 (by omega) (pathRu (x1 ++ ⟨#[42]⟩)) v g s n p false W hu hm)
                    have cP := CP.out
                    have cG := CG.out
                    have cL := CL.out
                    have cT := CT.out
                    have cF := CF.out
                    rw [any_one, (show pathAt x2 (x1 ++ ⟨#[42]⟩) = _ from at_yes P1.out P2.out), decide_eq_true t2, t4, Bool.true_and] at cP
                    rw [allow_get P2.out, (show pathAt x2 (x1 ++ ⟨#[42]⟩) = _ from at_yes P1.out P2.out), decide_eq_true t2, t4, Bool.true_and] at cG
                    rw [allow_list] at cL
                    rw [check_path (show pathE (x1 ++ ⟨#[42]⟩ : ByteArray).data.toList = true from pathE_yes P1.out (by omega))] at cT cF
                    clear CP CG CL CT CF
                    have hsz : (x1 ++ ⟨#[42]⟩).size ≤ 100 := by rw [ByteArray.size_append]; show x1.size + 1 ≤ 100; omega
                    obtain ⟨wa, hwa⟩ : ∃ wa, wa = wl2.alloc (.cells #[.string ⟨#[103, 101, 116]⟩] 9) := ⟨_, rfl⟩
                    obtain ⟨wb, hwb⟩ : ∃ wb, wb = wa.alloc (.cells #[.string (x1 ++ ⟨#[42]⟩)] 9) := ⟨_, rfl⟩
                    obtain ⟨wc, hwc⟩ : ∃ wc, wc = wb.alloc (.cells #[.slice (some ⟨wl2.heap.size, 0, none⟩) 1 1, .slice none 0 0, .slice none 0 0, .slice none 0 0, .slice (some ⟨wl2.heap.size + 1, 0, none⟩) 1 1] 24) := ⟨_, rfl⟩
                    obtain ⟨hsc, bw, K0⟩ := pathsW wl2 wa wb wc (x1 ++ ⟨#[42]⟩) hsz hwa hwb hwc
                    have K := Lib.hid K0
                    have HW := Lib.hid (show wc = ((wl2.alloc (.cells #[.string ⟨#[103, 101, 116]⟩] 9)).alloc (.cells #[.string (x1 ++ ⟨#[42]⟩)] 9)).alloc (.cells #[.slice (some ⟨wl2.heap.size, 0, none⟩) 1 1, .slice none 0 0, .slice none 0 0, .slice none 0 0, .slice (some ⟨wl2.heap.size + 1, 0, none⟩) 1 1] 24) by rw [hwc, hwb, hwa])
                    have S0 := chain h2 bw
                    clear hwa hwb hwc K0
                    go_wp2_with fail
                    have Hw := HW.out
                    rw [← Hw]
                    clear Hw
                    have hn := below_new wc (.cells #[.string (x1 ++ ⟨#[42]⟩)] 9)
                    have hrw := row_new (B := 100) wc [x1 ++ ⟨#[42]⟩] 9 (by simpa using hsz)
                    rw [hsc] at hrw
                    refine (cP _ _ hrw).mono ?_
                    rintro e v1 ⟨rfl, hv1⟩
                    have s1 := chain hn hv1
                    obtain ⟨u1, g1⟩ := K.out _ s1
                    have p0 := blk_cell g1 0
                    have p1 := blk_cell g1 1
                    have p2 := blk_cell g1 2
                    have p3 := blk_cell g1 3
                    have p4 := blk_cell g1 4
                    go_wp2_with fail
                    refine (cG _ _ _ _ _ _ u1).mono ?_
                    rintro e v2 ⟨rfl, hv2⟩
                    have s2 := chain s1 hv2
                    clear u1 g1 p0 p1 p2 p3 p4
                    obtain ⟨u1, g1⟩ := K.out _ s2
                    have p0 := blk_cell g1 0
                    have p1 := blk_cell g1 1
                    have p2 := blk_cell g1 2
                    have p3 := blk_cell g1 3
                    have p4 := blk_cell g1 4
                    go_wp2_with fail
                    refine (cL _ _ _ _ _ _ u1).mono ?_
                    rintro e v3 ⟨rfl, hv3⟩
                    have s3 := chain s2 hv3
                    clear u1 g1 p0 p1 p2 p3 p4
                    obtain ⟨u1, g1⟩ := K.out _ s3
                    have p0 := blk_cell g1 0
                    have p1 := blk_cell g1 1
                    have p2 := blk_cell g1 2
                    have p3 := blk_cell g1 3
                    have p4 := blk_cell g1 4
                    go_wp2_with fail
                    refine (cT _ _ _ _ _ _ u1 (HM.out.later (chain S0 s3))).mono ?_
                    rintro e v4 ⟨rfl, hv4⟩
                    have s4 := chain s3 hv4
                    clear u1 g1 p0 p1 p2 p3 p4
                    obtain ⟨u1, g1⟩ := K.out _ s4
                    have p0 := blk_cell g1 0
                    have p1 := blk_cell g1 1
                    have p2 := blk_cell g1 2
                    have p3 := blk_cell g1 3
                    have p4 := blk_cell g1 4
                    go_wp2_with fail
                    refine (cF _ _ _ _ _ _ u1 (HM.out.later (chain S0 s4))).mono ?_
                    rintro e v5 ⟨rfl, hv5⟩
                    go_wp2
                    go_ret
                    exact ⟨rfl, chain S0 (chain s4 hv5)⟩
            case neg =>
              have hil : ¬ (k2 : Int) < (lb.length : Int) := by omega
              clear hk2
              cases star with
              | false =>
                cases t1 : (x1.toList == x2.toList) <;>
                ·
                  have CP := Lib.hid (fun a W hr => Path_any 100 (by omega) a 1 [x1] (by show 1 ≤ _; omega) x2 W hr)
                  have CG := Lib.hid (fun v g s n p W hu => Allows_any 100 (by omega) (pathRu (x1)) v g s n p (askP getS x2) W hu (ok_ask (by decide) (by omega)))
                  have CL := Lib.hid (fun v g s n p W hu => Allows_any 100 (by omega) (pathRu (x1)) v g s n p (askP listS x2) W hu (ok_ask (by decide) (by omega)))
                  have CT := Lib.hid (fun v g s n p W hu hm => Check_any 100 (by omega) (pathRu (x1)) v g s n p true W hu hm)
                  have CF := Lib.hid (fun v g s n p W hu hm => Check_any 100 (by omega) (pathRu (x1)) v g s n p false W hu hm)
                  have cP := CP.out
                  have cG := CG.out
                  have cL := CL.out
                  have cT := CT.out
                  have cF := CF.out
                  rw [any_one, at_no P1.out P2.out, t1] at cP
                  rw [allow_get P2.out, at_no P1.out P2.out, t1] at cG
                  rw [allow_list] at cL
                  rw [check_path (pathE_no P1.out (by omega))] at cT cF
                  clear CP CG CL CT CF
                  have hsz : (x1).size ≤ 100 := by omega
                  obtain ⟨wa, hwa⟩ : ∃ wa, wa = wl2.alloc (.cells #[.string ⟨#[103, 101, 116]⟩] 9) := ⟨_, rfl⟩
                  obtain ⟨wb, hwb⟩ : ∃ wb, wb = wa.alloc (.cells #[.string x1] 9) := ⟨_, rfl⟩
                  obtain ⟨wc, hwc⟩ : ∃ wc, wc = wb.alloc (.cells #[.slice (some ⟨wl2.heap.size, 0, none⟩) 1 1, .slice none 0 0, .slice none 0 0, .slice none 0 0, .slice (some ⟨wl2.heap.size + 1, 0, none⟩) 1 1] 24) := ⟨_, rfl⟩
                  obtain ⟨hsc, bw, K0⟩ := pathsW wl2 wa wb wc (x1) hsz hwa hwb hwc
                  have K := Lib.hid K0
                  have HW := Lib.hid (show wc = ((wl2.alloc (.cells #[.string ⟨#[103, 101, 116]⟩] 9)).alloc (.cells #[.string x1] 9)).alloc (.cells #[.slice (some ⟨wl2.heap.size, 0, none⟩) 1 1, .slice none 0 0, .slice none 0 0, .slice none 0 0, .slice (some ⟨wl2.heap.size + 1, 0, none⟩) 1 1] 24) by rw [hwc, hwb, hwa])
                  have S0 := chain h2 bw
                  clear hwa hwb hwc K0
                  go_wp2_with fail
                  have Hw := HW.out
                  rw [← Hw]
                  clear Hw
                  have hn := below_new wc (.cells #[.string x1] 9)
                  have hrw := row_new (B := 100) wc [x1] 9 (by simpa using hsz)
                  rw [hsc] at hrw
                  refine (cP _ _ hrw).mono ?_
                  rintro e v1 ⟨rfl, hv1⟩
                  have s1 := chain hn hv1
                  obtain ⟨u1, g1⟩ := K.out _ s1
                  have p0 := blk_cell g1 0
                  have p1 := blk_cell g1 1
                  have p2 := blk_cell g1 2
                  have p3 := blk_cell g1 3
                  have p4 := blk_cell g1 4
                  go_wp2_with fail
                  refine (cG _ _ _ _ _ _ u1).mono ?_
                  rintro e v2 ⟨rfl, hv2⟩
                  have s2 := chain s1 hv2
                  clear u1 g1 p0 p1 p2 p3 p4
                  obtain ⟨u1, g1⟩ := K.out _ s2
                  have p0 := blk_cell g1 0
                  have p1 := blk_cell g1 1
                  have p2 := blk_cell g1 2
                  have p3 := blk_cell g1 3
                  have p4 := blk_cell g1 4
                  go_wp2_with fail
                  refine (cL _ _ _ _ _ _ u1).mono ?_
                  rintro e v3 ⟨rfl, hv3⟩
                  have s3 := chain s2 hv3
                  clear u1 g1 p0 p1 p2 p3 p4
                  obtain ⟨u1, g1⟩ := K.out _ s3
                  have p0 := blk_cell g1 0
                  have p1 := blk_cell g1 1
                  have p2 := blk_cell g1 2
                  have p3 := blk_cell g1 3
                  have p4 := blk_cell g1 4
                  go_wp2_with fail
                  refine (cT _ _ _ _ _ _ u1 (HM.out.later (chain S0 s3))).mono ?_
                  rintro e v4 ⟨rfl, hv4⟩
                  have s4 := chain s3 hv4
                  clear u1 g1 p0 p1 p2 p3 p4
                  obtain ⟨u1, g1⟩ := K.out _ s4
                  have p0 := blk_cell g1 0
                  have p1 := blk_cell g1 1
                  have p2 := blk_cell g1 2
                  have p3 := blk_cell g1 3
                  have p4 := blk_cell g1 4
                  go_wp2_with fail
                  refine (cF _ _ _ _ _ _ u1 (HM.out.later (chain S0 s4))).mono ?_
                  rintro e v5 ⟨rfl, hv5⟩
                  go_wp2
                  go_ret
                  exact ⟨rfl, chain S0 (chain s4 hv5)⟩
              | true =>
                by_cases t2 : x1.size ≤ x2.size
                case neg =>
                  have t3 : ¬ (x1.size : Int) ≤ (x2.size : Int) := by omega
                  have CP := Lib.hid (fun a W hr => Path_any 100 (by omega) a 1 [x1 ++ ⟨#[42]⟩] (by show 1 ≤ _; omega) x2 W hr)
                  have CG := Lib.hid (fun v g s n p W hu => Allows_any 100 (by omega) (pathRu (x1 ++ ⟨#[42]⟩)) v g s n p (askP getS x2) W hu (ok_ask (by decide) (by omega)))
                  have CL := Lib.hid (fun v g s n p W hu => Allows_any 100 (by omega) (pathRu (x1 ++ ⟨#[42]⟩)) v g s n p (askP listS x2) W hu (ok_ask (by decide) (by omega)))
                  have CT := Lib.hid (fun v g s n p W hu hm => Check_any 100 (by omega) (pathRu (x1 ++ ⟨#[42]⟩)) v g s n p true W hu hm)
                  have CF := Lib.hid (fun v g s n p W hu hm => Check_any 100 (by omega) (pathRu (x1 ++ ⟨#[42]⟩)) v g s n p false W hu hm)
                  have cP := CP.out
                  have cG := CG.out
                  have cL := CL.out
                  have cT := CT.out
                  have cF := CF.out
                  rw [any_one, (show pathAt x2 (x1 ++ ⟨#[42]⟩) = _ from at_yes P1.out P2.out), decide_eq_false t2, Bool.false_and] at cP
                  rw [allow_get P2.out, (show pathAt x2 (x1 ++ ⟨#[42]⟩) = _ from at_yes P1.out P2.out), decide_eq_false t2, Bool.false_and] at cG
                  rw [allow_list] at cL
                  rw [check_path (show pathE (x1 ++ ⟨#[42]⟩ : ByteArray).data.toList = true from pathE_yes P1.out (by omega))] at cT cF
                  clear CP CG CL CT CF
                  have hsz : (x1 ++ ⟨#[42]⟩).size ≤ 100 := by rw [ByteArray.size_append]; show x1.size + 1 ≤ 100; omega
                  obtain ⟨wa, hwa⟩ : ∃ wa, wa = wl2.alloc (.cells #[.string ⟨#[103, 101, 116]⟩] 9) := ⟨_, rfl⟩
                  obtain ⟨wb, hwb⟩ : ∃ wb, wb = wa.alloc (.cells #[.string (x1 ++ ⟨#[42]⟩)] 9) := ⟨_, rfl⟩
                  obtain ⟨wc, hwc⟩ : ∃ wc, wc = wb.alloc (.cells #[.slice (some ⟨wl2.heap.size, 0, none⟩) 1 1, .slice none 0 0, .slice none 0 0, .slice none 0 0, .slice (some ⟨wl2.heap.size + 1, 0, none⟩) 1 1] 24) := ⟨_, rfl⟩
                  obtain ⟨hsc, bw, K0⟩ := pathsW wl2 wa wb wc (x1 ++ ⟨#[42]⟩) hsz hwa hwb hwc
                  have K := Lib.hid K0
                  have HW := Lib.hid (show wc = ((wl2.alloc (.cells #[.string ⟨#[103, 101, 116]⟩] 9)).alloc (.cells #[.string (x1 ++ ⟨#[42]⟩)] 9)).alloc (.cells #[.slice (some ⟨wl2.heap.size, 0, none⟩) 1 1, .slice none 0 0, .slice none 0 0, .slice none 0 0, .slice (some ⟨wl2.heap.size + 1, 0, none⟩) 1 1] 24) by rw [hwc, hwb, hwa])
                  have S0 := chain h2 bw
                  clear hwa hwb hwc K0
                  go_wp2_with fail
                  have Hw := HW.out
                  rw [← Hw]
                  clear Hw
                  have hn := below_new wc (.cells #[.string (x1 ++ ⟨#[42]⟩)] 9)
                  have hrw := row_new (B := 100) wc [x1 ++ ⟨#[42]⟩] 9 (by simpa using hsz)
                  rw [hsc] at hrw
                  refine (cP _ _ hrw).mono ?_
                  rintro e v1 ⟨rfl, hv1⟩
                  have s1 := chain hn hv1
                  obtain ⟨u1, g1⟩ := K.out _ s1
                  have p0 := blk_cell g1 0
                  have p1 := blk_cell g1 1
                  have p2 := blk_cell g1 2
                  have p3 := blk_cell g1 3
                  have p4 := blk_cell g1 4
                  go_wp2_with fail
                  refine (cG _ _ _ _ _ _ u1).mono ?_
                  rintro e v2 ⟨rfl, hv2⟩
                  have s2 := chain s1 hv2
                  clear u1 g1 p0 p1 p2 p3 p4
                  obtain ⟨u1, g1⟩ := K.out _ s2
                  have p0 := blk_cell g1 0
                  have p1 := blk_cell g1 1
                  have p2 := blk_cell g1 2
                  have p3 := blk_cell g1 3
                  have p4 := blk_cell g1 4
                  go_wp2_with fail
                  refine (cL _ _ _ _ _ _ u1).mono ?_
                  rintro e v3 ⟨rfl, hv3⟩
                  have s3 := chain s2 hv3
                  clear u1 g1 p0 p1 p2 p3 p4
                  obtain ⟨u1, g1⟩ := K.out _ s3
                  have p0 := blk_cell g1 0
                  have p1 := blk_cell g1 1
                  have p2 := blk_cell g1 2
                  have p3 := blk_cell g1 3
                  have p4 := blk_cell g1 4
                  go_wp2_with fail
                  refine (cT _ _ _ _ _ _ u1 (HM.out.later (chain S0 s3))).mono ?_
                  rintro e v4 ⟨rfl, hv4⟩
                  have s4 := chain s3 hv4
                  clear u1 g1 p0 p1 p2 p3 p4
                  obtain ⟨u1, g1⟩ := K.out _ s4
                  have p0 := blk_cell g1 0
                  have p1 := blk_cell g1 1
                  have p2 := blk_cell g1 2
                  have p3 := blk_cell g1 3
                  have p4 := blk_cell g1 4
                  go_wp2_with fail
                  refine (cF _ _ _ _ _ _ u1 (HM.out.later (chain S0 s4))).mono ?_
                  rintro e v5 ⟨rfl, hv5⟩
                  go_wp2
                  go_ret
                  exact ⟨rfl, chain S0 (chain s4 hv5)⟩
                case pos =>
                  have t3 : (x1.size : Int) ≤ (x2.size : Int) := by omega
                  cases t4 : ((x2.extract 0 x1.size).toList == x1.toList) <;>
                  ·
                    have CP := Lib.hid (fun a W hr => Path_any 100 (by omega) a 1 [x1 ++ ⟨#[42]⟩] (by show 1 ≤ _; omega) x2 W hr)
                    have CG := Lib.hid (fun v g s n p W hu => Allows_any 100 (by omega) (pathRu (x1 ++ ⟨#[42]⟩)) v g s n p (askP getS x2) W hu (ok_ask (by decide) (by omega)))
                    have CL := Lib.hid (fun v g s n p W hu => Allows_any 100 (by omega) (pathRu (x1 ++ ⟨#[42]⟩)) v g s n p (askP listS x2) W hu (ok_ask (by decide) (by omega)))
                    have CT := Lib.hid (fun v g s n p W hu hm => Check_any 100 (by omega) (pathRu (x1 ++ ⟨#[42]⟩)) v g s n p true W hu hm)
                    have CF := Lib.hid (fun v g s n p W hu hm => Check_any 100 (by omega) (pathRu (x1 ++ ⟨#[42]⟩)) v g s n p false W hu hm)
                    have cP := CP.out
                    have cG := CG.out
                    have cL := CL.out
                    have cT := CT.out
                    have cF := CF.out
                    rw [any_one, (show pathAt x2 (x1 ++ ⟨#[42]⟩) = _ from at_yes P1.out P2.out), decide_eq_true t2, t4, Bool.true_and] at cP
                    rw [allow_get P2.out, (show pathAt x2 (x1 ++ ⟨#[42]⟩) = _ from at_yes P1.out P2.out), decide_eq_true t2, t4, Bool.true_and] at cG
                    rw [allow_list] at cL
                    rw [check_path (show pathE (x1 ++ ⟨#[42]⟩ : ByteArray).data.toList = true from pathE_yes P1.out (by omega))] at cT cF
                    clear CP CG CL CT CF
                    have hsz : (x1 ++ ⟨#[42]⟩).size ≤ 100 := by rw [ByteArray.size_append]; show x1.size + 1 ≤ 100; omega
                    obtain ⟨wa, hwa⟩ : ∃ wa, wa = wl2.alloc (.cells #[.string ⟨#[103, 101, 116]⟩] 9) := ⟨_, rfl⟩
                    obtain ⟨wb, hwb⟩ : ∃ wb, wb = wa.alloc (.cells #[.string (x1 ++ ⟨#[42]⟩)] 9) := ⟨_, rfl⟩
                    obtain ⟨wc, hwc⟩ : ∃ wc, wc = wb.alloc (.cells #[.slice (some ⟨wl2.heap.size, 0, none⟩) 1 1, .slice none 0 0, .slice none 0 0, .slice none 0 0, .slice (some ⟨wl2.heap.size + 1, 0, none⟩) 1 1] 24) := ⟨_, rfl⟩
                    obtain ⟨hsc, bw, K0⟩ := pathsW wl2 wa wb wc (x1 ++ ⟨#[42]⟩) hsz hwa hwb hwc
                    have K := Lib.hid K0
                    have HW := Lib.hid (show wc = ((wl2.alloc (.cells #[.string ⟨#[103, 101, 116]⟩] 9)).alloc (.cells #[.string (x1 ++ ⟨#[42]⟩)] 9)).alloc (.cells #[.slice (some ⟨wl2.heap.size, 0, none⟩) 1 1, .slice none 0 0, .slice none 0 0, .slice none 0 0, .slice (some ⟨wl2.heap.size + 1, 0, none⟩) 1 1] 24) by rw [hwc, hwb, hwa])
                    have S0 := chain h2 bw
                    clear hwa hwb hwc K0
                    go_wp2_with fail
                    have Hw := HW.out
                    rw [← Hw]
                    clear Hw
                    have hn := below_new wc (.cells #[.string (x1 ++ ⟨#[42]⟩)] 9)
                    have hrw := row_new (B := 100) wc [x1 ++ ⟨#[42]⟩] 9 (by simpa using hsz)
                    rw [hsc] at hrw
                    refine (cP _ _ hrw).mono ?_
                    rintro e v1 ⟨rfl, hv1⟩
                    have s1 := chain hn hv1
                    obtain ⟨u1, g1⟩ := K.out _ s1
                    have p0 := blk_cell g1 0
                    have p1 := blk_cell g1 1
                    have p2 := blk_cell g1 2
                    have p3 := blk_cell g1 3
                    have p4 := blk_cell g1 4
                    go_wp2_with fail
                    refine (cG _ _ _ _ _ _ u1).mono ?_
                    rintro e v2 ⟨rfl, hv2⟩
                    have s2 := chain s1 hv2
                    clear u1 g1 p0 p1 p2 p3 p4
                    obtain ⟨u1, g1⟩ := K.out _ s2
                    have p0 := blk_cell g1 0
                    have p1 := blk_cell g1 1
                    have p2 := blk_cell g1 2
                    have p3 := blk_cell g1 3
                    have p4 := blk_cell g1 4
                    go_wp2_with fail
                    refine (cL _ _ _ _ _ _ u1).mono ?_
                    rintro e v3 ⟨rfl, hv3⟩
                    have s3 := chain s2 hv3
                    clear u1 g1 p0 p1 p2 p3 p4
                    obtain ⟨u1, g1⟩ := K.out _ s3
                    have p0 := blk_cell g1 0
                    have p1 := blk_cell g1 1
                    have p2 := blk_cell g1 2
                    have p3 := blk_cell g1 3
                    have p4 := blk_cell g1 4
                    go_wp2_with fail
                    refine (cT _ _ _ _ _ _ u1 (HM.out.later (chain S0 s3))).mono ?_
                    rintro e v4 ⟨rfl, hv4⟩
                    have s4 := chain s3 hv4
                    clear u1 g1 p0 p1 p2 p3 p4
                    obtain ⟨u1, g1⟩ := K.out _ s4
                    have p0 := blk_cell g1 0
                    have p1 := blk_cell g1 1
                    have p2 := blk_cell g1 2
                    have p3 := blk_cell g1 3
                    have p4 := blk_cell g1 4
                    go_wp2_with fail
                    refine (cF _ _ _ _ _ _ u1 (HM.out.later (chain S0 s4))).mono ?_
                    rintro e v5 ⟨rfl, hv5⟩
                    go_wp2
                    go_ret
                    exact ⟨rfl, chain S0 (chain s4 hv5)⟩
end Go.Proofs.YthflpgeonllgdaaDoor.rul

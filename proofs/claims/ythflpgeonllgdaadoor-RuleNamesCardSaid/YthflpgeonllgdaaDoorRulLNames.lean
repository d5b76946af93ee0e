/- Layer 8: the law RuleNames. -/
import Derived.Test.YthflpgeonllgdaaDoorRulNameP
import Derived.Test.YthflpgeonllgdaaDoorRulAtt
import Derived.Test.YthflpgeonllgdaaDoorRulAwake
import Derived.Test.YthflpgeonllgdaaDoorRulFrame
import Derived.Test.YthflpgeonllgdaaDoorRepK
import Derived.Test.YthflpgeonllgdaaDoorRepH
import Derived.Maps.AppendAt
namespace Go.Proofs.YthflpgeonllgdaaDoor.rul
open Go.RowKit Go.Proofs.YthflpgeonllgdaaDoor.rep Go.Proofs.YthflpgeonllgdaaDoor.lab

theorem names_attr {s : ByteArray} (hs : nameT s) : attrB (askN s) = true := by
  have e1 : nam.verbB getS.data.toList = true := by decide +kernel
  have e2 : noS.toList.isEmpty = true := by rw [ByteArray.toList_eq]; rfl
  have e3 : segX podS = true := by decide +kernel
  have e4 : orNone segX noS = true := by decide +kernel
  have e5 : orNone subX noS = true := by decide +kernel
  have e6 : orNone labX noS = true := by decide +kernel
  have e7 : orNone segX s = true := by
    rcases hs with rfl | hw
    · exact e4
    · unfold orNone segX; rw [word_seg hw]; simp
  unfold attrB askN
  simp [e1, e2, e3, e4, e5, e6, e7]
theorem info_parts {e : TypeId} {z : Value} {n b : Nat} (h : (Tryd.prog.info? e).map (fun i => (i.zero, i.size, i.bytes)) = some (some z, n, b)) : ∃ i, Tryd.prog.info? e = some i ∧ i.zero = some z ∧ i.size = n ∧ i.bytes = b := by
  cases hi : Tryd.prog.info? e with
  | none => rw [hi] at h; cases h
  | some i =>
    rw [hi] at h
    simp only [Option.map_some, Option.some.injEq, Prod.mk.injEq] at h
    exact ⟨i, rfl, h.1, h.2.1, h.2.2⟩
theorem info_Tx : (Tryd.prog.info? 9).map (fun i => (i.zero, i.size, i.bytes)) = some (some (.string ByteArray.empty), 1, 16) := by kernel_rfl
theorem lists_tx {B : Nat} {W : World} : ∀ l : List ByteArray, (∀ x ∈ l, x.size ≤ B) → Lists (text B) W (l.map fun x => [Value.string x]) l := fun l h => by
  refine ⟨by simp, fun i cs x h1 h2 => ?_⟩
  rw [List.getElem?_map, h2] at h1
  simp only [Option.map_some, Option.some.injEq] at h1
  exact ⟨h1.symm, h x (List.mem_of_getElem? h2)⟩
theorem flat_tx : ∀ l : List ByteArray, (l.map fun x => [Value.string x]).flatten = l.map Value.string
  | [] => rfl
  | x :: l => by rw [List.map_cons, List.flatten_cons, flat_tx l]; rfl
theorem namesW (W wa wb wc : World) (ha : wa = W.alloc (.cells #[.string ⟨#[103, 101, 116]⟩] 9)) (hb : wb = wa.alloc (.cells #[.string ⟨#[]⟩] 9)) (hc : wc = wb.alloc (.cells #[.string ⟨#[112, 111, 100, 115]⟩] 9)) :
    wc.heap.size = W.heap.size + 1 + 1 + 1 ∧ Below W.heap.size W wc ∧ ∀ V, Below wc.heap.size wc V → RowAt 100 (text 100) V (.slice (some ⟨W.heap.size, 0, none⟩) 1 1) [getS] ∧ RowAt 100 (text 100) V (.slice (some ⟨W.heap.size + 1, 0, none⟩) 1 1) [noS] ∧ RowAt 100 (text 100) V (.slice (some ⟨W.heap.size + 1 + 1, 0, none⟩) 1 1) [podS] := by
  have sa : wa.heap.size = W.heap.size + 1 := by rw [ha, World.size_alloc]
  have sb : wb.heap.size = W.heap.size + 1 + 1 := by rw [hb, World.size_alloc, sa]
  have sc : wc.heap.size = W.heap.size + 1 + 1 + 1 := by rw [hc, World.size_alloc, sb]
  have ba : Below W.heap.size W wa := by rw [ha]; exact below_new _ _
  have bb : Below wa.heap.size wa wb := by rw [hb]; exact below_new _ _
  have bc : Below wb.heap.size wb wc := by rw [hc]; exact below_new _ _
  have r1 : RowAt 100 (text 100) wa (.slice (some ⟨W.heap.size, 0, none⟩) 1 1) [getS] := by rw [ha]; exact row_at W [getS] 9 (by decide) (by decide) (by omega)
  have r2 : RowAt 100 (text 100) wb (.slice (some ⟨W.heap.size + 1, 0, none⟩) 1 1) [noS] := by rw [hb, ← sa]; exact row_at wa [noS] 9 (by decide) (by decide) (by omega)
  have r3 : RowAt 100 (text 100) wc (.slice (some ⟨W.heap.size + 1 + 1, 0, none⟩) 1 1) [podS] := by rw [hc, ← sb]; exact row_at wb [podS] 9 (by decide) (by decide) (by omega)
  exact ⟨sc, chain (chain ba bb) bc, fun V hV => ⟨((r1.later bb).later bc).later hV, (r2.later bc).later hV, r3.later hV⟩⟩
theorem name_size {s : ByteArray} (h : nameT s) : s.size ≤ 3 := by
  rcases h with rfl | h
  · decide
  · exact word_size h
theorem ok_name {s : ByteArray} (h : nameT s) : akOk 100 (askN s) := by
  have := name_size h
  exact ⟨show getS.size ≤ 100 by decide, show noS.size ≤ 100 by decide, show podS.size ≤ 100 by decide, show noS.size ≤ 100 by decide, by show s.size ≤ 100; omega, show noS.size ≤ 100 by decide, show noS.size ≤ 100 by decide⟩
theorem ok_name2 {s : ByteArray} (h : nameT s) : akOk 1048576 (askN s) := by
  have := name_size h
  exact ⟨show getS.size ≤ 1048576 by decide, show noS.size ≤ 1048576 by decide, show podS.size ≤ 1048576 by decide, show noS.size ≤ 1048576 by decide, by show s.size ≤ 1048576; omega, show noS.size ≤ 1048576 by decide, show noS.size ≤ 1048576 by decide⟩
set_option maxRecDepth 100000 in
set_option maxHeartbeats 8000000 in
theorem lawNames (B : Nat) (_hB : B ≤ 140737488355328) (_hB2 : 100 ≤ B) (u : Value) (la : List Int) (n : Int) (w : World) (hu : RowAt B num w u la) (_hn : (Lit.int .i64 n).wf = true) (hm : nam.MaxL w) :
    Calls Tryd.prog 9 #[u, .int .i64 n] w fun e w' => e = .returned (.bool true) ∧ Below w.heap.size w w' := by
  obtain ⟨i0, hi0, hz0, hz1, hz2⟩ := info_parts info_Tx
  obtain ⟨a, ac, rfl, _, _, hla, hra⟩ := hu
  have HA := Lib.hid hra
  have HM := Lib.hid hm
  obtain ⟨K7, hK7⟩ := low7 n
  have HK := Lib.hid hK7
  clear hra hm hK7
  by_cases h7 : K7 = 0
  case neg =>
    have h7i : ((K7 : Int) == 0) = false := by rw [beq_eq_false_iff_ne]; omega
    go_enter Tryd.func9, Tryd.ntmps9
    go_wp2_with fail
    refine (awake_any _ HM.out).mono ?_
    rintro e w1 ⟨rfl, hb1⟩
    go_upto_if 19 with (fail)
    rw [HK.out]
    go_wp2_with fail
    obtain ⟨wa, hwa⟩ : ∃ wa, wa = w1.alloc (.cells #[.string ⟨#[103, 101, 116]⟩] 9) := ⟨_, rfl⟩
    obtain ⟨wb, hwb⟩ : ∃ wb, wb = wa.alloc (.cells #[.string ⟨#[]⟩] 9) := ⟨_, rfl⟩
    obtain ⟨wc, hwc⟩ : ∃ wc, wc = wb.alloc (.cells #[.string ⟨#[112, 111, 100, 115]⟩] 9) := ⟨_, rfl⟩
    obtain ⟨wd, hwd⟩ : ∃ wd, wd = wc.alloc (.cells #[.slice (some ⟨w1.heap.size, 0, none⟩) 1 1, .slice (some ⟨w1.heap.size + 1, 0, none⟩) 1 1, .slice (some ⟨w1.heap.size + 1 + 1, 0, none⟩) 1 1, .slice none 0 0, .slice none 0 0] 24) := ⟨_, rfl⟩
    obtain ⟨hsc, bw, K0⟩ := namesW w1 wa wb wc hwa hwb hwc
    have K := Lib.hid K0
    have Hw : wd = (((w1.alloc (.cells #[.string ⟨#[103, 101, 116]⟩] 9)).alloc (.cells #[.string ⟨#[]⟩] 9)).alloc (.cells #[.string ⟨#[112, 111, 100, 115]⟩] 9)).alloc (.cells #[.slice (some ⟨w1.heap.size, 0, none⟩) 1 1, .slice (some ⟨w1.heap.size + 1, 0, none⟩) 1 1, .slice (some ⟨w1.heap.size + 1 + 1, 0, none⟩) 1 1, .slice none 0 0, .slice none 0 0] 24) := by rw [hwd, hwc, hwb, hwa]
    rw [← Hw]
    have gd : wd.heap[w1.heap.size + 1 + 1 + 1]? = some (.cells #[.slice (some ⟨w1.heap.size, 0, none⟩) 1 1, .slice (some ⟨w1.heap.size + 1, 0, none⟩) 1 1, .slice (some ⟨w1.heap.size + 1 + 1, 0, none⟩) 1 1, .slice none 0 0, .slice none 0 0] 24) := by rw [hwd, ← hsc]; exact heap_alloc_new _ _
    have bd : Below wc.heap.size wc wd := by rw [hwd]; exact below_new _ _
    have bwc := chain hb1 bw
    clear K0 Hw hwa hwb hwc hwd bw
    refine (word_txt _ _).mono ?_
    rintro e w3 ⟨nm, hnm0, rfl, hb3⟩
    have hnm : nameT nm := .inr hnm0
    have b3 := chain bd hb3
    have g3 := blk_later gd hb3
    go_wp2
    go_loopw [7, 9] (fun t i wr => ∃ (k : Nat) (names : List ByteArray) (v : Value), k ≤ 5 ∧ k ≤ la.length ∧ t = .bool (among names nm) ∧ i = .int .i64 k ∧ Hid (names.length = k ∧ ∀ x ∈ names, wordT x) ∧ Hid (wr.heap[w1.heap.size + 1 + 1 + 1]? = some (.cells #[.slice (some ⟨w1.heap.size, 0, none⟩) 1 1, .slice (some ⟨w1.heap.size + 1, 0, none⟩) 1 1, .slice (some ⟨w1.heap.size + 1 + 1, 0, none⟩) 1 1, v, .slice none 0 0] 24)) ∧ Hid (wr.ownsRow (w1.heap.size + 1 + 1 + 1 + 1) 9 1 v k (names.map Value.string)) ∧ Below wc.heap.size wc wr ∧ w1.heap.size + 1 + 1 + 1 + 1 ≤ wr.heap.size) (fun _ i _ => 5 - (intOf i).toNat)
    case atStart => exact ⟨0, [], _, by omega, by omega, rfl, rfl, ⟨rfl, fun x hx => by cases hx⟩, g3, World.ownsRow_nil _ _ _ _, b3, by have := blk_lt g3; omega⟩
    case round =>
      obtain ⟨k, names, v, hk5, hkl, rfl, rfl, HN, Hg, Hown, hbr, hsz⟩ := hrel
      obtain ⟨wl, rfl⟩ : ∃ w', w' = wr := ⟨wr, rfl⟩
      obtain ⟨oa, oc, rfl⟩ := own_form Hown.out
      have hbw := chain bwc hbr
      by_cases hk : k < 5 ∧ k < la.length
      case pos =>
        obtain ⟨hka, hkb⟩ := hk
        have kia : (k : Int) < 5 := by omega
        have kib : (k : Int) < (la.length : Int) := by omega
        obtain ⟨bb, off, hva, hbl, cs, hat, hcell⟩ := (HA.out.later hbw).get hkb
        subst hva
        obtain ⟨hcs, hwf⟩ := hat
        subst hcs
        have c0 : wl.cell? ⟨bb, off + k, none⟩ = some (.int .i64 la[k]) := by have := hcell 0 _ rfl; simpa [num] using this
        clear hcell
        go_wp2_with fail
        refine (word_txt _ _).mono ?_
        rintro e w4 ⟨y, hy, rfl, hb4⟩
        have hzy := word_size hy
        have g4 := blk_later Hg.out hb4
        have e3 : w4.cell? ⟨w1.heap.size + 1 + 1 + 1, 3, none⟩ = some (.slice oa k oc) := blk_cell g4 3
        have l4 := blk_lt g4
        have Hown4 := Lib.hid (own_stays Hown.out (fun i _ hi => hb4.block i hi))
        have sn := Lib.hid (among_snoc2 names y nm)
        have HN2 := Lib.hid (show (names ++ [y]).length = k + 1 ∧ ∀ x ∈ names ++ [y], wordT x from ⟨by rw [List.length_append, HN.out.1]; rfl, fun x hx => by
          rcases List.mem_append.1 hx with hx | hx
          · exact HN.out.2 x hx
          · rw [List.mem_singleton.1 hx]; exact hy⟩)
        obtain ⟨t1, ht1⟩ : ∃ t1, among names nm = t1 := ⟨_, rfl⟩
        obtain ⟨t2, ht2⟩ : ∃ t2, (y.toList == nm.toList) = t2 := ⟨_, rfl⟩
        rw [ht1, ht2] at sn
        rw [ht1]
        clear ht1
        cases t1 <;> cases t2
        all_goals
          go_wp2_with (first
            | (at_builtin; refine wpList_append_own_at (o := ⟨some 41, _, _, _, _, _⟩) _ rfl _ _ 22 rfl (w1.heap.size + 1 + 1 + 1 + 1) 9 i0 _ 1 16 Tryd.underlying22 hi0 hz0 hz1 hz2 rfl (by decide) _ k (names.map Value.string) rfl (Hown4.out.alloc _) ⟨w4.heap.size, 0, none⟩ 1 1 [.string y] rfl rfl (cells_new (by simp) _ _) (by intro u hu; simp only [List.mem_cons, List.not_mem_nil, or_false] at hu; rcases hu with rfl; rfl) (by unfold maxLen; omega) (by omega) (by simp; omega) ?_; intro v' w5 hown5 hg5 _ hat5; obtain ⟨pa, pc, rfl⟩ := own_form hown5; have g5 := (grown_old hg5 (Hown4.out.alloc _) (show w1.heap.size + 1 + 1 + 1 < (w4.alloc (.cells #[.string y] 9)).heap.size by simp; omega) (by omega)).trans (blk_alloc g4 (.cells #[.string y] 9)); have f3 := blk_frozen g5 3; have e5 := blk_cell g5 3; have Hown5 := Lib.hid hown5; have bb5 := below_own (chain hbr (chain hb4 (below_new w4 (.cells #[.string y] 9)))) hg5 (Hown4.out.alloc _) (by rw [hsc]; omega); have hs5 := hg5.size; clear hown5))
          go_roundw
          case rel =>
            refine ⟨k + 1, names ++ [y], .slice pa (k + 1) pc, by omega, by omega, by rw [sn.out]; rfl, by go_num, HN2, ?_, ?_, bb5.setCell (p := ⟨w1.heap.size + 1 + 1 + 1, 3, none⟩) (by rw [hsc]; exact Nat.le_refl _) _, by rw [set_size]; simp at hs5; omega⟩
            · exact Lib.hid (blk_set g5 3 (.slice pa (k + 1) pc))
            · refine Lib.hid (own_set (by rw [List.map_append]; exact Hown5.out) g5 (by decide) 3 (.slice pa (k + 1) pc))
          case measure => simp [intOf]; omega
      case neg =>
        by_cases hq : k < la.length
        case pos =>
          have hi5 : ¬ (k : Int) < 5 := by omega
          have hil : (k : Int) < (la.length : Int) := by omega
          clear hk
          have gl := Hg.out
          have FA := Lib.hid (show ∀ W, Below (wl.alloc (.cells #[.string ⟨#[103, 101, 116]⟩, .string ⟨#[]⟩, .string ⟨#[112, 111, 100, 115]⟩, .string ⟨#[]⟩, .string nm, .string ⟨#[]⟩, .string ⟨#[]⟩] 26)).heap.size (wl.alloc (.cells #[.string ⟨#[103, 101, 116]⟩, .string ⟨#[]⟩, .string ⟨#[112, 111, 100, 115]⟩, .string ⟨#[]⟩, .string nm, .string ⟨#[]⟩, .string ⟨#[]⟩] 26)) W → W.cell? ⟨w1.heap.size + 1 + 1 + 1, 0, none⟩ = some (.slice (some ⟨w1.heap.size, 0, none⟩) 1 1) ∧ W.cell? ⟨w1.heap.size + 1 + 1 + 1, 1, none⟩ = some (.slice (some ⟨w1.heap.size + 1, 0, none⟩) 1 1) ∧ W.cell? ⟨w1.heap.size + 1 + 1 + 1, 2, none⟩ = some (.slice (some ⟨w1.heap.size + 1 + 1, 0, none⟩) 1 1) ∧ W.cell? ⟨w1.heap.size + 1 + 1 + 1, 3, none⟩ = some (.slice oa k oc) ∧ W.cell? ⟨w1.heap.size + 1 + 1 + 1, 4, none⟩ = some (.slice none 0 0) ∧ W.cell? ⟨wl.heap.size, 0, none⟩ = some (.string ⟨#[103, 101, 116]⟩) ∧ W.cell? ⟨wl.heap.size, 1, none⟩ = some (.string ⟨#[]⟩) ∧ W.cell? ⟨wl.heap.size, 2, none⟩ = some (.string ⟨#[112, 111, 100, 115]⟩) ∧ W.cell? ⟨wl.heap.size, 3, none⟩ = some (.string ⟨#[]⟩) ∧ W.cell? ⟨wl.heap.size, 4, none⟩ = some (.string nm) ∧ W.cell? ⟨wl.heap.size, 5, none⟩ = some (.string ⟨#[]⟩) ∧ W.cell? ⟨wl.heap.size, 6, none⟩ = some (.string ⟨#[]⟩) from fun W h => by
            have r0 := blk_later (blk_alloc gl (.cells #[.string ⟨#[103, 101, 116]⟩, .string ⟨#[]⟩, .string ⟨#[112, 111, 100, 115]⟩, .string ⟨#[]⟩, .string nm, .string ⟨#[]⟩, .string ⟨#[]⟩] 26)) h
            have r1 := blk_later (heap_alloc_new wl (.cells #[.string ⟨#[103, 101, 116]⟩, .string ⟨#[]⟩, .string ⟨#[112, 111, 100, 115]⟩, .string ⟨#[]⟩, .string nm, .string ⟨#[]⟩, .string ⟨#[]⟩] 26)) h
            exact ⟨blk_cell r0 0, blk_cell r0 1, blk_cell r0 2, blk_cell r0 3, blk_cell r0 4, blk_cell r1 0, blk_cell r1 1, blk_cell r1 2, blk_cell r1 3, blk_cell r1 4, blk_cell r1 5, blk_cell r1 6⟩)
          have hrow : RowAt 100 (text 100) wl (.slice oa k oc) names := RowAt.of_own (r := text 100) (css := names.map fun x => [Value.string x]) (by rw [flat_tx]; exact Hown.out) HN.out.1.symm (lists_tx names fun x hx => by have := word_size (HN.out.2 x hx); omega) (by rw [HN.out.1]; omega)
          have RU := Lib.hid (show ∀ W, Below (wl.alloc (.cells #[.string ⟨#[103, 101, 116]⟩, .string ⟨#[]⟩, .string ⟨#[112, 111, 100, 115]⟩, .string ⟨#[]⟩, .string nm, .string ⟨#[]⟩, .string ⟨#[]⟩] 26)).heap.size (wl.alloc (.cells #[.string ⟨#[103, 101, 116]⟩, .string ⟨#[]⟩, .string ⟨#[112, 111, 100, 115]⟩, .string ⟨#[]⟩, .string nm, .string ⟨#[]⟩, .string ⟨#[]⟩] 26)) W → ruAt 100 W (.slice (some ⟨w1.heap.size, 0, none⟩) 1 1) (.slice (some ⟨w1.heap.size + 1, 0, none⟩) 1 1) (.slice (some ⟨w1.heap.size + 1 + 1, 0, none⟩) 1 1) (.slice oa k oc) (.slice none 0 0) (nameRu names) from fun W h => by
            have hb := chain (below_new wl (.cells #[.string ⟨#[103, 101, 116]⟩, .string ⟨#[]⟩, .string ⟨#[112, 111, 100, 115]⟩, .string ⟨#[]⟩, .string nm, .string ⟨#[]⟩, .string ⟨#[]⟩] 26)) h
            obtain ⟨r1, r2, r3⟩ := K.out W (chain hbr hb)
            exact ⟨r1, r2, r3, hrow.later hb, row_none _⟩)
          have cL := fun v g s n p W hu => Allows_any 100 (by omega) (nameRu names) v g s n p (askN nm) W hu (ok_name hnm)
          have cC := fun v g s n p W hu hm => Check_any 100 (by omega) (nameRu names) v g s n p false W hu hm
          have cA := fun W hm => Attr_any (askN nm) (ok_name2 hnm) W hm
          rw [names_allow HN.out.2 hnm, HN.out.1] at cL
          rw [names_check HN.out.2 (by rw [HN.out.1]; omega)] at cC
          rw [names_attr hnm] at cA
          by_cases k0 : k = 0
          case pos =>
            have ki0 : ((k : Int) == 0) = true := by rw [k0]; rfl
            rw [decide_eq_true k0, Bool.true_or] at cL
            clear k0
            go_wp2_with fail
            refine wp_region_noPanic ?_
            refine wp_region_held_drew (S := fun w' => w'.cell? ⟨w1.heap.size + 1 + 1 + 1, 0, none⟩ = some (.slice (some ⟨w1.heap.size, 0, none⟩) 1 1) ∧ w'.cell? ⟨w1.heap.size + 1 + 1 + 1, 1, none⟩ = some (.slice (some ⟨w1.heap.size + 1, 0, none⟩) 1 1) ∧ w'.cell? ⟨w1.heap.size + 1 + 1 + 1, 2, none⟩ = some (.slice (some ⟨w1.heap.size + 1 + 1, 0, none⟩) 1 1) ∧ w'.cell? ⟨w1.heap.size + 1 + 1 + 1, 3, none⟩ = some (.slice oa k oc) ∧ w'.cell? ⟨w1.heap.size + 1 + 1 + 1, 4, none⟩ = some (.slice none 0 0) ∧ w'.cell? ⟨wl.heap.size, 0, none⟩ = some (.string ⟨#[103, 101, 116]⟩) ∧ w'.cell? ⟨wl.heap.size, 1, none⟩ = some (.string ⟨#[]⟩) ∧ w'.cell? ⟨wl.heap.size, 2, none⟩ = some (.string ⟨#[112, 111, 100, 115]⟩) ∧ w'.cell? ⟨wl.heap.size, 3, none⟩ = some (.string ⟨#[]⟩) ∧ w'.cell? ⟨wl.heap.size, 4, none⟩ = some (.string nm) ∧ w'.cell? ⟨wl.heap.size, 5, none⟩ = some (.string ⟨#[]⟩) ∧ w'.cell? ⟨wl.heap.size, 6, none⟩ = some (.string ⟨#[]⟩)) (by kernel_rfl) ?_ (fun hHeld => ?_)
            · exact (FA.out _ (Below.refl _ _).drew)
            refine takeH 0 (d := 51) (v := ?_) rfl (by kernel_rfl) (by kernel_rfl) (by kernel_rfl) noPanic_none (by rfl) hHeld ?_ ?_
            rotate_left
            · (intro w hSw; (try dsimp only at hSw); go_simp; try (with_reducible rfl))
            try simp only [Act.put, List.setIfInBounds_toArray, List.set_cons_zero, List.set_cons_succ]
            refine takeH 1 (d := 52) (v := ?_) rfl (by kernel_rfl) (by kernel_rfl) (by kernel_rfl) noPanic_none (by rfl) hHeld ?_ ?_
            rotate_left
            · (intro w hSw; (try dsimp only at hSw); go_simp; try (with_reducible rfl))
            try simp only [Act.put, List.setIfInBounds_toArray, List.set_cons_zero, List.set_cons_succ]
            refine takeH 2 (d := 53) (v := ?_) rfl (by kernel_rfl) (by kernel_rfl) (by kernel_rfl) noPanic_none (by rfl) hHeld ?_ ?_
            rotate_left
            · (intro w hSw; (try dsimp only at hSw); go_simp; try (with_reducible rfl))
            try simp only [Act.put, List.setIfInBounds_toArray, List.set_cons_zero, List.set_cons_succ]
            refine takeH 3 (d := 54) (v := ?_) rfl (by kernel_rfl) (by kernel_rfl) (by kernel_rfl) noPanic_none (by rfl) hHeld ?_ ?_
            rotate_left
            · (intro w hSw; (try dsimp only at hSw); go_simp; try (with_reducible rfl))
            try simp only [Act.put, List.setIfInBounds_toArray, List.set_cons_zero, List.set_cons_succ]
            refine takeH 5 (d := 56) (v := ?_) rfl (by kernel_rfl) (by kernel_rfl) (by kernel_rfl) noPanic_none (by rfl) hHeld ?_ ?_
            rotate_left
            · (intro w hSw; (try dsimp only at hSw); go_simp; try (with_reducible rfl))
            try simp only [Act.put, List.setIfInBounds_toArray, List.set_cons_zero, List.set_cons_succ]
            refine takeH 6 (d := 57) (v := ?_) rfl (by kernel_rfl) (by kernel_rfl) (by kernel_rfl) noPanic_none (by rfl) hHeld ?_ ?_
            rotate_left
            · (intro w hSw; (try dsimp only at hSw); go_simp; try (with_reducible rfl))
            try simp only [Act.put, List.setIfInBounds_toArray, List.set_cons_zero, List.set_cons_succ]
            refine takeH 7 (d := 58) (v := ?_) rfl (by kernel_rfl) (by kernel_rfl) (by kernel_rfl) noPanic_none (by rfl) hHeld ?_ ?_
            rotate_left
            · (intro w hSw; (try dsimp only at hSw); go_simp; try (with_reducible rfl))
            try simp only [Act.put, List.setIfInBounds_toArray, List.set_cons_zero, List.set_cons_succ]
            refine takeH 8 (d := 59) (v := ?_) rfl (by kernel_rfl) (by kernel_rfl) (by kernel_rfl) noPanic_none (by rfl) hHeld ?_ ?_
            rotate_left
            · (intro w hSw; (try dsimp only at hSw); go_simp; try (with_reducible rfl))
            try simp only [Act.put, List.setIfInBounds_toArray, List.set_cons_zero, List.set_cons_succ]
            refine wpAnyH_ready (rs := [4]) (by kernel_rfl) (by simp) ?_
            refine stepH (i := 4) (d := 55) rfl (by rfl) (fun K hK => ?_) ?_
            · go_simp
              refine (cL _ _ _ _ _ _ (RU.out _ (Below.refl _ _).drew)).mono ?_
              rintro e v1 ⟨rfl, hv1⟩
              have S1 := chain (Below.refl (wl.alloc (.cells #[.string ⟨#[103, 101, 116]⟩, .string ⟨#[]⟩, .string ⟨#[112, 111, 100, 115]⟩, .string ⟨#[]⟩, .string nm, .string ⟨#[]⟩, .string ⟨#[]⟩] 26)).heap.size (wl.alloc (.cells #[.string ⟨#[103, 101, 116]⟩, .string ⟨#[]⟩, .string ⟨#[112, 111, 100, 115]⟩, .string ⟨#[]⟩, .string nm, .string ⟨#[]⟩, .string ⟨#[]⟩] 26))).drew hv1
              have S2 := chain (below_new wl (.cells #[.string ⟨#[103, 101, 116]⟩, .string ⟨#[]⟩, .string ⟨#[112, 111, 100, 115]⟩, .string ⟨#[]⟩, .string nm, .string ⟨#[]⟩, .string ⟨#[]⟩] 26)) S1
              refine hK.out _ _ ?_ (fun hHeld => ?_)
              · exact FA.out _ S1
              clear hK K
              try simp only [Act.put, List.setIfInBounds_toArray, List.set_cons_zero, List.set_cons_succ]
              refine takeH 9 (d := 60) (v := ?_) rfl (by kernel_rfl) (by kernel_rfl) (by kernel_rfl) noPanic_none (by rfl) hHeld ?_ ?_
              rotate_left
              · (intro w hSw; (try dsimp only at hSw); go_simp; try (with_reducible rfl))
              try simp only [Act.put, List.setIfInBounds_toArray, List.set_cons_zero, List.set_cons_succ]
              refine skipH 10 (d := 61) rfl (by kernel_rfl) (by kernel_rfl) (by kernel_rfl) noPanic_none (by rfl) hHeld ?_
              try simp only [Act.put, List.setIfInBounds_toArray, List.set_cons_zero, List.set_cons_succ]
              refine takeH 11 (d := 62) (v := ?_) rfl (by kernel_rfl) (by kernel_rfl) (by kernel_rfl) noPanic_none (by rfl) hHeld ?_ ?_
              rotate_left
              · (intro w hSw; (try dsimp only at hSw); go_simp; try (with_reducible rfl))
              try simp only [Act.put, List.setIfInBounds_toArray, List.set_cons_zero, List.set_cons_succ]
              refine takeH 12 (d := 63) (v := ?_) rfl (by kernel_rfl) (by kernel_rfl) (by kernel_rfl) noPanic_none (by rfl) hHeld ?_ ?_
              rotate_left
              · (intro w hSw; (try dsimp only at hSw); go_simp; try (with_reducible rfl))
              try simp only [Act.put, List.setIfInBounds_toArray, List.set_cons_zero, List.set_cons_succ]
              refine takeH 13 (d := 64) (v := ?_) rfl (by kernel_rfl) (by kernel_rfl) (by kernel_rfl) noPanic_none (by rfl) hHeld ?_ ?_
              rotate_left
              · (intro w hSw; (try dsimp only at hSw); go_simp; try (with_reducible rfl))
              try simp only [Act.put, List.setIfInBounds_toArray, List.set_cons_zero, List.set_cons_succ]
              refine takeH 14 (d := 65) (v := ?_) rfl (by kernel_rfl) (by kernel_rfl) (by kernel_rfl) noPanic_none (by rfl) hHeld ?_ ?_
              rotate_left
              · (intro w hSw; (try dsimp only at hSw); go_simp; try (with_reducible rfl))
              try simp only [Act.put, List.setIfInBounds_toArray, List.set_cons_zero, List.set_cons_succ]
              refine takeH 15 (d := 66) (v := ?_) rfl (by kernel_rfl) (by kernel_rfl) (by kernel_rfl) noPanic_none (by rfl) hHeld ?_ ?_
              rotate_left
              · (intro w hSw; (try dsimp only at hSw); go_simp; try (with_reducible rfl))
              try simp only [Act.put, List.setIfInBounds_toArray, List.set_cons_zero, List.set_cons_succ]
              refine wpAnyH_ready (rs := [16]) (by kernel_rfl) (by simp) ?_
              refine stepH (i := 16) (d := 67) rfl (by rfl) (fun K hK => ?_) ?_
              · go_simp
                refine (cC _ _ _ _ _ _ (RU.out _ S1) (HM.out.later (chain hbw S2))).mono ?_
                rintro e v2 ⟨rfl, hv2⟩
                have S3 := chain S2 hv2
                refine hK.out _ _ ?_ (fun hHeld => ?_)
                · exact FA.out _ (chain S1 hv2)
                clear hK K
                try simp only [Act.put, List.setIfInBounds_toArray, List.set_cons_zero, List.set_cons_succ]
                refine takeH 17 (d := 68) (v := ?_) rfl (by kernel_rfl) (by kernel_rfl) (by kernel_rfl) noPanic_none (by rfl) hHeld ?_ ?_
                rotate_left
                · (intro w hSw; (try dsimp only at hSw); go_simp; try (with_reducible rfl))
                try simp only [Act.put, List.setIfInBounds_toArray, List.set_cons_zero, List.set_cons_succ]
                refine takeH 18 (d := 69) (v := ?_) rfl (by kernel_rfl) (by kernel_rfl) (by kernel_rfl) noPanic_none (by rfl) hHeld ?_ ?_
                rotate_left
                · (intro w hSw; (try dsimp only at hSw); go_simp; try (with_reducible rfl))
                try simp only [Act.put, List.setIfInBounds_toArray, List.set_cons_zero, List.set_cons_succ]
                refine takeH 19 (d := 70) (v := ?_) rfl (by kernel_rfl) (by kernel_rfl) (by kernel_rfl) noPanic_none (by rfl) hHeld ?_ ?_
                rotate_left
                · (intro w hSw; (try dsimp only at hSw); go_simp; try (with_reducible rfl))
                try simp only [Act.put, List.setIfInBounds_toArray, List.set_cons_zero, List.set_cons_succ]
                refine wpAnyH_ready (rs := [20]) (by kernel_rfl) (by simp) ?_
                refine stepH (i := 20) (d := 71) rfl (by rfl) (fun K hK => ?_) ?_
                · go_simp
                  refine (cA _ (HM.out.later (chain hbw S3))).mono ?_
                  rintro e v3 ⟨rfl, hv3⟩
                  have S4 := chain S3 hv3
                  refine hK.out _ _ ?_ (fun hHeld => ?_)
                  · exact FA.out _ (chain (chain S1 hv2) hv3)
                  clear hK K
                  try simp only [Act.put, List.setIfInBounds_toArray, List.set_cons_zero, List.set_cons_succ]
                  refine takeH 21 (d := 72) (v := ?_) rfl (by kernel_rfl) (by kernel_rfl) (by kernel_rfl) noPanic_none (by rfl) hHeld ?_ ?_
                  rotate_left
                  · (intro w hSw; (try dsimp only at hSw); go_simp; try (with_reducible rfl))
                  try simp only [Act.put, List.setIfInBounds_toArray, List.set_cons_zero, List.set_cons_succ]
                  refine takeH 22 (d := 4) (v := ?_) rfl (by kernel_rfl) (by kernel_rfl) (by kernel_rfl) noPanic_none (by rfl) hHeld ?_ ?_
                  rotate_left
                  · (intro w hSw; (try dsimp only at hSw); go_simp; try (with_reducible rfl))
                  try simp only [Act.put, List.setIfInBounds_toArray, List.set_cons_zero, List.set_cons_succ]
                  refine wpAnyH_done (by kernel_rfl) ?_ _
                  refine NoPanic.normal ?_
                  go_wp2
                  go_ret
                  exact ⟨rfl, chain hbw S4⟩
                exact AllReadyH.nil
              exact AllReadyH.nil
            exact AllReadyH.nil

          case neg =>
            have ki0 : ((k : Int) == 0) = false := by rw [beq_eq_false_iff_ne]; omega
            rw [decide_eq_false k0, Bool.false_or] at cL
            clear k0
            obtain ⟨t1, ht1⟩ : ∃ t1, among names nm = t1 := ⟨_, rfl⟩
            rw [ht1] at cL ⊢
            clear ht1
            go_wp2_with fail
            refine wp_region_noPanic ?_
            refine wp_region_held_drew (S := fun w' => w'.cell? ⟨w1.heap.size + 1 + 1 + 1, 0, none⟩ = some (.slice (some ⟨w1.heap.size, 0, none⟩) 1 1) ∧ w'.cell? ⟨w1.heap.size + 1 + 1 + 1, 1, none⟩ = some (.slice (some ⟨w1.heap.size + 1, 0, none⟩) 1 1) ∧ w'.cell? ⟨w1.heap.size + 1 + 1 + 1, 2, none⟩ = some (.slice (some ⟨w1.heap.size + 1 + 1, 0, none⟩) 1 1) ∧ w'.cell? ⟨w1.heap.size + 1 + 1 + 1, 3, none⟩ = some (.slice oa k oc) ∧ w'.cell? ⟨w1.heap.size + 1 + 1 + 1, 4, none⟩ = some (.slice none 0 0) ∧ w'.cell? ⟨wl.heap.size, 0, none⟩ = some (.string ⟨#[103, 101, 116]⟩) ∧ w'.cell? ⟨wl.heap.size, 1, none⟩ = some (.string ⟨#[]⟩) ∧ w'.cell? ⟨wl.heap.size, 2, none⟩ = some (.string ⟨#[112, 111, 100, 115]⟩) ∧ w'.cell? ⟨wl.heap.size, 3, none⟩ = some (.string ⟨#[]⟩) ∧ w'.cell? ⟨wl.heap.size, 4, none⟩ = some (.string nm) ∧ w'.cell? ⟨wl.heap.size, 5, none⟩ = some (.string ⟨#[]⟩) ∧ w'.cell? ⟨wl.heap.size, 6, none⟩ = some (.string ⟨#[]⟩)) (by kernel_rfl) ?_ (fun hHeld => ?_)
            · exact (FA.out _ (Below.refl _ _).drew)
            refine takeH 0 (d := 51) (v := ?_) rfl (by kernel_rfl) (by kernel_rfl) (by kernel_rfl) noPanic_none (by rfl) hHeld ?_ ?_
            rotate_left
            · (intro w hSw; (try dsimp only at hSw); go_simp; try (with_reducible rfl))
            try simp only [Act.put, List.setIfInBounds_toArray, List.set_cons_zero, List.set_cons_succ]
            refine takeH 1 (d := 52) (v := ?_) rfl (by kernel_rfl) (by kernel_rfl) (by kernel_rfl) noPanic_none (by rfl) hHeld ?_ ?_
            rotate_left
            · (intro w hSw; (try dsimp only at hSw); go_simp; try (with_reducible rfl))
            try simp only [Act.put, List.setIfInBounds_toArray, List.set_cons_zero, List.set_cons_succ]
            refine takeH 2 (d := 53) (v := ?_) rfl (by kernel_rfl) (by kernel_rfl) (by kernel_rfl) noPanic_none (by rfl) hHeld ?_ ?_
            rotate_left
            · (intro w hSw; (try dsimp only at hSw); go_simp; try (with_reducible rfl))
            try simp only [Act.put, List.setIfInBounds_toArray, List.set_cons_zero, List.set_cons_succ]
            refine takeH 3 (d := 54) (v := ?_) rfl (by kernel_rfl) (by kernel_rfl) (by kernel_rfl) noPanic_none (by rfl) hHeld ?_ ?_
            rotate_left
            · (intro w hSw; (try dsimp only at hSw); go_simp; try (with_reducible rfl))
            try simp only [Act.put, List.setIfInBounds_toArray, List.set_cons_zero, List.set_cons_succ]
            refine takeH 5 (d := 56) (v := ?_) rfl (by kernel_rfl) (by kernel_rfl) (by kernel_rfl) noPanic_none (by rfl) hHeld ?_ ?_
            rotate_left
            · (intro w hSw; (try dsimp only at hSw); go_simp; try (with_reducible rfl))
            try simp only [Act.put, List.setIfInBounds_toArray, List.set_cons_zero, List.set_cons_succ]
            refine takeH 6 (d := 57) (v := ?_) rfl (by kernel_rfl) (by kernel_rfl) (by kernel_rfl) noPanic_none (by rfl) hHeld ?_ ?_
            rotate_left
            · (intro w hSw; (try dsimp only at hSw); go_simp; try (with_reducible rfl))
            try simp only [Act.put, List.setIfInBounds_toArray, List.set_cons_zero, List.set_cons_succ]
            refine takeH 7 (d := 58) (v := ?_) rfl (by kernel_rfl) (by kernel_rfl) (by kernel_rfl) noPanic_none (by rfl) hHeld ?_ ?_
            rotate_left
            · (intro w hSw; (try dsimp only at hSw); go_simp; try (with_reducible rfl))
            try simp only [Act.put, List.setIfInBounds_toArray, List.set_cons_zero, List.set_cons_succ]
            refine takeH 8 (d := 59) (v := ?_) rfl (by kernel_rfl) (by kernel_rfl) (by kernel_rfl) noPanic_none (by rfl) hHeld ?_ ?_
            rotate_left
            · (intro w hSw; (try dsimp only at hSw); go_simp; try (with_reducible rfl))
            try simp only [Act.put, List.setIfInBounds_toArray, List.set_cons_zero, List.set_cons_succ]
            refine wpAnyH_ready (rs := [4]) (by kernel_rfl) (by simp) ?_
            refine stepH (i := 4) (d := 55) rfl (by rfl) (fun K hK => ?_) ?_
            · go_simp
              refine (cL _ _ _ _ _ _ (RU.out _ (Below.refl _ _).drew)).mono ?_
              rintro e v1 ⟨rfl, hv1⟩
              have S1 := chain (Below.refl (wl.alloc (.cells #[.string ⟨#[103, 101, 116]⟩, .string ⟨#[]⟩, .string ⟨#[112, 111, 100, 115]⟩, .string ⟨#[]⟩, .string nm, .string ⟨#[]⟩, .string ⟨#[]⟩] 26)).heap.size (wl.alloc (.cells #[.string ⟨#[103, 101, 116]⟩, .string ⟨#[]⟩, .string ⟨#[112, 111, 100, 115]⟩, .string ⟨#[]⟩, .string nm, .string ⟨#[]⟩, .string ⟨#[]⟩] 26))).drew hv1
              have S2 := chain (below_new wl (.cells #[.string ⟨#[103, 101, 116]⟩, .string ⟨#[]⟩, .string ⟨#[112, 111, 100, 115]⟩, .string ⟨#[]⟩, .string nm, .string ⟨#[]⟩, .string ⟨#[]⟩] 26)) S1
              refine hK.out _ _ ?_ (fun hHeld => ?_)
              · exact FA.out _ S1
              clear hK K
              try simp only [Act.put, List.setIfInBounds_toArray, List.set_cons_zero, List.set_cons_succ]
              refine takeH 9 (d := 60) (v := ?_) rfl (by kernel_rfl) (by kernel_rfl) (by kernel_rfl) noPanic_none (by rfl) hHeld ?_ ?_
              rotate_left
              · (intro w hSw; (try dsimp only at hSw); go_simp; try (with_reducible rfl))
              try simp only [Act.put, List.setIfInBounds_toArray, List.set_cons_zero, List.set_cons_succ]
              refine takeH 10 (d := 61) (v := ?_) rfl (by kernel_rfl) (by kernel_rfl) (by kernel_rfl) noPanic_none (by rfl) hHeld ?_ ?_
              rotate_left
              · (intro w hSw; (try dsimp only at hSw); go_simp; try (with_reducible rfl))
              try simp only [Act.put, List.setIfInBounds_toArray, List.set_cons_zero, List.set_cons_succ]
              refine takeH 11 (d := 62) (v := ?_) rfl (by kernel_rfl) (by kernel_rfl) (by kernel_rfl) noPanic_none (by rfl) hHeld ?_ ?_
              rotate_left
              · (intro w hSw; (try dsimp only at hSw); go_simp; try (with_reducible rfl))
              try simp only [Act.put, List.setIfInBounds_toArray, List.set_cons_zero, List.set_cons_succ]
              refine takeH 12 (d := 63) (v := ?_) rfl (by kernel_rfl) (by kernel_rfl) (by kernel_rfl) noPanic_none (by rfl) hHeld ?_ ?_
              rotate_left
              · (intro w hSw; (try dsimp only at hSw); go_simp; try (with_reducible rfl))
              try simp only [Act.put, List.setIfInBounds_toArray, List.set_cons_zero, List.set_cons_succ]
              refine takeH 13 (d := 64) (v := ?_) rfl (by kernel_rfl) (by kernel_rfl) (by kernel_rfl) noPanic_none (by rfl) hHeld ?_ ?_
              rotate_left
              · (intro w hSw; (try dsimp only at hSw); go_simp; try (with_reducible rfl))
              try simp only [Act.put, List.setIfInBounds_toArray, List.set_cons_zero, List.set_cons_succ]
              refine takeH 14 (d := 65) (v := ?_) rfl (by kernel_rfl) (by kernel_rfl) (by kernel_rfl) noPanic_none (by rfl) hHeld ?_ ?_
              rotate_left
              · (intro w hSw; (try dsimp only at hSw); go_simp; try (with_reducible rfl))
              try simp only [Act.put, List.setIfInBounds_toArray, List.set_cons_zero, List.set_cons_succ]
              refine takeH 15 (d := 66) (v := ?_) rfl (by kernel_rfl) (by kernel_rfl) (by kernel_rfl) noPanic_none (by rfl) hHeld ?_ ?_
              rotate_left
              · (intro w hSw; (try dsimp only at hSw); go_simp; try (with_reducible rfl))
              try simp only [Act.put, List.setIfInBounds_toArray, List.set_cons_zero, List.set_cons_succ]
              refine wpAnyH_ready (rs := [16]) (by kernel_rfl) (by simp) ?_
              refine stepH (i := 16) (d := 67) rfl (by rfl) (fun K hK => ?_) ?_
              · go_simp
                refine (cC _ _ _ _ _ _ (RU.out _ S1) (HM.out.later (chain hbw S2))).mono ?_
                rintro e v2 ⟨rfl, hv2⟩
                have S3 := chain S2 hv2
                refine hK.out _ _ ?_ (fun hHeld => ?_)
                · exact FA.out _ (chain S1 hv2)
                clear hK K
                try simp only [Act.put, List.setIfInBounds_toArray, List.set_cons_zero, List.set_cons_succ]
                refine takeH 17 (d := 68) (v := ?_) rfl (by kernel_rfl) (by kernel_rfl) (by kernel_rfl) noPanic_none (by rfl) hHeld ?_ ?_
                rotate_left
                · (intro w hSw; (try dsimp only at hSw); go_simp; try (with_reducible rfl))
                try simp only [Act.put, List.setIfInBounds_toArray, List.set_cons_zero, List.set_cons_succ]
                refine takeH 18 (d := 69) (v := ?_) rfl (by kernel_rfl) (by kernel_rfl) (by kernel_rfl) noPanic_none (by rfl) hHeld ?_ ?_
                rotate_left
                · (intro w hSw; (try dsimp only at hSw); go_simp; try (with_reducible rfl))
                try simp only [Act.put, List.setIfInBounds_toArray, List.set_cons_zero, List.set_cons_succ]
                refine takeH 19 (d := 70) (v := ?_) rfl (by kernel_rfl) (by kernel_rfl) (by kernel_rfl) noPanic_none (by rfl) hHeld ?_ ?_
                rotate_left
                · (intro w hSw; (try dsimp only at hSw); go_simp; try (with_reducible rfl))
                try simp only [Act.put, List.setIfInBounds_toArray, List.set_cons_zero, List.set_cons_succ]
                refine wpAnyH_ready (rs := [20]) (by kernel_rfl) (by simp) ?_
                refine stepH (i := 20) (d := 71) rfl (by rfl) (fun K hK => ?_) ?_
                · go_simp
                  refine (cA _ (HM.out.later (chain hbw S3))).mono ?_
                  rintro e v3 ⟨rfl, hv3⟩
                  have S4 := chain S3 hv3
                  refine hK.out _ _ ?_ (fun hHeld => ?_)
                  · exact FA.out _ (chain (chain S1 hv2) hv3)
                  clear hK K
                  try simp only [Act.put, List.setIfInBounds_toArray, List.set_cons_zero, List.set_cons_succ]
                  refine takeH 21 (d := 72) (v := ?_) rfl (by kernel_rfl) (by kernel_rfl) (by kernel_rfl) noPanic_none (by rfl) hHeld ?_ ?_
                  rotate_left
                  · (intro w hSw; (try dsimp only at hSw); go_simp; try (with_reducible rfl))
                  try simp only [Act.put, List.setIfInBounds_toArray, List.set_cons_zero, List.set_cons_succ]
                  refine takeH 22 (d := 4) (v := ?_) rfl (by kernel_rfl) (by kernel_rfl) (by kernel_rfl) noPanic_none (by rfl) hHeld ?_ ?_
                  rotate_left
                  · (intro w hSw; (try dsimp only at hSw); go_simp; try (with_reducible rfl))
                  try simp only [Act.put, List.setIfInBounds_toArray, List.set_cons_zero, List.set_cons_succ]
                  refine wpAnyH_done (by kernel_rfl) ?_ _
                  refine NoPanic.normal ?_
                  go_wp2
                  go_ret
                  exact ⟨rfl, chain hbw S4⟩
                exact AllReadyH.nil
              exact AllReadyH.nil
            exact AllReadyH.nil


        case neg =>
          have hil : ¬ (k : Int) < (la.length : Int) := by omega
          clear hk
          have gl := Hg.out
          have FA := Lib.hid (show ∀ W, Below (wl.alloc (.cells #[.string ⟨#[103, 101, 116]⟩, .string ⟨#[]⟩, .string ⟨#[112, 111, 100, 115]⟩, .string ⟨#[]⟩, .string nm, .string ⟨#[]⟩, .string ⟨#[]⟩] 26)).heap.size (wl.alloc (.cells #[.string ⟨#[103, 101, 116]⟩, .string ⟨#[]⟩, .string ⟨#[112, 111, 100, 115]⟩, .string ⟨#[]⟩, .string nm, .string ⟨#[]⟩, .string ⟨#[]⟩] 26)) W → W.cell? ⟨w1.heap.size + 1 + 1 + 1, 0, none⟩ = some (.slice (some ⟨w1.heap.size, 0, none⟩) 1 1) ∧ W.cell? ⟨w1.heap.size + 1 + 1 + 1, 1, none⟩ = some (.slice (some ⟨w1.heap.size + 1, 0, none⟩) 1 1) ∧ W.cell? ⟨w1.heap.size + 1 + 1 + 1, 2, none⟩ = some (.slice (some ⟨w1.heap.size + 1 + 1, 0, none⟩) 1 1) ∧ W.cell? ⟨w1.heap.size + 1 + 1 + 1, 3, none⟩ = some (.slice oa k oc) ∧ W.cell? ⟨w1.heap.size + 1 + 1 + 1, 4, none⟩ = some (.slice none 0 0) ∧ W.cell? ⟨wl.heap.size, 0, none⟩ = some (.string ⟨#[103, 101, 116]⟩) ∧ W.cell? ⟨wl.heap.size, 1, none⟩ = some (.string ⟨#[]⟩) ∧ W.cell? ⟨wl.heap.size, 2, none⟩ = some (.string ⟨#[112, 111, 100, 115]⟩) ∧ W.cell? ⟨wl.heap.size, 3, none⟩ = some (.string ⟨#[]⟩) ∧ W.cell? ⟨wl.heap.size, 4, none⟩ = some (.string nm) ∧ W.cell? ⟨wl.heap.size, 5, none⟩ = some (.string ⟨#[]⟩) ∧ W.cell? ⟨wl.heap.size, 6, none⟩ = some (.string ⟨#[]⟩) from fun W h => by
            have r0 := blk_later (blk_alloc gl (.cells #[.string ⟨#[103, 101, 116]⟩, .string ⟨#[]⟩, .string ⟨#[112, 111, 100, 115]⟩, .string ⟨#[]⟩, .string nm, .string ⟨#[]⟩, .string ⟨#[]⟩] 26)) h
            have r1 := blk_later (heap_alloc_new wl (.cells #[.string ⟨#[103, 101, 116]⟩, .string ⟨#[]⟩, .string ⟨#[112, 111, 100, 115]⟩, .string ⟨#[]⟩, .string nm, .string ⟨#[]⟩, .string ⟨#[]⟩] 26)) h
            exact ⟨blk_cell r0 0, blk_cell r0 1, blk_cell r0 2, blk_cell r0 3, blk_cell r0 4, blk_cell r1 0, blk_cell r1 1, blk_cell r1 2, blk_cell r1 3, blk_cell r1 4, blk_cell r1 5, blk_cell r1 6⟩)
          have hrow : RowAt 100 (text 100) wl (.slice oa k oc) names := RowAt.of_own (r := text 100) (css := names.map fun x => [Value.string x]) (by rw [flat_tx]; exact Hown.out) HN.out.1.symm (lists_tx names fun x hx => by have := word_size (HN.out.2 x hx); omega) (by rw [HN.out.1]; omega)
          have RU := Lib.hid (show ∀ W, Below (wl.alloc (.cells #[.string ⟨#[103, 101, 116]⟩, .string ⟨#[]⟩, .string ⟨#[112, 111, 100, 115]⟩, .string ⟨#[]⟩, .string nm, .string ⟨#[]⟩, .string ⟨#[]⟩] 26)).heap.size (wl.alloc (.cells #[.string ⟨#[103, 101, 116]⟩, .string ⟨#[]⟩, .string ⟨#[112, 111, 100, 115]⟩, .string ⟨#[]⟩, .string nm, .string ⟨#[]⟩, .string ⟨#[]⟩] 26)) W → ruAt 100 W (.slice (some ⟨w1.heap.size, 0, none⟩) 1 1) (.slice (some ⟨w1.heap.size + 1, 0, none⟩) 1 1) (.slice (some ⟨w1.heap.size + 1 + 1, 0, none⟩) 1 1) (.slice oa k oc) (.slice none 0 0) (nameRu names) from fun W h => by
            have hb := chain (below_new wl (.cells #[.string ⟨#[103, 101, 116]⟩, .string ⟨#[]⟩, .string ⟨#[112, 111, 100, 115]⟩, .string ⟨#[]⟩, .string nm, .string ⟨#[]⟩, .string ⟨#[]⟩] 26)) h
            obtain ⟨r1, r2, r3⟩ := K.out W (chain hbr hb)
            exact ⟨r1, r2, r3, hrow.later hb, row_none _⟩)
          have cL := fun v g s n p W hu => Allows_any 100 (by omega) (nameRu names) v g s n p (askN nm) W hu (ok_name hnm)
          have cC := fun v g s n p W hu hm => Check_any 100 (by omega) (nameRu names) v g s n p false W hu hm
          have cA := fun W hm => Attr_any (askN nm) (ok_name2 hnm) W hm
          rw [names_allow HN.out.2 hnm, HN.out.1] at cL
          rw [names_check HN.out.2 (by rw [HN.out.1]; omega)] at cC
          rw [names_attr hnm] at cA
          by_cases k0 : k = 0
          case pos =>
            have ki0 : ((k : Int) == 0) = true := by rw [k0]; rfl
            rw [decide_eq_true k0, Bool.true_or] at cL
            clear k0
            go_wp2_with fail
            refine wp_region_noPanic ?_
            refine wp_region_held_drew (S := fun w' => w'.cell? ⟨w1.heap.size + 1 + 1 + 1, 0, none⟩ = some (.slice (some ⟨w1.heap.size, 0, none⟩) 1 1) ∧ w'.cell? ⟨w1.heap.size + 1 + 1 + 1, 1, none⟩ = some (.slice (some ⟨w1.heap.size + 1, 0, none⟩) 1 1) ∧ w'.cell? ⟨w1.heap.size + 1 + 1 + 1, 2, none⟩ = some (.slice (some ⟨w1.heap.size + 1 + 1, 0, none⟩) 1 1) ∧ w'.cell? ⟨w1.heap.size + 1 + 1 + 1, 3, none⟩ = some (.slice oa k oc) ∧ w'.cell? ⟨w1.heap.size + 1 + 1 + 1, 4, none⟩ = some (.slice none 0 0) ∧ w'.cell? ⟨wl.heap.size, 0, none⟩ = some (.string ⟨#[103, 101, 116]⟩) ∧ w'.cell? ⟨wl.heap.size, 1, none⟩ = some (.string ⟨#[]⟩) ∧ w'.cell? ⟨wl.heap.size, 2, none⟩ = some (.string ⟨#[112, 111, 100, 115]⟩) ∧ w'.cell? ⟨wl.heap.size, 3, none⟩ = some (.string ⟨#[]⟩) ∧ w'.cell? ⟨wl.heap.size, 4, none⟩ = some (.string nm) ∧ w'.cell? ⟨wl.heap.size, 5, none⟩ = some (.string ⟨#[]⟩) ∧ w'.cell? ⟨wl.heap.size, 6, none⟩ = some (.string ⟨#[]⟩)) (by kernel_rfl) ?_ (fun hHeld => ?_)
            · exact (FA.out _ (Below.refl _ _).drew)
            refine takeH 0 (d := 51) (v := ?_) rfl (by kernel_rfl) (by kernel_rfl) (by kernel_rfl) noPanic_none (by rfl) hHeld ?_ ?_
            rotate_left
            · (intro w hSw; (try dsimp only at hSw); go_simp; try (with_reducible rfl))
            try simp only [Act.put, List.setIfInBounds_toArray, List.set_cons_zero, List.set_cons_succ]
            refine takeH 1 (d := 52) (v := ?_) rfl (by kernel_rfl) (by kernel_rfl) (by kernel_rfl) noPanic_none (by rfl) hHeld ?_ ?_
            rotate_left
            · (intro w hSw; (try dsimp only at hSw); go_simp; try (with_reducible rfl))
            try simp only [Act.put, List.setIfInBounds_toArray, List.set_cons_zero, List.set_cons_succ]
            refine takeH 2 (d := 53) (v := ?_) rfl (by kernel_rfl) (by kernel_rfl) (by kernel_rfl) noPanic_none (by rfl) hHeld ?_ ?_
            rotate_left
            · (intro w hSw; (try dsimp only at hSw); go_simp; try (with_reducible rfl))
            try simp only [Act.put, List.setIfInBounds_toArray, List.set_cons_zero, List.set_cons_succ]
            refine takeH 3 (d := 54) (v := ?_) rfl (by kernel_rfl) (by kernel_rfl) (by kernel_rfl) noPanic_none (by rfl) hHeld ?_ ?_
            rotate_left
            · (intro w hSw; (try dsimp only at hSw); go_simp; try (with_reducible rfl))
            try simp only [Act.put, List.setIfInBounds_toArray, List.set_cons_zero, List.set_cons_succ]
            refine takeH 5 (d := 56) (v := ?_) rfl (by kernel_rfl) (by kernel_rfl) (by kernel_rfl) noPanic_none (by rfl) hHeld ?_ ?_
            rotate_left
            · (intro w hSw; (try dsimp only at hSw); go_simp; try (with_reducible rfl))
            try simp only [Act.put, List.setIfInBounds_toArray, List.set_cons_zero, List.set_cons_succ]
            refine takeH 6 (d := 57) (v := ?_) rfl (by kernel_rfl) (by kernel_rfl) (by kernel_rfl) noPanic_none (by rfl) hHeld ?_ ?_
            rotate_left
            · (intro w hSw; (try dsimp only at hSw); go_simp; try (with_reducible rfl))
            try simp only [Act.put, List.setIfInBounds_toArray, List.set_cons_zero, List.set_cons_succ]
            refine takeH 7 (d := 58) (v := ?_) rfl (by kernel_rfl) (by kernel_rfl) (by kernel_rfl) noPanic_none (by rfl) hHeld ?_ ?_
            rotate_left
            · (intro w hSw; (try dsimp only at hSw); go_simp; try (with_reducible rfl))
            try simp only [Act.put, List.setIfInBounds_toArray, List.set_cons_zero, List.set_cons_succ]
            refine takeH 8 (d := 59) (v := ?_) rfl (by kernel_rfl) (by kernel_rfl) (by kernel_rfl) noPanic_none (by rfl) hHeld ?_ ?_
            rotate_left
            · (intro w hSw; (try dsimp only at hSw); go_simp; try (with_reducible rfl))
            try simp only [Act.put, List.setIfInBounds_toArray, List.set_cons_zero, List.set_cons_succ]
            refine wpAnyH_ready (rs := [4]) (by kernel_rfl) (by simp) ?_
            refine stepH (i := 4) (d := 55) rfl (by rfl) (fun K hK => ?_) ?_
            · go_simp
              refine (cL _ _ _ _ _ _ (RU.out _ (Below.refl _ _).drew)).mono ?_
              rintro e v1 ⟨rfl, hv1⟩
              have S1 := chain (Below.refl (wl.alloc (.cells #[.string ⟨#[103, 101, 116]⟩, .string ⟨#[]⟩, .string ⟨#[112, 111, 100, 115]⟩, .string ⟨#[]⟩, .string nm, .string ⟨#[]⟩, .string ⟨#[]⟩] 26)).heap.size (wl.alloc (.cells #[.string ⟨#[103, 101, 116]⟩, .string ⟨#[]⟩, .string ⟨#[112, 111, 100, 115]⟩, .string ⟨#[]⟩, .string nm, .string ⟨#[]⟩, .string ⟨#[]⟩] 26))).drew hv1
              have S2 := chain (below_new wl (.cells #[.string ⟨#[103, 101, 116]⟩, .string ⟨#[]⟩, .string ⟨#[112, 111, 100, 115]⟩, .string ⟨#[]⟩, .string nm, .string ⟨#[]⟩, .string ⟨#[]⟩] 26)) S1
              refine hK.out _ _ ?_ (fun hHeld => ?_)
              · exact FA.out _ S1
              clear hK K
              try simp only [Act.put, List.setIfInBounds_toArray, List.set_cons_zero, List.set_cons_succ]
              refine takeH 9 (d := 60) (v := ?_) rfl (by kernel_rfl) (by kernel_rfl) (by kernel_rfl) noPanic_none (by rfl) hHeld ?_ ?_
              rotate_left
              · (intro w hSw; (try dsimp only at hSw); go_simp; try (with_reducible rfl))
              try simp only [Act.put, List.setIfInBounds_toArray, List.set_cons_zero, List.set_cons_succ]
              refine skipH 10 (d := 61) rfl (by kernel_rfl) (by kernel_rfl) (by kernel_rfl) noPanic_none (by rfl) hHeld ?_
              try simp only [Act.put, List.setIfInBounds_toArray, List.set_cons_zero, List.set_cons_succ]
              refine takeH 11 (d := 62) (v := ?_) rfl (by kernel_rfl) (by kernel_rfl) (by kernel_rfl) noPanic_none (by rfl) hHeld ?_ ?_
              rotate_left
              · (intro w hSw; (try dsimp only at hSw); go_simp; try (with_reducible rfl))
              try simp only [Act.put, List.setIfInBounds_toArray, List.set_cons_zero, List.set_cons_succ]
              refine takeH 12 (d := 63) (v := ?_) rfl (by kernel_rfl) (by kernel_rfl) (by kernel_rfl) noPanic_none (by rfl) hHeld ?_ ?_
              rotate_left
              · (intro w hSw; (try dsimp only at hSw); go_simp; try (with_reducible rfl))
              try simp only [Act.put, List.setIfInBounds_toArray, List.set_cons_zero, List.set_cons_succ]
              refine takeH 13 (d := 64) (v := ?_) rfl (by kernel_rfl) (by kernel_rfl) (by kernel_rfl) noPanic_none (by rfl) hHeld ?_ ?_
              rotate_left
              · (intro w hSw; (try dsimp only at hSw); go_simp; try (with_reducible rfl))
              try simp only [Act.put, List.setIfInBounds_toArray, List.set_cons_zero, List.set_cons_succ]
              refine takeH 14 (d := 65) (v := ?_) rfl (by kernel_rfl) (by kernel_rfl) (by kernel_rfl) noPanic_none (by rfl) hHeld ?_ ?_
              rotate_left
              · (intro w hSw; (try dsimp only at hSw); go_simp; try (with_reducible rfl))
              try simp only [Act.put, List.setIfInBounds_toArray, List.set_cons_zero, List.set_cons_succ]
              refine takeH 15 (d := 66) (v := ?_) rfl (by kernel_rfl) (by kernel_rfl) (by kernel_rfl) noPanic_none (by rfl) hHeld ?_ ?_
              rotate_left
              · (intro w hSw; (try dsimp only at hSw); go_simp; try (with_reducible rfl))
              try simp only [Act.put, List.setIfInBounds_toArray, List.set_cons_zero, List.set_cons_succ]
              refine wpAnyH_ready (rs := [16]) (by kernel_rfl) (by simp) ?_
              refine stepH (i := 16) (d := 67) rfl (by rfl) (fun K hK => ?_) ?_
              · go_simp
                refine (cC _ _ _ _ _ _ (RU.out _ S1) (HM.out.later (chain hbw S2))).mono ?_
                rintro e v2 ⟨rfl, hv2⟩
                have S3 := chain S2 hv2
                refine hK.out _ _ ?_ (fun hHeld => ?_)
                · exact FA.out _ (chain S1 hv2)
                clear hK K
                try simp only [Act.put, List.setIfInBounds_toArray, List.set_cons_zero, List.set_cons_succ]
                refine takeH 17 (d := 68) (v := ?_) rfl (by kernel_rfl) (by kernel_rfl) (by kernel_rfl) noPanic_none (by rfl) hHeld ?_ ?_
                rotate_left
                · (intro w hSw; (try dsimp only at hSw); go_simp; try (with_reducible rfl))
                try simp only [Act.put, List.setIfInBounds_toArray, List.set_cons_zero, List.set_cons_succ]
                refine takeH 18 (d := 69) (v := ?_) rfl (by kernel_rfl) (by kernel_rfl) (by kernel_rfl) noPanic_none (by rfl) hHeld ?_ ?_
                rotate_left
                · (intro w hSw; (try dsimp only at hSw); go_simp; try (with_reducible rfl))
                try simp only [Act.put, List.setIfInBounds_toArray, List.set_cons_zero, List.set_cons_succ]
                refine takeH 19 (d := 70) (v := ?_) rfl (by kernel_rfl) (by kernel_rfl) (by kernel_rfl) noPanic_none (by rfl) hHeld ?_ ?_
                rotate_left
                · (intro w hSw; (try dsimp only at hSw); go_simp; try (with_reducible rfl))
                try simp only [Act.put, List.setIfInBounds_toArray, List.set_cons_zero, List.set_cons_succ]
                refine wpAnyH_ready (rs := [20]) (by kernel_rfl) (by simp) ?_
                refine stepH (i := 20) (d := 71) rfl (by rfl) (fun K hK => ?_) ?_
                · go_simp
                  refine (cA _ (HM.out.later (chain hbw S3))).mono ?_
                  rintro e v3 ⟨rfl, hv3⟩
                  have S4 := chain S3 hv3
                  refine hK.out _ _ ?_ (fun hHeld => ?_)
                  · exact FA.out _ (chain (chain S1 hv2) hv3)
                  clear hK K
                  try simp only [Act.put, List.setIfInBounds_toArray, List.set_cons_zero, List.set_cons_succ]
                  refine takeH 21 (d := 72) (v := ?_) rfl (by kernel_rfl) (by kernel_rfl) (by kernel_rfl) noPanic_none (by rfl) hHeld ?_ ?_
                  rotate_left
                  · (intro w hSw; (try dsimp only at hSw); go_simp; try (with_reducible rfl))
                  try simp only [Act.put, List.setIfInBounds_toArray, List.set_cons_zero, List.set_cons_succ]
                  refine takeH 22 (d := 4) (v := ?_) rfl (by kernel_rfl) (by kernel_rfl) (by kernel_rfl) noPanic_none (by rfl) hHeld ?_ ?_
                  rotate_left
                  · (intro w hSw; (try dsimp only at hSw); go_simp; try (with_reducible rfl))
                  try simp only [Act.put, List.setIfInBounds_toArray, List.set_cons_zero, List.set_cons_succ]
                  refine wpAnyH_done (by kernel_rfl) ?_ _
                  refine NoPanic.normal ?_
                  go_wp2
                  go_ret
                  exact ⟨rfl, chain hbw S4⟩
                exact AllReadyH.nil
              exact AllReadyH.nil
            exact AllReadyH.nil

          case neg =>
            have ki0 : ((k : Int) == 0) = false := by rw [beq_eq_false_iff_ne]; omega
            rw [decide_eq_false k0, Bool.false_or] at cL
            clear k0
            obtain ⟨t1, ht1⟩ : ∃ t1, among names nm = t1 := ⟨_, rfl⟩
            rw [ht1] at cL ⊢
            clear ht1
            go_wp2_with fail
            refine wp_region_noPanic ?_
            refine wp_region_held_drew (S := fun w' => w'.cell? ⟨w1.heap.size + 1 + 1 + 1, 0, none⟩ = some (.slice (some ⟨w1.heap.size, 0, none⟩) 1 1) ∧ w'.cell? ⟨w1.heap.size + 1 + 1 + 1, 1, none⟩ = some (.slice (some ⟨w1.heap.size + 1, 0, none⟩) 1 1) ∧ w'.cell? ⟨w1.heap.size + 1 + 1 + 1, 2, none⟩ = some (.slice (some ⟨w1.heap.size + 1 + 1, 0, none⟩) 1 1) ∧ w'.cell? ⟨w1.heap.size + 1 + 1 + 1, 3, none⟩ = some (.slice oa k oc) ∧ w'.cell? ⟨w1.heap.size + 1 + 1 + 1, 4, none⟩ = some (.slice none 0 0) ∧ w'.cell? ⟨wl.heap.size, 0, none⟩ = some (.string ⟨#[103, 101, 116]⟩) ∧ w'.cell? ⟨wl.heap.size, 1, none⟩ = some (.string ⟨#[]⟩) ∧ w'.cell? ⟨wl.heap.size, 2, none⟩ = some (.string ⟨#[112, 111, 100, 115]⟩) ∧ w'.cell? ⟨wl.heap.size, 3, none⟩ = some (.string ⟨#[]⟩) ∧ w'.cell? ⟨wl.heap.size, 4, none⟩ = some (.string nm) ∧ w'.cell? ⟨wl.heap.size, 5, none⟩ = some (.string ⟨#[]⟩) ∧ w'.cell? ⟨wl.heap.size, 6, none⟩ = some (.string ⟨#[]⟩)) (by kernel_rfl) ?_ (fun hHeld => ?_)
            · exact (FA.out _ (Below.refl _ _).drew)
            refine takeH 0 (d := 51) (v := ?_) rfl (by kernel_rfl) (by kernel_rfl) (by kernel_rfl) noPanic_none (by rfl) hHeld ?_ ?_
            rotate_left
            · (intro w hSw; (try dsimp only at hSw); go_simp; try (with_reducible rfl))
            try simp only [Act.put, List.setIfInBounds_toArray, List.set_cons_zero, List.set_cons_succ]
            refine takeH 1 (d := 52) (v := ?_) rfl (by kernel_rfl) (by kernel_rfl) (by kernel_rfl) noPanic_none (by rfl) hHeld ?_ ?_
            rotate_left
            · (intro w hSw; (try dsimp only at hSw); go_simp; try (with_reducible rfl))
            try simp only [Act.put, List.setIfInBounds_toArray, List.set_cons_zero, List.set_cons_succ]
            refine takeH 2 (d := 53) (v := ?_) rfl (by kernel_rfl) (by kernel_rfl) (by kernel_rfl) noPanic_none (by rfl) hHeld ?_ ?_
            rotate_left
            · (intro w hSw; (try dsimp only at hSw); go_simp; try (with_reducible rfl))
            try simp only [Act.put, List.setIfInBounds_toArray, List.set_cons_zero, List.set_cons_succ]
            refine takeH 3 (d := 54) (v := ?_) rfl (by kernel_rfl) (by kernel_rfl) (by kernel_rfl) noPanic_none (by rfl) hHeld ?_ ?_
            rotate_left
            · (intro w hSw; (try dsimp only at hSw); go_simp; try (with_reducible rfl))
            try simp only [Act.put, List.setIfInBounds_toArray, List.set_cons_zero, List.set_cons_succ]
            refine takeH 5 (d := 56) (v := ?_) rfl (by kernel_rfl) (by kernel_rfl) (by kernel_rfl) noPanic_none (by rfl) hHeld ?_ ?_
            rotate_left
            · (intro w hSw; (try dsimp only at hSw); go_simp; try (with_reducible rfl))
            try simp only [Act.put, List.setIfInBounds_toArray, List.set_cons_zero, List.set_cons_succ]
            refine takeH 6 (d := 57) (v := ?_) rfl (by kernel_rfl) (by kernel_rfl) (by kernel_rfl) noPanic_none (by rfl) hHeld ?_ ?_
            rotate_left
            · (intro w hSw; (try dsimp only at hSw); go_simp; try (with_reducible rfl))
            try simp only [Act.put, List.setIfInBounds_toArray, List.set_cons_zero, List.set_cons_succ]
            refine takeH 7 (d := 58) (v := ?_) rfl (by kernel_rfl) (by kernel_rfl) (by kernel_rfl) noPanic_none (by rfl) hHeld ?_ ?_
            rotate_left
            · (intro w hSw; (try dsimp only at hSw); go_simp; try (with_reducible rfl))
            try simp only [Act.put, List.setIfInBounds_toArray, List.set_cons_zero, List.set_cons_succ]
            refine takeH 8 (d := 59) (v := ?_) rfl (by kernel_rfl) (by kernel_rfl) (by kernel_rfl) noPanic_none (by rfl) hHeld ?_ ?_
            rotate_left
            · (intro w hSw; (try dsimp only at hSw); go_simp; try (with_reducible rfl))
            try simp only [Act.put, List.setIfInBounds_toArray, List.set_cons_zero, List.set_cons_succ]
            refine wpAnyH_ready (rs := [4]) (by kernel_rfl) (by simp) ?_
            refine stepH (i := 4) (d := 55) rfl (by rfl) (fun K hK => ?_) ?_
            · go_simp
              refine (cL _ _ _ _ _ _ (RU.out _ (Below.refl _ _).drew)).mono ?_
              rintro e v1 ⟨rfl, hv1⟩
              have S1 := chain (Below.refl (wl.alloc (.cells #[.string ⟨#[103, 101, 116]⟩, .string ⟨#[]⟩, .string ⟨#[112, 111, 100, 115]⟩, .string ⟨#[]⟩, .string nm, .string ⟨#[]⟩, .string ⟨#[]⟩] 26)).heap.size (wl.alloc (.cells #[.string ⟨#[103, 101, 116]⟩, .string ⟨#[]⟩, .string ⟨#[112, 111, 100, 115]⟩, .string ⟨#[]⟩, .string nm, .string ⟨#[]⟩, .string ⟨#[]⟩] 26))).drew hv1
              have S2 := chain (below_new wl (.cells #[.string ⟨#[103, 101, 116]⟩, .string ⟨#[]⟩, .string ⟨#[112, 111, 100, 115]⟩, .string ⟨#[]⟩, .string nm, .string ⟨#[]⟩, .string ⟨#[]⟩] 26)) S1
              refine hK.out _ _ ?_ (fun hHeld => ?_)
              · exact FA.out _ S1
              clear hK K
              try simp only [Act.put, List.setIfInBounds_toArray, List.set_cons_zero, List.set_cons_succ]
              refine takeH 9 (d := 60) (v := ?_) rfl (by kernel_rfl) (by kernel_rfl) (by kernel_rfl) noPanic_none (by rfl) hHeld ?_ ?_
              rotate_left
              · (intro w hSw; (try dsimp only at hSw); go_simp; try (with_reducible rfl))
              try simp only [Act.put, List.setIfInBounds_toArray, List.set_cons_zero, List.set_cons_succ]
              refine takeH 10 (d := 61) (v := ?_) rfl (by kernel_rfl) (by kernel_rfl) (by kernel_rfl) noPanic_none (by rfl) hHeld ?_ ?_
              rotate_left
              · (intro w hSw; (try dsimp only at hSw); go_simp; try (with_reducible rfl))
              try simp only [Act.put, List.setIfInBounds_toArray, List.set_cons_zero, List.set_cons_succ]
              refine takeH 11 (d := 62) (v := ?_) rfl (by kernel_rfl) (by kernel_rfl) (by kernel_rfl) noPanic_none (by rfl) hHeld ?_ ?_
              rotate_left
              · (intro w hSw; (try dsimp only at hSw); go_simp; try (with_reducible rfl))
              try simp only [Act.put, List.setIfInBounds_toArray, List.set_cons_zero, List.set_cons_succ]
              refine takeH 12 (d := 63) (v := ?_) rfl (by kernel_rfl) (by kernel_rfl) (by kernel_rfl) noPanic_none (by rfl) hHeld ?_ ?_
              rotate_left
              · (intro w hSw; (try dsimp only at hSw); go_simp; try (with_reducible rfl))
              try simp only [Act.put, List.setIfInBounds_toArray, List.set_cons_zero, List.set_cons_succ]
              refine takeH 13 (d := 64) (v := ?_) rfl (by kernel_rfl) (by kernel_rfl) (by kernel_rfl) noPanic_none (by rfl) hHeld ?_ ?_
              rotate_left
              · (intro w hSw; (try dsimp only at hSw); go_simp; try (with_reducible rfl))
              try simp only [Act.put, List.setIfInBounds_toArray, List.set_cons_zero, List.set_cons_succ]
              refine takeH 14 (d := 65) (v := ?_) rfl (by kernel_rfl) (by kernel_rfl) (by kernel_rfl) noPanic_none (by rfl) hHeld ?_ ?_
              rotate_left
              · (intro w hSw; (try dsimp only at hSw); go_simp; try (with_reducible rfl))
              try simp only [Act.put, List.setIfInBounds_toArray, List.set_cons_zero, List.set_cons_succ]
              refine takeH 15 (d := 66) (v := ?_) rfl (by kernel_rfl) (by kernel_rfl) (by kernel_rfl) noPanic_none (by rfl) hHeld ?_ ?_
              rotate_left
              · (intro w hSw; (try dsimp only at hSw); go_simp; try (with_reducible rfl))
              try simp only [Act.put, List.setIfInBounds_toArray, List.set_cons_zero, List.set_cons_succ]
              refine wpAnyH_ready (rs := [16]) (by kernel_rfl) (by simp) ?_
              refine stepH (i := 16) (d := 67) rfl (by rfl) (fun K hK => ?_) ?_
              · go_simp
                refine (cC _ _ _ _ _ _ (RU.out _ S1) (HM.out.later (chain hbw S2))).mono ?_
                rintro e v2 ⟨rfl, hv2⟩
                have S3 := chain S2 hv2
                refine hK.out _ _ ?_ (fun hHeld => ?_)
                · exact FA.out _ (chain S1 hv2)
                clear hK K
                try simp only [Act.put, List.setIfInBounds_toArray, List.set_cons_zero, List.set_cons_succ]
                refine takeH 17 (d := 68) (v := ?_) rfl (by kernel_rfl) (by kernel_rfl) (by kernel_rfl) noPanic_none (by rfl) hHeld ?_ ?_
                rotate_left
                · (intro w hSw; (try dsimp only at hSw); go_simp; try (with_reducible rfl))
                try simp only [Act.put, List.setIfInBounds_toArray, List.set_cons_zero, List.set_cons_succ]
                refine takeH 18 (d := 69) (v := ?_) rfl (by kernel_rfl) (by kernel_rfl) (by kernel_rfl) noPanic_none (by rfl) hHeld ?_ ?_
                rotate_left
                · (intro w hSw; (try dsimp only at hSw); go_simp; try (with_reducible rfl))
                try simp only [Act.put, List.setIfInBounds_toArray, List.set_cons_zero, List.set_cons_succ]
                refine takeH 19 (d := 70) (v := ?_) rfl (by kernel_rfl) (by kernel_rfl) (by kernel_rfl) noPanic_none (by rfl) hHeld ?_ ?_
                rotate_left
                · (intro w hSw; (try dsimp only at hSw); go_simp; try (with_reducible rfl))
                try simp only [Act.put, List.setIfInBounds_toArray, List.set_cons_zero, List.set_cons_succ]
                refine wpAnyH_ready (rs := [20]) (by kernel_rfl) (by simp) ?_
                refine stepH (i := 20) (d := 71) rfl (by rfl) (fun K hK => ?_) ?_
                · go_simp
                  refine (cA _ (HM.out.later (chain hbw S3))).mono ?_
                  rintro e v3 ⟨rfl, hv3⟩
                  have S4 := chain S3 hv3
                  refine hK.out _ _ ?_ (fun hHeld => ?_)
                  · exact FA.out _ (chain (chain S1 hv2) hv3)
                  clear hK K
                  try simp only [Act.put, List.setIfInBounds_toArray, List.set_cons_zero, List.set_cons_succ]
                  refine takeH 21 (d := 72) (v := ?_) rfl (by kernel_rfl) (by kernel_rfl) (by kernel_rfl) noPanic_none (by rfl) hHeld ?_ ?_
                  rotate_left
                  · (intro w hSw; (try dsimp only at hSw); go_simp; try (with_reducible rfl))
                  try simp only [Act.put, List.setIfInBounds_toArray, List.set_cons_zero, List.set_cons_succ]
                  refine takeH 22 (d := 4) (v := ?_) rfl (by kernel_rfl) (by kernel_rfl) (by kernel_rfl) noPanic_none (by rfl) hHeld ?_ ?_
                  rotate_left
                  · (intro w hSw; (try dsimp only at hSw); go_simp; try (with_reducible rfl))
                  try simp only [Act.put, List.setIfInBounds_toArray, List.set_cons_zero, List.set_cons_succ]
                  refine wpAnyH_done (by kernel_rfl) ?_ _
                  refine NoPanic.normal ?_
                  go_wp2
                  go_ret
                  exact ⟨rfl, chain hbw S4⟩
                exact AllReadyH.nil
              exact AllReadyH.nil
            exact AllReadyH.nil



  case pos =>
    have HK0 := Lib.hid (show bits .and .i64 n 7 = 0 by rw [HK.out, h7]; rfl)
    clear HK h7
    go_enter Tryd.func9, Tryd.ntmps9
    go_wp2_with fail
    refine (awake_any _ HM.out).mono ?_
    rintro e w1 ⟨rfl, hb1⟩
    go_upto_if 19 with (fail)
    rw [HK0.out]
    simp only [show ((0 : Int) != 0) = false from rfl]
    go_wp2_with fail
    obtain ⟨wa, hwa⟩ : ∃ wa, wa = w1.alloc (.cells #[.string ⟨#[103, 101, 116]⟩] 9) := ⟨_, rfl⟩
    obtain ⟨wb, hwb⟩ : ∃ wb, wb = wa.alloc (.cells #[.string ⟨#[]⟩] 9) := ⟨_, rfl⟩
    obtain ⟨wc, hwc⟩ : ∃ wc, wc = wb.alloc (.cells #[.string ⟨#[112, 111, 100, 115]⟩] 9) := ⟨_, rfl⟩
    obtain ⟨wd, hwd⟩ : ∃ wd, wd = wc.alloc (.cells #[.slice (some ⟨w1.heap.size, 0, none⟩) 1 1, .slice (some ⟨w1.heap.size + 1, 0, none⟩) 1 1, .slice (some ⟨w1.heap.size + 1 + 1, 0, none⟩) 1 1, .slice none 0 0, .slice none 0 0] 24) := ⟨_, rfl⟩
    obtain ⟨hsc, bw, K0⟩ := namesW w1 wa wb wc hwa hwb hwc
    have K := Lib.hid K0
    have Hw : wd = (((w1.alloc (.cells #[.string ⟨#[103, 101, 116]⟩] 9)).alloc (.cells #[.string ⟨#[]⟩] 9)).alloc (.cells #[.string ⟨#[112, 111, 100, 115]⟩] 9)).alloc (.cells #[.slice (some ⟨w1.heap.size, 0, none⟩) 1 1, .slice (some ⟨w1.heap.size + 1, 0, none⟩) 1 1, .slice (some ⟨w1.heap.size + 1 + 1, 0, none⟩) 1 1, .slice none 0 0, .slice none 0 0] 24) := by rw [hwd, hwc, hwb, hwa]
    rw [← Hw]
    have gd : wd.heap[w1.heap.size + 1 + 1 + 1]? = some (.cells #[.slice (some ⟨w1.heap.size, 0, none⟩) 1 1, .slice (some ⟨w1.heap.size + 1, 0, none⟩) 1 1, .slice (some ⟨w1.heap.size + 1 + 1, 0, none⟩) 1 1, .slice none 0 0, .slice none 0 0] 24) := by rw [hwd, ← hsc]; exact heap_alloc_new _ _
    have bd : Below wc.heap.size wc wd := by rw [hwd]; exact below_new _ _
    have bwc := chain hb1 bw
    clear K0 Hw hwa hwb hwc hwd bw
    obtain ⟨nm, hnme⟩ : ∃ nm : ByteArray, nm = ⟨#[]⟩ := ⟨_, rfl⟩
    have hnm : nameT nm := .inl hnme
    rw [← hnme]
    clear hnme
    have b3 := bd
    have g3 := gd
    obtain ⟨w3, hw3⟩ : ∃ w3, w3 = wd := ⟨_, rfl⟩
    rw [← hw3] at b3 g3 ⊢
    clear hw3
    go_wp2
    go_loopw [7, 9] (fun t i wr => ∃ (k : Nat) (names : List ByteArray) (v : Value), k ≤ 5 ∧ k ≤ la.length ∧ t = .bool (among names nm) ∧ i = .int .i64 k ∧ Hid (names.length = k ∧ ∀ x ∈ names, wordT x) ∧ Hid (wr.heap[w1.heap.size + 1 + 1 + 1]? = some (.cells #[.slice (some ⟨w1.heap.size, 0, none⟩) 1 1, .slice (some ⟨w1.heap.size + 1, 0, none⟩) 1 1, .slice (some ⟨w1.heap.size + 1 + 1, 0, none⟩) 1 1, v, .slice none 0 0] 24)) ∧ Hid (wr.ownsRow (w1.heap.size + 1 + 1 + 1 + 1) 9 1 v k (names.map Value.string)) ∧ Below wc.heap.size wc wr ∧ w1.heap.size + 1 + 1 + 1 + 1 ≤ wr.heap.size) (fun _ i _ => 5 - (intOf i).toNat)
    case atStart => exact ⟨0, [], _, by omega, by omega, rfl, rfl, ⟨rfl, fun x hx => by cases hx⟩, g3, World.ownsRow_nil _ _ _ _, b3, by have := blk_lt g3; omega⟩
    case round =>
      obtain ⟨k, names, v, hk5, hkl, rfl, rfl, HN, Hg, Hown, hbr, hsz⟩ := hrel
      obtain ⟨wl, rfl⟩ : ∃ w', w' = wr := ⟨wr, rfl⟩
      obtain ⟨oa, oc, rfl⟩ := own_form Hown.out
      have hbw := chain bwc hbr
      by_cases hk : k < 5 ∧ k < la.length
      case pos =>
        obtain ⟨hka, hkb⟩ := hk
        have kia : (k : Int) < 5 := by omega
        have kib : (k : Int) < (la.length : Int) := by omega
        obtain ⟨bb, off, hva, hbl, cs, hat, hcell⟩ := (HA.out.later hbw).get hkb
        subst hva
        obtain ⟨hcs, hwf⟩ := hat
        subst hcs
        have c0 : wl.cell? ⟨bb, off + k, none⟩ = some (.int .i64 la[k]) := by have := hcell 0 _ rfl; simpa [num] using this
        clear hcell
        go_wp2_with fail
        refine (word_txt _ _).mono ?_
        rintro e w4 ⟨y, hy, rfl, hb4⟩
        have hzy := word_size hy
        have g4 := blk_later Hg.out hb4
        have e3 : w4.cell? ⟨w1.heap.size + 1 + 1 + 1, 3, none⟩ = some (.slice oa k oc) := blk_cell g4 3
        have l4 := blk_lt g4
        have Hown4 := Lib.hid (own_stays Hown.out (fun i _ hi => hb4.block i hi))
        have sn := Lib.hid (among_snoc2 names y nm)
        have HN2 := Lib.hid (show (names ++ [y]).length = k + 1 ∧ ∀ x ∈ names ++ [y], wordT x from ⟨by rw [List.length_append, HN.out.1]; rfl, fun x hx => by
          rcases List.mem_append.1 hx with hx | hx
          · exact HN.out.2 x hx
          · rw [List.mem_singleton.1 hx]; exact hy⟩)
        obtain ⟨t1, ht1⟩ : ∃ t1, among names nm = t1 := ⟨_, rfl⟩
        obtain ⟨t2, ht2⟩ : ∃ t2, (y.toList == nm.toList) = t2 := ⟨_, rfl⟩
        rw [ht1, ht2] at sn
        rw [ht1]
        clear ht1
        cases t1 <;> cases t2
        all_goals
          go_wp2_with (first
            | (at_builtin; refine wpList_append_own_at (o := ⟨some 41, _, _, _, _, _⟩) _ rfl _ _ 22 rfl (w1.heap.size + 1 + 1 + 1 + 1) 9 i0 _ 1 16 Tryd.underlying22 hi0 hz0 hz1 hz2 rfl (by decide) _ k (names.map Value.string) rfl (Hown4.out.alloc _) ⟨w4.heap.size, 0, none⟩ 1 1 [.string y] rfl rfl (cells_new (by simp) _ _) (by intro u hu; simp only [List.mem_cons, List.not_mem_nil, or_false] at hu; rcases hu with rfl; rfl) (by unfold maxLen; omega) (by omega) (by simp; omega) ?_; intro v' w5 hown5 hg5 _ hat5; obtain ⟨pa, pc, rfl⟩ := own_form hown5; have g5 := (grown_old hg5 (Hown4.out.alloc _) (show w1.heap.size + 1 + 1 + 1 < (w4.alloc (.cells #[.string y] 9)).heap.size by simp; omega) (by omega)).trans (blk_alloc g4 (.cells #[.string y] 9)); have f3 := blk_frozen g5 3; have e5 := blk_cell g5 3; have Hown5 := Lib.hid hown5; have bb5 := below_own (chain hbr (chain hb4 (below_new w4 (.cells #[.string y] 9)))) hg5 (Hown4.out.alloc _) (by rw [hsc]; omega); have hs5 := hg5.size; clear hown5))
          go_roundw
          case rel =>
            refine ⟨k + 1, names ++ [y], .slice pa (k + 1) pc, by omega, by omega, by rw [sn.out]; rfl, by go_num, HN2, ?_, ?_, bb5.setCell (p := ⟨w1.heap.size + 1 + 1 + 1, 3, none⟩) (by rw [hsc]; exact Nat.le_refl _) _, by rw [set_size]; simp at hs5; omega⟩
            · exact Lib.hid (blk_set g5 3 (.slice pa (k + 1) pc))
            · refine Lib.hid (own_set (by rw [List.map_append]; exact Hown5.out) g5 (by decide) 3 (.slice pa (k + 1) pc))
          case measure => simp [intOf]; omega
      case neg =>
        by_cases hq : k < la.length
        case pos =>
          have hi5 : ¬ (k : Int) < 5 := by omega
          have hil : (k : Int) < (la.length : Int) := by omega
          clear hk
          have gl := Hg.out
          have FA := Lib.hid (show ∀ W, Below (wl.alloc (.cells #[.string ⟨#[103, 101, 116]⟩, .string ⟨#[]⟩, .string ⟨#[112, 111, 100, 115]⟩, .string ⟨#[]⟩, .string nm, .string ⟨#[]⟩, .string ⟨#[]⟩] 26)).heap.size (wl.alloc (.cells #[.string ⟨#[103, 101, 116]⟩, .string ⟨#[]⟩, .string ⟨#[112, 111, 100, 115]⟩, .string ⟨#[]⟩, .string nm, .string ⟨#[]⟩, .string ⟨#[]⟩] 26)) W → W.cell? ⟨w1.heap.size + 1 + 1 + 1, 0, none⟩ = some (.slice (some ⟨w1.heap.size, 0, none⟩) 1 1) ∧ W.cell? ⟨w1.heap.size + 1 + 1 + 1, 1, none⟩ = some (.slice (some ⟨w1.heap.size + 1, 0, none⟩) 1 1) ∧ W.cell? ⟨w1.heap.size + 1 + 1 + 1, 2, none⟩ = some (.slice (some ⟨w1.heap.size + 1 + 1, 0, none⟩) 1 1) ∧ W.cell? ⟨w1.heap.size + 1 + 1 + 1, 3, none⟩ = some (.slice oa k oc) ∧ W.cell? ⟨w1.heap.size + 1 + 1 + 1, 4, none⟩ = some (.slice none 0 0) ∧ W.cell? ⟨wl.heap.size, 0, none⟩ = some (.string ⟨#[103, 101, 116]⟩) ∧ W.cell? ⟨wl.heap.size, 1, none⟩ = some (.string ⟨#[]⟩) ∧ W.cell? ⟨wl.heap.size, 2, none⟩ = some (.string ⟨#[112, 111, 100, 115]⟩) ∧ W.cell? ⟨wl.heap.size, 3, none⟩ = some (.string ⟨#[]⟩) ∧ W.cell? ⟨wl.heap.size, 4, none⟩ = some (.string nm) ∧ W.cell? ⟨wl.heap.size, 5, none⟩ = some (.string ⟨#[]⟩) ∧ W.cell? ⟨wl.heap.size, 6, none⟩ = some (.string ⟨#[]⟩) from fun W h => by
            have r0 := blk_later (blk_alloc gl (.cells #[.string ⟨#[103, 101, 116]⟩, .string ⟨#[]⟩, .string ⟨#[112, 111, 100, 115]⟩, .string ⟨#[]⟩, .string nm, .string ⟨#[]⟩, .string ⟨#[]⟩] 26)) h
            have r1 := blk_later (heap_alloc_new wl (.cells #[.string ⟨#[103, 101, 116]⟩, .string ⟨#[]⟩, .string ⟨#[112, 111, 100, 115]⟩, .string ⟨#[]⟩, .string nm, .string ⟨#[]⟩, .string ⟨#[]⟩] 26)) h
            exact ⟨blk_cell r0 0, blk_cell r0 1, blk_cell r0 2, blk_cell r0 3, blk_cell r0 4, blk_cell r1 0, blk_cell r1 1, blk_cell r1 2, blk_cell r1 3, blk_cell r1 4, blk_cell r1 5, blk_cell r1 6⟩)
          have hrow : RowAt 100 (text 100) wl (.slice oa k oc) names := RowAt.of_own (r := text 100) (css := names.map fun x => [Value.string x]) (by rw [flat_tx]; exact Hown.out) HN.out.1.symm (lists_tx names fun x hx => by have := word_size (HN.out.2 x hx); omega) (by rw [HN.out.1]; omega)
          have RU := Lib.hid (show ∀ W, Below (wl.alloc (.cells #[.string ⟨#[103, 101, 116]⟩, .string ⟨#[]⟩, .string ⟨#[112, 111, 100, 115]⟩, .string ⟨#[]⟩, .string nm, .string ⟨#[]⟩, .string ⟨#[]⟩] 26)).heap.size (wl.alloc (.cells #[.string ⟨#[103, 101, 116]⟩, .string ⟨#[]⟩, .string ⟨#[112, 111, 100, 115]⟩, .string ⟨#[]⟩, .string nm, .string ⟨#[]⟩, .string ⟨#[]⟩] 26)) W → ruAt 100 W (.slice (some ⟨w1.heap.size, 0, none⟩) 1 1) (.slice (some ⟨w1.heap.size + 1, 0, none⟩) 1 1) (.slice (some ⟨w1.heap.size + 1 + 1, 0, none⟩) 1 1) (.slice oa k oc) (.slice none 0 0) (nameRu names) from fun W h => by
            have hb := chain (below_new wl (.cells #[.string ⟨#[103, 101, 116]⟩, .string ⟨#[]⟩, .string ⟨#[112, 111, 100, 115]⟩, .string ⟨#[]⟩, .string nm, .string ⟨#[]⟩, .string ⟨#[]⟩] 26)) h
            obtain ⟨r1, r2, r3⟩ := K.out W (chain hbr hb)
            exact ⟨r1, r2, r3, hrow.later hb, row_none _⟩)
          have cL := fun v g s n p W hu => Allows_any 100 (by omega) (nameRu names) v g s n p (askN nm) W hu (ok_name hnm)
          have cC := fun v g s n p W hu hm => Check_any 100 (by omega) (nameRu names) v g s n p false W hu hm
          have cA := fun W hm => Attr_any (askN nm) (ok_name2 hnm) W hm
          rw [names_allow HN.out.2 hnm, HN.out.1] at cL
          rw [names_check HN.out.2 (by rw [HN.out.1]; omega)] at cC
          rw [names_attr hnm] at cA
          by_cases k0 : k = 0
          case pos =>
            have ki0 : ((k : Int) == 0) = true := by rw [k0]; rfl
            rw [decide_eq_true k0, Bool.true_or] at cL
            clear k0
            go_wp2_with fail
            refine wp_region_noPanic ?_
            refine wp_region_held_drew (S := fun w' => w'.cell? ⟨w1.heap.size + 1 + 1 + 1, 0, none⟩ = some (.slice (some ⟨w1.heap.size, 0, none⟩) 1 1) ∧ w'.cell? ⟨w1.heap.size + 1 + 1 + 1, 1, none⟩ = some (.slice (some ⟨w1.heap.size + 1, 0, none⟩) 1 1) ∧ w'.cell? ⟨w1.heap.size + 1 + 1 + 1, 2, none⟩ = some (.slice (some ⟨w1.heap.size + 1 + 1, 0, none⟩) 1 1) ∧ w'.cell? ⟨w1.heap.size + 1 + 1 + 1, 3, none⟩ = some (.slice oa k oc) ∧ w'.cell? ⟨w1.heap.size + 1 + 1 + 1, 4, none⟩ = some (.slice none 0 0) ∧ w'.cell? ⟨wl.heap.size, 0, none⟩ = some (.string ⟨#[103, 101, 116]⟩) ∧ w'.cell? ⟨wl.heap.size, 1, none⟩ = some (.string ⟨#[]⟩) ∧ w'.cell? ⟨wl.heap.size, 2, none⟩ = some (.string ⟨#[112, 111, 100, 115]⟩) ∧ w'.cell? ⟨wl.heap.size, 3, none⟩ = some (.string ⟨#[]⟩) ∧ w'.cell? ⟨wl.heap.size, 4, none⟩ = some (.string nm) ∧ w'.cell? ⟨wl.heap.size, 5, none⟩ = some (.string ⟨#[]⟩) ∧ w'.cell? ⟨wl.heap.size, 6, none⟩ = some (.string ⟨#[]⟩)) (by kernel_rfl) ?_ (fun hHeld => ?_)
            · exact (FA.out _ (Below.refl _ _).drew)
            refine takeH 0 (d := 51) (v := ?_) rfl (by kernel_rfl) (by kernel_rfl) (by kernel_rfl) noPanic_none (by rfl) hHeld ?_ ?_
            rotate_left
            · (intro w hSw; (try dsimp only at hSw); go_simp; try (with_reducible rfl))
            try simp only [Act.put, List.setIfInBounds_toArray, List.set_cons_zero, List.set_cons_succ]
            refine takeH 1 (d := 52) (v := ?_) rfl (by kernel_rfl) (by kernel_rfl) (by kernel_rfl) noPanic_none (by rfl) hHeld ?_ ?_
            rotate_left
            · (intro w hSw; (try dsimp only at hSw); go_simp; try (with_reducible rfl))
            try simp only [Act.put, List.setIfInBounds_toArray, List.set_cons_zero, List.set_cons_succ]
            refine takeH 2 (d := 53) (v := ?_) rfl (by kernel_rfl) (by kernel_rfl) (by kernel_rfl) noPanic_none (by rfl) hHeld ?_ ?_
            rotate_left
            · (intro w hSw; (try dsimp only at hSw); go_simp; try (with_reducible rfl))
            try simp only [Act.put, List.setIfInBounds_toArray, List.set_cons_zero, List.set_cons_succ]
            refine takeH 3 (d := 54) (v := ?_) rfl (by kernel_rfl) (by kernel_rfl) (by kernel_rfl) noPanic_none (by rfl) hHeld ?_ ?_
            rotate_left
            · (intro w hSw; (try dsimp only at hSw); go_simp; try (with_reducible rfl))
            try simp only [Act.put, List.setIfInBounds_toArray, List.set_cons_zero, List.set_cons_succ]
            refine takeH 5 (d := 56) (v := ?_) rfl (by kernel_rfl) (by kernel_rfl) (by kernel_rfl) noPanic_none (by rfl) hHeld ?_ ?_
            rotate_left
            · (intro w hSw; (try dsimp only at hSw); go_simp; try (with_reducible rfl))
            try simp only [Act.put, List.setIfInBounds_toArray, List.set_cons_zero, List.set_cons_succ]
            refine takeH 6 (d := 57) (v := ?_) rfl (by kernel_rfl) (by kernel_rfl) (by kernel_rfl) noPanic_none (by rfl) hHeld ?_ ?_
            rotate_left
            · (intro w hSw; (try dsimp only at hSw); go_simp; try (with_reducible rfl))
            try simp only [Act.put, List.setIfInBounds_toArray, List.set_cons_zero, List.set_cons_succ]
            refine takeH 7 (d := 58) (v := ?_) rfl (by kernel_rfl) (by kernel_rfl) (by kernel_rfl) noPanic_none (by rfl) hHeld ?_ ?_
            rotate_left
            · (intro w hSw; (try dsimp only at hSw); go_simp; try (with_reducible rfl))
            try simp only [Act.put, List.setIfInBounds_toArray, List.set_cons_zero, List.set_cons_succ]
            refine takeH 8 (d := 59) (v := ?_) rfl (by kernel_rfl) (by kernel_rfl) (by kernel_rfl) noPanic_none (by rfl) hHeld ?_ ?_
            rotate_left
            · (intro w hSw; (try dsimp only at hSw); go_simp; try (with_reducible rfl))
            try simp only [Act.put, List.setIfInBounds_toArray, List.set_cons_zero, List.set_cons_succ]
            refine wpAnyH_ready (rs := [4]) (by kernel_rfl) (by simp) ?_
            refine stepH (i := 4) (d := 55) rfl (by rfl) (fun K hK => ?_) ?_
            · go_simp
              refine (cL _ _ _ _ _ _ (RU.out _ (Below.refl _ _).drew)).mono ?_
              rintro e v1 ⟨rfl, hv1⟩
              have S1 := chain (Below.refl (wl.alloc (.cells #[.string ⟨#[103, 101, 116]⟩, .string ⟨#[]⟩, .string ⟨#[112, 111, 100, 115]⟩, .string ⟨#[]⟩, .string nm, .string ⟨#[]⟩, .string ⟨#[]⟩] 26)).heap.size (wl.alloc (.cells #[.string ⟨#[103, 101, 116]⟩, .string ⟨#[]⟩, .string ⟨#[112, 111, 100, 115]⟩, .string ⟨#[]⟩, .string nm, .string ⟨#[]⟩, .string ⟨#[]⟩] 26))).drew hv1
              have S2 := chain (below_new wl (.cells #[.string ⟨#[103, 101, 116]⟩, .string ⟨#[]⟩, .string ⟨#[112, 111, 100, 115]⟩, .string ⟨#[]⟩, .string nm, .string ⟨#[]⟩, .string ⟨#[]⟩] 26)) S1
              refine hK.out _ _ ?_ (fun hHeld => ?_)
              · exact FA.out _ S1
              clear hK K
              try simp only [Act.put, List.setIfInBounds_toArray, List.set_cons_zero, List.set_cons_succ]
              refine takeH 9 (d := 60) (v := ?_) rfl (by kernel_rfl) (by kernel_rfl) (by kernel_rfl) noPanic_none (by rfl) hHeld ?_ ?_
              rotate_left
              · (intro w hSw; (try dsimp only at hSw); go_simp; try (with_reducible rfl))
              try simp only [Act.put, List.setIfInBounds_toArray, List.set_cons_zero, List.set_cons_succ]
              refine skipH 10 (d := 61) rfl (by kernel_rfl) (by kernel_rfl) (by kernel_rfl) noPanic_none (by rfl) hHeld ?_
              try simp only [Act.put, List.setIfInBounds_toArray, List.set_cons_zero, List.set_cons_succ]
              refine takeH 11 (d := 62) (v := ?_) rfl (by kernel_rfl) (by kernel_rfl) (by kernel_rfl) noPanic_none (by rfl) hHeld ?_ ?_
              rotate_left
              · (intro w hSw; (try dsimp only at hSw); go_simp; try (with_reducible rfl))
              try simp only [Act.put, List.setIfInBounds_toArray, List.set_cons_zero, List.set_cons_succ]
              refine takeH 12 (d := 63) (v := ?_) rfl (by kernel_rfl) (by kernel_rfl) (by kernel_rfl) noPanic_none (by rfl) hHeld ?_ ?_
              rotate_left
              · (intro w hSw; (try dsimp only at hSw); go_simp; try (with_reducible rfl))
              try simp only [Act.put, List.setIfInBounds_toArray, List.set_cons_zero, List.set_cons_succ]
              refine takeH 13 (d := 64) (v := ?_) rfl (by kernel_rfl) (by kernel_rfl) (by kernel_rfl) noPanic_none (by rfl) hHeld ?_ ?_
              rotate_left
              · (intro w hSw; (try dsimp only at hSw); go_simp; try (with_reducible rfl))
              try simp only [Act.put, List.setIfInBounds_toArray, List.set_cons_zero, List.set_cons_succ]
              refine takeH 14 (d := 65) (v := ?_) rfl (by kernel_rfl) (by kernel_rfl) (by kernel_rfl) noPanic_none (by rfl) hHeld ?_ ?_
              rotate_left
              · (intro w hSw; (try dsimp only at hSw); go_simp; try (with_reducible rfl))
              try simp only [Act.put, List.setIfInBounds_toArray, List.set_cons_zero, List.set_cons_succ]
              refine takeH 15 (d := 66) (v := ?_) rfl (by kernel_rfl) (by kernel_rfl) (by kernel_rfl) noPanic_none (by rfl) hHeld ?_ ?_
              rotate_left
              · (intro w hSw; (try dsimp only at hSw); go_simp; try (with_reducible rfl))
              try simp only [Act.put, List.setIfInBounds_toArray, List.set_cons_zero, List.set_cons_succ]
              refine wpAnyH_ready (rs := [16]) (by kernel_rfl) (by simp) ?_
              refine stepH (i := 16) (d := 67) rfl (by rfl) (fun K hK => ?_) ?_
              · go_simp
                refine (cC _ _ _ _ _ _ (RU.out _ S1) (HM.out.later (chain hbw S2))).mono ?_
                rintro e v2 ⟨rfl, hv2⟩
                have S3 := chain S2 hv2
                refine hK.out _ _ ?_ (fun hHeld => ?_)
                · exact FA.out _ (chain S1 hv2)
                clear hK K
                try simp only [Act.put, List.setIfInBounds_toArray, List.set_cons_zero, List.set_cons_succ]
                refine takeH 17 (d := 68) (v := ?_) rfl (by kernel_rfl) (by kernel_rfl) (by kernel_rfl) noPanic_none (by rfl) hHeld ?_ ?_
                rotate_left
                · (intro w hSw; (try dsimp only at hSw); go_simp; try (with_reducible rfl))
                try simp only [Act.put, List.setIfInBounds_toArray, List.set_cons_zero, List.set_cons_succ]
                refine takeH 18 (d := 69) (v := ?_) rfl (by kernel_rfl) (by kernel_rfl) (by kernel_rfl) noPanic_none (by rfl) hHeld ?_ ?_
                rotate_left
                · (intro w hSw; (try dsimp only at hSw); go_simp; try (with_reducible rfl))
                try simp only [Act.put, List.setIfInBounds_toArray, List.set_cons_zero, List.set_cons_succ]
                refine takeH 19 (d := 70) (v := ?_) rfl (by kernel_rfl) (by kernel_rfl) (by kernel_rfl) noPanic_none (by rfl) hHeld ?_ ?_
                rotate_left
                · (intro w hSw; (try dsimp only at hSw); go_simp; try (with_reducible rfl))
                try simp only [Act.put, List.setIfInBounds_toArray, List.set_cons_zero, List.set_cons_succ]
                refine wpAnyH_ready (rs := [20]) (by kernel_rfl) (by simp) ?_
                refine stepH (i := 20) (d := 71) rfl (by rfl) (fun K hK => ?_) ?_
                · go_simp
                  refine (cA _ (HM.out.later (chain hbw S3))).mono ?_
                  rintro e v3 ⟨rfl, hv3⟩
                  have S4 := chain S3 hv3
                  refine hK.out _ _ ?_ (fun hHeld => ?_)
                  · exact FA.out _ (chain (chain S1 hv2) hv3)
                  clear hK K
                  try simp only [Act.put, List.setIfInBounds_toArray, List.set_cons_zero, List.set_cons_succ]
                  refine takeH 21 (d := 72) (v := ?_) rfl (by kernel_rfl) (by kernel_rfl) (by kernel_rfl) noPanic_none (by rfl) hHeld ?_ ?_
                  rotate_left
                  · (intro w hSw; (try dsimp only at hSw); go_simp; try (with_reducible rfl))
                  try simp only [Act.put, List.setIfInBounds_toArray, List.set_cons_zero, List.set_cons_succ]
                  refine takeH 22 (d := 4) (v := ?_) rfl (by kernel_rfl) (by kernel_rfl) (by kernel_rfl) noPanic_none (by rfl) hHeld ?_ ?_
                  rotate_left
                  · (intro w hSw; (try dsimp only at hSw); go_simp; try (with_reducible rfl))
                  try simp only [Act.put, List.setIfInBounds_toArray, List.set_cons_zero, List.set_cons_succ]
                  refine wpAnyH_done (by kernel_rfl) ?_ _
                  refine NoPanic.normal ?_
                  go_wp2
                  go_ret
                  exact ⟨rfl, chain hbw S4⟩
                exact AllReadyH.nil
              exact AllReadyH.nil
            exact AllReadyH.nil

          case neg =>
            have ki0 : ((k : Int) == 0) = false := by rw [beq_eq_false_iff_ne]; omega
            rw [decide_eq_false k0, Bool.false_or] at cL
            clear k0
            obtain ⟨t1, ht1⟩ : ∃ t1, among names nm = t1 := ⟨_, rfl⟩
            rw [ht1] at cL ⊢
            clear ht1
            go_wp2_with fail
            refine wp_region_noPanic ?_
            refine wp_region_held_drew (S := fun w' => w'.cell? ⟨w1.heap.size + 1 + 1 + 1, 0, none⟩ = some (.slice (some ⟨w1.heap.size, 0, none⟩) 1 1) ∧ w'.cell? ⟨w1.heap.size + 1 + 1 + 1, 1, none⟩ = some (.slice (some ⟨w1.heap.size + 1, 0, none⟩) 1 1) ∧ w'.cell? ⟨w1.heap.size + 1 + 1 + 1, 2, none⟩ = some (.slice (some ⟨w1.heap.size + 1 + 1, 0, none⟩) 1 1) ∧ w'.cell? ⟨w1.heap.size + 1 + 1 + 1, 3, none⟩ = some (.slice oa k oc) ∧ w'.cell? ⟨w1.heap.size + 1 + 1 + 1, 4, none⟩ = some (.slice none 0 0) ∧ w'.cell? ⟨wl.heap.size, 0, none⟩ = some (.string ⟨#[103, 101, 116]⟩) ∧ w'.cell? ⟨wl.heap.size, 1, none⟩ = some (.string ⟨#[]⟩) ∧ w'.cell? ⟨wl.heap.size, 2, none⟩ = some (.string ⟨#[112, 111, 100, 115]⟩) ∧ w'.cell? ⟨wl.heap.size, 3, none⟩ = some (.string ⟨#[]⟩) ∧ w'.cell? ⟨wl.heap.size, 4, none⟩ = some (.string nm) ∧ w'.cell? ⟨wl.heap.size, 5, none⟩ = some (.string ⟨#[]⟩) ∧ w'.cell? ⟨wl.heap.size, 6, none⟩ = some (.string ⟨#[]⟩)) (by kernel_rfl) ?_ (fun hHeld => ?_)
            · exact (FA.out _ (Below.refl _ _).drew)
            refine takeH 0 (d := 51) (v := ?_) rfl (by kernel_rfl) (by kernel_rfl) (by kernel_rfl) noPanic_none (by rfl) hHeld ?_ ?_
            rotate_left
            · (intro w hSw; (try dsimp only at hSw); go_simp; try (with_reducible rfl))
            try simp only [Act.put, List.setIfInBounds_toArray, List.set_cons_zero, List.set_cons_succ]
            refine takeH 1 (d := 52) (v := ?_) rfl (by kernel_rfl) (by kernel_rfl) (by kernel_rfl) noPanic_none (by rfl) hHeld ?_ ?_
            rotate_left
            · (intro w hSw; (try dsimp only at hSw); go_simp; try (with_reducible rfl))
            try simp only [Act.put, List.setIfInBounds_toArray, List.set_cons_zero, List.set_cons_succ]
            refine takeH 2 (d := 53) (v := ?_) rfl (by kernel_rfl) (by kernel_rfl) (by kernel_rfl) noPanic_none (by rfl) hHeld ?_ ?_
            rotate_left
            · (intro w hSw; (try dsimp only at hSw); go_simp; try (with_reducible rfl))
            try simp only [Act.put, List.setIfInBounds_toArray, List.set_cons_zero, List.set_cons_succ]
            refine takeH 3 (d := 54) (v := ?_) rfl (by kernel_rfl) (by kernel_rfl) (by kernel_rfl) noPanic_none (by rfl) hHeld ?_ ?_
            rotate_left
            · (intro w hSw; (try dsimp only at hSw); go_simp; try (with_reducible rfl))
            try simp only [Act.put, List.setIfInBounds_toArray, List.set_cons_zero, List.set_cons_succ]
            refine takeH 5 (d := 56) (v := ?_) rfl (by kernel_rfl) (by kernel_rfl) (by kernel_rfl) noPanic_none (by rfl) hHeld ?_ ?_
            rotate_left
            · (intro w hSw; (try dsimp only at hSw); go_simp; try (with_reducible rfl))
            try simp only [Act.put, List.setIfInBounds_toArray, List.set_cons_zero, List.set_cons_succ]
            refine takeH 6 (d := 57) (v := ?_) rfl (by kernel_rfl) (by kernel_rfl) (by kernel_rfl) noPanic_none (by rfl) hHeld ?_ ?_
            rotate_left
            · (intro w hSw; (try dsimp only at hSw); go_simp; try (with_reducible rfl))
            try simp only [Act.put, List.setIfInBounds_toArray, List.set_cons_zero, List.set_cons_succ]
            refine takeH 7 (d := 58) (v := ?_) rfl (by kernel_rfl) (by kernel_rfl) (by kernel_rfl) noPanic_none (by rfl) hHeld ?_ ?_
            rotate_left
            · (intro w hSw; (try dsimp only at hSw); go_simp; try (with_reducible rfl))
            try simp only [Act.put, List.setIfInBounds_toArray, List.set_cons_zero, List.set_cons_succ]
            refine takeH 8 (d := 59) (v := ?_) rfl (by kernel_rfl) (by kernel_rfl) (by kernel_rfl) noPanic_none (by rfl) hHeld ?_ ?_
            rotate_left
            · (intro w hSw; (try dsimp only at hSw); go_simp; try (with_reducible rfl))
            try simp only [Act.put, List.setIfInBounds_toArray, List.set_cons_zero, List.set_cons_succ]
            refine wpAnyH_ready (rs := [4]) (by kernel_rfl) (by simp) ?_
            refine stepH (i := 4) (d := 55) rfl (by rfl) (fun K hK => ?_) ?_
            · go_simp
              refine (cL _ _ _ _ _ _ (RU.out _ (Below.refl _ _).drew)).mono ?_
              rintro e v1 ⟨rfl, hv1⟩
              have S1 := chain (Below.refl (wl.alloc (.cells #[.string ⟨#[103, 101, 116]⟩, .string ⟨#[]⟩, .string ⟨#[112, 111, 100, 115]⟩, .string ⟨#[]⟩, .string nm, .string ⟨#[]⟩, .string ⟨#[]⟩] 26)).heap.size (wl.alloc (.cells #[.string ⟨#[103, 101, 116]⟩, .string ⟨#[]⟩, .string ⟨#[112, 111, 100, 115]⟩, .string ⟨#[]⟩, .string nm, .string ⟨#[]⟩, .string ⟨#[]⟩] 26))).drew hv1
              have S2 := chain (below_new wl (.cells #[.string ⟨#[103, 101, 116]⟩, .string ⟨#[]⟩, .string ⟨#[112, 111, 100, 115]⟩, .string ⟨#[]⟩, .string nm, .string ⟨#[]⟩, .string ⟨#[]⟩] 26)) S1
              refine hK.out _ _ ?_ (fun hHeld => ?_)
              · exact FA.out _ S1
              clear hK K
              try simp only [Act.put, List.setIfInBounds_toArray, List.set_cons_zero, List.set_cons_succ]
              refine takeH 9 (d := 60) (v := ?_) rfl (by kernel_rfl) (by kernel_rfl) (by kernel_rfl) noPanic_none (by rfl) hHeld ?_ ?_
              rotate_left
              · (intro w hSw; (try dsimp only at hSw); go_simp; try (with_reducible rfl))
              try simp only [Act.put, List.setIfInBounds_toArray, List.set_cons_zero, List.set_cons_succ]
              refine takeH 10 (d := 61) (v := ?_) rfl (by kernel_rfl) (by kernel_rfl) (by kernel_rfl) noPanic_none (by rfl) hHeld ?_ ?_
              rotate_left
              · (intro w hSw; (try dsimp only at hSw); go_simp; try (with_reducible rfl))
              try simp only [Act.put, List.setIfInBounds_toArray, List.set_cons_zero, List.set_cons_succ]
              refine takeH 11 (d := 62) (v := ?_) rfl (by kernel_rfl) (by kernel_rfl) (by kernel_rfl) noPanic_none (by rfl) hHeld ?_ ?_
              rotate_left
              · (intro w hSw; (try dsimp only at hSw); go_simp; try (with_reducible rfl))
              try simp only [Act.put, List.setIfInBounds_toArray, List.set_cons_zero, List.set_cons_succ]
              refine takeH 12 (d := 63) (v := ?_) rfl (by kernel_rfl) (by kernel_rfl) (by kernel_rfl) noPanic_none (by rfl) hHeld ?_ ?_
              rotate_left
              · (intro w hSw; (try dsimp only at hSw); go_simp; try (with_reducible rfl))
              try simp only [Act.put, List.setIfInBounds_toArray, List.set_cons_zero, List.set_cons_succ]
              refine takeH 13 (d := 64) (v := ?_) rfl (by kernel_rfl) (by kernel_rfl) (by kernel_rfl) noPanic_none (by rfl) hHeld ?_ ?_
              rotate_left
              · (intro w hSw; (try dsimp only at hSw); go_simp; try (with_reducible rfl))
              try simp only [Act.put, List.setIfInBounds_toArray, List.set_cons_zero, List.set_cons_succ]
              refine takeH 14 (d := 65) (v := ?_) rfl (by kernel_rfl) (by kernel_rfl) (by kernel_rfl) noPanic_none (by rfl) hHeld ?_ ?_
              rotate_left
              · (intro w hSw; (try dsimp only at hSw); go_simp; try (with_reducible rfl))
              try simp only [Act.put, List.setIfInBounds_toArray, List.set_cons_zero, List.set_cons_succ]
              refine takeH 15 (d := 66) (v := ?_) rfl (by kernel_rfl) (by kernel_rfl) (by kernel_rfl) noPanic_none (by rfl) hHeld ?_ ?_
              rotate_left
              · (intro w hSw; (try dsimp only at hSw); go_simp; try (with_reducible rfl))
              try simp only [Act.put, List.setIfInBounds_toArray, List.set_cons_zero, List.set_cons_succ]
              refine wpAnyH_ready (rs := [16]) (by kernel_rfl) (by simp) ?_
              refine stepH (i := 16) (d := 67) rfl (by rfl) (fun K hK => ?_) ?_
              · go_simp
                refine (cC _ _ _ _ _ _ (RU.out _ S1) (HM.out.later (chain hbw S2))).mono ?_
                rintro e v2 ⟨rfl, hv2⟩
                have S3 := chain S2 hv2
                refine hK.out _ _ ?_ (fun hHeld => ?_)
                · exact FA.out _ (chain S1 hv2)
                clear hK K
                try simp only [Act.put, List.setIfInBounds_toArray, List.set_cons_zero, List.set_cons_succ]
                refine takeH 17 (d := 68) (v := ?_) rfl (by kernel_rfl) (by kernel_rfl) (by kernel_rfl) noPanic_none (by rfl) hHeld ?_ ?_
                rotate_left
                · (intro w hSw; (try dsimp only at hSw); go_simp; try (with_reducible rfl))
                try simp only [Act.put, List.setIfInBounds_toArray, List.set_cons_zero, List.set_cons_succ]
                refine takeH 18 (d := 69) (v := ?_) rfl (by kernel_rfl) (by kernel_rfl) (by kernel_rfl) noPanic_none (by rfl) hHeld ?_ ?_
                rotate_left
                · (intro w hSw; (try dsimp only at hSw); go_simp; try (with_reducible rfl))
                try simp only [Act.put, List.setIfInBounds_toArray, List.set_cons_zero, List.set_cons_succ]
                refine takeH 19 (d := 70) (v := ?_) rfl (by kernel_rfl) (by kernel_rfl) (by kernel_rfl) noPanic_none (by rfl) hHeld ?_ ?_
                rotate_left
                · (intro w hSw; (try dsimp only at hSw); go_simp; try (with_reducible rfl))
                try simp only [Act.put, List.setIfInBounds_toArray, List.set_cons_zero, List.set_cons_succ]
                refine wpAnyH_ready (rs := [20]) (by kernel_rfl) (by simp) ?_
                refine stepH (i := 20) (d := 71) rfl (by rfl) (fun K hK => ?_) ?_
                · go_simp
                  refine (cA _ (HM.out.later (chain hbw S3))).mono ?_
                  rintro e v3 ⟨rfl, hv3⟩
                  have S4 := chain S3 hv3
                  refine hK.out _ _ ?_ (fun hHeld => ?_)
                  · exact FA.out _ (chain (chain S1 hv2) hv3)
                  clear hK K
                  try simp only [Act.put, List.setIfInBounds_toArray, List.set_cons_zero, List.set_cons_succ]
                  refine takeH 21 (d := 72) (v := ?_) rfl (by kernel_rfl) (by kernel_rfl) (by kernel_rfl) noPanic_none (by rfl) hHeld ?_ ?_
                  rotate_left
                  · (intro w hSw; (try dsimp only at hSw); go_simp; try (with_reducible rfl))
                  try simp only [Act.put, List.setIfInBounds_toArray, List.set_cons_zero, List.set_cons_succ]
                  refine takeH 22 (d := 4) (v := ?_) rfl (by kernel_rfl) (by kernel_rfl) (by kernel_rfl) noPanic_none (by rfl) hHeld ?_ ?_
                  rotate_left
                  · (intro w hSw; (try dsimp only at hSw); go_simp; try (with_reducible rfl))
                  try simp only [Act.put, List.setIfInBounds_toArray, List.set_cons_zero, List.set_cons_succ]
                  refine wpAnyH_done (by kernel_rfl) ?_ _
                  refine NoPanic.normal ?_
                  go_wp2
                  go_ret
                  exact ⟨rfl, chain hbw S4⟩
                exact AllReadyH.nil
              exact AllReadyH.nil
            exact AllReadyH.nil


        case neg =>
          have hil : ¬ (k : Int) < (la.length : Int) := by omega
          clear hk
          have gl := Hg.out
          have FA := Lib.hid (show ∀ W, Below (wl.alloc (.cells #[.string ⟨#[103, 101, 116]⟩, .string ⟨#[]⟩, .string ⟨#[112, 111, 100, 115]⟩, .string ⟨#[]⟩, .string nm, .string ⟨#[]⟩, .string ⟨#[]⟩] 26)).heap.size (wl.alloc (.cells #[.string ⟨#[103, 101, 116]⟩, .string ⟨#[]⟩, .string ⟨#[112, 111, 100, 115]⟩, .string ⟨#[]⟩, .string nm, .string ⟨#[]⟩, .string ⟨#[]⟩] 26)) W → W.cell? ⟨w1.heap.size + 1 + 1 + 1, 0, none⟩ = some (.slice (some ⟨w1.heap.size, 0, none⟩) 1 1) ∧ W.cell? ⟨w1.heap.size + 1 + 1 + 1, 1, none⟩ = some (.slice (some ⟨w1.heap.size + 1, 0, none⟩) 1 1) ∧ W.cell? ⟨w1.heap.size + 1 + 1 + 1, 2, none⟩ = some (.slice (some ⟨w1.heap.size + 1 + 1, 0, none⟩) 1 1) ∧ W.cell? ⟨w1.heap.size + 1 + 1 + 1, 3, none⟩ = some (.slice oa k oc) ∧ W.cell? ⟨w1.heap.size + 1 + 1 + 1, 4, none⟩ = some (.slice none 0 0) ∧ W.cell? ⟨wl.heap.size, 0, none⟩ = some (.string ⟨#[103, 101, 116]⟩) ∧ W.cell? ⟨wl.heap.size, 1, none⟩ = some (.string ⟨#[]⟩) ∧ W.cell? ⟨wl.heap.size, 2, none⟩ = some (.string ⟨#[112, 111, 100, 115]⟩) ∧ W.cell? ⟨wl.heap.size, 3, none⟩ = some (.string ⟨#[]⟩) ∧ W.cell? ⟨wl.heap.size, 4, none⟩ = some (.string nm) ∧ W.cell? ⟨wl.heap.size, 5, none⟩ = some (.string ⟨#[]⟩) ∧ W.cell? ⟨wl.heap.size, 6, none⟩ = some (.string ⟨#[]⟩) from fun W h => by
            have r0 := blk_later (blk_alloc gl (.cells #[.string ⟨#[103, 101, 116]⟩, .string ⟨#[]⟩, .string ⟨#[112, 111, 100, 115]⟩, .string ⟨#[]⟩, .string nm, .string ⟨#[]⟩, .string ⟨#[]⟩] 26)) h
            have r1 := blk_later (heap_alloc_new wl (.cells #[.string ⟨#[103, 101, 116]⟩, .string ⟨#[]⟩, .string ⟨#[112, 111, 100, 115]⟩, .string ⟨#[]⟩, .string nm, .string ⟨#[]⟩, .string ⟨#[]⟩] 26)) h
            exact ⟨blk_cell r0 0, blk_cell r0 1, blk_cell r0 2, blk_cell r0 3, blk_cell r0 4, blk_cell r1 0, blk_cell r1 1, blk_cell r1 2, blk_cell r1 3, blk_cell r1 4, blk_cell r1 5, blk_cell r1 6⟩)
          have hrow : RowAt 100 (text 100) wl (.slice oa k oc) names := RowAt.of_own (r := text 100) (css := names.map fun x => [Value.string x]) (by rw [flat_tx]; exact Hown.out) HN.out.1.symm (lists_tx names fun x hx => by have := word_size (HN.out.2 x hx); omega) (by rw [HN.out.1]; omega)
          have RU := Lib.hid (show ∀ W, Below (wl.alloc (.cells #[.string ⟨#[103, 101, 116]⟩, .string ⟨#[]⟩, .string ⟨#[112, 111, 100, 115]⟩, .string ⟨#[]⟩, .string nm, .string ⟨#[]⟩, .string ⟨#[]⟩] 26)).heap.size (wl.alloc (.cells #[.string ⟨#[103, 101, 116]⟩, .string ⟨#[]⟩, .string ⟨#[112, 111, 100, 115]⟩, .string ⟨#[]⟩, .string nm, .string ⟨#[]⟩, .string ⟨#[]⟩] 26)) W → ruAt 100 W (.slice (some ⟨w1.heap.size, 0, none⟩) 1 1) (.slice (some ⟨w1.heap.size + 1, 0, none⟩) 1 1) (.slice (some ⟨w1.heap.size + 1 + 1, 0, none⟩) 1 1) (.slice oa k oc) (.slice none 0 0) (nameRu names) from fun W h => by
            have hb := chain (below_new wl (.cells #[.string ⟨#[103, 101, 116]⟩, .string ⟨#[]⟩, .string ⟨#[112, 111, 100, 115]⟩, .string ⟨#[]⟩, .string nm, .string ⟨#[]⟩, .string ⟨#[]⟩] 26)) h
            obtain ⟨r1, r2, r3⟩ := K.out W (chain hbr hb)
            exact ⟨r1, r2, r3, hrow.later hb, row_none _⟩)
          have cL := fun v g s n p W hu => Allows_any 100 (by omega) (nameRu names) v g s n p (askN nm) W hu (ok_name hnm)
          have cC := fun v g s n p W hu hm => Check_any 100 (by omega) (nameRu names) v g s n p false W hu hm
          have cA := fun W hm => Attr_any (askN nm) (ok_name2 hnm) W hm
          rw [names_allow HN.out.2 hnm, HN.out.1] at cL
          rw [names_check HN.out.2 (by rw [HN.out.1]; omega)] at cC
          rw [names_attr hnm] at cA
          by_cases k0 : k = 0
          case pos =>
            have ki0 : ((k : Int) == 0) = true := by rw [k0]; rfl
            rw [decide_eq_true k0, Bool.true_or] at cL
            clear k0
            go_wp2_with fail
            refine wp_region_noPanic ?_
            refine wp_region_held_drew (S := fun w' => w'.cell? ⟨w1.heap.size + 1 + 1 + 1, 0, none⟩ = some (.slice (some ⟨w1.heap.size, 0, none⟩) 1 1) ∧ w'.cell? ⟨w1.heap.size + 1 + 1 + 1, 1, none⟩ = some (.slice (some ⟨w1.heap.size + 1, 0, none⟩) 1 1) ∧ w'.cell? ⟨w1.heap.size + 1 + 1 + 1, 2, none⟩ = some (.slice (some ⟨w1.heap.size + 1 + 1, 0, none⟩) 1 1) ∧ w'.cell? ⟨w1.heap.size + 1 + 1 + 1, 3, none⟩ = some (.slice oa k oc) ∧ w'.cell? ⟨w1.heap.size + 1 + 1 + 1, 4, none⟩ = some (.slice none 0 0) ∧ w'.cell? ⟨wl.heap.size, 0, none⟩ = some (.string ⟨#[103, 101, 116]⟩) ∧ w'.cell? ⟨wl.heap.size, 1, none⟩ = some (.string ⟨#[]⟩) ∧ w'.cell? ⟨wl.heap.size, 2, none⟩ = some (.string ⟨#[112, 111, 100, 115]⟩) ∧ w'.cell? ⟨wl.heap.size, 3, none⟩ = some (.string ⟨#[]⟩) ∧ w'.cell? ⟨wl.heap.size, 4, none⟩ = some (.string nm) ∧ w'.cell? ⟨wl.heap.size, 5, none⟩ = some (.string ⟨#[]⟩) ∧ w'.cell? ⟨wl.heap.size, 6, none⟩ = some (.string ⟨#[]⟩)) (by kernel_rfl) ?_ (fun hHeld => ?_)
            · exact (FA.out _ (Below.refl _ _).drew)
            refine takeH 0 (d := 51) (v := ?_) rfl (by kernel_rfl) (by kernel_rfl) (by kernel_rfl) noPanic_none (by rfl) hHeld ?_ ?_
            rotate_left
            · (intro w hSw; (try dsimp only at hSw); go_simp; try (with_reducible rfl))
            try simp only [Act.put, List.setIfInBounds_toArray, List.set_cons_zero, List.set_cons_succ]
            refine takeH 1 (d := 52) (v := ?_) rfl (by kernel_rfl) (by kernel_rfl) (by kernel_rfl) noPanic_none (by rfl) hHeld ?_ ?_
            rotate_left
            · (intro w hSw; (try dsimp only at hSw); go_simp; try (with_reducible rfl))
            try simp only [Act.put, List.setIfInBounds_toArray, List.set_cons_zero, List.set_cons_succ]
            refine takeH 2 (d := 53) (v := ?_) rfl (by kernel_rfl) (by kernel_rfl) (by kernel_rfl) noPanic_none (by rfl) hHeld ?_ ?_
            rotate_left
            · (intro w hSw; (try dsimp only at hSw); go_simp; try (with_reducible rfl))
            try simp only [Act.put, List.setIfInBounds_toArray, List.set_cons_zero, List.set_cons_succ]
            refine takeH 3 (d := 54) (v := ?_) rfl (by kernel_rfl) (by kernel_rfl) (by kernel_rfl) noPanic_none (by rfl) hHeld ?_ ?_
            rotate_left
            · (intro w hSw; (try dsimp only at hSw); go_simp; try (with_reducible rfl))
            try simp only [Act.put, List.setIfInBounds_toArray, List.set_cons_zero, List.set_cons_succ]
            refine takeH 5 (d := 56) (v := ?_) rfl (by kernel_rfl) (by kernel_rfl) (by kernel_rfl) noPanic_none (by rfl) hHeld ?_ ?_
            rotate_left
            · (intro w hSw; (try dsimp only at hSw); go_simp; try (with_reducible rfl))
            try simp only [Act.put, List.setIfInBounds_toArray, List.set_cons_zero, List.set_cons_succ]
            refine takeH 6 (d := 57) (v := ?_) rfl (by kernel_rfl) (by kernel_rfl) (by kernel_rfl) noPanic_none (by rfl) hHeld ?_ ?_
            rotate_left
            · (intro w hSw; (try dsimp only at hSw); go_simp; try (with_reducible rfl))
            try simp only [Act.put, List.setIfInBounds_toArray, List.set_cons_zero, List.set_cons_succ]
            refine takeH 7 (d := 58) (v := ?_) rfl (by kernel_rfl) (by kernel_rfl) (by kernel_rfl) noPanic_none (by rfl) hHeld ?_ ?_
            rotate_left
            · (intro w hSw; (try dsimp only at hSw); go_simp; try (with_reducible rfl))
            try simp only [Act.put, List.setIfInBounds_toArray, List.set_cons_zero, List.set_cons_succ]
            refine takeH 8 (d := 59) (v := ?_) rfl (by kernel_rfl) (by kernel_rfl) (by kernel_rfl) noPanic_none (by rfl) hHeld ?_ ?_
            rotate_left
            · (intro w hSw; (try dsimp only at hSw); go_simp; try (with_reducible rfl))
            try simp only [Act.put, List.setIfInBounds_toArray, List.set_cons_zero, List.set_cons_succ]
            refine wpAnyH_ready (rs := [4]) (by kernel_rfl) (by simp) ?_
            refine stepH (i := 4) (d := 55) rfl (by rfl) (fun K hK => ?_) ?_
            · go_simp
              refine (cL _ _ _ _ _ _ (RU.out _ (Below.refl _ _).drew)).mono ?_
              rintro e v1 ⟨rfl, hv1⟩
              have S1 := chain (Below.refl (wl.alloc (.cells #[.string ⟨#[103, 101, 116]⟩, .string ⟨#[]⟩, .string ⟨#[112, 111, 100, 115]⟩, .string ⟨#[]⟩, .string nm, .string ⟨#[]⟩, .string ⟨#[]⟩] 26)).heap.size (wl.alloc (.cells #[.string ⟨#[103, 101, 116]⟩, .string ⟨#[]⟩, .string ⟨#[112, 111, 100, 115]⟩, .string ⟨#[]⟩, .string nm, .string ⟨#[]⟩, .string ⟨#[]⟩] 26))).drew hv1
              have S2 := chain (below_new wl (.cells #[.string ⟨#[103, 101, 116]⟩, .string ⟨#[]⟩, .string ⟨#[112, 111, 100, 115]⟩, .string ⟨#[]⟩, .string nm, .string ⟨#[]⟩, .string ⟨#[]⟩] 26)) S1
              refine hK.out _ _ ?_ (fun hHeld => ?_)
              · exact FA.out _ S1
              clear hK K
              try simp only [Act.put, List.setIfInBounds_toArray, List.set_cons_zero, List.set_cons_succ]
              refine takeH 9 (d := 60) (v := ?_) rfl (by kernel_rfl) (by kernel_rfl) (by kernel_rfl) noPanic_none (by rfl) hHeld ?_ ?_
              rotate_left
              · (intro w hSw; (try dsimp only at hSw); go_simp; try (with_reducible rfl))
              try simp only [Act.put, List.setIfInBounds_toArray, List.set_cons_zero, List.set_cons_succ]
              refine skipH 10 (d := 61) rfl (by kernel_rfl) (by kernel_rfl) (by kernel_rfl) noPanic_none (by rfl) hHeld ?_
              try simp only [Act.put, List.setIfInBounds_toArray, List.set_cons_zero, List.set_cons_succ]
              refine takeH 11 (d := 62) (v := ?_) rfl (by kernel_rfl) (by kernel_rfl) (by kernel_rfl) noPanic_none (by rfl) hHeld ?_ ?_
              rotate_left
              · (intro w hSw; (try dsimp only at hSw); go_simp; try (with_reducible rfl))
              try simp only [Act.put, List.setIfInBounds_toArray, List.set_cons_zero, List.set_cons_succ]
              refine takeH 12 (d := 63) (v := ?_) rfl (by kernel_rfl) (by kernel_rfl) (by kernel_rfl) noPanic_none (by rfl) hHeld ?_ ?_
              rotate_left
              · (intro w hSw; (try dsimp only at hSw); go_simp; try (with_reducible rfl))
              try simp only [Act.put, List.setIfInBounds_toArray, List.set_cons_zero, List.set_cons_succ]
              refine takeH 13 (d := 64) (v := ?_) rfl (by kernel_rfl) (by kernel_rfl) (by kernel_rfl) noPanic_none (by rfl) hHeld ?_ ?_
              rotate_left
              · (intro w hSw; (try dsimp only at hSw); go_simp; try (with_reducible rfl))
              try simp only [Act.put, List.setIfInBounds_toArray, List.set_cons_zero, List.set_cons_succ]
              refine takeH 14 (d := 65) (v := ?_) rfl (by kernel_rfl) (by kernel_rfl) (by kernel_rfl) noPanic_none (by rfl) hHeld ?_ ?_
              rotate_left
              · (intro w hSw; (try dsimp only at hSw); go_simp; try (with_reducible rfl))
              try simp only [Act.put, List.setIfInBounds_toArray, List.set_cons_zero, List.set_cons_succ]
              refine takeH 15 (d := 66) (v := ?_) rfl (by kernel_rfl) (by kernel_rfl) (by kernel_rfl) noPanic_none (by rfl) hHeld ?_ ?_
              rotate_left
              · (intro w hSw; (try dsimp only at hSw); go_simp; try (with_reducible rfl))
              try simp only [Act.put, List.setIfInBounds_toArray, List.set_cons_zero, List.set_cons_succ]
              refine wpAnyH_ready (rs := [16]) (by kernel_rfl) (by simp) ?_
              refine stepH (i := 16) (d := 67) rfl (by rfl) (fun K hK => ?_) ?_
              · go_simp
                refine (cC _ _ _ _ _ _ (RU.out _ S1) (HM.out.later (chain hbw S2))).mono ?_
                rintro e v2 ⟨rfl, hv2⟩
                have S3 := chain S2 hv2
                refine hK.out _ _ ?_ (fun hHeld => ?_)
                · exact FA.out _ (chain S1 hv2)
                clear hK K
                try simp only [Act.put, List.setIfInBounds_toArray, List.set_cons_zero, List.set_cons_succ]
                refine takeH 17 (d := 68) (v := ?_) rfl (by kernel_rfl) (by kernel_rfl) (by kernel_rfl) noPanic_none (by rfl) hHeld ?_ ?_
                rotate_left
                · (intro w hSw; (try dsimp only at hSw); go_simp; try (with_reducible rfl))
                try simp only [Act.put, List.setIfInBounds_toArray, List.set_cons_zero, List.set_cons_succ]
                refine takeH 18 (d := 69) (v := ?_) rfl (by kernel_rfl) (by kernel_rfl) (by kernel_rfl) noPanic_none (by rfl) hHeld ?_ ?_
                rotate_left
                · (intro w hSw; (try dsimp only at hSw); go_simp; try (with_reducible rfl))
                try simp only [Act.put, List.setIfInBounds_toArray, List.set_cons_zero, List.set_cons_succ]
                refine takeH 19 (d := 70) (v := ?_) rfl (by kernel_rfl) (by kernel_rfl) (by kernel_rfl) noPanic_none (by rfl) hHeld ?_ ?_
                rotate_left
                · (intro w hSw; (try dsimp only at hSw); go_simp; try (with_reducible rfl))
                try simp only [Act.put, List.setIfInBounds_toArray, List.set_cons_zero, List.set_cons_succ]
                refine wpAnyH_ready (rs := [20]) (by kernel_rfl) (by simp) ?_
                refine stepH (i := 20) (d := 71) rfl (by rfl) (fun K hK => ?_) ?_
                · go_simp
                  refine (cA _ (HM.out.later (chain hbw S3))).mono ?_
                  rintro e v3 ⟨rfl, hv3⟩
                  have S4 := chain S3 hv3
                  refine hK.out _ _ ?_ (fun hHeld => ?_)
                  · exact FA.out _ (chain (chain S1 hv2) hv3)
                  clear hK K
                  try simp only [Act.put, List.setIfInBounds_toArray, List.set_cons_zero, List.set_cons_succ]
                  refine takeH 21 (d := 72) (v := ?_) rfl (by kernel_rfl) (by kernel_rfl) (by kernel_rfl) noPanic_none (by rfl) hHeld ?_ ?_
                  rotate_left
                  · (intro w hSw; (try dsimp only at hSw); go_simp; try (with_reducible rfl))
                  try simp only [Act.put, List.setIfInBounds_toArray, List.set_cons_zero, List.set_cons_succ]
                  refine takeH 22 (d := 4) (v := ?_) rfl (by kernel_rfl) (by kernel_rfl) (by kernel_rfl) noPanic_none (by rfl) hHeld ?_ ?_
                  rotate_left
                  · (intro w hSw; (try dsimp only at hSw); go_simp; try (with_reducible rfl))
                  try simp only [Act.put, List.setIfInBounds_toArray, List.set_cons_zero, List.set_cons_succ]
                  refine wpAnyH_done (by kernel_rfl) ?_ _
                  refine NoPanic.normal ?_
                  go_wp2
                  go_ret
                  exact ⟨rfl, chain hbw S4⟩
                exact AllReadyH.nil
              exact AllReadyH.nil
            exact AllReadyH.nil

          case neg =>
            have ki0 : ((k : Int) == 0) = false := by rw [beq_eq_false_iff_ne]; omega
            rw [decide_eq_false k0, Bool.false_or] at cL
            clear k0
            obtain ⟨t1, ht1⟩ : ∃ t1, among names nm = t1 := ⟨_, rfl⟩
            rw [ht1] at cL ⊢
            clear ht1
            go_wp2_with fail
            refine wp_region_noPanic ?_
            refine wp_region_held_drew (S := fun w' => w'.cell? ⟨w1.heap.size + 1 + 1 + 1, 0, none⟩ = some (.slice (some ⟨w1.heap.size, 0, none⟩) 1 1) ∧ w'.cell? ⟨w1.heap.size + 1 + 1 + 1, 1, none⟩ = some (.slice (some ⟨w1.heap.size + 1, 0, none⟩) 1 1) ∧ w'.cell? ⟨w1.heap.size + 1 + 1 + 1, 2, none⟩ = some (.slice (some ⟨w1.heap.size + 1 + 1, 0, none⟩) 1 1) ∧ w'.cell? ⟨w1.heap.size + 1 + 1 + 1, 3, none⟩ = some (.slice oa k oc) ∧ w'.cell? ⟨w1.heap.size + 1 + 1 + 1, 4, none⟩ = some (.slice none 0 0) ∧ w'.cell? ⟨wl.heap.size, 0, none⟩ = some (.string ⟨#[103, 101, 116]⟩) ∧ w'.cell? ⟨wl.heap.size, 1, none⟩ = some (.string ⟨#[]⟩) ∧ w'.cell? ⟨wl.heap.size, 2, none⟩ = some (.string ⟨#[112, 111, 100, 115]⟩) ∧ w'.cell? ⟨wl.heap.size, 3, none⟩ = some (.string ⟨#[]⟩) ∧ w'.cell? ⟨wl.heap.size, 4, none⟩ = some (.string nm) ∧ w'.cell? ⟨wl.heap.size, 5, none⟩ = some (.string ⟨#[]⟩) ∧ w'.cell? ⟨wl.heap.size, 6, none⟩ = some (.string ⟨#[]⟩)) (by kernel_rfl) ?_ (fun hHeld => ?_)
            · exact (FA.out _ (Below.refl _ _).drew)
            refine takeH 0 (d := 51) (v := ?_) rfl (by kernel_rfl) (by kernel_rfl) (by kernel_rfl) noPanic_none (by rfl) hHeld ?_ ?_
            rotate_left
            · (intro w hSw; (try dsimp only at hSw); go_simp; try (with_reducible rfl))
            try simp only [Act.put, List.setIfInBounds_toArray, List.set_cons_zero, List.set_cons_succ]
            refine takeH 1 (d := 52) (v := ?_) rfl (by kernel_rfl) (by kernel_rfl) (by kernel_rfl) noPanic_none (by rfl) hHeld ?_ ?_
            rotate_left
            · (intro w hSw; (try dsimp only at hSw); go_simp; try (with_reducible rfl))
            try simp only [Act.put, List.setIfInBounds_toArray, List.set_cons_zero, List.set_cons_succ]
            refine takeH 2 (d := 53) (v := ?_) rfl (by kernel_rfl) (by kernel_rfl) (by kernel_rfl) noPanic_none (by rfl) hHeld ?_ ?_
            rotate_left
            · (intro w hSw; (try dsimp only at hSw); go_simp; try (with_reducible rfl))
            try simp only [Act.put, List.setIfInBounds_toArray, List.set_cons_zero, List.set_cons_succ]
            refine takeH 3 (d := 54) (v := ?_) rfl (by kernel_rfl) (by kernel_rfl) (by kernel_rfl) noPanic_none (by rfl) hHeld ?_ ?_
            rotate_left
            · (intro w hSw; (try dsimp only at hSw); go_simp; try (with_reducible rfl))
            try simp only [Act.put, List.setIfInBounds_toArray, List.set_cons_zero, List.set_cons_succ]
            refine takeH 5 (d := 56) (v := ?_) rfl (by kernel_rfl) (by kernel_rfl) (by kernel_rfl) noPanic_none (by rfl) hHeld ?_ ?_
            rotate_left
            · (intro w hSw; (try dsimp only at hSw); go_simp; try (with_reducible rfl))
            try simp only [Act.put, List.setIfInBounds_toArray, List.set_cons_zero, List.set_cons_succ]
            refine takeH 6 (d := 57) (v := ?_) rfl (by kernel_rfl) (by kernel_rfl) (by kernel_rfl) noPanic_none (by rfl) hHeld ?_ ?_
            rotate_left
            · (intro w hSw; (try dsimp only at hSw); go_simp; try (with_reducible rfl))
            try simp only [Act.put, List.setIfInBounds_toArray, List.set_cons_zero, List.set_cons_succ]
            refine takeH 7 (d := 58) (v := ?_) rfl (by kernel_rfl) (by kernel_rfl) (by kernel_rfl) noPanic_none (by rfl) hHeld ?_ ?_
            rotate_left
            · (intro w hSw; (try dsimp only at hSw); go_simp; try (with_reducible rfl))
            try simp only [Act.put, List.setIfInBounds_toArray, List.set_cons_zero, List.set_cons_succ]
            refine takeH 8 (d := 59) (v := ?_) rfl (by kernel_rfl) (by kernel_rfl) (by kernel_rfl) noPanic_none (by rfl) hHeld ?_ ?_
            rotate_left
            · (intro w hSw; (try dsimp only at hSw); go_simp; try (with_reducible rfl))
            try simp only [Act.put, List.setIfInBounds_toArray, List.set_cons_zero, List.set_cons_succ]
            refine wpAnyH_ready (rs := [4]) (by kernel_rfl) (by simp) ?_
            refine stepH (i := 4) (d := 55) rfl (by rfl) (fun K hK => ?_) ?_
            · go_simp
              refine (cL _ _ _ _ _ _ (RU.out _ (Below.refl _ _).drew)).mono ?_
              rintro e v1 ⟨rfl, hv1⟩
              have S1 := chain (Below.refl (wl.alloc (.cells #[.string ⟨#[103, 101, 116]⟩, .string ⟨#[]⟩, .string ⟨#[112, 111, 100, 115]⟩, .string ⟨#[]⟩, .string nm, .string ⟨#[]⟩, .string ⟨#[]⟩] 26)).heap.size (wl.alloc (.cells #[.string ⟨#[103, 101, 116]⟩, .string ⟨#[]⟩, .string ⟨#[112, 111, 100, 115]⟩, .string ⟨#[]⟩, .string nm, .string ⟨#[]⟩, .string ⟨#[]⟩] 26))).drew hv1
              have S2 := chain (below_new wl (.cells #[.string ⟨#[103, 101, 116]⟩, .string ⟨#[]⟩, .string ⟨#[112, 111, 100, 115]⟩, .string ⟨#[]⟩, .string nm, .string ⟨#[]⟩, .string ⟨#[]⟩] 26)) S1
              refine hK.out _ _ ?_ (fun hHeld => ?_)
              · exact FA.out _ S1
              clear hK K
              try simp only [Act.put, List.setIfInBounds_toArray, List.set_cons_zero, List.set_cons_succ]
              refine takeH 9 (d := 60) (v := ?_) rfl (by kernel_rfl) (by kernel_rfl) (by kernel_rfl) noPanic_none (by rfl) hHeld ?_ ?_
              rotate_left
              · (intro w hSw; (try dsimp only at hSw); go_simp; try (with_reducible rfl))
              try simp only [Act.put, List.setIfInBounds_toArray, List.set_cons_zero, List.set_cons_succ]
              refine takeH 10 (d := 61) (v := ?_) rfl (by kernel_rfl) (by kernel_rfl) (by kernel_rfl) noPanic_none (by rfl) hHeld ?_ ?_
              rotate_left
              · (intro w hSw; (try dsimp only at hSw); go_simp; try (with_reducible rfl))
              try simp only [Act.put, List.setIfInBounds_toArray, List.set_cons_zero, List.set_cons_succ]
              refine takeH 11 (d := 62) (v := ?_) rfl (by kernel_rfl) (by kernel_rfl) (by kernel_rfl) noPanic_none (by rfl) hHeld ?_ ?_
              rotate_left
              · (intro w hSw; (try dsimp only at hSw); go_simp; try (with_reducible rfl))
              try simp only [Act.put, List.setIfInBounds_toArray, List.set_cons_zero, List.set_cons_succ]
              refine takeH 12 (d := 63) (v := ?_) rfl (by kernel_rfl) (by kernel_rfl) (by kernel_rfl) noPanic_none (by rfl) hHeld ?_ ?_
              rotate_left
              · (intro w hSw; (try dsimp only at hSw); go_simp; try (with_reducible rfl))
              try simp only [Act.put, List.setIfInBounds_toArray, List.set_cons_zero, List.set_cons_succ]
              refine takeH 13 (d := 64) (v := ?_) rfl (by kernel_rfl) (by kernel_rfl) (by kernel_rfl) noPanic_none (by rfl) hHeld ?_ ?_
              rotate_left
              · (intro w hSw; (try dsimp only at hSw); go_simp; try (with_reducible rfl))
              try simp only [Act.put, List.setIfInBounds_toArray, List.set_cons_zero, List.set_cons_succ]
              refine takeH 14 (d := 65) (v := ?_) rfl (by kernel_rfl) (by kernel_rfl) (by kernel_rfl) noPanic_none (by rfl) hHeld ?_ ?_
              rotate_left
              · (intro w hSw; (try dsimp only at hSw); go_simp; try (with_reducible rfl))
              try simp only [Act.put, List.setIfInBounds_toArray, List.set_cons_zero, List.set_cons_succ]
              refine takeH 15 (d := 66) (v := ?_) rfl (by kernel_rfl) (by kernel_rfl) (by kernel_rfl) noPanic_none (by rfl) hHeld ?_ ?_
              rotate_left
              · (intro w hSw; (try dsimp only at hSw); go_simp; try (with_reducible rfl))
              try simp only [Act.put, List.setIfInBounds_toArray, List.set_cons_zero, List.set_cons_succ]
              refine wpAnyH_ready (rs := [16]) (by kernel_rfl) (by simp) ?_
              refine stepH (i := 16) (d := 67) rfl (by rfl) (fun K hK => ?_) ?_
              · go_simp
                refine (cC _ _ _ _ _ _ (RU.out _ S1) (HM.out.later (chain hbw S2))).mono ?_
                rintro e v2 ⟨rfl, hv2⟩
                have S3 := chain S2 hv2
                refine hK.out _ _ ?_ (fun hHeld => ?_)
                · exact FA.out _ (chain S1 hv2)
                clear hK K
                try simp only [Act.put, List.setIfInBounds_toArray, List.set_cons_zero, List.set_cons_succ]
                refine takeH 17 (d := 68) (v := ?_) rfl (by kernel_rfl) (by kernel_rfl) (by kernel_rfl) noPanic_none (by rfl) hHeld ?_ ?_
                rotate_left
                · (intro w hSw; (try dsimp only at hSw); go_simp; try (with_reducible rfl))
                try simp only [Act.put, List.setIfInBounds_toArray, List.set_cons_zero, List.set_cons_succ]
                refine takeH 18 (d := 69) (v := ?_) rfl (by kernel_rfl) (by kernel_rfl) (by kernel_rfl) noPanic_none (by rfl) hHeld ?_ ?_
                rotate_left
                · (intro w hSw; (try dsimp only at hSw); go_simp; try (with_reducible rfl))
                try simp only [Act.put, List.setIfInBounds_toArray, List.set_cons_zero, List.set_cons_succ]
                refine takeH 19 (d := 70) (v := ?_) rfl (by kernel_rfl) (by kernel_rfl) (by kernel_rfl) noPanic_none (by rfl) hHeld ?_ ?_
                rotate_left
                · (intro w hSw; (try dsimp only at hSw); go_simp; try (with_reducible rfl))
                try simp only [Act.put, List.setIfInBounds_toArray, List.set_cons_zero, List.set_cons_succ]
                refine wpAnyH_ready (rs := [20]) (by kernel_rfl) (by simp) ?_
                refine stepH (i := 20) (d := 71) rfl (by rfl) (fun K hK => ?_) ?_
                · go_simp
                  refine (cA _ (HM.out.later (chain hbw S3))).mono ?_
                  rintro e v3 ⟨rfl, hv3⟩
                  have S4 := chain S3 hv3
                  refine hK.out _ _ ?_ (fun hHeld => ?_)
                  · exact FA.out _ (chain (chain S1 hv2) hv3)
                  clear hK K
                  try simp only [Act.put, List.setIfInBounds_toArray, List.set_cons_zero, List.set_cons_succ]
                  refine takeH 21 (d := 72) (v := ?_) rfl (by kernel_rfl) (by kernel_rfl) (by kernel_rfl) noPanic_none (by rfl) hHeld ?_ ?_
                  rotate_left
                  · (intro w hSw; (try dsimp only at hSw); go_simp; try (with_reducible rfl))
                  try simp only [Act.put, List.setIfInBounds_toArray, List.set_cons_zero, List.set_cons_succ]
                  refine takeH 22 (d := 4) (v := ?_) rfl (by kernel_rfl) (by kernel_rfl) (by kernel_rfl) noPanic_none (by rfl) hHeld ?_ ?_
                  rotate_left
                  · (intro w hSw; (try dsimp only at hSw); go_simp; try (with_reducible rfl))
                  try simp only [Act.put, List.setIfInBounds_toArray, List.set_cons_zero, List.set_cons_succ]
                  refine wpAnyH_done (by kernel_rfl) ?_ _
                  refine NoPanic.normal ?_
                  go_wp2
                  go_ret
                  exact ⟨rfl, chain hbw S4⟩
                exact AllReadyH.nil
              exact AllReadyH.nil
            exact AllReadyH.nil



end Go.Proofs.YthflpgeonllgdaaDoor.rul

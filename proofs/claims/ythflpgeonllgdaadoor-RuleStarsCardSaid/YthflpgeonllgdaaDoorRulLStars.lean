/- Layer 8: the law RuleStars. -/
import Derived.Test.YthflpgeonllgdaaDoorRulAwake
import Derived.Test.YthflpgeonllgdaaDoorRulPAny
import Derived.Test.YthflpgeonllgdaaDoorRepK
namespace Go.Proofs.YthflpgeonllgdaaDoor.rul
open Go.RowKit Go.Proofs.YthflpgeonllgdaaDoor.rep Go.Proofs.YthflpgeonllgdaaDoor.lab

def onlyT : ByteArray := ⟨#[111, 110, 108, 121]⟩
def starR : Ru := ⟨[starT], [starT], [starT], [], []⟩
def pathR : Ru := ⟨[starT], [], [], [], [starT]⟩
def onlyR : Ru := ⟨[starT], [starT], [starT], [onlyT], []⟩
theorem among_star (v : ByteArray) : eitherB [starT] v = true := by
  unfold eitherB among
  rw [List.any_cons, List.any_cons, beqS_rfl]; simp
theorem res_star (n p : ByteArray) : resB [starT] n p = true := by
  unfold resB
  split
  · exact among_star _
  · rw [among_star]; rfl
theorem stars_r (x : Ak) : allowsB starR x = x.path.toList.isEmpty := by
  unfold allowsB starR
  cases e : x.path.toList.isEmpty
  · simp
  · rw [among_star, among_star, res_star]; rfl
theorem stars_p (x : Ak) : allowsB pathR x = !x.path.toList.isEmpty := by
  unfold allowsB pathR
  cases e : x.path.toList.isEmpty
  · have h : pathAt x.path starT = true := by unfold pathAt; rw [show (starT.toList == [42]) = true by rw [ByteArray.toList_eq]; rfl]; rfl
    rw [among_star, if_neg (by decide)]
    show ([starT].any (pathAt x.path)) = true
    rw [List.any_cons, h]; rfl
  · rw [among_star, if_pos rfl]; rfl
theorem stars_o (x : Ak) : allowsB onlyR x = (x.path.toList.isEmpty && (x.name.toList == [111, 110, 108, 121])) := by
  have hn : namesB onlyR x = (x.name.toList == [111, 110, 108, 121]) := by
    unfold namesB onlyR among
    have h1 : (onlyT.toList == x.name.toList) = (x.name.toList == [111, 110, 108, 121]) := by
      rw [show onlyT.toList = [111, 110, 108, 121] by rw [ByteArray.toList_eq]; rfl, Bool.eq_iff_iff, beq_iff_eq, beq_iff_eq]; exact eq_comm
    rw [List.any_cons, List.any_nil, Bool.or_false, h1]
    cases e : (x.name.toList == [111, 110, 108, 121])
    · simp
    · have := beq_iff_eq.1 e
      rw [this]; rfl
  unfold allowsB
  cases e : x.path.toList.isEmpty
  · rw [if_neg (by decide)]
    show (eitherB [starT] x.verb && [].any (pathAt x.path)) = false
    rw [among_star]; rfl
  · rw [if_pos rfl, hn]
    show (eitherB [starT] x.verb && (eitherB [starT] x.group && resB [starT] x.resource x.part && _)) = _
    rw [among_star, among_star, res_star]; rfl
theorem rules_two {B : Nat} (w : World) (t : TypeId) {r q : Ru} {v0 v1 v2 v3 v4 u0 u1 u2 u3 u4 : Value} (hr : ruAt B w v0 v1 v2 v3 v4 r) (hq : ruAt B w u0 u1 u2 u3 u4 q) :
    RowIn (ruR B) (w.alloc (.cells #[v0, v1, v2, v3, v4, u0, u1, u2, u3, u4] t)) (some ⟨w.heap.size, 0, none⟩) [r, q] := by
  have hL : Lists (ruR B) (w.alloc (.cells #[v0, v1, v2, v3, v4, u0, u1, u2, u3, u4] t)) ([[v0, v1, v2, v3, v4]] ++ [[u0, u1, u2, u3, u4]]) ([r] ++ [q]) :=
    Lists.append (Lists.one (r := ruR B) ⟨v0, v1, v2, v3, v4, rfl, hr.later (below_new _ _)⟩) (Lists.one (r := ruR B) ⟨u0, u1, u2, u3, u4, rfl, hq.later (below_new _ _)⟩)
  exact RowIn.of_block (heap_alloc_new w _) hL rfl
theorem starsW (B : Nat) (hB : B ≤ 140737488355328) (hB2 : 100 ≤ B) (W wa wb wc wd we : World) (ha : wa = W.alloc (.cells #[.string ⟨#[42]⟩] 9)) (hb : wb = wa.alloc (.cells #[.slice (some ⟨W.heap.size, 0, none⟩) 1 1, .slice (some ⟨W.heap.size, 0, none⟩) 1 1, .slice (some ⟨W.heap.size, 0, none⟩) 1 1, .slice none 0 0, .slice none 0 0] 24)) (hc : wc = wb.alloc (.cells #[.slice (some ⟨W.heap.size, 0, none⟩) 1 1, .slice none 0 0, .slice none 0 0, .slice none 0 0, .slice (some ⟨W.heap.size, 0, none⟩) 1 1] 24)) (hd : wd = wc.alloc (.cells #[.string ⟨#[111, 110, 108, 121]⟩] 9)) (he : we = wd.alloc (.cells #[.slice (some ⟨W.heap.size, 0, none⟩) 1 1, .slice (some ⟨W.heap.size, 0, none⟩) 1 1, .slice (some ⟨W.heap.size, 0, none⟩) 1 1, .slice (some ⟨W.heap.size + 1 + 1 + 1, 0, none⟩) 1 1, .slice none 0 0] 24)) :
    Below W.heap.size W we ∧ ∀ V, Below we.heap.size we V → ruAt B V (.slice (some ⟨W.heap.size, 0, none⟩) 1 1) (.slice (some ⟨W.heap.size, 0, none⟩) 1 1) (.slice (some ⟨W.heap.size, 0, none⟩) 1 1) (.slice none 0 0) (.slice none 0 0) starR ∧ ruAt B V (.slice (some ⟨W.heap.size, 0, none⟩) 1 1) (.slice none 0 0) (.slice none 0 0) (.slice none 0 0) (.slice (some ⟨W.heap.size, 0, none⟩) 1 1) pathR ∧ ruAt B V (.slice (some ⟨W.heap.size, 0, none⟩) 1 1) (.slice (some ⟨W.heap.size, 0, none⟩) 1 1) (.slice (some ⟨W.heap.size, 0, none⟩) 1 1) (.slice (some ⟨W.heap.size + 1 + 1 + 1, 0, none⟩) 1 1) (.slice none 0 0) onlyR ∧
      V.heap[W.heap.size + 1]? = some (.cells #[.slice (some ⟨W.heap.size, 0, none⟩) 1 1, .slice (some ⟨W.heap.size, 0, none⟩) 1 1, .slice (some ⟨W.heap.size, 0, none⟩) 1 1, .slice none 0 0, .slice none 0 0] 24) ∧ V.heap[W.heap.size + 1 + 1]? = some (.cells #[.slice (some ⟨W.heap.size, 0, none⟩) 1 1, .slice none 0 0, .slice none 0 0, .slice none 0 0, .slice (some ⟨W.heap.size, 0, none⟩) 1 1] 24) ∧ V.heap[W.heap.size + 1 + 1 + 1 + 1]? = some (.cells #[.slice (some ⟨W.heap.size, 0, none⟩) 1 1, .slice (some ⟨W.heap.size, 0, none⟩) 1 1, .slice (some ⟨W.heap.size, 0, none⟩) 1 1, .slice (some ⟨W.heap.size + 1 + 1 + 1, 0, none⟩) 1 1, .slice none 0 0] 24) := by
  have hs1 : starT.size ≤ B := by have : starT.size = 1 := rfl; omega
  have hs2 : onlyT.size ≤ B := by have : onlyT.size = 4 := rfl; omega
  have sa : wa.heap.size = W.heap.size + 1 := by rw [ha, World.size_alloc]
  have sb : wb.heap.size = W.heap.size + 1 + 1 := by rw [hb, World.size_alloc, sa]
  have sc : wc.heap.size = W.heap.size + 1 + 1 + 1 := by rw [hc, World.size_alloc, sb]
  have sd : wd.heap.size = W.heap.size + 1 + 1 + 1 + 1 := by rw [hd, World.size_alloc, sc]
  have ba : Below W.heap.size W wa := by rw [ha]; exact below_new _ _
  have bb : Below wa.heap.size wa wb := by rw [hb]; exact below_new _ _
  have bc : Below wb.heap.size wb wc := by rw [hc]; exact below_new _ _
  have bd : Below wc.heap.size wc wd := by rw [hd]; exact below_new _ _
  have be : Below wd.heap.size wd we := by rw [he]; exact below_new _ _
  have r1 : RowAt B (text B) wa (.slice (some ⟨W.heap.size, 0, none⟩) 1 1) [starT] := by rw [ha]; exact row_at W [starT] 9 (by simpa using hs1) (by show 1 ≤ B; omega) (by omega)
  have r2 : RowAt B (text B) wd (.slice (some ⟨W.heap.size + 1 + 1 + 1, 0, none⟩) 1 1) [onlyT] := by rw [hd, ← sc]; exact row_at wc [onlyT] 9 (by simpa using hs2) (by show 1 ≤ B; omega) (by omega)
  have g1 : wb.heap[W.heap.size + 1]? = some (.cells #[.slice (some ⟨W.heap.size, 0, none⟩) 1 1, .slice (some ⟨W.heap.size, 0, none⟩) 1 1, .slice (some ⟨W.heap.size, 0, none⟩) 1 1, .slice none 0 0, .slice none 0 0] 24) := by rw [hb, ← sa]; exact heap_alloc_new _ _
  have g2 : wc.heap[W.heap.size + 1 + 1]? = some (.cells #[.slice (some ⟨W.heap.size, 0, none⟩) 1 1, .slice none 0 0, .slice none 0 0, .slice none 0 0, .slice (some ⟨W.heap.size, 0, none⟩) 1 1] 24) := by rw [hc, ← sb]; exact heap_alloc_new _ _
  have g3 : we.heap[W.heap.size + 1 + 1 + 1 + 1]? = some (.cells #[.slice (some ⟨W.heap.size, 0, none⟩) 1 1, .slice (some ⟨W.heap.size, 0, none⟩) 1 1, .slice (some ⟨W.heap.size, 0, none⟩) 1 1, .slice (some ⟨W.heap.size + 1 + 1 + 1, 0, none⟩) 1 1, .slice none 0 0] 24) := by rw [he, ← sd]; exact heap_alloc_new _ _
  refine ⟨chain (chain (chain (chain ba bb) bc) bd) be, fun V hV => ?_⟩
  have hv1 := (((((r1.later bb).later bc).later bd).later be).later hV)
  have hv2 := (r2.later be).later hV
  exact ⟨⟨hv1, hv1, hv1, row_none _, row_none _⟩, ⟨hv1, row_none _, row_none _, row_none _, hv1⟩, ⟨hv1, hv1, hv1, hv2, row_none _⟩, blk_later (blk_later (blk_later (blk_later g1 bc) bd) be) hV, blk_later (blk_later (blk_later g2 bd) be) hV, blk_later g3 hV⟩
set_option maxRecDepth 100000 in
set_option maxHeartbeats 4000000 in
theorem lawStars (B : Nat) (hB : B ≤ 140737488355328) (hB2 : 100 ≤ B) (x : Ak) (w : World) (hx : akOk B x) (hm : nam.MaxL w) :
    Calls Tryd.prog 6 #[.agg #[.string x.verb, .string x.group, .string x.resource, .string x.part, .string x.name, .string x.space, .string x.path]] w fun e w' => e = .returned (.bool true) ∧ Below w.heap.size w w' := by
  have b0 := below_new w (.cells #[.string x.verb, .string x.group, .string x.resource, .string x.part, .string x.name, .string x.space, .string x.path] 26)
  have h0 := heap_alloc_new w (.cells #[.string x.verb, .string x.group, .string x.resource, .string x.part, .string x.name, .string x.space, .string x.path] 26)
  have c1 := fun v g s n p W hu => Allows_any B hB starR v g s n p x W hu hx
  have c2 := fun v g s n p W hu => Allows_any B hB pathR v g s n p x W hu hx
  have c3 := fun v g s n p W hu => Allows_any B hB onlyR v g s n p x W hu hx
  have c4 := fun a W hr => Any_any B hB a 2 [starR, pathR] (by decide) x hx W hr
  have c5 := fun W => Any_any B hB none 0 [] (by decide) x hx W (.inl rfl)
  rw [show [starR, pathR].any (allowsB · x) = true by rw [List.any_cons, List.any_cons, stars_r, stars_p]; cases x.path.toList.isEmpty <;> rfl] at c4
  rw [show ([] : List Ru).any (allowsB · x) = false from rfl] at c5
  rw [stars_r] at c1
  rw [stars_p] at c2
  rw [stars_o] at c3
  obtain ⟨pe, hpe⟩ : ∃ pe, x.path.toList.isEmpty = pe := ⟨_, rfl⟩
  obtain ⟨ne, hne⟩ : ∃ ne, (x.name.toList == [111, 110, 108, 121]) = ne := ⟨_, rfl⟩
  rw [hpe] at c1 c2 c3
  rw [hne] at c3
  cases pe <;> cases ne <;>
  · go_enter Tryd.func6, Tryd.ntmps6
    go_wp2_with fail
    generalize w.alloc (.cells #[.string x.verb, .string x.group, .string x.resource, .string x.part, .string x.name, .string x.space, .string x.path] 26) = w0 at *
    refine (awake_any _ (hm.later b0)).mono ?_
    rintro e w1 ⟨rfl, hb1⟩
    have b1 := chain b0 hb1
    have g1 := blk_later h0 hb1
    obtain ⟨wa, hwa⟩ : ∃ wa, wa = w1.alloc (.cells #[.string ⟨#[42]⟩] 9) := ⟨_, rfl⟩
    obtain ⟨wb, hwb⟩ : ∃ wb, wb = wa.alloc (.cells #[.slice (some ⟨w1.heap.size, 0, none⟩) 1 1, .slice (some ⟨w1.heap.size, 0, none⟩) 1 1, .slice (some ⟨w1.heap.size, 0, none⟩) 1 1, .slice none 0 0, .slice none 0 0] 24) := ⟨_, rfl⟩
    obtain ⟨wc, hwc⟩ : ∃ wc, wc = wb.alloc (.cells #[.slice (some ⟨w1.heap.size, 0, none⟩) 1 1, .slice none 0 0, .slice none 0 0, .slice none 0 0, .slice (some ⟨w1.heap.size, 0, none⟩) 1 1] 24) := ⟨_, rfl⟩
    obtain ⟨wd, hwd⟩ : ∃ wd, wd = wc.alloc (.cells #[.string ⟨#[111, 110, 108, 121]⟩] 9) := ⟨_, rfl⟩
    obtain ⟨we, hwe⟩ : ∃ we, we = wd.alloc (.cells #[.slice (some ⟨w1.heap.size, 0, none⟩) 1 1, .slice (some ⟨w1.heap.size, 0, none⟩) 1 1, .slice (some ⟨w1.heap.size, 0, none⟩) 1 1, .slice (some ⟨w1.heap.size + 1 + 1 + 1, 0, none⟩) 1 1, .slice none 0 0] 24) := ⟨_, rfl⟩
    obtain ⟨bw, K0⟩ := starsW B hB hB2 w1 wa wb wc wd we hwa hwb hwc hwd hwe
    have K := Lib.hid K0
    have Hw : we = ((((w1.alloc (.cells #[.string ⟨#[42]⟩] 9)).alloc (.cells #[.slice (some ⟨w1.heap.size, 0, none⟩) 1 1, .slice (some ⟨w1.heap.size, 0, none⟩) 1 1, .slice (some ⟨w1.heap.size, 0, none⟩) 1 1, .slice none 0 0, .slice none 0 0] 24)).alloc (.cells #[.slice (some ⟨w1.heap.size, 0, none⟩) 1 1, .slice none 0 0, .slice none 0 0, .slice none 0 0, .slice (some ⟨w1.heap.size, 0, none⟩) 1 1] 24)).alloc (.cells #[.string ⟨#[111, 110, 108, 121]⟩] 9)).alloc (.cells #[.slice (some ⟨w1.heap.size, 0, none⟩) 1 1, .slice (some ⟨w1.heap.size, 0, none⟩) 1 1, .slice (some ⟨w1.heap.size, 0, none⟩) 1 1, .slice (some ⟨w1.heap.size + 1 + 1 + 1, 0, none⟩) 1 1, .slice none 0 0] 24) := by rw [hwe, hwd, hwc, hwb, hwa]
    have b2 := chain b1 bw
    have FA := Lib.hid (show ∀ V, Below we.heap.size we V → V.heap[w.heap.size]? = some (.cells #[.string x.verb, .string x.group, .string x.resource, .string x.part, .string x.name, .string x.space, .string x.path] 26) from fun V hV => blk_later (blk_later g1 bw) hV)
    have q0 : we.cell? ⟨w.heap.size, 0, none⟩ = some (.string x.verb) := blk_cell (blk_later g1 bw) 0
    have q1 : we.cell? ⟨w.heap.size, 1, none⟩ = some (.string x.group) := blk_cell (blk_later g1 bw) 1
    have q2 : we.cell? ⟨w.heap.size, 2, none⟩ = some (.string x.resource) := blk_cell (blk_later g1 bw) 2
    have q3 : we.cell? ⟨w.heap.size, 3, none⟩ = some (.string x.part) := blk_cell (blk_later g1 bw) 3
    have q4 : we.cell? ⟨w.heap.size, 4, none⟩ = some (.string x.name) := blk_cell (blk_later g1 bw) 4
    have q5 : we.cell? ⟨w.heap.size, 5, none⟩ = some (.string x.space) := blk_cell (blk_later g1 bw) 5
    have q6 : we.cell? ⟨w.heap.size, 6, none⟩ = some (.string x.path) := blk_cell (blk_later g1 bw) 6
    rw [Hw] at q0 q1 q2 q3 q4 q5 q6
    have HW := Lib.hid Hw
    clear hwe hwd hwc hwb hwa K0 g1 Hw
    go_wp2_with fail
    have Hw := HW.out
    rw [← Hw]
    clear Hw HW q0 q1 q2 q3 q4 q5 q6
    have S0 := Below.refl we.heap.size we
    refine (c1 _ _ _ _ _ _ (K.out _ S0).1).mono ?_
    rintro e w2 ⟨rfl, hb2⟩
    have S1 := chain S0 hb2
    obtain ⟨_, u2, _, g1, g2, g3⟩ := K.out _ S1
    have ga := FA.out _ S1
    have p0 := blk_cell g2 0
    have p1 := blk_cell g2 1
    have p2 := blk_cell g2 2
    have p3 := blk_cell g2 3
    have p4 := blk_cell g2 4
    have a0 := blk_cell ga 0
    have a1 := blk_cell ga 1
    have a2 := blk_cell ga 2
    have a3 := blk_cell ga 3
    have a4 := blk_cell ga 4
    have a5 := blk_cell ga 5
    have a6 := blk_cell ga 6
    go_wp2_with fail
    refine (c2 _ _ _ _ _ _ u2).mono ?_
    rintro e w3 ⟨rfl, hb3⟩
    have S2 := chain S1 hb3
    clear u2 g1 g2 g3 ga p0 p1 p2 p3 p4 a0 a1 a2 a3 a4 a5 a6
    obtain ⟨_, _, u3, g1, g2, g3⟩ := K.out _ S2
    have ga := FA.out _ S2
    have p0 := blk_cell g3 0
    have p1 := blk_cell g3 1
    have p2 := blk_cell g3 2
    have p3 := blk_cell g3 3
    have p4 := blk_cell g3 4
    have a0 := blk_cell ga 0
    have a1 := blk_cell ga 1
    have a2 := blk_cell ga 2
    have a3 := blk_cell ga 3
    have a4 := blk_cell ga 4
    have a5 := blk_cell ga 5
    have a6 := blk_cell ga 6
    go_wp2_with fail
    refine (c3 _ _ _ _ _ _ u3).mono ?_
    rintro e w4 ⟨rfl, hb4⟩
    have S3 := chain S2 hb4
    clear u3 g1 g2 g3 ga p0 p1 p2 p3 p4 a0 a1 a2 a3 a4 a5 a6
    obtain ⟨u1, u2, _, g1, g2, g3⟩ := K.out _ S3
    have ga := FA.out _ S3
    have p0 := blk_cell g1 0
    have p1 := blk_cell g1 1
    have p2 := blk_cell g1 2
    have p3 := blk_cell g1 3
    have p4 := blk_cell g1 4
    have o0 := blk_cell g2 0
    have o1 := blk_cell g2 1
    have o2 := blk_cell g2 2
    have o3 := blk_cell g2 3
    have o4 := blk_cell g2 4
    have a0 := blk_cell ga 0
    have a1 := blk_cell ga 1
    have a2 := blk_cell ga 2
    have a3 := blk_cell ga 3
    have a4 := blk_cell ga 4
    have a5 := blk_cell ga 5
    have a6 := blk_cell ga 6
    have la := blk_lt ga
    have hrow := rules_two (B := B) w4 24 u1 u2
    have cR := c4 _ _ hrow
    go_wp2_with fail
    refine cR.mono ?_
    rintro e w5 ⟨rfl, hb5⟩
    have S4 := chain S3 (chain (below_new _ _) hb5)
    clear u1 u2 g1 g2 g3 ga p0 p1 p2 p3 p4 o0 o1 o2 o3 o4 a0 a1 a2 a3 a4 a5 a6
    have ga := FA.out _ S4
    have a0 := blk_cell ga 0
    have a1 := blk_cell ga 1
    have a2 := blk_cell ga 2
    have a3 := blk_cell ga 3
    have a4 := blk_cell ga 4
    have a5 := blk_cell ga 5
    have a6 := blk_cell ga 6
    go_wp2_with fail
    refine (c5 _).mono ?_
    rintro e w6 ⟨rfl, hb6⟩
    go_wp2
    go_ret
    exact ⟨rfl, chain (chain b2 S4) hb6⟩
end Go.Proofs.YthflpgeonllgdaaDoor.rul

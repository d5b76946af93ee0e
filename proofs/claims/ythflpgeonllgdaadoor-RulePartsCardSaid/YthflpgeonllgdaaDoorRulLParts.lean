/- Layer 8: the law RuleParts. -/
import Derived.Test.YthflpgeonllgdaaDoorRulPartP
import Derived.Test.YthflpgeonllgdaaDoorRulAwake
namespace Go.Proofs.YthflpgeonllgdaaDoor.rul
open Go.RowKit Go.Proofs.YthflpgeonllgdaaDoor.rep Go.Proofs.YthflpgeonllgdaaDoor.lab

set_option maxRecDepth 100000 in
set_option maxHeartbeats 4000000 in
theorem lawParts (B : Nat) (_hB : B ≤ 140737488355328) (_hB2 : 100 ≤ B) (n0 n1 n2 n3 : Int) (w : World) (_h0 : (Lit.int .i64 n0).wf = true) (_h1 : (Lit.int .i64 n1).wf = true) (_h2 : (Lit.int .i64 n2).wf = true) (_h3 : (Lit.int .i64 n3).wf = true) (hm : nam.MaxL w) :
    Calls Tryd.prog 7 #[.agg #[.int .i64 n0, .int .i64 n1, .int .i64 n2, .int .i64 n3]] w fun e w' => e = .returned (.bool true) ∧ Below w.heap.size w w' := by
  have b0 := below_new w (.cells #[.int .i64 n0, .int .i64 n1, .int .i64 n2, .int .i64 n3] 38)
  have g0 := heap_alloc_new w (.cells #[.int .i64 n0, .int .i64 n1, .int .i64 n2, .int .i64 n3] 38)
  go_enter Tryd.func7, Tryd.ntmps7
  go_wp2_with fail
  generalize w.alloc (.cells #[.int .i64 n0, .int .i64 n1, .int .i64 n2, .int .i64 n3] 38) = w0 at *
  refine (awake_any _ (hm.later b0)).mono ?_
  rintro e w1 ⟨rfl, hb1⟩
  have b1 := chain b0 hb1
  have g1 := blk_later g0 hb1
  have q0 : w1.cell? ⟨w.heap.size, 0, none⟩ = some (.int .i64 n0) := blk_cell g1 0
  go_wp2_with fail
  refine (word_txt _ _).mono ?_
  rintro e w2 ⟨A, hA, rfl, hb2⟩
  have b2 := chain b1 hb2
  have g2 := blk_later g1 hb2
  have q1 : w2.cell? ⟨w.heap.size, 1, none⟩ = some (.int .i64 n1) := blk_cell g2 1
  go_wp2_with fail
  refine (word_txt _ _).mono ?_
  rintro e w3 ⟨C, hC, rfl, hb3⟩
  have b3 := chain b2 hb3
  have g3 := blk_later g2 hb3
  have q2 : w3.cell? ⟨w.heap.size, 2, none⟩ = some (.int .i64 n2) := blk_cell g3 2
  go_wp2_with fail
  refine (word_txt _ _).mono ?_
  rintro e w4 ⟨X, hX, rfl, hb4⟩
  have b4 := chain b3 hb4
  have g4 := blk_later g3 hb4
  have q3 : w4.cell? ⟨w.heap.size, 3, none⟩ = some (.int .i64 n3) := blk_cell g4 3
  go_wp2_with fail
  refine (word_txt _ _).mono ?_
  rintro e w5 ⟨Y, hY, rfl, hb5⟩
  have b5 := chain b4 hb5
  clear q0 q1 q2 q3 g0 g1 g2 g3 g4 hb1 hb2 hb3 hb4 hb5 b0 b1 b2 b3 b4
  have zA := word_size hA
  have zC := word_size hC
  have zX := word_size hX
  have zY := word_size hY
  have zE : (⟨#[]⟩ : ByteArray).size = 0 := rfl
  have hE : (⟨#[]⟩ : ByteArray).toList.isEmpty = true := by rw [ByteArray.toList_eq]; rfl
  have z1 : (slash C X).size ≤ 100 := by rw [slash_size]; omega
  have z2 : ((⟨#[42, 47]⟩ : ByteArray) ++ X).size ≤ 100 := by rw [ByteArray.size_append]; show 2 + X.size ≤ 100; omega
  have hrow := row_new (B := 100) w5 [A, slash C X] 9 (by
    simp only [List.mem_cons, List.not_mem_nil, or_false]
    rintro x (rfl | rfl) <;> omega)
  have hst := fun W : World => row_new (B := 100) W [(⟨#[42, 47]⟩ : ByteArray) ++ X] 9 (by
    simp only [List.mem_cons, List.not_mem_nil, or_false]
    rintro x rfl; exact z2)
  have hl2 : [A, slash C X].length ≤ 140737488355328 := by show 2 ≤ _; omega
  have hl1 : [(⟨#[42, 47]⟩ : ByteArray) ++ X].length ≤ 140737488355328 := by show 1 ≤ _; omega
  have c1 := fun a W hr => Resource_any 100 (by omega) a 2 [A, slash C X] hl2 A ⟨#[]⟩ (by omega) (by omega) W hr
  have c2 := fun a W hr => Resource_any 100 (by omega) a 2 [A, slash C X] hl2 C X (by omega) (by omega) W hr
  have c3 := fun a W hr => Resource_any 100 (by omega) a 2 [A, slash C X] hl2 C ⟨#[]⟩ (by omega) (by omega) W hr
  have c4 := fun a W hr => Resource_any 100 (by omega) a 2 [A, slash C X] hl2 A X (by omega) (by omega) W hr
  have c5 := fun a W hr => Resource_any 100 (by omega) a 2 [A, slash C X] hl2 C Y (by omega) (by omega) W hr
  have c6 := fun a W hr => Resource_any 100 (by omega) a 1 [(⟨#[42, 47]⟩ : ByteArray) ++ X] hl1 A Y (by omega) (by omega) W hr
  have c7 := fun a W hr => Resource_any 100 (by omega) a 1 [(⟨#[42, 47]⟩ : ByteArray) ++ X] hl1 A ⟨#[]⟩ (by omega) (by omega) W hr
  rw [part1 _ hE] at c1
  rw [part2 hX] at c2
  rw [part3 hA hC _ hE] at c3
  rw [part4 hA hC hX] at c4
  rw [part5 hA hC hX hY] at c5
  rw [part6 hA hY] at c6
  rw [part7 hA _ hE] at c7
  have HR := Lib.hid hrow
  have HS := Lib.hid hst
  have bn := below_new w5 (.cells #[.string A, .string (slash C X)] 9)
  have HD := Lib.hid (show w5.alloc (.cells #[.string A, .string (slash C X)] 9) = w5.alloc (.cells #[.string A, .string (C ++ ⟨#[47]⟩ ++ X)] 9) from rfl)
  clear hrow hst zE hE z1 z2 hA hC hX hY hl1 hl2
  unfold slash at c1 c2 c3 c4 c5
  cases t1 : (A.toList == C.toList) <;> cases t2 : (X.toList == Y.toList) <;>
  · rw [t1] at c3 c4
    rw [t2] at c5 c6
    go_wp2_with fail
    obtain ⟨wl, hwl⟩ : ∃ wl, wl = w5.alloc (.cells #[.string A, .string (C ++ ⟨#[47]⟩ ++ X)] 9) := ⟨_, rfl⟩
    have hr0 : RowIn (text 100) wl (some ⟨w5.heap.size, 0, none⟩) [A, C ++ ⟨#[47]⟩ ++ X] := by rw [hwl]; exact HR.out
    have bl : Below w5.heap.size w5 wl := by rw [hwl]; exact bn
    rw [← hwl]
    clear hwl
    have B0 := chain b5 bl
    refine (c1 _ _ hr0).mono ?_
    rintro e v1 ⟨rfl, hv1⟩
    go_wp2_with fail
    refine (c2 _ _ (hr0.later hv1)).mono ?_
    rintro e v2 ⟨rfl, hv2⟩
    have s2 := chain hv1 hv2
    go_wp2_with fail
    refine (c3 _ _ (hr0.later s2)).mono ?_
    rintro e v3 ⟨rfl, hv3⟩
    have s3 := chain s2 hv3
    go_wp2_with fail
    refine (c4 _ _ (hr0.later s3)).mono ?_
    rintro e v4 ⟨rfl, hv4⟩
    have s4 := chain s3 hv4
    go_wp2_with fail
    refine (c5 _ _ (hr0.later s4)).mono ?_
    rintro e v5 ⟨rfl, hv5⟩
    have s5 := chain s4 hv5
    go_wp2_with fail
    refine (c6 _ _ (HS.out v5)).mono ?_
    rintro e v6 ⟨rfl, hv6⟩
    have s6 := chain s5 (chain (below_new v5 (.cells #[.string ((⟨#[42, 47]⟩ : ByteArray) ++ X)] 9)) hv6)
    go_wp2_with fail
    refine (c7 _ _ (HS.out v6)).mono ?_
    rintro e v7 ⟨rfl, hv7⟩
    go_wp2
    go_ret
    exact ⟨rfl, chain B0 (chain s6 (chain (below_new v6 (.cells #[.string ((⟨#[42, 47]⟩ : ByteArray) ++ X)] 9)) hv7))⟩
end Go.Proofs.YthflpgeonllgdaaDoor.rul

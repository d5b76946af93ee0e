/- Layer 3: the walk of NamesBytes. -/
import Derived.Test.YtdiighgnlckllaaDoorNamLaws
namespace Go.Proofs.YtdiighgnlckllaaDoor.nam
open Go.RowKit Go.Shelf

def one (b : Nat) : List UInt8 := [UInt8.ofNat b]
theorem one_lab : ∀ b : Fin 256, labB (one b) = edgeL b := by decide +kernel
theorem one_sub : ∀ b : Fin 256, subB (one b) = edgeL b := by decide +kernel
theorem one_val : ∀ b : Fin 256, valB (one b) = edgeV b := by decide +kernel
theorem one_key : ∀ b : Fin 256, keyB (one b) = edgeV b := by decide +kernel
theorem one_verb : ∀ b : Fin 256, verbB (one b) = smallB b := by decide +kernel
theorem one_seg : ∀ b : Fin 256, segB (one b) = (seenB b && !decide (b.val = 47 ∨ b.val = 37 ∨ b.val = 46)) := by decide +kernel
theorem one_path : ∀ b : Fin 256, pathB (one b) = decide (b.val = 47) := by decide +kernel
theorem strOf_one (b : Nat) : (strOfNums [(b : Int)]).data.toList = one b := by
  unfold strOfNums one; simp
theorem one_size (b : Nat) : (strOfNums [(b : Int)]).size = 1 := by rw [strOfNums_size]; rfl
theorem conv_one (w1 : World) (a : Int) : (convert 31 9 (.slice (some ⟨w1.heap.size, 0, none⟩) 1 1)).run Tryd.prog (w1.alloc (.cells #[.int .u8 a] 5)) = .ok (.string (strOfNums [a])) (w1.alloc (.cells #[.int .u8 a] 5)) :=
  run_convert_bytes_arg (P := Tryd.prog) _ 31 5 Tryd.underlying31 Tryd.underlying5 w1.heap.size 0 1 1 [a] rfl (fun i hi => by
    obtain rfl : i = 0 := by omega
    exact cell_of_row _ w1.heap.size 0 #[.int .u8 a] 5 (0, 0) (heap_alloc_new w1 _)) 9 Tryd.underlying9
set_option maxRecDepth 100000 in
set_option maxHeartbeats 2000000 in
theorem bytes_low (b : Nat) (h1 : 0 ≤ b) (h2 : b ≤ 32) (w : World) (hm : MaxL w) :
    Calls Tryd.prog 7 #[.int .u8 b] w fun e w' => e = .returned (.bool true) ∧ Below w.heap.size w w' := by
  have hb : b < 256 := by omega
  have cL := fun w => Label_any (strOfNums [(b : Int)]) (by rw [one_size]; unfold maxLen; omega) w
  have cS := fun w hm => Subdomain_any (strOfNums [(b : Int)]) (by rw [one_size]; omega) w hm
  have cV := fun w => LabelValue_any (strOfNums [(b : Int)]) (by rw [one_size]; unfold maxLen; omega) w
  have cK := fun w hm => LabelKey_any (strOfNums [(b : Int)]) (by rw [one_size]; omega) w hm
  have cB := fun w => Verb_any (strOfNums [(b : Int)]) (by rw [one_size]; unfold maxLen; omega) w
  have cG := fun w => Segment_any (strOfNums [(b : Int)]) (by rw [one_size]; unfold maxLen; omega) w
  have cP := fun w => Path_any (strOfNums [(b : Int)]) (by rw [one_size]; unfold maxLen; omega) w
  rw [strOf_one, show labB (one b) = false by rw [one_lab ⟨b, hb⟩]; show edgeL b = _; unfold edgeL orB smallB digitB; simp; omega] at cL
  rw [strOf_one, show subB (one b) = false by rw [one_sub ⟨b, hb⟩]; show edgeL b = _; unfold edgeL orB smallB digitB; simp; omega] at cS
  rw [strOf_one, show valB (one b) = false by rw [one_val ⟨b, hb⟩]; show edgeV b = _; unfold edgeV orB smallB greatB digitB; simp; omega] at cV
  rw [strOf_one, show keyB (one b) = false by rw [one_key ⟨b, hb⟩]; show edgeV b = _; unfold edgeV orB smallB greatB digitB; simp; omega] at cK
  rw [strOf_one, show verbB (one b) = false by rw [one_verb ⟨b, hb⟩]; show smallB b = _; unfold smallB; simp; omega] at cB
  rw [strOf_one, show segB (one b) = false by rw [one_seg ⟨b, hb⟩]; show (seenB b && !decide (b = 47 ∨ b = 37 ∨ b = 46)) = _; unfold seenB; simp; omega] at cG
  rw [strOf_one, show pathB (one b) = false by rw [one_path ⟨b, hb⟩]; show decide (b = 47) = _; simp; omega] at cP
  have d47 : ((b : Int) == 47) = false := beq_eq_false_iff_ne.2 (by omega)
  have n47 : ((b : Int) != 47) = true := by unfold bne; rw [d47]; rfl
  have d37 : ((b : Int) == 37) = false := beq_eq_false_iff_ne.2 (by omega)
  have n37 : ((b : Int) != 37) = true := by unfold bne; rw [d37]; rfl
  have d46 : ((b : Int) == 46) = false := beq_eq_false_iff_ne.2 (by omega)
  have n46 : ((b : Int) != 46) = true := by unfold bne; rw [d46]; rfl
  have i1 : (0 : Int) ≤ b := by omega
  have i2 : (b : Int) ≤ 32 := by omega
  clear h1 h2
  go_enter Tryd.func7, Tryd.ntmps7
  go_wp2_with fail
  refine (awake_any _ hm).mono ?_
  rintro e w1 ⟨rfl, HB⟩
  have HM := hm.later HB
  have hcv := conv_one w1 b
  have hB1 : ∀ o, Below w.heap.size w (w1.alloc o) := fun o => HB.alloc HB.size o
  have hM1 : ∀ o, MaxL (w1.alloc o) := fun o => hm.later (hB1 o)
  go_wp2_with fail
  refine (cL _).mono ?_
  rintro e w2 ⟨rfl, hb2⟩
  have HB2 := chain (hB1 _) hb2
  have HM2 := hm.later HB2
  go_wp2_with fail
  refine (cS _ HM2).mono ?_
  rintro e w3 ⟨rfl, hb3⟩
  have HB3 := chain HB2 hb3
  go_wp2_with fail
  refine (cV _).mono ?_
  rintro e w4 ⟨rfl, hb4⟩
  have HB4 := chain HB3 hb4
  have HM4 := hm.later HB4
  go_wp2_with fail
  refine (cK _ HM4).mono ?_
  rintro e w5 ⟨rfl, hb5⟩
  have HB5 := chain HB4 hb5
  go_wp2_with fail
  refine (cB _).mono ?_
  rintro e w' ⟨rfl, rfl⟩
  go_wp2_with fail
  refine (cG _).mono ?_
  rintro e w6 ⟨rfl, hb6⟩
  have HB6 := chain HB5 hb6
  go_wp2_with fail
  refine (cP _).mono ?_
  rintro e w' ⟨rfl, rfl⟩
  go_wp2
  go_ret
  exact ⟨rfl, HB6⟩
set_option maxRecDepth 100000 in
set_option maxHeartbeats 2000000 in
theorem bytes_a (b : Nat) (h1 : 33 ≤ b) (h2 : b ≤ 36) (w : World) (hm : MaxL w) :
    Calls Tryd.prog 7 #[.int .u8 b] w fun e w' => e = .returned (.bool true) ∧ Below w.heap.size w w' := by
  have hb : b < 256 := by omega
  have cL := fun w => Label_any (strOfNums [(b : Int)]) (by rw [one_size]; unfold maxLen; omega) w
  have cS := fun w hm => Subdomain_any (strOfNums [(b : Int)]) (by rw [one_size]; omega) w hm
  have cV := fun w => LabelValue_any (strOfNums [(b : Int)]) (by rw [one_size]; unfold maxLen; omega) w
  have cK := fun w hm => LabelKey_any (strOfNums [(b : Int)]) (by rw [one_size]; omega) w hm
  have cB := fun w => Verb_any (strOfNums [(b : Int)]) (by rw [one_size]; unfold maxLen; omega) w
  have cG := fun w => Segment_any (strOfNums [(b : Int)]) (by rw [one_size]; unfold maxLen; omega) w
  have cP := fun w => Path_any (strOfNums [(b : Int)]) (by rw [one_size]; unfold maxLen; omega) w
  rw [strOf_one, show labB (one b) = false by rw [one_lab ⟨b, hb⟩]; show edgeL b = _; unfold edgeL orB smallB digitB; simp; omega] at cL
  rw [strOf_one, show subB (one b) = false by rw [one_sub ⟨b, hb⟩]; show edgeL b = _; unfold edgeL orB smallB digitB; simp; omega] at cS
  rw [strOf_one, show valB (one b) = false by rw [one_val ⟨b, hb⟩]; show edgeV b = _; unfold edgeV orB smallB greatB digitB; simp; omega] at cV
  rw [strOf_one, show keyB (one b) = false by rw [one_key ⟨b, hb⟩]; show edgeV b = _; unfold edgeV orB smallB greatB digitB; simp; omega] at cK
  rw [strOf_one, show verbB (one b) = false by rw [one_verb ⟨b, hb⟩]; show smallB b = _; unfold smallB; simp; omega] at cB
  rw [strOf_one, show segB (one b) = true by rw [one_seg ⟨b, hb⟩]; show (seenB b && !decide (b = 47 ∨ b = 37 ∨ b = 46)) = _; unfold seenB; simp; omega] at cG
  rw [strOf_one, show pathB (one b) = false by rw [one_path ⟨b, hb⟩]; show decide (b = 47) = _; simp; omega] at cP
  have d47 : ((b : Int) == 47) = false := beq_eq_false_iff_ne.2 (by omega)
  have n47 : ((b : Int) != 47) = true := by unfold bne; rw [d47]; rfl
  have d37 : ((b : Int) == 37) = false := beq_eq_false_iff_ne.2 (by omega)
  have n37 : ((b : Int) != 37) = true := by unfold bne; rw [d37]; rfl
  have d46 : ((b : Int) == 46) = false := beq_eq_false_iff_ne.2 (by omega)
  have n46 : ((b : Int) != 46) = true := by unfold bne; rw [d46]; rfl
  have i1 : (33 : Int) ≤ b := by omega
  have i2 : (b : Int) ≤ 36 := by omega
  clear h1 h2
  go_enter Tryd.func7, Tryd.ntmps7
  go_wp2_with fail
  refine (awake_any _ hm).mono ?_
  rintro e w1 ⟨rfl, HB⟩
  have HM := hm.later HB
  have hcv := conv_one w1 b
  have hB1 : ∀ o, Below w.heap.size w (w1.alloc o) := fun o => HB.alloc HB.size o
  have hM1 : ∀ o, MaxL (w1.alloc o) := fun o => hm.later (hB1 o)
  go_wp2_with fail
  refine (cL _).mono ?_
  rintro e w2 ⟨rfl, hb2⟩
  have HB2 := chain (hB1 _) hb2
  have HM2 := hm.later HB2
  go_wp2_with fail
  refine (cS _ HM2).mono ?_
  rintro e w3 ⟨rfl, hb3⟩
  have HB3 := chain HB2 hb3
  go_wp2_with fail
  refine (cV _).mono ?_
  rintro e w4 ⟨rfl, hb4⟩
  have HB4 := chain HB3 hb4
  have HM4 := hm.later HB4
  go_wp2_with fail
  refine (cK _ HM4).mono ?_
  rintro e w5 ⟨rfl, hb5⟩
  have HB5 := chain HB4 hb5
  go_wp2_with fail
  refine (cB _).mono ?_
  rintro e w' ⟨rfl, rfl⟩
  go_wp2_with fail
  refine (cG _).mono ?_
  rintro e w6 ⟨rfl, hb6⟩
  have HB6 := chain HB5 hb6
  go_wp2_with fail
  refine (cP _).mono ?_
  rintro e w' ⟨rfl, rfl⟩
  go_wp2
  go_ret
  exact ⟨rfl, HB6⟩
set_option maxRecDepth 100000 in
set_option maxHeartbeats 2000000 in
theorem bytes_pc (b : Nat) (h1 : 37 ≤ b) (h2 : b ≤ 37) (w : World) (hm : MaxL w) :
    Calls Tryd.prog 7 #[.int .u8 b] w fun e w' => e = .returned (.bool true) ∧ Below w.heap.size w w' := by
  have hb : b < 256 := by omega
  have cL := fun w => Label_any (strOfNums [(b : Int)]) (by rw [one_size]; unfold maxLen; omega) w
  have cS := fun w hm => Subdomain_any (strOfNums [(b : Int)]) (by rw [one_size]; omega) w hm
  have cV := fun w => LabelValue_any (strOfNums [(b : Int)]) (by rw [one_size]; unfold maxLen; omega) w
  have cK := fun w hm => LabelKey_any (strOfNums [(b : Int)]) (by rw [one_size]; omega) w hm
  have cB := fun w => Verb_any (strOfNums [(b : Int)]) (by rw [one_size]; unfold maxLen; omega) w
  have cG := fun w => Segment_any (strOfNums [(b : Int)]) (by rw [one_size]; unfold maxLen; omega) w
  have cP := fun w => Path_any (strOfNums [(b : Int)]) (by rw [one_size]; unfold maxLen; omega) w
  rw [strOf_one, show labB (one b) = false by rw [one_lab ⟨b, hb⟩]; show edgeL b = _; unfold edgeL orB smallB digitB; simp; omega] at cL
  rw [strOf_one, show subB (one b) = false by rw [one_sub ⟨b, hb⟩]; show edgeL b = _; unfold edgeL orB smallB digitB; simp; omega] at cS
  rw [strOf_one, show valB (one b) = false by rw [one_val ⟨b, hb⟩]; show edgeV b = _; unfold edgeV orB smallB greatB digitB; simp; omega] at cV
  rw [strOf_one, show keyB (one b) = false by rw [one_key ⟨b, hb⟩]; show edgeV b = _; unfold edgeV orB smallB greatB digitB; simp; omega] at cK
  rw [strOf_one, show verbB (one b) = false by rw [one_verb ⟨b, hb⟩]; show smallB b = _; unfold smallB; simp; omega] at cB
  rw [strOf_one, show segB (one b) = false by rw [one_seg ⟨b, hb⟩]; show (seenB b && !decide (b = 47 ∨ b = 37 ∨ b = 46)) = _; unfold seenB; simp; omega] at cG
  rw [strOf_one, show pathB (one b) = false by rw [one_path ⟨b, hb⟩]; show decide (b = 47) = _; simp; omega] at cP
  have d47 : ((b : Int) == 47) = false := beq_eq_false_iff_ne.2 (by omega)
  have n47 : ((b : Int) != 47) = true := by unfold bne; rw [d47]; rfl
  have d37 : ((b : Int) == 37) = true := beq_iff_eq.2 (by omega)
  have n37 : ((b : Int) != 37) = false := by unfold bne; rw [d37]; rfl
  have d46 : ((b : Int) == 46) = false := beq_eq_false_iff_ne.2 (by omega)
  have n46 : ((b : Int) != 46) = true := by unfold bne; rw [d46]; rfl
  have i1 : (37 : Int) ≤ b := by omega
  have i2 : (b : Int) ≤ 37 := by omega
  clear h1 h2
  go_enter Tryd.func7, Tryd.ntmps7
  go_wp2_with fail
  refine (awake_any _ hm).mono ?_
  rintro e w1 ⟨rfl, HB⟩
  have HM := hm.later HB
  have hcv := conv_one w1 b
  have hB1 : ∀ o, Below w.heap.size w (w1.alloc o) := fun o => HB.alloc HB.size o
  have hM1 : ∀ o, MaxL (w1.alloc o) := fun o => hm.later (hB1 o)
  go_wp2_with fail
  refine (cL _).mono ?_
  rintro e w2 ⟨rfl, hb2⟩
  have HB2 := chain (hB1 _) hb2
  have HM2 := hm.later HB2
  go_wp2_with fail
  refine (cS _ HM2).mono ?_
  rintro e w3 ⟨rfl, hb3⟩
  have HB3 := chain HB2 hb3
  go_wp2_with fail
  refine (cV _).mono ?_
  rintro e w4 ⟨rfl, hb4⟩
  have HB4 := chain HB3 hb4
  have HM4 := hm.later HB4
  go_wp2_with fail
  refine (cK _ HM4).mono ?_
  rintro e w5 ⟨rfl, hb5⟩
  have HB5 := chain HB4 hb5
  go_wp2_with fail
  refine (cB _).mono ?_
  rintro e w' ⟨rfl, rfl⟩
  go_wp2_with fail
  refine (cG _).mono ?_
  rintro e w6 ⟨rfl, hb6⟩
  have HB6 := chain HB5 hb6
  go_wp2_with fail
  refine (cP _).mono ?_
  rintro e w' ⟨rfl, rfl⟩
  go_wp2
  go_ret
  exact ⟨rfl, HB6⟩
set_option maxRecDepth 100000 in
set_option maxHeartbeats 2000000 in
theorem bytes_b (b : Nat) (h1 : 38 ≤ b) (h2 : b ≤ 45) (w : World) (hm : MaxL w) :
    Calls Tryd.prog 7 #[.int .u8 b] w fun e w' => e = .returned (.bool true) ∧ Below w.heap.size w w' := by
  have hb : b < 256 := by omega
  have cL := fun w => Label_any (strOfNums [(b : Int)]) (by rw [one_size]; unfold maxLen; omega) w
  have cS := fun w hm => Subdomain_any (strOfNums [(b : Int)]) (by rw [one_size]; omega) w hm
  have cV := fun w => LabelValue_any (strOfNums [(b : Int)]) (by rw [one_size]; unfold maxLen; omega) w
  have cK := fun w hm => LabelKey_any (strOfNums [(b : Int)]) (by rw [one_size]; omega) w hm
  have cB := fun w => Verb_any (strOfNums [(b : Int)]) (by rw [one_size]; unfold maxLen; omega) w
  have cG := fun w => Segment_any (strOfNums [(b : Int)]) (by rw [one_size]; unfold maxLen; omega) w
  have cP := fun w => Path_any (strOfNums [(b : Int)]) (by rw [one_size]; unfold maxLen; omega) w
  rw [strOf_one, show labB (one b) = false by rw [one_lab ⟨b, hb⟩]; show edgeL b = _; unfold edgeL orB smallB digitB; simp; omega] at cL
  rw [strOf_one, show subB (one b) = false by rw [one_sub ⟨b, hb⟩]; show edgeL b = _; unfold edgeL orB smallB digitB; simp; omega] at cS
  rw [strOf_one, show valB (one b) = false by rw [one_val ⟨b, hb⟩]; show edgeV b = _; unfold edgeV orB smallB greatB digitB; simp; omega] at cV
  rw [strOf_one, show keyB (one b) = false by rw [one_key ⟨b, hb⟩]; show edgeV b = _; unfold edgeV orB smallB greatB digitB; simp; omega] at cK
  rw [strOf_one, show verbB (one b) = false by rw [one_verb ⟨b, hb⟩]; show smallB b = _; unfold smallB; simp; omega] at cB
  rw [strOf_one, show segB (one b) = true by rw [one_seg ⟨b, hb⟩]; show (seenB b && !decide (b = 47 ∨ b = 37 ∨ b = 46)) = _; unfold seenB; simp; omega] at cG
  rw [strOf_one, show pathB (one b) = false by rw [one_path ⟨b, hb⟩]; show decide (b = 47) = _; simp; omega] at cP
  have d47 : ((b : Int) == 47) = false := beq_eq_false_iff_ne.2 (by omega)
  have n47 : ((b : Int) != 47) = true := by unfold bne; rw [d47]; rfl
  have d37 : ((b : Int) == 37) = false := beq_eq_false_iff_ne.2 (by omega)
  have n37 : ((b : Int) != 37) = true := by unfold bne; rw [d37]; rfl
  have d46 : ((b : Int) == 46) = false := beq_eq_false_iff_ne.2 (by omega)
  have n46 : ((b : Int) != 46) = true := by unfold bne; rw [d46]; rfl
  have i1 : (38 : Int) ≤ b := by omega
  have i2 : (b : Int) ≤ 45 := by omega
  clear h1 h2
  go_enter Tryd.func7, Tryd.ntmps7
  go_wp2_with fail
  refine (awake_any _ hm).mono ?_
  rintro e w1 ⟨rfl, HB⟩
  have HM := hm.later HB
  have hcv := conv_one w1 b
  have hB1 : ∀ o, Below w.heap.size w (w1.alloc o) := fun o => HB.alloc HB.size o
  have hM1 : ∀ o, MaxL (w1.alloc o) := fun o => hm.later (hB1 o)
  go_wp2_with fail
  refine (cL _).mono ?_
  rintro e w2 ⟨rfl, hb2⟩
  have HB2 := chain (hB1 _) hb2
  have HM2 := hm.later HB2
  go_wp2_with fail
  refine (cS _ HM2).mono ?_
  rintro e w3 ⟨rfl, hb3⟩
  have HB3 := chain HB2 hb3
  go_wp2_with fail
  refine (cV _).mono ?_
  rintro e w4 ⟨rfl, hb4⟩
  have HB4 := chain HB3 hb4
  have HM4 := hm.later HB4
  go_wp2_with fail
  refine (cK _ HM4).mono ?_
  rintro e w5 ⟨rfl, hb5⟩
  have HB5 := chain HB4 hb5
  go_wp2_with fail
  refine (cB _).mono ?_
  rintro e w' ⟨rfl, rfl⟩
  go_wp2_with fail
  refine (cG _).mono ?_
  rintro e w6 ⟨rfl, hb6⟩
  have HB6 := chain HB5 hb6
  go_wp2_with fail
  refine (cP _).mono ?_
  rintro e w' ⟨rfl, rfl⟩
  go_wp2
  go_ret
  exact ⟨rfl, HB6⟩
set_option maxRecDepth 100000 in
set_option maxHeartbeats 2000000 in
theorem bytes_dot (b : Nat) (h1 : 46 ≤ b) (h2 : b ≤ 46) (w : World) (hm : MaxL w) :
    Calls Tryd.prog 7 #[.int .u8 b] w fun e w' => e = .returned (.bool true) ∧ Below w.heap.size w w' := by
  have hb : b < 256 := by omega
  have cL := fun w => Label_any (strOfNums [(b : Int)]) (by rw [one_size]; unfold maxLen; omega) w
  have cS := fun w hm => Subdomain_any (strOfNums [(b : Int)]) (by rw [one_size]; omega) w hm
  have cV := fun w => LabelValue_any (strOfNums [(b : Int)]) (by rw [one_size]; unfold maxLen; omega) w
  have cK := fun w hm => LabelKey_any (strOfNums [(b : Int)]) (by rw [one_size]; omega) w hm
  have cB := fun w => Verb_any (strOfNums [(b : Int)]) (by rw [one_size]; unfold maxLen; omega) w
  have cG := fun w => Segment_any (strOfNums [(b : Int)]) (by rw [one_size]; unfold maxLen; omega) w
  have cP := fun w => Path_any (strOfNums [(b : Int)]) (by rw [one_size]; unfold maxLen; omega) w
  rw [strOf_one, show labB (one b) = false by rw [one_lab ⟨b, hb⟩]; show edgeL b = _; unfold edgeL orB smallB digitB; simp; omega] at cL
  rw [strOf_one, show subB (one b) = false by rw [one_sub ⟨b, hb⟩]; show edgeL b = _; unfold edgeL orB smallB digitB; simp; omega] at cS
  rw [strOf_one, show valB (one b) = false by rw [one_val ⟨b, hb⟩]; show edgeV b = _; unfold edgeV orB smallB greatB digitB; simp; omega] at cV
  rw [strOf_one, show keyB (one b) = false by rw [one_key ⟨b, hb⟩]; show edgeV b = _; unfold edgeV orB smallB greatB digitB; simp; omega] at cK
  rw [strOf_one, show verbB (one b) = false by rw [one_verb ⟨b, hb⟩]; show smallB b = _; unfold smallB; simp; omega] at cB
  rw [strOf_one, show segB (one b) = false by rw [one_seg ⟨b, hb⟩]; show (seenB b && !decide (b = 47 ∨ b = 37 ∨ b = 46)) = _; unfold seenB; simp; omega] at cG
  rw [strOf_one, show pathB (one b) = false by rw [one_path ⟨b, hb⟩]; show decide (b = 47) = _; simp; omega] at cP
  have d47 : ((b : Int) == 47) = false := beq_eq_false_iff_ne.2 (by omega)
  have n47 : ((b : Int) != 47) = true := by unfold bne; rw [d47]; rfl
  have d37 : ((b : Int) == 37) = false := beq_eq_false_iff_ne.2 (by omega)
  have n37 : ((b : Int) != 37) = true := by unfold bne; rw [d37]; rfl
  have d46 : ((b : Int) == 46) = true := beq_iff_eq.2 (by omega)
  have n46 : ((b : Int) != 46) = false := by unfold bne; rw [d46]; rfl
  have i1 : (46 : Int) ≤ b := by omega
  have i2 : (b : Int) ≤ 46 := by omega
  clear h1 h2
  go_enter Tryd.func7, Tryd.ntmps7
  go_wp2_with fail
  refine (awake_any _ hm).mono ?_
  rintro e w1 ⟨rfl, HB⟩
  have HM := hm.later HB
  have hcv := conv_one w1 b
  have hB1 : ∀ o, Below w.heap.size w (w1.alloc o) := fun o => HB.alloc HB.size o
  have hM1 : ∀ o, MaxL (w1.alloc o) := fun o => hm.later (hB1 o)
  go_wp2_with fail
  refine (cL _).mono ?_
  rintro e w2 ⟨rfl, hb2⟩
  have HB2 := chain (hB1 _) hb2
  have HM2 := hm.later HB2
  go_wp2_with fail
  refine (cS _ HM2).mono ?_
  rintro e w3 ⟨rfl, hb3⟩
  have HB3 := chain HB2 hb3
  go_wp2_with fail
  refine (cV _).mono ?_
  rintro e w4 ⟨rfl, hb4⟩
  have HB4 := chain HB3 hb4
  have HM4 := hm.later HB4
  go_wp2_with fail
  refine (cK _ HM4).mono ?_
  rintro e w5 ⟨rfl, hb5⟩
  have HB5 := chain HB4 hb5
  go_wp2_with fail
  refine (cB _).mono ?_
  rintro e w' ⟨rfl, rfl⟩
  go_wp2_with fail
  refine (cG _).mono ?_
  rintro e w6 ⟨rfl, hb6⟩
  have HB6 := chain HB5 hb6
  go_wp2_with fail
  refine (cP _).mono ?_
  rintro e w' ⟨rfl, rfl⟩
  go_wp2
  go_ret
  exact ⟨rfl, HB6⟩
set_option maxRecDepth 100000 in
set_option maxHeartbeats 2000000 in
theorem bytes_slash (b : Nat) (h1 : 47 ≤ b) (h2 : b ≤ 47) (w : World) (hm : MaxL w) :
    Calls Tryd.prog 7 #[.int .u8 b] w fun e w' => e = .returned (.bool true) ∧ Below w.heap.size w w' := by
  have hb : b < 256 := by omega
  have cL := fun w => Label_any (strOfNums [(b : Int)]) (by rw [one_size]; unfold maxLen; omega) w
  have cS := fun w hm => Subdomain_any (strOfNums [(b : Int)]) (by rw [one_size]; omega) w hm
  have cV := fun w => LabelValue_any (strOfNums [(b : Int)]) (by rw [one_size]; unfold maxLen; omega) w
  have cK := fun w hm => LabelKey_any (strOfNums [(b : Int)]) (by rw [one_size]; omega) w hm
  have cB := fun w => Verb_any (strOfNums [(b : Int)]) (by rw [one_size]; unfold maxLen; omega) w
  have cG := fun w => Segment_any (strOfNums [(b : Int)]) (by rw [one_size]; unfold maxLen; omega) w
  have cP := fun w => Path_any (strOfNums [(b : Int)]) (by rw [one_size]; unfold maxLen; omega) w
  rw [strOf_one, show labB (one b) = false by rw [one_lab ⟨b, hb⟩]; show edgeL b = _; unfold edgeL orB smallB digitB; simp; omega] at cL
  rw [strOf_one, show subB (one b) = false by rw [one_sub ⟨b, hb⟩]; show edgeL b = _; unfold edgeL orB smallB digitB; simp; omega] at cS
  rw [strOf_one, show valB (one b) = false by rw [one_val ⟨b, hb⟩]; show edgeV b = _; unfold edgeV orB smallB greatB digitB; simp; omega] at cV
  rw [strOf_one, show keyB (one b) = false by rw [one_key ⟨b, hb⟩]; show edgeV b = _; unfold edgeV orB smallB greatB digitB; simp; omega] at cK
  rw [strOf_one, show verbB (one b) = false by rw [one_verb ⟨b, hb⟩]; show smallB b = _; unfold smallB; simp; omega] at cB
  rw [strOf_one, show segB (one b) = false by rw [one_seg ⟨b, hb⟩]; show (seenB b && !decide (b = 47 ∨ b = 37 ∨ b = 46)) = _; unfold seenB; simp; omega] at cG
  rw [strOf_one, show pathB (one b) = true by rw [one_path ⟨b, hb⟩]; show decide (b = 47) = _; simp; omega] at cP
  have d47 : ((b : Int) == 47) = true := beq_iff_eq.2 (by omega)
  have n47 : ((b : Int) != 47) = false := by unfold bne; rw [d47]; rfl
  have d37 : ((b : Int) == 37) = false := beq_eq_false_iff_ne.2 (by omega)
  have n37 : ((b : Int) != 37) = true := by unfold bne; rw [d37]; rfl
  have d46 : ((b : Int) == 46) = false := beq_eq_false_iff_ne.2 (by omega)
  have n46 : ((b : Int) != 46) = true := by unfold bne; rw [d46]; rfl
  have i1 : (47 : Int) ≤ b := by omega
  have i2 : (b : Int) ≤ 47 := by omega
  clear h1 h2
  go_enter Tryd.func7, Tryd.ntmps7
  go_wp2_with fail
  refine (awake_any _ hm).mono ?_
  rintro e w1 ⟨rfl, HB⟩
  have HM := hm.later HB
  have hcv := conv_one w1 b
  have hB1 : ∀ o, Below w.heap.size w (w1.alloc o) := fun o => HB.alloc HB.size o
  have hM1 : ∀ o, MaxL (w1.alloc o) := fun o => hm.later (hB1 o)
  go_wp2_with fail
  refine (cL _).mono ?_
  rintro e w2 ⟨rfl, hb2⟩
  have HB2 := chain (hB1 _) hb2
  have HM2 := hm.later HB2
  go_wp2_with fail
  refine (cS _ HM2).mono ?_
  rintro e w3 ⟨rfl, hb3⟩
  have HB3 := chain HB2 hb3
  go_wp2_with fail
  refine (cV _).mono ?_
  rintro e w4 ⟨rfl, hb4⟩
  have HB4 := chain HB3 hb4
  have HM4 := hm.later HB4
  go_wp2_with fail
  refine (cK _ HM4).mono ?_
  rintro e w5 ⟨rfl, hb5⟩
  have HB5 := chain HB4 hb5
  go_wp2_with fail
  refine (cB _).mono ?_
  rintro e w' ⟨rfl, rfl⟩
  go_wp2_with fail
  refine (cG _).mono ?_
  rintro e w6 ⟨rfl, hb6⟩
  have HB6 := chain HB5 hb6
  go_wp2_with fail
  refine (cP _).mono ?_
  rintro e w' ⟨rfl, rfl⟩
  go_wp2
  go_ret
  exact ⟨rfl, HB6⟩
set_option maxRecDepth 100000 in
set_option maxHeartbeats 2000000 in
theorem bytes_digit (b : Nat) (h1 : 48 ≤ b) (h2 : b ≤ 57) (w : World) (hm : MaxL w) :
    Calls Tryd.prog 7 #[.int .u8 b] w fun e w' => e = .returned (.bool true) ∧ Below w.heap.size w w' := by
  have hb : b < 256 := by omega
  have cL := fun w => Label_any (strOfNums [(b : Int)]) (by rw [one_size]; unfold maxLen; omega) w
  have cS := fun w hm => Subdomain_any (strOfNums [(b : Int)]) (by rw [one_size]; omega) w hm
  have cV := fun w => LabelValue_any (strOfNums [(b : Int)]) (by rw [one_size]; unfold maxLen; omega) w
  have cK := fun w hm => LabelKey_any (strOfNums [(b : Int)]) (by rw [one_size]; omega) w hm
  have cB := fun w => Verb_any (strOfNums [(b : Int)]) (by rw [one_size]; unfold maxLen; omega) w
  have cG := fun w => Segment_any (strOfNums [(b : Int)]) (by rw [one_size]; unfold maxLen; omega) w
  have cP := fun w => Path_any (strOfNums [(b : Int)]) (by rw [one_size]; unfold maxLen; omega) w
  rw [strOf_one, show labB (one b) = true by rw [one_lab ⟨b, hb⟩]; show edgeL b = _; unfold edgeL orB smallB digitB; simp; omega] at cL
  rw [strOf_one, show subB (one b) = true by rw [one_sub ⟨b, hb⟩]; show edgeL b = _; unfold edgeL orB smallB digitB; simp; omega] at cS
  rw [strOf_one, show valB (one b) = true by rw [one_val ⟨b, hb⟩]; show edgeV b = _; unfold edgeV orB smallB greatB digitB; simp; omega] at cV
  rw [strOf_one, show keyB (one b) = true by rw [one_key ⟨b, hb⟩]; show edgeV b = _; unfold edgeV orB smallB greatB digitB; simp; omega] at cK
  rw [strOf_one, show verbB (one b) = false by rw [one_verb ⟨b, hb⟩]; show smallB b = _; unfold smallB; simp; omega] at cB
  rw [strOf_one, show segB (one b) = true by rw [one_seg ⟨b, hb⟩]; show (seenB b && !decide (b = 47 ∨ b = 37 ∨ b = 46)) = _; unfold seenB; simp; omega] at cG
  rw [strOf_one, show pathB (one b) = false by rw [one_path ⟨b, hb⟩]; show decide (b = 47) = _; simp; omega] at cP
  have d47 : ((b : Int) == 47) = false := beq_eq_false_iff_ne.2 (by omega)
  have n47 : ((b : Int) != 47) = true := by unfold bne; rw [d47]; rfl
  have d37 : ((b : Int) == 37) = false := beq_eq_false_iff_ne.2 (by omega)
  have n37 : ((b : Int) != 37) = true := by unfold bne; rw [d37]; rfl
  have d46 : ((b : Int) == 46) = false := beq_eq_false_iff_ne.2 (by omega)
  have n46 : ((b : Int) != 46) = true := by unfold bne; rw [d46]; rfl
  have i1 : (48 : Int) ≤ b := by omega
  have i2 : (b : Int) ≤ 57 := by omega
  clear h1 h2
  go_enter Tryd.func7, Tryd.ntmps7
  go_wp2_with fail
  refine (awake_any _ hm).mono ?_
  rintro e w1 ⟨rfl, HB⟩
  have HM := hm.later HB
  have hcv := conv_one w1 b
  have hB1 : ∀ o, Below w.heap.size w (w1.alloc o) := fun o => HB.alloc HB.size o
  have hM1 : ∀ o, MaxL (w1.alloc o) := fun o => hm.later (hB1 o)
  go_wp2_with fail
  refine (cL _).mono ?_
  rintro e w2 ⟨rfl, hb2⟩
  have HB2 := chain (hB1 _) hb2
  have HM2 := hm.later HB2
  go_wp2_with fail
  refine (cS _ HM2).mono ?_
  rintro e w3 ⟨rfl, hb3⟩
  have HB3 := chain HB2 hb3
  go_wp2_with fail
  refine (cV _).mono ?_
  rintro e w4 ⟨rfl, hb4⟩
  have HB4 := chain HB3 hb4
  have HM4 := hm.later HB4
  go_wp2_with fail
  refine (cK _ HM4).mono ?_
  rintro e w5 ⟨rfl, hb5⟩
  have HB5 := chain HB4 hb5
  go_wp2_with fail
  refine (cB _).mono ?_
  rintro e w' ⟨rfl, rfl⟩
  go_wp2_with fail
  refine (cG _).mono ?_
  rintro e w6 ⟨rfl, hb6⟩
  have HB6 := chain HB5 hb6
  go_wp2_with fail
  refine (cP _).mono ?_
  rintro e w' ⟨rfl, rfl⟩
  go_wp2
  go_ret
  exact ⟨rfl, HB6⟩
set_option maxRecDepth 100000 in
set_option maxHeartbeats 2000000 in
theorem bytes_c (b : Nat) (h1 : 58 ≤ b) (h2 : b ≤ 64) (w : World) (hm : MaxL w) :
    Calls Tryd.prog 7 #[.int .u8 b] w fun e w' => e = .returned (.bool true) ∧ Below w.heap.size w w' := by
  have hb : b < 256 := by omega
  have cL := fun w => Label_any (strOfNums [(b : Int)]) (by rw [one_size]; unfold maxLen; omega) w
  have cS := fun w hm => Subdomain_any (strOfNums [(b : Int)]) (by rw [one_size]; omega) w hm
  have cV := fun w => LabelValue_any (strOfNums [(b : Int)]) (by rw [one_size]; unfold maxLen; omega) w
  have cK := fun w hm => LabelKey_any (strOfNums [(b : Int)]) (by rw [one_size]; omega) w hm
  have cB := fun w => Verb_any (strOfNums [(b : Int)]) (by rw [one_size]; unfold maxLen; omega) w
  have cG := fun w => Segment_any (strOfNums [(b : Int)]) (by rw [one_size]; unfold maxLen; omega) w
  have cP := fun w => Path_any (strOfNums [(b : Int)]) (by rw [one_size]; unfold maxLen; omega) w
  rw [strOf_one, show labB (one b) = false by rw [one_lab ⟨b, hb⟩]; show edgeL b = _; unfold edgeL orB smallB digitB; simp; omega] at cL
  rw [strOf_one, show subB (one b) = false by rw [one_sub ⟨b, hb⟩]; show edgeL b = _; unfold edgeL orB smallB digitB; simp; omega] at cS
  rw [strOf_one, show valB (one b) = false by rw [one_val ⟨b, hb⟩]; show edgeV b = _; unfold edgeV orB smallB greatB digitB; simp; omega] at cV
  rw [strOf_one, show keyB (one b) = false by rw [one_key ⟨b, hb⟩]; show edgeV b = _; unfold edgeV orB smallB greatB digitB; simp; omega] at cK
  rw [strOf_one, show verbB (one b) = false by rw [one_verb ⟨b, hb⟩]; show smallB b = _; unfold smallB; simp; omega] at cB
  rw [strOf_one, show segB (one b) = true by rw [one_seg ⟨b, hb⟩]; show (seenB b && !decide (b = 47 ∨ b = 37 ∨ b = 46)) = _; unfold seenB; simp; omega] at cG
  rw [strOf_one, show pathB (one b) = false by rw [one_path ⟨b, hb⟩]; show decide (b = 47) = _; simp; omega] at cP
  have d47 : ((b : Int) == 47) = false := beq_eq_false_iff_ne.2 (by omega)
  have n47 : ((b : Int) != 47) = true := by unfold bne; rw [d47]; rfl
  have d37 : ((b : Int) == 37) = false := beq_eq_false_iff_ne.2 (by omega)
  have n37 : ((b : Int) != 37) = true := by unfold bne; rw [d37]; rfl
  have d46 : ((b : Int) == 46) = false := beq_eq_false_iff_ne.2 (by omega)
  have n46 : ((b : Int) != 46) = true := by unfold bne; rw [d46]; rfl
  have q57 : decide ((b : Int) ≤ 57) = false := decide_eq_false (by omega)
  have i1 : (58 : Int) ≤ b := by omega
  have i2 : (b : Int) ≤ 64 := by omega
  clear h1 h2
  go_enter Tryd.func7, Tryd.ntmps7
  go_wp2_with fail
  refine (awake_any _ hm).mono ?_
  rintro e w1 ⟨rfl, HB⟩
  have HM := hm.later HB
  have hcv := conv_one w1 b
  have hB1 : ∀ o, Below w.heap.size w (w1.alloc o) := fun o => HB.alloc HB.size o
  have hM1 : ∀ o, MaxL (w1.alloc o) := fun o => hm.later (hB1 o)
  go_wp2_with fail
  refine (cL _).mono ?_
  rintro e w2 ⟨rfl, hb2⟩
  have HB2 := chain (hB1 _) hb2
  have HM2 := hm.later HB2
  go_wp2_with fail
  refine (cS _ HM2).mono ?_
  rintro e w3 ⟨rfl, hb3⟩
  have HB3 := chain HB2 hb3
  go_wp2_with fail
  refine (cV _).mono ?_
  rintro e w4 ⟨rfl, hb4⟩
  have HB4 := chain HB3 hb4
  have HM4 := hm.later HB4
  go_wp2_with fail
  refine (cK _ HM4).mono ?_
  rintro e w5 ⟨rfl, hb5⟩
  have HB5 := chain HB4 hb5
  go_wp2_with fail
  refine (cB _).mono ?_
  rintro e w' ⟨rfl, rfl⟩
  go_wp2_with fail
  refine (cG _).mono ?_
  rintro e w6 ⟨rfl, hb6⟩
  have HB6 := chain HB5 hb6
  go_wp2_with fail
  refine (cP _).mono ?_
  rintro e w' ⟨rfl, rfl⟩
  go_wp2
  go_ret
  exact ⟨rfl, HB6⟩
set_option maxRecDepth 100000 in
set_option maxHeartbeats 2000000 in
theorem bytes_great (b : Nat) (h1 : 65 ≤ b) (h2 : b ≤ 90) (w : World) (hm : MaxL w) :
    Calls Tryd.prog 7 #[.int .u8 b] w fun e w' => e = .returned (.bool true) ∧ Below w.heap.size w w' := by
  have hb : b < 256 := by omega
  have cL := fun w => Label_any (strOfNums [(b : Int)]) (by rw [one_size]; unfold maxLen; omega) w
  have cS := fun w hm => Subdomain_any (strOfNums [(b : Int)]) (by rw [one_size]; omega) w hm
  have cV := fun w => LabelValue_any (strOfNums [(b : Int)]) (by rw [one_size]; unfold maxLen; omega) w
  have cK := fun w hm => LabelKey_any (strOfNums [(b : Int)]) (by rw [one_size]; omega) w hm
  have cB := fun w => Verb_any (strOfNums [(b : Int)]) (by rw [one_size]; unfold maxLen; omega) w
  have cG := fun w => Segment_any (strOfNums [(b : Int)]) (by rw [one_size]; unfold maxLen; omega) w
  have cP := fun w => Path_any (strOfNums [(b : Int)]) (by rw [one_size]; unfold maxLen; omega) w
  rw [strOf_one, show labB (one b) = false by rw [one_lab ⟨b, hb⟩]; show edgeL b = _; unfold edgeL orB smallB digitB; simp; omega] at cL
  rw [strOf_one, show subB (one b) = false by rw [one_sub ⟨b, hb⟩]; show edgeL b = _; unfold edgeL orB smallB digitB; simp; omega] at cS
  rw [strOf_one, show valB (one b) = true by rw [one_val ⟨b, hb⟩]; show edgeV b = _; unfold edgeV orB smallB greatB digitB; simp; omega] at cV
  rw [strOf_one, show keyB (one b) = true by rw [one_key ⟨b, hb⟩]; show edgeV b = _; unfold edgeV orB smallB greatB digitB; simp; omega] at cK
  rw [strOf_one, show verbB (one b) = false by rw [one_verb ⟨b, hb⟩]; show smallB b = _; unfold smallB; simp; omega] at cB
  rw [strOf_one, show segB (one b) = true by rw [one_seg ⟨b, hb⟩]; show (seenB b && !decide (b = 47 ∨ b = 37 ∨ b = 46)) = _; unfold seenB; simp; omega] at cG
  rw [strOf_one, show pathB (one b) = false by rw [one_path ⟨b, hb⟩]; show decide (b = 47) = _; simp; omega] at cP
  have d47 : ((b : Int) == 47) = false := beq_eq_false_iff_ne.2 (by omega)
  have n47 : ((b : Int) != 47) = true := by unfold bne; rw [d47]; rfl
  have d37 : ((b : Int) == 37) = false := beq_eq_false_iff_ne.2 (by omega)
  have n37 : ((b : Int) != 37) = true := by unfold bne; rw [d37]; rfl
  have d46 : ((b : Int) == 46) = false := beq_eq_false_iff_ne.2 (by omega)
  have n46 : ((b : Int) != 46) = true := by unfold bne; rw [d46]; rfl
  have q57 : decide ((b : Int) ≤ 57) = false := decide_eq_false (by omega)
  have i1 : (65 : Int) ≤ b := by omega
  have i2 : (b : Int) ≤ 90 := by omega
  clear h1 h2
  go_enter Tryd.func7, Tryd.ntmps7
  go_wp2_with fail
  refine (awake_any _ hm).mono ?_
  rintro e w1 ⟨rfl, HB⟩
  have HM := hm.later HB
  have hcv := conv_one w1 b
  have hB1 : ∀ o, Below w.heap.size w (w1.alloc o) := fun o => HB.alloc HB.size o
  have hM1 : ∀ o, MaxL (w1.alloc o) := fun o => hm.later (hB1 o)
  go_wp2_with fail
  refine (cL _).mono ?_
  rintro e w2 ⟨rfl, hb2⟩
  have HB2 := chain (hB1 _) hb2
  have HM2 := hm.later HB2
  go_wp2_with fail
  refine (cS _ HM2).mono ?_
  rintro e w3 ⟨rfl, hb3⟩
  have HB3 := chain HB2 hb3
  go_wp2_with fail
  refine (cV _).mono ?_
  rintro e w4 ⟨rfl, hb4⟩
  have HB4 := chain HB3 hb4
  have HM4 := hm.later HB4
  go_wp2_with fail
  refine (cK _ HM4).mono ?_
  rintro e w5 ⟨rfl, hb5⟩
  have HB5 := chain HB4 hb5
  go_wp2_with fail
  refine (cB _).mono ?_
  rintro e w' ⟨rfl, rfl⟩
  go_wp2_with fail
  refine (cG _).mono ?_
  rintro e w6 ⟨rfl, hb6⟩
  have HB6 := chain HB5 hb6
  go_wp2_with fail
  refine (cP _).mono ?_
  rintro e w' ⟨rfl, rfl⟩
  go_wp2
  go_ret
  exact ⟨rfl, HB6⟩
set_option maxRecDepth 100000 in
set_option maxHeartbeats 2000000 in
theorem bytes_d (b : Nat) (h1 : 91 ≤ b) (h2 : b ≤ 96) (w : World) (hm : MaxL w) :
    Calls Tryd.prog 7 #[.int .u8 b] w fun e w' => e = .returned (.bool true) ∧ Below w.heap.size w w' := by
  have hb : b < 256 := by omega
  have cL := fun w => Label_any (strOfNums [(b : Int)]) (by rw [one_size]; unfold maxLen; omega) w
  have cS := fun w hm => Subdomain_any (strOfNums [(b : Int)]) (by rw [one_size]; omega) w hm
  have cV := fun w => LabelValue_any (strOfNums [(b : Int)]) (by rw [one_size]; unfold maxLen; omega) w
  have cK := fun w hm => LabelKey_any (strOfNums [(b : Int)]) (by rw [one_size]; omega) w hm
  have cB := fun w => Verb_any (strOfNums [(b : Int)]) (by rw [one_size]; unfold maxLen; omega) w
  have cG := fun w => Segment_any (strOfNums [(b : Int)]) (by rw [one_size]; unfold maxLen; omega) w
  have cP := fun w => Path_any (strOfNums [(b : Int)]) (by rw [one_size]; unfold maxLen; omega) w
  rw [strOf_one, show labB (one b) = false by rw [one_lab ⟨b, hb⟩]; show edgeL b = _; unfold edgeL orB smallB digitB; simp; omega] at cL
  rw [strOf_one, show subB (one b) = false by rw [one_sub ⟨b, hb⟩]; show edgeL b = _; unfold edgeL orB smallB digitB; simp; omega] at cS
  rw [strOf_one, show valB (one b) = false by rw [one_val ⟨b, hb⟩]; show edgeV b = _; unfold edgeV orB smallB greatB digitB; simp; omega] at cV
  rw [strOf_one, show keyB (one b) = false by rw [one_key ⟨b, hb⟩]; show edgeV b = _; unfold edgeV orB smallB greatB digitB; simp; omega] at cK
  rw [strOf_one, show verbB (one b) = false by rw [one_verb ⟨b, hb⟩]; show smallB b = _; unfold smallB; simp; omega] at cB
  rw [strOf_one, show segB (one b) = true by rw [one_seg ⟨b, hb⟩]; show (seenB b && !decide (b = 47 ∨ b = 37 ∨ b = 46)) = _; unfold seenB; simp; omega] at cG
  rw [strOf_one, show pathB (one b) = false by rw [one_path ⟨b, hb⟩]; show decide (b = 47) = _; simp; omega] at cP
  have d47 : ((b : Int) == 47) = false := beq_eq_false_iff_ne.2 (by omega)
  have n47 : ((b : Int) != 47) = true := by unfold bne; rw [d47]; rfl
  have d37 : ((b : Int) == 37) = false := beq_eq_false_iff_ne.2 (by omega)
  have n37 : ((b : Int) != 37) = true := by unfold bne; rw [d37]; rfl
  have d46 : ((b : Int) == 46) = false := beq_eq_false_iff_ne.2 (by omega)
  have n46 : ((b : Int) != 46) = true := by unfold bne; rw [d46]; rfl
  have q57 : decide ((b : Int) ≤ 57) = false := decide_eq_false (by omega)
  have q90 : decide ((b : Int) ≤ 90) = false := decide_eq_false (by omega)
  have i1 : (91 : Int) ≤ b := by omega
  have i2 : (b : Int) ≤ 96 := by omega
  clear h1 h2
  go_enter Tryd.func7, Tryd.ntmps7
  go_wp2_with fail
  refine (awake_any _ hm).mono ?_
  rintro e w1 ⟨rfl, HB⟩
  have HM := hm.later HB
  have hcv := conv_one w1 b
  have hB1 : ∀ o, Below w.heap.size w (w1.alloc o) := fun o => HB.alloc HB.size o
  have hM1 : ∀ o, MaxL (w1.alloc o) := fun o => hm.later (hB1 o)
  go_wp2_with fail
  refine (cL _).mono ?_
  rintro e w2 ⟨rfl, hb2⟩
  have HB2 := chain (hB1 _) hb2
  have HM2 := hm.later HB2
  go_wp2_with fail
  refine (cS _ HM2).mono ?_
  rintro e w3 ⟨rfl, hb3⟩
  have HB3 := chain HB2 hb3
  go_wp2_with fail
  refine (cV _).mono ?_
  rintro e w4 ⟨rfl, hb4⟩
  have HB4 := chain HB3 hb4
  have HM4 := hm.later HB4
  go_wp2_with fail
  refine (cK _ HM4).mono ?_
  rintro e w5 ⟨rfl, hb5⟩
  have HB5 := chain HB4 hb5
  go_wp2_with fail
  refine (cB _).mono ?_
  rintro e w' ⟨rfl, rfl⟩
  go_wp2_with fail
  refine (cG _).mono ?_
  rintro e w6 ⟨rfl, hb6⟩
  have HB6 := chain HB5 hb6
  go_wp2_with fail
  refine (cP _).mono ?_
  rintro e w' ⟨rfl, rfl⟩
  go_wp2
  go_ret
  exact ⟨rfl, HB6⟩
set_option maxRecDepth 100000 in
set_option maxHeartbeats 2000000 in
theorem bytes_small (b : Nat) (h1 : 97 ≤ b) (h2 : b ≤ 122) (w : World) (hm : MaxL w) :
    Calls Tryd.prog 7 #[.int .u8 b] w fun e w' => e = .returned (.bool true) ∧ Below w.heap.size w w' := by
  have hb : b < 256 := by omega
  have cL := fun w => Label_any (strOfNums [(b : Int)]) (by rw [one_size]; unfold maxLen; omega) w
  have cS := fun w hm => Subdomain_any (strOfNums [(b : Int)]) (by rw [one_size]; omega) w hm
  have cV := fun w => LabelValue_any (strOfNums [(b : Int)]) (by rw [one_size]; unfold maxLen; omega) w
  have cK := fun w hm => LabelKey_any (strOfNums [(b : Int)]) (by rw [one_size]; omega) w hm
  have cB := fun w => Verb_any (strOfNums [(b : Int)]) (by rw [one_size]; unfold maxLen; omega) w
  have cG := fun w => Segment_any (strOfNums [(b : Int)]) (by rw [one_size]; unfold maxLen; omega) w
  have cP := fun w => Path_any (strOfNums [(b : Int)]) (by rw [one_size]; unfold maxLen; omega) w
  rw [strOf_one, show labB (one b) = true by rw [one_lab ⟨b, hb⟩]; show edgeL b = _; unfold edgeL orB smallB digitB; simp; omega] at cL
  rw [strOf_one, show subB (one b) = true by rw [one_sub ⟨b, hb⟩]; show edgeL b = _; unfold edgeL orB smallB digitB; simp; omega] at cS
  rw [strOf_one, show valB (one b) = true by rw [one_val ⟨b, hb⟩]; show edgeV b = _; unfold edgeV orB smallB greatB digitB; simp; omega] at cV
  rw [strOf_one, show keyB (one b) = true by rw [one_key ⟨b, hb⟩]; show edgeV b = _; unfold edgeV orB smallB greatB digitB; simp; omega] at cK
  rw [strOf_one, show verbB (one b) = true by rw [one_verb ⟨b, hb⟩]; show smallB b = _; unfold smallB; simp; omega] at cB
  rw [strOf_one, show segB (one b) = true by rw [one_seg ⟨b, hb⟩]; show (seenB b && !decide (b = 47 ∨ b = 37 ∨ b = 46)) = _; unfold seenB; simp; omega] at cG
  rw [strOf_one, show pathB (one b) = false by rw [one_path ⟨b, hb⟩]; show decide (b = 47) = _; simp; omega] at cP
  have d47 : ((b : Int) == 47) = false := beq_eq_false_iff_ne.2 (by omega)
  have n47 : ((b : Int) != 47) = true := by unfold bne; rw [d47]; rfl
  have d37 : ((b : Int) == 37) = false := beq_eq_false_iff_ne.2 (by omega)
  have n37 : ((b : Int) != 37) = true := by unfold bne; rw [d37]; rfl
  have d46 : ((b : Int) == 46) = false := beq_eq_false_iff_ne.2 (by omega)
  have n46 : ((b : Int) != 46) = true := by unfold bne; rw [d46]; rfl
  have q57 : decide ((b : Int) ≤ 57) = false := decide_eq_false (by omega)
  have q90 : decide ((b : Int) ≤ 90) = false := decide_eq_false (by omega)
  have i1 : (97 : Int) ≤ b := by omega
  have i2 : (b : Int) ≤ 122 := by omega
  clear h1 h2
  go_enter Tryd.func7, Tryd.ntmps7
  go_wp2_with fail
  refine (awake_any _ hm).mono ?_
  rintro e w1 ⟨rfl, HB⟩
  have HM := hm.later HB
  have hcv := conv_one w1 b
  have hB1 : ∀ o, Below w.heap.size w (w1.alloc o) := fun o => HB.alloc HB.size o
  have hM1 : ∀ o, MaxL (w1.alloc o) := fun o => hm.later (hB1 o)
  go_wp2_with fail
  refine (cL _).mono ?_
  rintro e w2 ⟨rfl, hb2⟩
  have HB2 := chain (hB1 _) hb2
  have HM2 := hm.later HB2
  go_wp2_with fail
  refine (cS _ HM2).mono ?_
  rintro e w3 ⟨rfl, hb3⟩
  have HB3 := chain HB2 hb3
  go_wp2_with fail
  refine (cV _).mono ?_
  rintro e w4 ⟨rfl, hb4⟩
  have HB4 := chain HB3 hb4
  have HM4 := hm.later HB4
  go_wp2_with fail
  refine (cK _ HM4).mono ?_
  rintro e w5 ⟨rfl, hb5⟩
  have HB5 := chain HB4 hb5
  go_wp2_with fail
  refine (cB _).mono ?_
  rintro e w' ⟨rfl, rfl⟩
  go_wp2_with fail
  refine (cG _).mono ?_
  rintro e w6 ⟨rfl, hb6⟩
  have HB6 := chain HB5 hb6
  go_wp2_with fail
  refine (cP _).mono ?_
  rintro e w' ⟨rfl, rfl⟩
  go_wp2
  go_ret
  exact ⟨rfl, HB6⟩
set_option maxRecDepth 100000 in
set_option maxHeartbeats 2000000 in
theorem bytes_e (b : Nat) (h1 : 123 ≤ b) (h2 : b ≤ 126) (w : World) (hm : MaxL w) :
    Calls Tryd.prog 7 #[.int .u8 b] w fun e w' => e = .returned (.bool true) ∧ Below w.heap.size w w' := by
  have hb : b < 256 := by omega
  have cL := fun w => Label_any (strOfNums [(b : Int)]) (by rw [one_size]; unfold maxLen; omega) w
  have cS := fun w hm => Subdomain_any (strOfNums [(b : Int)]) (by rw [one_size]; omega) w hm
  have cV := fun w => LabelValue_any (strOfNums [(b : Int)]) (by rw [one_size]; unfold maxLen; omega) w
  have cK := fun w hm => LabelKey_any (strOfNums [(b : Int)]) (by rw [one_size]; omega) w hm
  have cB := fun w => Verb_any (strOfNums [(b : Int)]) (by rw [one_size]; unfold maxLen; omega) w
  have cG := fun w => Segment_any (strOfNums [(b : Int)]) (by rw [one_size]; unfold maxLen; omega) w
  have cP := fun w => Path_any (strOfNums [(b : Int)]) (by rw [one_size]; unfold maxLen; omega) w
  rw [strOf_one, show labB (one b) = false by rw [one_lab ⟨b, hb⟩]; show edgeL b = _; unfold edgeL orB smallB digitB; simp; omega] at cL
  rw [strOf_one, show subB (one b) = false by rw [one_sub ⟨b, hb⟩]; show edgeL b = _; unfold edgeL orB smallB digitB; simp; omega] at cS
  rw [strOf_one, show valB (one b) = false by rw [one_val ⟨b, hb⟩]; show edgeV b = _; unfold edgeV orB smallB greatB digitB; simp; omega] at cV
  rw [strOf_one, show keyB (one b) = false by rw [one_key ⟨b, hb⟩]; show edgeV b = _; unfold edgeV orB smallB greatB digitB; simp; omega] at cK
  rw [strOf_one, show verbB (one b) = false by rw [one_verb ⟨b, hb⟩]; show smallB b = _; unfold smallB; simp; omega] at cB
  rw [strOf_one, show segB (one b) = true by rw [one_seg ⟨b, hb⟩]; show (seenB b && !decide (b = 47 ∨ b = 37 ∨ b = 46)) = _; unfold seenB; simp; omega] at cG
  rw [strOf_one, show pathB (one b) = false by rw [one_path ⟨b, hb⟩]; show decide (b = 47) = _; simp; omega] at cP
  have d47 : ((b : Int) == 47) = false := beq_eq_false_iff_ne.2 (by omega)
  have n47 : ((b : Int) != 47) = true := by unfold bne; rw [d47]; rfl
  have d37 : ((b : Int) == 37) = false := beq_eq_false_iff_ne.2 (by omega)
  have n37 : ((b : Int) != 37) = true := by unfold bne; rw [d37]; rfl
  have d46 : ((b : Int) == 46) = false := beq_eq_false_iff_ne.2 (by omega)
  have n46 : ((b : Int) != 46) = true := by unfold bne; rw [d46]; rfl
  have q57 : decide ((b : Int) ≤ 57) = false := decide_eq_false (by omega)
  have q90 : decide ((b : Int) ≤ 90) = false := decide_eq_false (by omega)
  have q122 : decide ((b : Int) ≤ 122) = false := decide_eq_false (by omega)
  have i1 : (123 : Int) ≤ b := by omega
  have i2 : (b : Int) ≤ 126 := by omega
  clear h1 h2
  go_enter Tryd.func7, Tryd.ntmps7
  go_wp2_with fail
  refine (awake_any _ hm).mono ?_
  rintro e w1 ⟨rfl, HB⟩
  have HM := hm.later HB
  have hcv := conv_one w1 b
  have hB1 : ∀ o, Below w.heap.size w (w1.alloc o) := fun o => HB.alloc HB.size o
  have hM1 : ∀ o, MaxL (w1.alloc o) := fun o => hm.later (hB1 o)
  go_wp2_with fail
  refine (cL _).mono ?_
  rintro e w2 ⟨rfl, hb2⟩
  have HB2 := chain (hB1 _) hb2
  have HM2 := hm.later HB2
  go_wp2_with fail
  refine (cS _ HM2).mono ?_
  rintro e w3 ⟨rfl, hb3⟩
  have HB3 := chain HB2 hb3
  go_wp2_with fail
  refine (cV _).mono ?_
  rintro e w4 ⟨rfl, hb4⟩
  have HB4 := chain HB3 hb4
  have HM4 := hm.later HB4
  go_wp2_with fail
  refine (cK _ HM4).mono ?_
  rintro e w5 ⟨rfl, hb5⟩
  have HB5 := chain HB4 hb5
  go_wp2_with fail
  refine (cB _).mono ?_
  rintro e w' ⟨rfl, rfl⟩
  go_wp2_with fail
  refine (cG _).mono ?_
  rintro e w6 ⟨rfl, hb6⟩
  have HB6 := chain HB5 hb6
  go_wp2_with fail
  refine (cP _).mono ?_
  rintro e w' ⟨rfl, rfl⟩
  go_wp2
  go_ret
  exact ⟨rfl, HB6⟩
set_option maxRecDepth 100000 in
set_option maxHeartbeats 2000000 in
theorem bytes_high (b : Nat) (h1 : 127 ≤ b) (h2 : b ≤ 255) (w : World) (hm : MaxL w) :
    Calls Tryd.prog 7 #[.int .u8 b] w fun e w' => e = .returned (.bool true) ∧ Below w.heap.size w w' := by
  have hb : b < 256 := by omega
  have cL := fun w => Label_any (strOfNums [(b : Int)]) (by rw [one_size]; unfold maxLen; omega) w
  have cS := fun w hm => Subdomain_any (strOfNums [(b : Int)]) (by rw [one_size]; omega) w hm
  have cV := fun w => LabelValue_any (strOfNums [(b : Int)]) (by rw [one_size]; unfold maxLen; omega) w
  have cK := fun w hm => LabelKey_any (strOfNums [(b : Int)]) (by rw [one_size]; omega) w hm
  have cB := fun w => Verb_any (strOfNums [(b : Int)]) (by rw [one_size]; unfold maxLen; omega) w
  have cG := fun w => Segment_any (strOfNums [(b : Int)]) (by rw [one_size]; unfold maxLen; omega) w
  have cP := fun w => Path_any (strOfNums [(b : Int)]) (by rw [one_size]; unfold maxLen; omega) w
  rw [strOf_one, show labB (one b) = false by rw [one_lab ⟨b, hb⟩]; show edgeL b = _; unfold edgeL orB smallB digitB; simp; omega] at cL
  rw [strOf_one, show subB (one b) = false by rw [one_sub ⟨b, hb⟩]; show edgeL b = _; unfold edgeL orB smallB digitB; simp; omega] at cS
  rw [strOf_one, show valB (one b) = false by rw [one_val ⟨b, hb⟩]; show edgeV b = _; unfold edgeV orB smallB greatB digitB; simp; omega] at cV
  rw [strOf_one, show keyB (one b) = false by rw [one_key ⟨b, hb⟩]; show edgeV b = _; unfold edgeV orB smallB greatB digitB; simp; omega] at cK
  rw [strOf_one, show verbB (one b) = false by rw [one_verb ⟨b, hb⟩]; show smallB b = _; unfold smallB; simp; omega] at cB
  rw [strOf_one, show segB (one b) = false by rw [one_seg ⟨b, hb⟩]; show (seenB b && !decide (b = 47 ∨ b = 37 ∨ b = 46)) = _; unfold seenB; simp; omega] at cG
  rw [strOf_one, show pathB (one b) = false by rw [one_path ⟨b, hb⟩]; show decide (b = 47) = _; simp; omega] at cP
  have d47 : ((b : Int) == 47) = false := beq_eq_false_iff_ne.2 (by omega)
  have n47 : ((b : Int) != 47) = true := by unfold bne; rw [d47]; rfl
  have d37 : ((b : Int) == 37) = false := beq_eq_false_iff_ne.2 (by omega)
  have n37 : ((b : Int) != 37) = true := by unfold bne; rw [d37]; rfl
  have d46 : ((b : Int) == 46) = false := beq_eq_false_iff_ne.2 (by omega)
  have n46 : ((b : Int) != 46) = true := by unfold bne; rw [d46]; rfl
  have q57 : decide ((b : Int) ≤ 57) = false := decide_eq_false (by omega)
  have q90 : decide ((b : Int) ≤ 90) = false := decide_eq_false (by omega)
  have q122 : decide ((b : Int) ≤ 122) = false := decide_eq_false (by omega)
  have i1 : (127 : Int) ≤ b := by omega
  have i2 : (b : Int) ≤ 255 := by omega
  clear h1 h2
  go_enter Tryd.func7, Tryd.ntmps7
  go_wp2_with fail
  refine (awake_any _ hm).mono ?_
  rintro e w1 ⟨rfl, HB⟩
  have HM := hm.later HB
  have hcv := conv_one w1 b
  have hB1 : ∀ o, Below w.heap.size w (w1.alloc o) := fun o => HB.alloc HB.size o
  have hM1 : ∀ o, MaxL (w1.alloc o) := fun o => hm.later (hB1 o)
  go_wp2_with fail
  refine (cL _).mono ?_
  rintro e w2 ⟨rfl, hb2⟩
  have HB2 := chain (hB1 _) hb2
  have HM2 := hm.later HB2
  go_wp2_with fail
  refine (cS _ HM2).mono ?_
  rintro e w3 ⟨rfl, hb3⟩
  have HB3 := chain HB2 hb3
  go_wp2_with fail
  refine (cV _).mono ?_
  rintro e w4 ⟨rfl, hb4⟩
  have HB4 := chain HB3 hb4
  have HM4 := hm.later HB4
  go_wp2_with fail
  refine (cK _ HM4).mono ?_
  rintro e w5 ⟨rfl, hb5⟩
  have HB5 := chain HB4 hb5
  go_wp2_with fail
  refine (cB _).mono ?_
  rintro e w' ⟨rfl, rfl⟩
  go_wp2_with fail
  refine (cG _).mono ?_
  rintro e w6 ⟨rfl, hb6⟩
  have HB6 := chain HB5 hb6
  go_wp2_with fail
  refine (cP _).mono ?_
  rintro e w' ⟨rfl, rfl⟩
  go_wp2
  go_ret
  exact ⟨rfl, HB6⟩
theorem bytes_walk (x : Int) (hx : (Lit.int .u8 x).wf = true) (w : World) (hm : MaxL w) :
    Calls Tryd.prog 7 #[.int .u8 x] w fun e w' => e = .returned (.bool true) ∧ Below w.heap.size w w' := by
  have h : 0 ≤ x ∧ x ≤ 255 := by
    have h' := hx
    simp only [Lit.wf, Bool.and_eq_true, decide_eq_true_eq] at h'
    exact h'
  obtain ⟨b, rfl⟩ := Int.eq_ofNat_of_zero_le h.1
  by_cases k0 : b ≤ 32
  · exact bytes_low b (by omega) k0 w hm
  by_cases k1 : b ≤ 36
  · exact bytes_a b (by omega) k1 w hm
  by_cases k2 : b ≤ 37
  · exact bytes_pc b (by omega) k2 w hm
  by_cases k3 : b ≤ 45
  · exact bytes_b b (by omega) k3 w hm
  by_cases k4 : b ≤ 46
  · exact bytes_dot b (by omega) k4 w hm
  by_cases k5 : b ≤ 47
  · exact bytes_slash b (by omega) k5 w hm
  by_cases k6 : b ≤ 57
  · exact bytes_digit b (by omega) k6 w hm
  by_cases k7 : b ≤ 64
  · exact bytes_c b (by omega) k7 w hm
  by_cases k8 : b ≤ 90
  · exact bytes_great b (by omega) k8 w hm
  by_cases k9 : b ≤ 96
  · exact bytes_d b (by omega) k9 w hm
  by_cases k10 : b ≤ 122
  · exact bytes_small b (by omega) k10 w hm
  by_cases k11 : b ≤ 126
  · exact bytes_e b (by omega) k11 w hm
  exact bytes_high b (by omega) (by omega) w hm
end Go.Proofs.YtdiighgnlckllaaDoor.nam

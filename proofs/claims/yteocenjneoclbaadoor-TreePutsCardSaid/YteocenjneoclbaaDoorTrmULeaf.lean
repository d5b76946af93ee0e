/- Layer 1: the contracts of the functions that call nothing with a loop over points: leadSize, pointSize, Next, Encode, and the document's own Encode and Next. -/
import Derived.BigQuiet
import Derived.Deep.QuietTactic
import Derived.Laws.BitsAllLaws
import Derived.Laws.BitsLemmas
import Derived.Laws.Rows
import Derived.Lib.Hide
import Derived.Test.YteocenjneoclbaaDoorRows
import Derived.Test.YteocenjneoclbaaDoorTrmUPure
import Derived.WalkKit
import Derived.WalkLawsBesides
import Derived.WalkSpells
namespace Go.Proofs.YteocenjneoclbaaDoor.utf
open Go.RowKit

def leadCells : Array Value := #[.int .u8 128, .int .u8 0, .int .i64 127, .int .u8 224, .int .u8 192, .int .i64 2047, .int .u8 240, .int .u8 224, .int .i64 65535, .int .u8 248, .int .u8 240, .int .i64 1114111]
/-- The table of leads lies in its block as it was laid. -/
def Tab (w : World) : Prop := ∃ t fr, w.heap[1]? = some (.cells leadCells t fr)
theorem Tab.pos {w : World} (h : Tab w) : 1 < w.heap.size := by
  obtain ⟨t, fr, h⟩ := h
  exact (Array.getElem?_eq_some_iff.1 h).1
theorem Tab.below {w w' : World} {B : Nat} (h : Tab w) (hb : Below B w w') (hB : 1 < B) : Tab w' := by
  obtain ⟨t, fr, h⟩ := h
  exact ⟨t, fr, (hb.block 1 hB).trans h⟩
theorem Tab.self {w w' : World} (h : Tab w) (hb : Below w.heap.size w w') : Tab w' := h.below hb h.pos
theorem Tab.drewN {w : World} (h : Tab w) (n : Nat) : Tab (w.drewN n) := h
theorem Tab.cell {w : World} (h : Tab w) (i : Nat) : w.cell? ⟨1, i, none⟩ = leadCells[i]? := by
  obtain ⟨t, fr, h⟩ := h
  exact cell_of_row w 1 i leadCells t fr h

theorem lead_ix0 (w : World) : (Instr.index 109 (.agg leadCells) (.int .i64 0)).run Tryd.prog w = .ok (.agg #[.int .u8 128, .int .u8 0, .int .i64 127]) w := by kernel_rfl
theorem lead_ix1 (w : World) : (Instr.index 109 (.agg leadCells) (.int .i64 1)).run Tryd.prog w = .ok (.agg #[.int .u8 224, .int .u8 192, .int .i64 2047]) w := by kernel_rfl
theorem lead_ix2 (w : World) : (Instr.index 109 (.agg leadCells) (.int .i64 2)).run Tryd.prog w = .ok (.agg #[.int .u8 240, .int .u8 224, .int .i64 65535]) w := by kernel_rfl
theorem lead_ix3 (w : World) : (Instr.index 109 (.agg leadCells) (.int .i64 3)).run Tryd.prog w = .ok (.agg #[.int .u8 248, .int .u8 240, .int .i64 1114111]) w := by kernel_rfl
theorem lead_size : (Tryd.prog.info? 109).map (·.size) = some leadCells.size := by kernel_rfl

theorem byte_and (m k : Nat) (hm : m < 256) (c : Nat) (hc : c < 256) (P : Nat → Bool) (h : ∀ x : Fin 256, ((x.val &&& m) == k) = P x.val) : (bits .and .u8 (c : Int) (m : Int) == (k : Int)) = P c := by
  rw [u8_and_nat c m hc hm, ← h ⟨c, hc⟩]
  rw [Bool.eq_iff_iff]
  simp
  omega
theorem lead_t0 (c : Nat) (hc : c < 256) : (bits .and .u8 (c : Int) 128 == 0) = decide (c < 128) := byte_and 128 0 (by omega) c hc (fun c => decide (c < 128)) (by decide +kernel)
theorem lead_t1 (c : Nat) (hc : c < 256) : (bits .and .u8 (c : Int) 224 == 192) = decide (192 ≤ c ∧ c < 224) := byte_and 224 192 (by omega) c hc (fun c => decide (192 ≤ c ∧ c < 224)) (by decide +kernel)
theorem lead_t2 (c : Nat) (hc : c < 256) : (bits .and .u8 (c : Int) 240 == 224) = decide (224 ≤ c ∧ c < 240) := byte_and 240 224 (by omega) c hc (fun c => decide (224 ≤ c ∧ c < 240)) (by decide +kernel)
theorem lead_t3 (c : Nat) (hc : c < 256) : (bits .and .u8 (c : Int) 248 == 240) = decide (240 ≤ c ∧ c < 248) := byte_and 248 240 (by omega) c hc (fun c => decide (240 ≤ c ∧ c < 248)) (by decide +kernel)

theorem ret_int {k : IntKind} {a b : Int} (h : a = b) : Ending.returned (.int k a) = .returned (.int k b) := by rw [h]

def miss (c k : Nat) : Prop := (0 < k → ¬ c < 128) ∧ (1 < k → ¬ (192 ≤ c ∧ c < 224)) ∧ (2 < k → ¬ (224 ≤ c ∧ c < 240)) ∧ (3 < k → ¬ (240 ≤ c ∧ c < 248))

theorem lead_hit {c k : Nat} (h : (k = 0 ∧ c < 128) ∨ (k = 1 ∧ 192 ≤ c ∧ c < 224) ∨ (k = 2 ∧ 224 ≤ c ∧ c < 240) ∨ (k = 3 ∧ 240 ≤ c ∧ c < 248)) : lsz c = k + 1 := by
  unfold lsz
  (repeat' split) <;> omega
theorem lead_out {c : Nat} (hm : miss c 4) (hc : c < 256) : lsz c = 0 := by
  unfold miss at hm
  unfold lsz
  (repeat' split) <;> omega

set_option maxRecDepth 100000 in
set_option maxHeartbeats 400000 in
theorem leadSize_any (c : Nat) (hc : c < 256) (w : World) (hT : Tab w) :
    Calls Tryd.prog 94 #[.int .u8 c] w fun e w' => e = .returned (.int .i64 (lsz c)) ∧ Below w.heap.size w w' := by
  obtain ⟨tt, fr, hg⟩ := hT
  have i0 := lead_ix0
  have i1 := lead_ix1
  have i2 := lead_ix2
  have i3 := lead_ix3
  go_enter Tryd.func94, Tryd.ntmps94
  go_wp2_with (refine wpList_load_row rfl 109 _ rfl 1 rfl tt leadCells fr _ hg Tryd.underlying109 rfl lead_size ?_)
  go_loopw [6] (fun i wr => ∃ k : Nat, k ≤ 4 ∧ i = .int .i64 k ∧ Below w.heap.size w wr ∧ miss c k) (fun i _ => 4 - (intOf i).toNat)
  case atStart => exact ⟨0, by omega, rfl, Below.refl _ _, by unfold miss; omega⟩
  case round =>
    obtain ⟨k, hk, rfl, hB, hm⟩ := hrel
    match k, hk with
    | 0, _ =>
      by_cases h : c < 128
      · have ht : (bits .and .u8 (c : Int) 128 == 0) = true := by rw [lead_t0 c hc]; exact decide_eq_true h
        have hz : ((lsz c : Nat) : Int) = 1 := by rw [lead_hit (k := 0) (by omega)]; rfl
        have Hz := Lib.hid hz
        clear hz
        go_wp2
        go_ret
        exact ⟨ret_int Hz.out.symm, (hB.alloc hB.size _)⟩
      · have ht : (bits .and .u8 (c : Int) 128 == 0) = false := by rw [lead_t0 c hc]; exact decide_eq_false h
        go_wp2
        go_roundw
        case rel => exact ⟨1, by omega, rfl, (hB.alloc hB.size _), by unfold miss at hm ⊢; omega⟩
        case measure => simp [intOf]
    | 1, _ =>
      by_cases h : 192 ≤ c ∧ c < 224
      · have ht : (bits .and .u8 (c : Int) 224 == 192) = true := by rw [lead_t1 c hc]; exact decide_eq_true h
        have hz : ((lsz c : Nat) : Int) = 2 := by rw [lead_hit (k := 1) (by omega)]; rfl
        have Hz := Lib.hid hz
        clear hz
        go_wp2
        go_ret
        exact ⟨ret_int Hz.out.symm, (hB.alloc hB.size _)⟩
      · have ht : (bits .and .u8 (c : Int) 224 == 192) = false := by rw [lead_t1 c hc]; exact decide_eq_false h
        go_wp2
        go_roundw
        case rel => exact ⟨2, by omega, rfl, (hB.alloc hB.size _), by unfold miss at hm ⊢; omega⟩
        case measure => simp [intOf]
    | 2, _ =>
      by_cases h : 224 ≤ c ∧ c < 240
      · have ht : (bits .and .u8 (c : Int) 240 == 224) = true := by rw [lead_t2 c hc]; exact decide_eq_true h
        have hz : ((lsz c : Nat) : Int) = 3 := by rw [lead_hit (k := 2) (by omega)]; rfl
        have Hz := Lib.hid hz
        clear hz
        go_wp2
        go_ret
        exact ⟨ret_int Hz.out.symm, (hB.alloc hB.size _)⟩
      · have ht : (bits .and .u8 (c : Int) 240 == 224) = false := by rw [lead_t2 c hc]; exact decide_eq_false h
        go_wp2
        go_roundw
        case rel => exact ⟨3, by omega, rfl, (hB.alloc hB.size _), by unfold miss at hm ⊢; omega⟩
        case measure => simp [intOf]
    | 3, _ =>
      by_cases h : 240 ≤ c ∧ c < 248
      · have ht : (bits .and .u8 (c : Int) 248 == 240) = true := by rw [lead_t3 c hc]; exact decide_eq_true h
        have hz : ((lsz c : Nat) : Int) = 4 := by rw [lead_hit (k := 3) (by omega)]; rfl
        have Hz := Lib.hid hz
        clear hz
        go_wp2
        go_ret
        exact ⟨ret_int Hz.out.symm, (hB.alloc hB.size _)⟩
      · have ht : (bits .and .u8 (c : Int) 248 == 240) = false := by rw [lead_t3 c hc]; exact decide_eq_false h
        go_wp2
        go_roundw
        case rel => exact ⟨4, by omega, rfl, (hB.alloc hB.size _), by unfold miss at hm ⊢; omega⟩
        case measure => simp [intOf]
    | 4, _ =>
      have hz : ((lsz c : Nat) : Int) = 0 := by rw [lead_out hm hc]; rfl
      have Hz := Lib.hid hz
      clear hz
      go_wp2
      go_ret
      exact ⟨ret_int Hz.out.symm, hB⟩

def missP (p : Int) (k : Nat) : Prop := (0 < k → ¬ p ≤ 127) ∧ (1 < k → ¬ p ≤ 2047) ∧ (2 < k → ¬ p ≤ 65535) ∧ (3 < k → ¬ p ≤ 1114111)
theorem psz_hit {p : Int} {k : Nat} (hi : 0 ≤ p ∧ ¬ (55296 ≤ p ∧ p ≤ 57343)) (hm : missP p k) (h : (k = 0 ∧ p ≤ 127) ∨ (k = 1 ∧ p ≤ 2047) ∨ (k = 2 ∧ p ≤ 65535) ∨ (k = 3 ∧ p ≤ 1114111)) : psz p = k + 1 := by
  have hp : isPt p = true := (isPt_iff p).2 (by omega)
  unfold missP at hm
  unfold psz
  rw [if_pos hp]
  (repeat' split) <;> omega
theorem psz_out {p : Int} (h : ¬ (0 ≤ p ∧ p ≤ 1114111 ∧ ¬ (55296 ≤ p ∧ p ≤ 57343))) : psz p = 0 := by
  rw [psz_zero]
  cases e : isPt p
  · rfl
  · exact absurd ((isPt_iff p).1 e) h

set_option maxRecDepth 100000 in
set_option maxHeartbeats 400000 in
theorem pointSize_no (p : Int) (w : World) (h : p < 0 ∨ (55296 ≤ p ∧ p ≤ 57343)) :
    Calls Tryd.prog 95 #[.int .i64 p] w fun e w' => e = .returned (.int .i64 0) ∧ Below w.heap.size w w' := by
  rcases h with h | ⟨h, h'⟩
  · go_enter Tryd.func95, Tryd.ntmps95
    go_wp2
    go_ret
    exact ⟨rfl, Below.refl _ _⟩
  · have h0 : 0 ≤ p := by omega
    go_enter Tryd.func95, Tryd.ntmps95
    go_wp2
    go_ret
    exact ⟨rfl, Below.refl _ _⟩

set_option maxRecDepth 100000 in
set_option maxHeartbeats 400000 in
theorem pointSize_yes (p : Int) (h0 : 0 ≤ p) (hs : p < 55296 ∨ 57343 < p) (w : World) (hT : Tab w) :
    Calls Tryd.prog 95 #[.int .i64 p] w fun e w' => e = .returned (.int .i64 (psz p)) ∧ Below w.heap.size w w' := by
  obtain ⟨tt, fr, hg⟩ := hT
  have i0 := lead_ix0
  have i1 := lead_ix1
  have i2 := lead_ix2
  have i3 := lead_ix3
  have hi : 0 ≤ p ∧ ¬ (55296 ≤ p ∧ p ≤ 57343) := ⟨h0, by omega⟩
  have Hi := Lib.hid hi
  clear hi
  rcases hs with hs | hs
  all_goals
    go_enter Tryd.func95, Tryd.ntmps95
    go_wp2_with (refine wpList_load_row rfl 109 _ rfl 1 rfl tt leadCells fr _ hg Tryd.underlying109 rfl lead_size ?_)
    go_loopw [16] (fun i wr => ∃ k : Nat, k ≤ 4 ∧ i = .int .i64 k ∧ Below w.heap.size w wr ∧ missP p k) (fun i _ => 4 - (intOf i).toNat)
    case atStart => exact ⟨0, by omega, rfl, Below.refl _ _, by unfold missP; omega⟩
    case round =>
      obtain ⟨k, hk, rfl, hB, hm⟩ := hrel
      match k, hk with
      | 0, _ =>
        by_cases h : p ≤ 127
        · try (exfalso; omega)
          all_goals
            have hz : ((psz p : Nat) : Int) = 1 := by rw [psz_hit Hi.out hm (k := 0) (by omega)]; rfl
            have Hz := Lib.hid hz
            clear hz
            go_wp2
            go_ret
            exact ⟨ret_int Hz.out.symm, (hB.alloc hB.size _)⟩
        · try (exfalso; omega)
          all_goals
            go_wp2
            go_roundw
            case rel => exact ⟨1, by omega, rfl, (hB.alloc hB.size _), by unfold missP at hm ⊢; omega⟩
            case measure => simp [intOf]
      | 1, _ =>
        by_cases h : p ≤ 2047
        · try (exfalso; omega)
          all_goals
            have hz : ((psz p : Nat) : Int) = 2 := by rw [psz_hit Hi.out hm (k := 1) (by omega)]; rfl
            have Hz := Lib.hid hz
            clear hz
            go_wp2
            go_ret
            exact ⟨ret_int Hz.out.symm, (hB.alloc hB.size _)⟩
        · try (exfalso; omega)
          all_goals
            go_wp2
            go_roundw
            case rel => exact ⟨2, by omega, rfl, (hB.alloc hB.size _), by unfold missP at hm ⊢; omega⟩
            case measure => simp [intOf]
      | 2, _ =>
        by_cases h : p ≤ 65535
        · try (exfalso; omega)
          all_goals
            have hz : ((psz p : Nat) : Int) = 3 := by rw [psz_hit Hi.out hm (k := 2) (by omega)]; rfl
            have Hz := Lib.hid hz
            clear hz
            go_wp2
            go_ret
            exact ⟨ret_int Hz.out.symm, (hB.alloc hB.size _)⟩
        · try (exfalso; omega)
          all_goals
            go_wp2
            go_roundw
            case rel => exact ⟨3, by omega, rfl, (hB.alloc hB.size _), by unfold missP at hm ⊢; omega⟩
            case measure => simp [intOf]
      | 3, _ =>
        by_cases h : p ≤ 1114111
        · try (exfalso; omega)
          all_goals
            have hz : ((psz p : Nat) : Int) = 4 := by rw [psz_hit Hi.out hm (k := 3) (by omega)]; rfl
            have Hz := Lib.hid hz
            clear hz
            go_wp2
            go_ret
            exact ⟨ret_int Hz.out.symm, (hB.alloc hB.size _)⟩
        · try (exfalso; omega)
          all_goals
            go_wp2
            go_roundw
            case rel => exact ⟨4, by omega, rfl, (hB.alloc hB.size _), by unfold missP at hm ⊢; omega⟩
            case measure => simp [intOf]
      | 4, _ =>
        have hz : ((psz p : Nat) : Int) = 0 := by rw [psz_out (by unfold missP at hm; omega)]; rfl
        have Hz := Lib.hid hz
        clear hz
        go_wp2
        go_ret
        exact ⟨ret_int Hz.out.symm, hB⟩

theorem pointSize_any (p : Int) (w : World) (hT : Tab w) :
    Calls Tryd.prog 95 #[.int .i64 p] w fun e w' => e = .returned (.int .i64 (psz p)) ∧ Below w.heap.size w w' := by
  by_cases h : p < 0 ∨ (55296 ≤ p ∧ p ≤ 57343)
  · have e : psz p = 0 := psz_out (by omega)
    rw [e]
    exact pointSize_no p w h
  · exact pointSize_yes p (by omega) (by omega) w hT
end Go.Proofs.YteocenjneoclbaaDoor.utf

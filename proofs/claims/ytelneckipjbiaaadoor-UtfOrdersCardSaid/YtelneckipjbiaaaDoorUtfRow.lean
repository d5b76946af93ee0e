/- Layer 1: rows of numbers that are compared, and turned into a text. -/
import Derived.Test.YtelneckipjbiaaaDoorUtfRefP
namespace Go.Proofs.YtelneckipjbiaaaDoor.utf
open Go.RowKit

/-- The slice at A reads as xs. -/
def RowIs (w : World) (A : Option Addr) (xs : List Int) : Prop := 0 < xs.length → ∃ g, A = some ⟨g, 0, none⟩ ∧ g < w.heap.size ∧ ∀ j x, xs[j]? = some x → w.cell? ⟨g, j, none⟩ = some (.int .i64 x)
theorem RowIs.below {w w' : World} {A : Option Addr} {xs : List Int} (h : RowIs w A xs) (hb : Below w.heap.size w w') : RowIs w' A xs := fun hn => by
  obtain ⟨g, e, hg, hc⟩ := h hn
  exact ⟨g, e, Nat.lt_of_lt_of_le hg hb.size, fun j x hx => (hb.cell (p := ⟨g, j, none⟩) hg).trans (hc j x hx)⟩
theorem RowIs.take {w : World} {A : Option Addr} {xs : List Int} (h : RowIs w A xs) (n : Nat) : RowIs w A (xs.take n) := fun hn => by
  rw [List.length_take] at hn
  obtain ⟨g, e, hg, hc⟩ := h (by omega)
  refine ⟨g, e, hg, fun j x hx => hc j x ?_⟩
  rw [List.getElem?_take] at hx
  split at hx
  · exact hx
  · cases hx
theorem row_of_own {w : World} {base : Nat} {v : Value} {xs : List Int} (h : w.ownsRow base 3 1 v xs.length (xs.map (Value.int .i64))) :
    ∃ A c, v = .slice A xs.length c ∧ RowIs w A xs ∧ xs.length ≤ c := by
  rcases h.2 with ⟨rfl, e⟩ | ⟨g, cap, cur, rfl, hg, hh, hc, _⟩
  · rw [e]
    exact ⟨none, 0, rfl, fun hn => by omega, by omega⟩
  · refine ⟨some ⟨g, 0, none⟩, cap, rfl, fun _ => ⟨g, rfl, (Array.getElem?_eq_some_iff.1 hh).1, fun j x hx => ?_⟩, hc⟩
    have := h.cells (g := g) rfl j (.int .i64 x) (by rw [List.getElem?_map, hx]; rfl)
    have e : (⟨g, 0, none⟩ : Addr).add j = ⟨g, j, none⟩ := by unfold Addr.add; split <;> simp_all
    rw [e] at this
    exact this

theorem encs_len (xs : List Int) : (xs.flatMap enc).length ≤ 4 * xs.length := by
  induction xs with
  | nil => simp
  | cons x r ih =>
    have := psz_le x
    rw [List.flatMap_cons, List.length_append, enc_length, List.length_cons]
    omega
theorem ba_append (a b : List UInt8) : (⟨a.toArray⟩ ++ ⟨b.toArray⟩ : ByteArray) = ⟨(a ++ b).toArray⟩ := by
  apply ByteArray.ext
  simp

set_option maxHeartbeats 400000 in
theorem same_nil (A B : Option Addr) (c d : Nat) (w : World) :
    Calls Tryd.prog 18 #[.slice A 0 c, .slice B 0 d] w fun e w' => e = .returned (.bool true) ∧ Below w.heap.size w w' := by
  go_enter Tryd.func18, Tryd.ntmps18
  go_wp2
  go_loopw [5] (fun i wr => i = .int .i64 0 ∧ Below w.heap.size w wr) (fun _ _ => 0)
  case atStart => exact ⟨rfl, Below.refl _ _⟩
  case round =>
    obtain ⟨rfl, hB⟩ := hrel
    go_wp2
    go_ret
    exact ⟨rfl, hB⟩

set_option maxHeartbeats 1000000 in
theorem same_cons (g g' : Nat) (c d : Nat) (xs : List Int) (h1000 : xs.length ≤ 1000) (w : World) (h1 : ∀ j x, xs[j]? = some x → w.cell? ⟨g, j, none⟩ = some (.int .i64 x)) (h2 : ∀ j x, xs[j]? = some x → w.cell? ⟨g', j, none⟩ = some (.int .i64 x)) :
    Calls Tryd.prog 18 #[.slice (some ⟨g, 0, none⟩) xs.length c, .slice (some ⟨g', 0, none⟩) xs.length d] w fun e w' => e = .returned (.bool true) ∧ Below w.heap.size w w' := by
  have H1 := Lib.hid h1
  have H2 := Lib.hid h2
  clear h1 h2
  go_enter Tryd.func18, Tryd.ntmps18
  go_wp2
  go_loopw [5] (fun i wr => ∃ k m : Nat, k ≤ xs.length ∧ i = .int .i64 k ∧ wr = w.drewN m) (fun i _ => xs.length - (intOf i).toNat)
  case atStart => exact ⟨0, 0, by omega, rfl, rfl⟩
  case round =>
    obtain ⟨k, m, hk, rfl, rfl⟩ := hrel
    by_cases hlt : k < xs.length
    · obtain ⟨x, hx⟩ : ∃ x, xs[k]? = some x := ⟨_, List.getElem?_eq_getElem hlt⟩
      have c1 := H1.out k x hx
      have c2 := H2.out k x hx
      clear hx
      have hi0 : (0 : Int) ≤ k := by omega
      have hi1 : (k : Int) < xs.length := by omega
      go_wp2
      go_quiet (fail)
      go_wp2
      go_roundw
      case rel => exact ⟨k + 1, m + nq, by omega, by go_num, rfl⟩
      case measure => simp [intOf]; omega
    · obtain rfl : k = xs.length := by omega
      go_wp2
      go_ret
      exact ⟨rfl, bdrewN (Below.refl _ _) m⟩

set_option maxRecDepth 100000 in
set_option maxHeartbeats 1000000 in
theorem text_any (A : Option Addr) (c : Nat) (xs : List Int) (h1000 : xs.length ≤ 1000) (w : World) (hr : RowIs w A xs) :
    Calls Tryd.prog 19 #[.slice A xs.length c] w fun e w' => e = .returned (.string ⟨(xs.flatMap enc).toArray⟩) ∧ Below w.heap.size w w' := by
  have Hr := Lib.hid hr
  clear hr
  go_enter Tryd.func19, Tryd.ntmps19
  go_wp2
  go_loopw [3, 4] (fun s i wr => ∃ k : Nat, k ≤ xs.length ∧ i = .int .i64 k ∧ s = .string ⟨((xs.take k).flatMap enc).toArray⟩ ∧ Below w.heap.size w wr) (fun _ i _ => xs.length - (intOf i).toNat)
  case atStart => exact ⟨0, by omega, rfl, rfl, Below.refl _ _⟩
  case round =>
    obtain ⟨k, hk, rfl, rfl, hB⟩ := hrel
    by_cases hlt : k < xs.length
    · obtain ⟨x, hx⟩ : ∃ x, xs[k]? = some x := ⟨_, List.getElem?_eq_getElem hlt⟩
      obtain ⟨g, rfl, hg, hc⟩ := Hr.out (by omega)
      have c1 : _ = some (Value.int .i64 x) := (hB.cell (p := ⟨g, k, none⟩) hg).trans (hc k x hx)
      have Hsn := Lib.hid (take_snoc xs k x hx)
      clear hc hx
      have hpl := encs_len (xs.take k)
      have hxl : (enc x).length ≤ 4 := by rw [enc_length]; exact psz_le x
      have hkl : (xs.take k).length ≤ 1000 := by rw [List.length_take]; omega
      obtain ⟨pre, hpre⟩ : ∃ pre, (xs.take k).flatMap enc = pre := ⟨_, rfl⟩
      rw [hpre] at hpl ⊢
      have hsum : pre.length + (enc x).length ≤ 5000 := by omega
      have Hpre := Lib.hid hpre
      clear hpre hpl hxl hkl
      go_wp2_with fail
      refine (refEncode_any x _).mono ?_
      rintro e w3 ⟨rfl, hb3⟩
      go_wp2
      go_roundw
      case rel => exact ⟨k + 1, by omega, by go_num, by rw [Hsn.out, List.flatMap_append, Hpre.out, ba_append]; simp, hB.trans (hb3.mono hB.size)⟩
      case measure => simp [intOf]; omega
    · obtain rfl : k = xs.length := by omega
      rw [List.take_length]
      go_wp2
      go_ret
      exact ⟨rfl, hB⟩
end Go.Proofs.YtelneckipjbiaaaDoor.utf

/- Layer 3: plain mathematics: labels put together. Nothing of the program. -/
import Derived.Test.YthflpgeonllgdaaDoorNamPure2
namespace Go.Proofs.YthflpgeonllgdaaDoor.nam

/-- A word: some letters and digits, at most five. -/
def plain (x : List UInt8) : Prop := x ≠ [] ∧ x.length ≤ 5 ∧ ∀ b ∈ x, edgeL b.toNat = true
theorem plain_len {x : List UInt8} (h : plain x) : 1 ≤ x.length := by
  have := List.length_pos_iff.2 h.1; omega
theorem plain_lab {x : List UInt8} (h : plain x) : labB x = true := by
  have h1 := plain_len h
  unfold labB
  rw [madeB_all fun b hb => ⟨h.2.2 b hb, edge_or _ _ _ (h.2.2 b hb)⟩, decide_eq_true h1, decide_eq_true (by have := h.2.1; omega : x.length ≤ 63)]; rfl
theorem plain_val {x : List UInt8} (h : plain x) : valB x = true := by
  unfold valB
  rw [madeB_all fun b hb => ⟨edgeV_of (h.2.2 b hb), edge_or _ _ _ (edgeV_of (h.2.2 b hb))⟩, decide_eq_true (Nat.zero_le _), decide_eq_true (by have := h.2.1; omega : x.length ≤ 63)]; rfl
theorem plain_not {x : List UInt8} (h : plain x) {c : UInt8} (hc : edgeL c.toNat = false) : c ∉ x := fun e => by rw [h.2.2 c e] at hc; cases hc
theorem plain_name {x : List UInt8} (h : plain x) : keyNameB x = true := by
  unfold keyNameB
  rw [plain_val h, beq_eq_false_iff_ne.2 h.1]; rfl
theorem plain_key {x : List UInt8} (h : plain x) : keyB x = true := by
  unfold keyB
  rw [cut_none (plain_not h (by decide))]
  exact plain_name h
theorem key_sub {x y : List UInt8} (h : (47 : UInt8) ∉ x) : keyB (x ++ 47 :: y) = (subB x && keyNameB y) := by
  unfold keyB
  rw [cut_first h]; rfl
theorem sub_nil : subB [] = false := by decide +kernel
theorem key_slash {x : List UInt8} : keyB (47 :: x) = false := by
  have := key_sub (x := []) (y := x) (by simp)
  rw [List.nil_append] at this
  rw [this, sub_nil]; rfl

/-- Words put together with dots. -/
def Jd (k : Nat) (x : List UInt8) : Prop := x.length ≤ 6 * k ∧ (k = 0 → x = []) ∧ (0 < k → ∀ p ∈ spl 46 x, plain p)
theorem Jd_none : Jd 0 [] := ⟨by simp, fun _ => rfl, fun h => absurd h (by omega)⟩
theorem Jd_first {x : List UInt8} (h : plain x) : Jd 1 x := by
  refine ⟨by have := h.2.1; omega, fun e => by omega, fun _ p hp => ?_⟩
  rw [spl_single (plain_not h (by decide))] at hp
  rw [List.mem_singleton.1 hp]; exact h
theorem Jd_next {k : Nat} {x y : List UInt8} (h : Jd k x) (hk : 0 < k) (hy : plain y) : Jd (k + 1) (x ++ [46] ++ y) := by
  refine ⟨by have h1 := h.1; have h2 := hy.2.1; simp; omega, fun e => by omega, fun _ p hp => ?_⟩
  rw [List.append_assoc, List.singleton_append, spl_app, spl_single (plain_not hy (by decide))] at hp
  rcases List.mem_append.1 hp with hp | hp
  · exact h.2.2 hk p hp
  · rw [List.mem_singleton.1 hp]; exact hy
section
variable {k : Nat} {x : List UInt8}
theorem Jd_bytes (h : Jd k x) (hk : 0 < k) {b : UInt8} (hb : b ∈ x) : b = 46 ∨ edgeL b.toNat = true := by
  rcases spl_mem (c := 46) hb with e | ⟨p, hp, hbp⟩
  · exact .inl e
  · exact .inr ((h.2.2 hk p hp).2.2 b hbp)
theorem Jd_sub (h : Jd k x) (hk : 0 < k) (h8 : k ≤ 8) : subB x = true :=
  subB_iff.2 ⟨by have := h.1; omega, fun p hp => plain_lab (h.2.2 hk p hp)⟩
theorem Jd_slash (h : Jd k x) (hk : 0 < k) : (47 : UInt8) ∉ x := fun e => by
  rcases Jd_bytes h hk e with e | e
  · cases e
  · revert e; decide
theorem Jd_key (h : Jd k x) (hk : 0 < k) (h8 : k ≤ 8) {y : List UInt8} (hy : plain y) : keyB (x ++ [47] ++ y) = true := by
  rw [List.append_assoc, List.singleton_append, key_sub (Jd_slash h hk), Jd_sub h hk h8, plain_name hy]; rfl
theorem Jd_key0 (h : Jd k x) (hk : 0 < k) : keyB (x ++ [47]) = false := by
  rw [key_sub (Jd_slash h hk)]
  show (subB x && keyNameB []) = false
  rw [show keyNameB [] = false from rfl, Bool.and_false]
theorem Jd_sub0 : subB (x ++ [46]) = false := by
  cases e : subB (x ++ [46])
  · rfl
  · have := (subB_iff.1 e).2 [] (by rw [spl_app]; simp [spl])
    revert this; decide
theorem Jd_lab0 : labB (x ++ [46, 120]) = false := by
  cases e : labB (x ++ [46, 120])
  · rfl
  · have := (labB_iff.1 e).2.1 46 (by simp)
    revert this; decide
theorem Jd_ne (h : Jd k x) (hk : 0 < k) : x ≠ [] := fun e => by
  have := (h.2.2 hk [] (by rw [e]; simp [spl])).1
  exact this rfl
theorem Jd_head (h : Jd k x) (hk : 0 < k) : x.head? ≠ some 46 := fun e => by
  cases hs : spl 46 x with
  | nil => exact spl_ne 46 x hs
  | cons p t =>
    have hp := h.2.2 hk p (by rw [hs]; simp)
    rw [spl_head hs hp.1] at e
    have := hp.2.2 46 (List.mem_of_mem_head? e)
    revert this; decide
theorem edge_seen {b : Nat} (h : edgeL b = true) : seenB b = true ∧ partB b = false := by
  unfold edgeL orB smallB digitB at h
  unfold seenB partB
  simp at h ⊢
  omega
theorem Jd_seg (h : Jd k x) (hk : 0 < k) (h8 : k ≤ 8) : segB x = true := by
  have hl := List.length_pos_iff.2 (Jd_ne h hk)
  refine segB_iff.2 ⟨⟨by omega, by have := h.1; omega⟩, fun b hb => ?_, fun e => Jd_head h hk (by rw [e]; rfl), fun e => Jd_head h hk (by rw [e]; rfl)⟩
  rcases Jd_bytes h hk hb with rfl | e
  · decide
  · exact edge_seen e
theorem Jd_path (h : Jd k x) (hk : 0 < k) (h8 : k ≤ 8) {y : List UInt8} (hy : plain y) : pathB ([47] ++ x ++ [47] ++ y) = true := by
  refine pathB_iff.2 ⟨⟨by simp, by have := h.1; have := hy.2.1; simp; omega⟩, rfl, fun b hb => ?_⟩
  simp at hb
  rcases hb with rfl | hb | rfl | hb
  · decide
  · rcases Jd_bytes h hk hb with rfl | e
    · decide
    · exact (edge_seen e).1
  · decide
  · exact (edge_seen (hy.2.2 b hb)).1
end
/-- How much is left behind so many letters. -/
def Bnd (l : List UInt8) (K : Nat) : Prop := (∀ b ∈ l, edgeL b.toNat = true) ∧ ((l.length = 0 ∧ K ≤ 4095) ∨ (l.length = 1 ∧ K ≤ 511) ∨ (l.length = 2 ∧ K ≤ 63) ∨ (l.length = 3 ∧ K ≤ 7) ∨ (l.length = 4 ∧ K = 0))
def let8 (K : Nat) : UInt8 := UInt8.ofNat (97 + K % 8)
theorem let8_nat (K : Nat) : (let8 K).toNat = 97 + K % 8 := by
  unfold let8; rw [UInt8.toNat_ofNat']; omega
theorem Bnd_step {l : List UInt8} {K : Nat} (h : Bnd l K) (hk : 0 < K) : Bnd (l ++ [let8 K]) (K / 8) := by
  refine ⟨fun b hb => ?_, ?_⟩
  · rcases List.mem_append.1 hb with hb | hb
    · exact h.1 b hb
    · rw [List.mem_singleton.1 hb, let8_nat]
      unfold edgeL orB smallB; simp; omega
  · rw [List.length_append, List.length_singleton]
    rcases h.2 with h | h | h | h | h <;> omega
theorem Bnd_end {l : List UInt8} {K : Nat} (h : Bnd l K) : plain (l ++ [48]) := by
  refine ⟨by simp, by rw [List.length_append, List.length_singleton]; rcases h.2 with h | h | h | h | h <;> omega, fun b hb => ?_⟩
  rcases List.mem_append.1 hb with hb | hb
  · exact h.1 b hb
  · rw [List.mem_singleton.1 hb]; decide
end Go.Proofs.YthflpgeonllgdaaDoor.nam

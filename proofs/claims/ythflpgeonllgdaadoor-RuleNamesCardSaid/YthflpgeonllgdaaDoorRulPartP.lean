/- Layer 8: plain mathematics of words, resources and parts. -/
import Derived.Test.YthflpgeonllgdaaDoorRulWord
import Derived.Test.YthflpgeonllgdaaDoorRulAll
import Derived.Test.YthflpgeonllgdaaDoorNamPure2
namespace Go.Proofs.YthflpgeonllgdaaDoor.rul
open Go.RowKit Go.Proofs.YthflpgeonllgdaaDoor.rep Go.Proofs.YthflpgeonllgdaaDoor.lab

def wordT (s : ByteArray) : Prop := wordy s.data.toList
theorem word_txt (n : Int) (w : World) : Calls Tryd.prog 24 #[.int .i64 n] w fun e w' => ∃ s, wordT s ∧ e = .returned (.string s) ∧ Below w.heap.size w w' :=
  (word_any n w).mono fun _ _ ⟨x, h1, h2, h3⟩ => ⟨⟨x.toArray⟩, h1, h2, h3⟩
theorem word_size {s : ByteArray} (h : wordT s) : s.size ≤ 3 := by
  have := h.2.1
  have hl : s.data.toList.length = s.size := Array.length_toList
  omega
theorem word_no {s : ByteArray} (h : wordT s) {c : UInt8} (hc : nam.smallB c.toNat = false) : c ∉ s.data.toList := fun e => by
  rw [h.2.2 c e] at hc; cases hc
theorem word_ne {s : ByteArray} (h : wordT s) : s.toList.isEmpty = false := by
  rw [ByteArray.toList_eq]
  cases e : s.data.toList with
  | nil => exact absurd e h.1
  | cons a l => rfl
theorem sl_data (a b : ByteArray) : (slash a b).data.toList = a.data.toList ++ 47 :: b.data.toList := by
  unfold slash; simp
theorem st_data (b : ByteArray) : ((⟨#[42, 47]⟩ : ByteArray) ++ b).data.toList = 42 :: 47 :: b.data.toList := by
  simp
theorem ne_of_mem {a b : ByteArray} {c : UInt8} (h : c ∈ a.data.toList) (k : c ∉ b.data.toList) : a ≠ b := fun e => k (e ▸ h)
theorem sl_word {a b x : ByteArray} (h : wordT a) : slash b x ≠ a := ne_of_mem (c := 47) (by rw [sl_data]; simp) (word_no h (by decide))
theorem sl_star (b x : ByteArray) : slash b x ≠ starT := ne_of_mem (c := 47) (by rw [sl_data]; simp) (by decide)
theorem word_star {a : ByteArray} (h : wordT a) : a ≠ starT := (ne_of_mem (c := 42) (a := starT) (by decide) (word_no h (by decide))).symm
theorem st_word {a b : ByteArray} (h : wordT a) : (⟨#[42, 47]⟩ : ByteArray) ++ b ≠ a := ne_of_mem (c := 42) (by rw [st_data]; simp) (word_no h (by decide))
theorem st_star (b : ByteArray) : (⟨#[42, 47]⟩ : ByteArray) ++ b ≠ starT := ne_of_mem (c := 47) (by rw [st_data]; simp) (by decide)
theorem st_sl {a b y : ByteArray} (ha : wordT a) (hb : wordT b) : (⟨#[42, 47]⟩ : ByteArray) ++ y ≠ slash a b := ne_of_mem (c := 42) (by rw [st_data]; simp) (by
  rw [sl_data]
  intro e
  rcases List.mem_append.1 e with e | e
  · exact word_no ha (by decide) e
  · rcases List.mem_cons.1 e with e | e
    · cases e
    · exact word_no hb (by decide) e)
theorem ext_data {a b : ByteArray} (h : a.data.toList = b.data.toList) : a = b := ByteArray.ext (Array.toList_inj.1 h)
theorem sl_inj {a b x y : ByteArray} (ha : wordT a) (hb : wordT b) (h : slash a x = slash b y) : a = b ∧ x = y := by
  have h1 := congrArg (fun s : ByteArray => Lib.cut s.data.toList [47]) h
  simp only [sl_data] at h1
  rw [nam.cut_first (word_no ha (by decide)), nam.cut_first (word_no hb (by decide))] at h1
  simp only [Prod.mk.injEq, and_true] at h1
  exact ⟨ext_data h1.1, ext_data h1.2⟩
theorem st_inj {x y : ByteArray} (h : (⟨#[42, 47]⟩ : ByteArray) ++ x = (⟨#[42, 47]⟩ : ByteArray) ++ y) : x = y := by
  have h1 := congrArg (fun s : ByteArray => s.data.toList) h
  simp only [st_data, List.cons.injEq, true_and] at h1
  exact ext_data h1
theorem beqS_comm (a b : ByteArray) : (a.toList == b.toList) = (b.toList == a.toList) := by
  rw [Bool.eq_iff_iff, beqS_iff, beqS_iff]; exact eq_comm
theorem sl_beq {a b x y : ByteArray} (ha : wordT a) (hb : wordT b) : ((slash a x).toList == (slash b y).toList) = ((a.toList == b.toList) && (x.toList == y.toList)) := by
  rw [Bool.eq_iff_iff, Bool.and_eq_true, beqS_iff, beqS_iff, beqS_iff]
  exact ⟨sl_inj ha hb, fun h => by rw [h.1, h.2]⟩
theorem st_beq (x y : ByteArray) : (((⟨#[42, 47]⟩ : ByteArray) ++ x).toList == ((⟨#[42, 47]⟩ : ByteArray) ++ y).toList) = (x.toList == y.toList) := by
  rw [Bool.eq_iff_iff, beqS_iff, beqS_iff]
  exact ⟨st_inj, fun h => by rw [h]⟩
theorem am2 (a b v : ByteArray) : among [a, b] v = ((a.toList == v.toList) || (b.toList == v.toList)) := by
  unfold among; rw [List.any_cons, List.any_cons, List.any_nil, Bool.or_false]
theorem am1 (a v : ByteArray) : among [a] v = (a.toList == v.toList) := by
  unfold among; rw [List.any_cons, List.any_nil, Bool.or_false]
variable {a b x y : ByteArray}
theorem part1 (p : ByteArray) (hp : p.toList.isEmpty = true) : resB [a, slash b x] a p = true := by
  unfold resB eitherB
  rw [if_pos hp, am2, beqS_rfl]; rfl
theorem part2 (hx : wordT x) : resB [a, slash b x] b x = true := by
  unfold resB eitherB
  rw [if_neg (by rw [word_ne hx]; decide), am2, beqS_rfl, Bool.or_true]; rfl
theorem part3 (ha : wordT a) (hb : wordT b) (p : ByteArray) (hp : p.toList.isEmpty = true) : resB [a, slash b x] b p = (a.toList == b.toList) := by
  unfold resB eitherB
  rw [if_pos hp, am2, am2, beqS_no.2 (sl_word hb), beqS_no.2 (word_star ha), beqS_no.2 (sl_star b x)]; simp
theorem part4 (ha : wordT a) (hb : wordT b) (hx : wordT x) : resB [a, slash b x] a x = (a.toList == b.toList) := by
  unfold resB eitherB
  rw [if_neg (by rw [word_ne hx]; decide), am2, am2, am2, beqS_no.2 (sl_word ha).symm, sl_beq hb ha, beqS_rfl, beqS_no.2 (word_star ha), beqS_no.2 (sl_star b x), beqS_no.2 (st_word ha).symm, beqS_no.2 (st_sl hb hx).symm, beqS_comm b a]; simp
theorem part5 (ha : wordT a) (hb : wordT b) (hx : wordT x) (hy : wordT y) : resB [a, slash b x] b y = (x.toList == y.toList) := by
  unfold resB eitherB
  rw [if_neg (by rw [word_ne hy]; decide), am2, am2, am2, beqS_no.2 (sl_word ha).symm, sl_beq hb hb, beqS_rfl, beqS_no.2 (word_star ha), beqS_no.2 (sl_star b x), beqS_no.2 (st_word ha).symm, beqS_no.2 (st_sl hb hx).symm]; simp
theorem part6 (ha : wordT a) (hy : wordT y) : resB [(⟨#[42, 47]⟩ : ByteArray) ++ x] a y = (x.toList == y.toList) := by
  unfold resB eitherB
  rw [if_neg (by rw [word_ne hy]; decide), am1, am1, am1, beqS_no.2 (st_sl ha hy), beqS_no.2 (st_star x), st_beq]; simp
theorem part7 (ha : wordT a) (p : ByteArray) (hp : p.toList.isEmpty = true) : resB [(⟨#[42, 47]⟩ : ByteArray) ++ x] a p = false := by
  unfold resB eitherB
  rw [if_pos hp, am1, am1, beqS_no.2 (st_word ha), beqS_no.2 (st_star x)]; rfl
end Go.Proofs.YthflpgeonllgdaaDoor.rul

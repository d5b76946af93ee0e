/- Layer 3: plain mathematics: which names may be; a text's parts between a byte. Nothing of the program. -/
import Derived.Lib.SplitLaws
namespace Go.Proofs.YthflpgeonllgdaaDoor.nam

def smallB (b : Nat) : Bool := decide (97 ≤ b ∧ b ≤ 122)
def greatB (b : Nat) : Bool := decide (65 ≤ b ∧ b ≤ 90)
def digitB (b : Nat) : Bool := decide (48 ≤ b ∧ b ≤ 57)
def seenB (b : Nat) : Bool := decide (33 ≤ b ∧ b ≤ 126)
def dashB (b : Nat) : Bool := decide (b = 45)
def joinB (b : Nat) : Bool := decide (b = 45 ∨ b = 95 ∨ b = 46)
def partB (b : Nat) : Bool := decide (b = 47 ∨ b = 37)
def orB (p q : Nat → Bool) (b : Nat) : Bool := p b || q b
def butB (p q : Nat → Bool) (b : Nat) : Bool := p b && !q b

/-- What is asked of the byte at a place. -/
def tst (E I : Nat → Bool) (l : List UInt8) (i : Nat) : Bool := if i = 0 ∨ i + 1 = l.length then E (l.getD i 0).toNat else I (l.getD i 0).toNat
def madeB (E I : Nat → Bool) (l : List UInt8) : Bool := (List.range l.length).all (tst E I l)
theorem madeB_iff {E I : Nat → Bool} {l : List UInt8} : madeB E I l = true ↔ ∀ i, i < l.length → tst E I l i = true := by
  unfold madeB; simp [List.all_eq_true]
theorem madeB_no {E I : Nat → Bool} {l : List UInt8} {i : Nat} (h : i < l.length) (hn : tst E I l i = false) : madeB E I l = false := by
  cases e : madeB E I l
  · rfl
  · have := madeB_iff.1 e i h; rw [hn] at this; cases this
theorem tst_same (P : Nat → Bool) (l : List UInt8) (i : Nat) : tst P P l i = P (l.getD i 0).toNat := by unfold tst; split <;> rfl

def edgeL : Nat → Bool := orB smallB digitB
def edgeV : Nat → Bool := orB (orB smallB greatB) digitB
def labB (l : List UInt8) : Bool := (decide (1 ≤ l.length) && decide (l.length ≤ 63)) && madeB edgeL (orB edgeL dashB) l
def valB (l : List UInt8) : Bool := (decide (0 ≤ l.length) && decide (l.length ≤ 63)) && madeB edgeV (orB edgeV joinB) l
def segB (l : List UInt8) : Bool := (((decide (1 ≤ l.length) && decide (l.length ≤ 253)) && madeB (butB seenB partB) (butB seenB partB) l) && !(l == [46])) && !(l == [46, 46])
def verbB (l : List UInt8) : Bool := (decide (1 ≤ l.length) && decide (l.length ≤ 32)) && madeB smallB smallB l
def pathB (l : List UInt8) : Bool := ((decide (1 ≤ l.length) && decide (l.length ≤ 512)) && Lib.hasPrefix l [47]) && madeB seenB seenB l
def keyNameB (l : List UInt8) : Bool := !(l == []) && valB l

/-- A text's parts between a byte. -/
def spl (c : UInt8) : List UInt8 → List (List UInt8)
  | [] => [[]]
  | b :: l => if b = c then [] :: spl c l else match spl c l with
    | h :: t => (b :: h) :: t
    | [] => [[b]]
def subB (l : List UInt8) : Bool := decide (l.length ≤ 253) && (spl 46 l).all labB
def keyB (l : List UInt8) : Bool := if (Lib.cut l [47]).2.2 then subB (Lib.cut l [47]).1 && keyNameB (Lib.cut l [47]).2.1 else keyNameB l

theorem spl_ne (c : UInt8) : ∀ l, spl c l ≠ []
  | [] => by simp [spl]
  | b :: l => by
    unfold spl
    split
    · simp
    · split <;> simp
theorem spl_eq (c : UInt8) (l : List UInt8) : spl c (c :: l) = [] :: spl c l := by rw [spl, if_pos rfl]
theorem spl_cons {c b : UInt8} {l : List UInt8} (h : b ≠ c) : ∃ x t, spl c l = x :: t ∧ spl c (b :: l) = (b :: x) :: t := by
  cases e : spl c l with
  | nil => exact absurd e (spl_ne c l)
  | cons x t => exact ⟨x, t, rfl, by rw [spl, if_neg h, e]⟩
/-- One byte more at the end. -/
theorem spl_snoc (c : UInt8) (l : List UInt8) : ∃ init last, spl c l = init ++ [last] ∧ spl c (l ++ [c]) = init ++ [last] ++ [[]] ∧ ∀ b, b ≠ c → spl c (l ++ [b]) = init ++ [last ++ [b]] := by
  induction l with
  | nil => exact ⟨[], [], rfl, by simp [spl], fun b hb => by simp [spl, hb]⟩
  | cons a l ih =>
    obtain ⟨init, last, h1, h2, h3⟩ := ih
    by_cases ha : a = c
    · subst ha
      exact ⟨[] :: init, last, by rw [spl_eq, h1]; rfl, by rw [List.cons_append, spl_eq, h2]; rfl, fun b hb => by rw [List.cons_append, spl_eq, h3 b hb]; rfl⟩
    · cases init with
      | nil =>
        refine ⟨[], a :: last, ?_, ?_, fun b hb => ?_⟩
        · rw [spl, if_neg ha, h1]; rfl
        · rw [List.cons_append, spl, if_neg ha, h2]; rfl
        · rw [List.cons_append, spl, if_neg ha, h3 b hb]; rfl
      | cons x t =>
        refine ⟨(a :: x) :: t, last, ?_, ?_, fun b hb => ?_⟩
        · rw [spl, if_neg ha, h1]; rfl
        · rw [List.cons_append, spl, if_neg ha, h2]; rfl
        · rw [List.cons_append, spl, if_neg ha, h3 b hb]; rfl
theorem spl_len_le (c : UInt8) : ∀ l, (spl c l).length ≤ l.length + 1
  | [] => by simp [spl]
  | b :: l => by
    have ih := spl_len_le c l
    by_cases h : b = c
    · subst h; rw [spl_eq]; simp; omega
    · obtain ⟨x, t, e1, e2⟩ := spl_cons (l := l) h
      rw [e2]; rw [e1] at ih; simp at ih ⊢; omega
theorem spl_bound (c : UInt8) : ∀ l, ∀ x ∈ spl c l, x.length ≤ l.length
  | [], x, hx => by simp [spl] at hx; subst hx; exact Nat.le_refl _
  | b :: l, x, hx => by
    have ih := spl_bound c l
    by_cases h : b = c
    · subst h; rw [spl_eq] at hx
      rcases List.mem_cons.1 hx with rfl | hx
      · simp
      · have := ih x hx; simp; omega
    · obtain ⟨y, t, e1, e2⟩ := spl_cons (l := l) h
      rw [e2] at hx
      rcases List.mem_cons.1 hx with rfl | hx
      · have := ih y (by rw [e1]; simp); simp; omega
      · have := ih x (by rw [e1]; simp [hx]); simp; omega

theorem index_ne {b c : UInt8} {l : List UInt8} (h : b ≠ c) : Lib.index (b :: l) [c] = if Lib.index l [c] == -1 then -1 else Lib.index l [c] + 1 := by
  have hp : ([c] : List UInt8).isPrefixOf (b :: l) = false := by simp [List.isPrefixOf, Ne.symm h]
  rw [Lib.index, hp]; simp
/-- The library's parts are these. -/
theorem splitK_spl (c : UInt8) : ∀ l : List UInt8, Lib.splitK [c] 0 (l.count c) l = spl c l
  | [] => rfl
  | b :: l => by
    have ih := splitK_spl c l
    by_cases h : b = c
    · subst h
      have hix : Lib.index (b :: l) [b] = ((0 : Nat) : Int) := by rw [Lib.index]; simp [List.isPrefixOf]
      rw [List.count_cons_self, Lib.splitK, hix, spl_eq, ← ih]
      simp
    · rw [List.count_cons_of_ne (by simpa using h), spl, if_neg h, ← ih]
      cases e : l.count c with
      | zero => simp [Lib.splitK]
      | succ k =>
        rw [Lib.splitK, Lib.splitK, index_ne h]
        by_cases hm : Lib.index l [c] = -1
        · simp [hm]
        · have hge := Lib.index_ge l [c]
          obtain ⟨i, hi⟩ : ∃ i : Nat, Lib.index l [c] = i := ⟨(Lib.index l [c]).toNat, by omega⟩
          have h1 : ¬ ((i : Int) == -1) = true := fun e => by have := beq_iff_eq.1 e; omega
          have h2 : ¬ ((i : Int) + 1 == -1) = true := fun e => by have := beq_iff_eq.1 e; omega
          rw [hi, if_neg h1, if_neg h2, if_neg h1]
          simp [show ((i : Int) + 1).toNat = i + 1 by omega]
theorem splitB_spl (c : UInt8) (s : ByteArray) : (Lib.splitB ⟨#[c]⟩ 0 (Lib.countB s ⟨#[c]⟩) s).map (·.data.toList) = spl c s.data.toList := by
  rw [Lib.splitB_data]
  show Lib.splitK [c] 0 (Lib.count s.data.toList [c]) s.data.toList = _
  rw [Lib.count_one, splitK_spl]
/-- The parts, and the first byte that parts. -/
theorem spl_cut (c : UInt8) : ∀ l : List UInt8, ((Lib.cut l [c]).2.2 = false ∧ spl c l = [l]) ∨ ((Lib.cut l [c]).2.2 = true ∧ spl c l = (Lib.cut l [c]).1 :: spl c (Lib.cut l [c]).2.1 ∧ l = (Lib.cut l [c]).1 ++ c :: (Lib.cut l [c]).2.1)
  | [] => .inl ⟨rfl, rfl⟩
  | b :: l => by
    by_cases h : b = c
    · subst h
      have hix : Lib.index (b :: l) [b] = 0 := by rw [Lib.index]; simp [List.isPrefixOf]
      have e : Lib.cut (b :: l) [b] = ([], l, true) := by unfold Lib.cut; rw [hix]; simp
      rw [e]
      exact .inr ⟨rfl, spl_eq b l, rfl⟩
    · have ih := spl_cut c l
      have hge := Lib.index_ge l [c]
      by_cases hm : Lib.index l [c] = -1
      · have e : Lib.cut (b :: l) [c] = (b :: l, [], false) := by unfold Lib.cut; rw [index_ne h, hm]; simp
        have e' : Lib.cut l [c] = (l, [], false) := by unfold Lib.cut; rw [hm]; simp
        rw [e'] at ih
        rw [e]
        rcases ih with ⟨_, ih⟩ | ⟨ih, _⟩
        · exact .inl ⟨rfl, by rw [spl, if_neg h, ih]⟩
        · cases ih
      · obtain ⟨i, hi⟩ : ∃ i : Nat, Lib.index l [c] = i := ⟨(Lib.index l [c]).toNat, by omega⟩
        have e' : Lib.cut l [c] = (l.take i, l.drop (i + 1), true) := by unfold Lib.cut; rw [hi]; simp
        have e : Lib.cut (b :: l) [c] = (b :: l.take i, l.drop (i + 1), true) := by
          have h1 : ¬ ((i : Int) == -1) = true := fun e => by have := beq_iff_eq.1 e; omega
          have hix : Lib.index (b :: l) [c] = ((i + 1 : Nat) : Int) := by rw [index_ne h, hi, if_neg h1]; omega
          unfold Lib.cut; rw [hix, if_pos (by omega)]
          simp
        rw [e'] at ih
        rw [e]
        rcases ih with ⟨ih, _⟩ | ⟨_, ih, ih2⟩
        · cases ih
        · refine .inr ⟨rfl, by rw [spl, if_neg h, ih], ?_⟩
          show b :: l = (b :: l.take i) ++ c :: l.drop (i + 1)
          rw [List.cons_append]
          exact congrArg _ ih2

/-- The document's key, by its parts. -/
def refKeyB (ps : List (List UInt8)) : Bool :=
  if 2 < ps.length then false else if valB (ps.getLastD []) = false ∨ ps.getLastD [] = [] then false else if ps.length = 1 then true else subB (ps.headD [])

theorem valB_iff {l : List UInt8} : valB l = true ↔ l.length ≤ 63 ∧ ∀ i, i < l.length → tst edgeV (orB edgeV joinB) l i = true := by
  unfold valB; rw [Bool.and_eq_true, madeB_iff]; simp
theorem valB_no {c : UInt8} {l : List UInt8} (hc : orB edgeV joinB c.toNat = false) (h : c ∈ l) : valB l = false := by
  cases e : valB l
  · rfl
  · obtain ⟨i, hi, he⟩ := List.getElem_of_mem h
    have hd : l.getD i 0 = c := by rw [List.getD_eq_getElem?_getD, List.getElem?_eq_getElem hi, he]; rfl
    have := (valB_iff.1 e).2 i hi
    unfold tst at this
    rw [hd] at this
    have hE : edgeV c.toNat = false := by unfold orB at hc; simp at hc; exact hc.1
    rw [hc, hE] at this
    simp at this
theorem keyName_eq (l : List UInt8) : keyNameB l = !(decide (valB l = false ∨ l = [])) := by
  unfold keyNameB
  cases valB l <;> cases l <;> simp
theorem refKey_spl (l : List UInt8) : refKeyB (spl 47 l) = keyB l := by
  unfold keyB
  rcases spl_cut 47 l with ⟨h1, h2⟩ | ⟨h1, h2, _⟩
  · rw [h1, h2]
    rw [if_neg (by decide : ¬ (false = true)), keyName_eq]
    show (if 2 < 1 then false else _) = _
    rw [if_neg (by decide)]
    simp only [List.getLastD_cons, List.getLastD_nil]
    by_cases h : valB l = false ∨ l = []
    · rw [if_pos h, decide_eq_true h]; rfl
    · rw [if_neg h, decide_eq_false h]; rfl
  · rw [h1, h2, if_pos rfl]
    generalize (Lib.cut l [47]).1 = x
    generalize (Lib.cut l [47]).2.1 = y
    rcases spl_cut 47 y with ⟨_, h4⟩ | ⟨_, h4, h5⟩
    · rw [h4]
      unfold refKeyB
      simp only [List.length_cons, List.length_nil, List.getLastD_cons, List.getLastD_nil, List.headD_cons]
      rw [if_neg (by decide), keyName_eq]
      by_cases h : valB y = false ∨ y = []
      · rw [if_pos h, decide_eq_true h]; simp
      · rw [if_neg h, if_neg (by decide), decide_eq_false h]; simp
    · have hl : 2 < (x :: spl 47 y).length := by
        rw [h4]
        have := List.length_pos_iff.2 (spl_ne 47 (Lib.cut y [47]).2.1)
        simp; omega
      have hv : valB y = false := valB_no (c := 47) (by decide) (by rw [h5]; simp)
      unfold refKeyB
      rw [if_pos hl, keyName_eq, decide_eq_true (.inl hv)]
      simp
end Go.Proofs.YthflpgeonllgdaaDoor.nam

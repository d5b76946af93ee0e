/- Layer 8: the library's functions, by the shelf's contracts: strings.TrimSuffix, CutSuffix, Contains at a star. -/
import Derived.Shelf.Strings.Prefix
import Derived.Shelf.Small.Wraps
import Derived.Shelf.Strings.Search3
import Derived.Lib.IndexLaws
import Derived.Test.YthflpgeonllgdaaDoorRulP
import Derived.Test.YthflpgeonllgdaaDoorRows
import Derived.Test.YthflpgeonllgdaaDoorNamShelf
namespace Go.Proofs.YthflpgeonllgdaaDoor.rul
open Go.RowKit Go.Shelf

def ren102 : Go.Shelf.Ren :=
  { f := fun x => if x = 102 then 82 else if x = 207 then 87 else if x = 209 then 90 else x,
    t := fun x => if x = 3 then 3 else if x = 4 then 4 else if x = 9 then 9 else x,
    g := fun x => x }
theorem lay102 : Lays.n102 Tryd.prog ren102 := {
  mixed := by kernel_rfl
  f102 := by kernel_rfl
  f207 := by kernel_rfl
  f209 := by kernel_rfl
  t3 := by kernel_rfl
  a3 := fun _ => by kernel_rfl
  z3 := fun _ => by kernel_rfl
  v3 := fun _ => by kernel_rfl
  t4 := by kernel_rfl
  a4 := fun _ => by kernel_rfl
  z4 := fun _ => by kernel_rfl
  v4 := fun _ => by kernel_rfl
  t9 := by kernel_rfl
  a9 := fun _ => by kernel_rfl
  z9 := fun _ => by kernel_rfl
  v9 := fun _ => by kernel_rfl }
def ren104 : Go.Shelf.Ren :=
  { f := fun x => if x = 104 then 49 else if x = 207 then 87 else if x = 211 then 76 else x,
    t := fun x => if x = 3 then 3 else if x = 4 then 4 else if x = 9 then 9 else if x = 24 then 52 else x,
    g := fun x => x }
theorem lay104 : Lays.n104 Tryd.prog ren104 := {
  mixed := by kernel_rfl
  f104 := by kernel_rfl
  f207 := by kernel_rfl
  f211 := by kernel_rfl
  t3 := by kernel_rfl
  a3 := fun _ => by kernel_rfl
  z3 := fun _ => by kernel_rfl
  v3 := fun _ => by kernel_rfl
  t4 := by kernel_rfl
  a4 := fun _ => by kernel_rfl
  z4 := fun _ => by kernel_rfl
  v4 := fun _ => by kernel_rfl
  t9 := by kernel_rfl
  a9 := fun _ => by kernel_rfl
  z9 := fun _ => by kernel_rfl
  v9 := fun _ => by kernel_rfl
  t24 := by kernel_rfl
  a24 := fun _ => by kernel_rfl
  z24 := fun _ => by kernel_rfl
  v24 := fun _ => by kernel_rfl }
def ren144 : Go.Shelf.Ren :=
  { f := fun x => if x = 143 then 89 else if x = 144 then 81 else if x = 217 then 97 else if x = 219 then 93 else if x = 224 then 99 else if x = 225 then 98 else if x = 266 then 102 else if x = 267 then 100 else if x = 314 then 103 else x,
    t := fun x => if x = 3 then 3 else if x = 4 then 4 else if x = 5 then 5 else if x = 9 then 9 else if x = 46 then 77 else if x = 51 then 78 else if x = 146 then 79 else x,
    g := fun x => if x = 1 then 0 else x }
theorem lay144 : Lays.n144 Tryd.prog ren144 := {
  mixed := by kernel_rfl
  f143 := by kernel_rfl
  f144 := by kernel_rfl
  f217 := by kernel_rfl
  f219 := by kernel_rfl
  f224 := by kernel_rfl
  f225 := by kernel_rfl
  f266 := by kernel_rfl
  f267 := by kernel_rfl
  f314 := by kernel_rfl
  t3 := by kernel_rfl
  a3 := fun _ => by kernel_rfl
  z3 := fun _ => by kernel_rfl
  v3 := fun _ => by kernel_rfl
  t4 := by kernel_rfl
  a4 := fun _ => by kernel_rfl
  z4 := fun _ => by kernel_rfl
  v4 := fun _ => by kernel_rfl
  t5 := by kernel_rfl
  a5 := fun _ => by kernel_rfl
  z5 := fun _ => by kernel_rfl
  v5 := fun _ => by kernel_rfl
  t9 := by kernel_rfl
  a9 := fun _ => by kernel_rfl
  z9 := fun _ => by kernel_rfl
  v9 := fun _ => by kernel_rfl
  t46 := by kernel_rfl
  a46 := fun _ => by kernel_rfl
  z46 := fun _ => by kernel_rfl
  v46 := fun _ => by kernel_rfl
  t51 := by kernel_rfl
  a51 := fun _ => by kernel_rfl
  z51 := fun _ => by kernel_rfl
  v51 := fun _ => by kernel_rfl
  t146 := by kernel_rfl
  a146 := fun _ => by kernel_rfl
  z146 := fun _ => by kernel_rfl
  v146 := fun _ => by kernel_rfl
  g1 := by kernel_rfl }

theorem trim_any (s : ByteArray) (hs : s.size ≤ 9223372036854775807) (w : World) :
    Calls Tryd.prog 82 #[.string s, .string ⟨#[42]⟩] w fun e w' => e = .returned (.string ⟨(trimL s.data.toList).toArray⟩) ∧ w = w' :=
  (Any.strings_TrimSuffix lay102 s ⟨#[42]⟩ w hs).mono fun _ _ ⟨h1, h2⟩ => ⟨h1, h2.symm⟩
theorem cutSuf_any (s : ByteArray) (hs : s.size ≤ 9223372036854775807) (w : World) :
    Calls Tryd.prog 49 #[.string s, .string ⟨#[42]⟩] w fun e w' => e = .returned (.tuple #[.string ⟨(trimL s.data.toList).toArray⟩, .bool (Lib.hasSuffix s.data.toList [42])]) ∧ w = w' :=
  (Any.strings_CutSuffix lay104 s ⟨#[42]⟩ w hs).mono fun _ _ ⟨h1, h2⟩ => ⟨h1, h2.symm⟩
theorem starIn_index (l : List UInt8) : decide (0 ≤ Lib.indexByte l 42) = starIn l := by
  rw [Bool.eq_iff_iff, decide_eq_true_eq]
  unfold starIn
  rw [List.any_eq_true]
  constructor
  · intro h
    obtain ⟨o, ho⟩ := Int.eq_ofNat_of_zero_le h
    obtain ⟨h1, _⟩ := Lib.indexByte_some ho
    exact ⟨42, List.mem_of_getElem? h1, by decide⟩
  · rintro ⟨x, hx, h⟩
    have h2 : x = 42 := by simpa using h
    subst h2
    apply Classical.byContradiction
    intro hn
    have hge := Lib.indexByte_ge l 42
    have he : Lib.indexByte l 42 = -1 := by omega
    obtain ⟨k, hk, hk2⟩ := List.getElem_of_mem hx
    exact Lib.indexByte_none he k (by rw [List.getElem?_eq_getElem hk, hk2])
theorem contains_any (s : ByteArray) (w : World) :
    Calls Tryd.prog 81 #[.string s, .string ⟨#[42]⟩] w fun e w' => e = .returned (.bool (starIn s.data.toList)) ∧ w = w' := by
  rw [← starIn_index]
  exact (Any.strings_Contains_one lay144 s 42 w).mono fun _ _ ⟨h1, h2⟩ => ⟨h1, h2.symm⟩
theorem prefix_any (s p : ByteArray) (w : World) :
    Calls Tryd.prog 50 #[.string s, .string p] w fun e w' => e = .returned (.bool (Lib.hasPrefix s.data.toList p.data.toList)) ∧ w = w' :=
  (nam.hasPrefix_any s p w).mono fun _ _ ⟨h1, h2⟩ => ⟨h1, h2.symm⟩
end Go.Proofs.YthflpgeonllgdaaDoor.rul

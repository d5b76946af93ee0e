/- Layer 8: how rules and askings lie; of the document: Allows. -/
import Derived.Test.YthflpgeonllgdaaDoorRulPath
namespace Go.Proofs.YthflpgeonllgdaaDoor.rul
open Go.RowKit Go.Proofs.YthflpgeonllgdaaDoor.rep Go.Proofs.YthflpgeonllgdaaDoor.lab

theorem below_new (w : World) (o : Obj) : Below w.heap.size w (w.alloc o) := (Below.refl _ _).alloc (Nat.le_refl _) o
structure Ru where
  verbs : List ByteArray
  groups : List ByteArray
  resources : List ByteArray
  names : List ByteArray
  paths : List ByteArray
structure Ak where
  verb : ByteArray
  group : ByteArray
  resource : ByteArray
  part : ByteArray
  name : ByteArray
  space : ByteArray
  path : ByteArray
def namesB (r : Ru) (x : Ak) : Bool := decide (r.names.length = 0) || (!x.name.toList.isEmpty && among r.names x.name)
def allowsB (r : Ru) (x : Ak) : Bool := eitherB r.verbs x.verb && (if x.path.toList.isEmpty = true then eitherB r.groups x.group && resB r.resources x.resource x.part && namesB r x else r.paths.any (pathAt x.path))
def ruAt (B : Nat) (W : World) (v g s n p : Value) (r : Ru) : Prop := RowAt B (text B) W v r.verbs ∧ RowAt B (text B) W g r.groups ∧ RowAt B (text B) W s r.resources ∧ RowAt B (text B) W n r.names ∧ RowAt B (text B) W p r.paths
def akOk (B : Nat) (x : Ak) : Prop := x.verb.size ≤ B ∧ x.group.size ≤ B ∧ x.resource.size ≤ B ∧ x.part.size ≤ B ∧ x.name.size ≤ B ∧ x.space.size ≤ B ∧ x.path.size ≤ B
set_option maxHeartbeats 1000000 in
theorem rAllows_any (B : Nat) (hB : B ≤ 140737488355328) (r : Ru) (v g s n p : Value) (x : Ak) (w : World) (hr : ruAt B w v g s n p r) (hx : akOk B x) :
    Calls Tryd.prog 17 #[.agg #[v, g, s, n, p], .agg #[.string x.verb, .string x.group, .string x.resource, .string x.part, .string x.name, .string x.space, .string x.path]] w fun e w' => e = .returned (.bool (allowsB r x)) ∧ Below w.heap.size w w' := by
  obtain ⟨⟨va, vc, rfl, _, _, lv, hv⟩, ⟨ga, gc, rfl, _, _, lg, hg⟩, ⟨sa, sc, rfl, _, _, ls, hs⟩, ⟨na, nc, rfl, _, _, ln, hn⟩, ⟨pa, pc, rfl, _, _, lp, hp⟩⟩ := hr
  obtain ⟨_, _, z3, z4, _, _, z7⟩ := hx
  have L := Lib.hid (show ∀ W, Below w.heap.size w W → RowIn (text B) W va r.verbs ∧ RowIn (text B) W ga r.groups ∧ RowIn (text B) W sa r.resources ∧ RowIn (text B) W na r.names ∧ RowIn (text B) W pa r.paths from fun W h => ⟨hv.later h, hg.later h, hs.later h, hn.later h, hp.later h⟩)
  have c1 := fun w h => reither_any B va vc r.verbs (by omega) x.verb w h
  have c2 := fun w h => rPath_any B hB pa pc r.paths (by omega) x.path z7 w h
  have c3 := fun w h => reither_any B ga gc r.groups (by omega) x.group w h
  have c4 := fun w h => rResource_any B hB sa sc r.resources (by omega) x.resource x.part z3 z4 w h
  have c5 := fun w h => rAmong_any B na nc r.names (by omega) x.name w h
  have H := Lib.hid (show allowsB r x = (eitherB r.verbs x.verb && (if x.path.toList.isEmpty = true then eitherB r.groups x.group && resB r.resources x.resource x.part && (decide (r.names.length = 0) || (!x.name.toList.isEmpty && among r.names x.name)) else r.paths.any (pathAt x.path))) from rfl)
  generalize eitherB r.verbs x.verb = b1 at *
  generalize r.paths.any (pathAt x.path) = b2 at *
  generalize eitherB r.groups x.group = b3 at *
  generalize resB r.resources x.resource x.part = b4 at *
  generalize among r.names x.name = b5 at *
  clear hv hg hs hn hp
  go_enter Tryd.func17, Tryd.ntmps17
  go_wp2_with fail
  refine (c1 _ (L.out _ (chain (below_new _ _) (below_new _ _))).1).mono ?_
  rintro e w1 ⟨rfl, rfl⟩
  cases b1 with
  | false =>
    go_wp2
    go_ret
    exact ⟨ret_bool (by rw [H.out]; rfl), chain (below_new _ _) (below_new _ _)⟩
  | true =>
    cases e0 : x.path.toList.isEmpty with
    | false =>
      have H2 := Lib.hid (show allowsB r x = b2 by rw [H.out, e0]; rfl)
      go_wp2_with fail
      refine (c2 _ (L.out _ (chain (below_new _ _) (below_new _ _))).2.2.2.2).mono ?_
      rintro e w1 ⟨rfl, rfl⟩
      go_wp2
      go_ret
      exact ⟨ret_bool H2.out.symm, chain (below_new _ _) (below_new _ _)⟩
    | true =>
      have H2 := Lib.hid (show allowsB r x = (b3 && b4 && (decide (r.names.length = 0) || (!x.name.toList.isEmpty && b5))) by rw [H.out, e0]; rfl)
      go_wp2_with fail
      refine (c3 _ (L.out _ (chain (below_new _ _) (below_new _ _))).2.1).mono ?_
      rintro e w1 ⟨rfl, rfl⟩
      go_wp2_with fail
      refine (c4 _ (L.out _ (chain (below_new _ _) (below_new _ _))).2.2.1).mono ?_
      rintro e w1 ⟨rfl, rfl⟩
      go_wp2_with fail
      refine (c5 _ (L.out _ (chain (below_new _ _) (below_new _ _))).2.2.2.1).mono ?_
      rintro e w1 ⟨rfl, rfl⟩
      cases b3 with
      | false =>
        go_wp2
        go_ret
        exact ⟨ret_bool (by rw [H2.out]; rfl), chain (below_new _ _) (below_new _ _)⟩
      | true =>
        cases b4 with
        | false =>
          go_wp2
          go_ret
          exact ⟨ret_bool (by rw [H2.out]; rfl), chain (below_new _ _) (below_new _ _)⟩
        | true =>
          by_cases e1 : r.names.length = 0
          · have e1' : ((r.names.length : Int) == 0) = true := by rw [e1]; rfl
            go_wp2
            go_ret
            exact ⟨ret_bool (by rw [H2.out, decide_eq_true e1]; rfl), chain (below_new _ _) (below_new _ _)⟩
          · have e1' : ((r.names.length : Int) == 0) = false := by rw [beq_eq_false_iff_ne]; omega
            cases e2 : x.name.toList.isEmpty with
            | true =>
              go_wp2
              go_ret
              exact ⟨ret_bool (by rw [H2.out, decide_eq_false e1, e2]; rfl), chain (below_new _ _) (below_new _ _)⟩
            | false =>
              go_wp2
              go_ret
              exact ⟨ret_bool (by rw [H2.out, decide_eq_false e1, e2]; rfl), chain (below_new _ _) (below_new _ _)⟩
end Go.Proofs.YthflpgeonllgdaaDoor.rul

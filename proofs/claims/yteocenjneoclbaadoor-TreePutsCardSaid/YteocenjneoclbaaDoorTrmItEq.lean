/- Layer 4: '!=' between two items, as one operation of a region that only reads. -/
import Derived.ChangeKeysEq
import Derived.Laws.StructEq
import Derived.Test.YteocenjneoclbaaDoorTrmCnt
import Derived.Test.YteocenjneoclbaaDoorTrmEq
namespace Go.Proofs.YteocenjneoclbaaDoor.tre
open Go.RowKit Go.Shelf

def chkF (P : Program) : List Field → List (TypeId × Nat) → Bool
  | [], [] => true
  | f :: fs, (t, n) :: l => f.name != "_" && f.type == t && f.offset == n && P.plainKey t && chkF P fs l
  | _, _ => false
theorem eqF (d : Nat) (xs ys : Array Value) : ∀ (fs : List Field) (l : List (TypeId × Nat)) (rs : List Bool), chkF Tryd.prog fs l = true → rs.length = l.length →
    (∀ (i : Nat) (t : TypeId) (n : Nat) (r : Bool), l[i]? = some (t, n) → rs[i]? = some r → ∃ a b, xs[n]? = some a ∧ ys[n]? = some b ∧ ∀ w, (Op.equalIn d t a b).run Tryd.prog w = .ok r w) →
    ∀ w, (Op.eqFields d xs ys fs).run Tryd.prog w = .ok (rs.all id) w
  | [], [], [], _, _, _, w => rfl
  | [], [], _ :: _, _, h, _, _ => by cases h
  | [], _ :: _, _, h, _, _, _ => by cases h
  | _ :: _, [], _, h, _, _, _ => by cases h
  | _ :: _, _ :: _, [], _, h, _, _ => by cases h
  | f :: fs, (t, n) :: l, r :: rs, hc, hl, h, w => by
    simp only [chkF, Bool.and_eq_true, bne_iff_ne, beq_iff_eq] at hc
    obtain ⟨⟨⟨⟨h1, rfl⟩, rfl⟩, h4⟩, h5⟩ := hc
    obtain ⟨a, b, ha, hb, he⟩ := h 0 _ _ _ rfl rfl
    have ih := eqF d xs ys fs l rs h5 (by simpa using hl) (fun i t n r h6 h7 => h (i + 1) t n r h6 h7)
    unfold Op.eqFields
    rw [if_pos h1]
    simp only [Sem.run_bind, run_part_plain _ h4 ha, run_part_plain _ h4 hb, he, Result.andThen_ok, Sem.run_ite]
    cases r with
    | false => rfl
    | true => exact ih w
theorem item_fields : chkF Tryd.prog (Tryd.prog.fieldsOf 55).toList [(3, 0), (3, 1), (2, 2), (9, 3), (9, 4)] = true := by kernel_rfl
theorem item_free : Tryd.prog.eqGuardType Tryd.prog.depth 55 = false := by kernel_rfl
theorem item_held : Tryd.prog.stoodInHeld 55 = false := by kernel_rfl
def itemB (x y : It) : Bool := [x.d == y.d, x.kind == y.kind, x.int == y.int, x.key.toList == y.key.toList, x.text.toList == y.text.toList].all id
theorem itemB_iff (x y : It) : itemB x y = true ↔ x = y := by
  obtain ⟨a, b, c, d, e⟩ := x
  obtain ⟨a', b', c', d', e'⟩ := y
  simp [itemB, text_eq]
theorem item_neq (w : World) (x y : It) : (binOp .neq 55 (.agg #[.int .i64 x.d, .int .i64 x.kind, .int .i64 x.int, .string x.key, .string x.text]) (.agg #[.int .i64 y.d, .int .i64 y.kind, .int .i64 y.int, .string y.key, .string y.text])).run Tryd.prog w = .ok (.bool (!(itemB x y))) w := by
  rw [run_neq_struct, run_equalIn_agg _ _ _ _ _ (by kernel_rfl) item_held, eqF _ _ _ _ _ [x.d == y.d, x.kind == y.kind, x.int == y.int, x.key.toList == y.key.toList, x.text.toList == y.text.toList] item_fields rfl ?_]
  · rfl
  · intro i t n r h1 h2
    match i, h1, h2 with
    | 0, h1, h2 => cases h1; cases h2; exact ⟨_, _, rfl, rfl, fun w => run_equalIn_int w _ _ _ .i64 _ _ (by kernel_rfl)⟩
    | 1, h1, h2 => cases h1; cases h2; exact ⟨_, _, rfl, rfl, fun w => run_equalIn_int w _ _ _ .i64 _ _ (by kernel_rfl)⟩
    | 2, h1, h2 => cases h1; cases h2; exact ⟨_, _, rfl, rfl, fun w => run_equalIn_int w _ _ _ .i64 _ _ (by kernel_rfl)⟩
    | 3, h1, h2 => cases h1; cases h2; exact ⟨_, _, rfl, rfl, fun w => run_equalIn_string w _ _ _ _ (by kernel_rfl)⟩
    | 4, h1, h2 => cases h1; cases h2; exact ⟨_, _, rfl, rfl, fun w => run_equalIn_string w _ _ _ _ (by kernel_rfl)⟩
    | i + 5, h1, h2 => cases h1
theorem quiet_items {C : World → Prop} {a : Act} {o : Oper} {K : Act → Prop} (p q : Operand) (t : TypeId) (x y : It) (h : o.op = .binOp .neq 55 p q t)
    (hx : a.eval p = .agg #[.int .i64 x.d, .int .i64 x.kind, .int .i64 x.int, .string x.key, .string x.text]) (hy : a.eval q = .agg #[.int .i64 y.d, .int .i64 y.kind, .int .i64 y.int, .string y.key, .string y.text])
    (hk : K (a.put o.dst (.bool (!(itemB x y))))) : o.quiet Tryd.prog a C K :=
  ⟨_, fun w _ => by
    unfold Oper.quietAt execOp
    rw [h]
    simp only [hx, hy, Sem.run_bind, run_eqGuard_agg _ _ _ _ _ _ _ item_free, item_neq, Result.andThen_ok, Sem.run_pure]
    exact ⟨rfl, rfl⟩, hk⟩
end Go.Proofs.YteocenjneoclbaaDoor.tre

/- Layer 4: the document's own shape. -/
import Derived.BigQuiet
import Derived.Deep.CutRange
import Derived.Deep.DeepCutAuto
import Derived.Deep.QuietTactic
import Derived.Test.YteocenjneoclbaaDoorTrmFit
import Derived.Test.YteocenjneoclbaaDoorTrmURefP
import Derived.Test.YteocenjneoclbaaDoorTrmWalk
namespace Go.Proofs.YteocenjneoclbaaDoor.tre
open Go.RowKit Go.Shelf

/-- What of a value is asked but for its keys. -/
def headB (v : V) : Bool := (v.int == 0 || v.kind == 2 || (v.kind == 1 && v.int == 1)) && (v.text.toList.isEmpty || v.kind == 3) && (decide (v.list.length = 0) || v.kind == 4) && (decide (v.fields.length = 0) || v.kind == 5) &&
  (decide (0 ≤ v.kind) && decide (v.kind ≤ 5)) && utf.okB v.text.data.toList
theorem fitsB_head (v : V) : fitsB v = (headB v && keysB v.fields) := rfl
/-- May a value be, but for its depth and count? -/
def shapeV : V → Bool := V.fold fun v a b => headB v && (a.all id && (keysB v.fields && b.all fun g => g.2))
theorem shapeV_eq (v : V) : shapeV v = (headB v && (v.list.all shapeV && (keysB v.fields && v.fields.all fun g => shapeV g.2))) := by
  unfold shapeV; rw [V.fold_eq, List.all_map, List.all_map]; rfl
theorem distB_snoc (l : List (List UInt8)) (x : List UInt8) : distB (l ++ [x]) = (distB l && !l.contains x) := by
  induction l with
  | nil => rfl
  | cons y l ih =>
    rw [List.cons_append]
    unfold distB
    rw [ih, List.contains_append]
    simp only [List.contains_cons, List.contains_nil, Bool.or_false]
    have : (x == y) = (y == x) := by rw [Bool.eq_iff_iff, beq_iff_eq, beq_iff_eq]; exact eq_comm
    rw [this]
    cases y == x <;> cases l.contains y <;> cases distB l <;> cases l.contains x <;> rfl
theorem distB_ne : ∀ (l : List (List UInt8)), distB l = true → ∀ (j i : Nat) (a : List UInt8), j < i → l[i]? = some a → l[j]? ≠ some a
  | [], _, j, i, a, _, h, _ => by simp at h
  | x :: l, hd, 0, i + 1, a, _, h, h2 => by
    simp only [distB, Bool.and_eq_true, Bool.not_eq_true'] at hd
    simp only [List.getElem?_cons_zero, Option.some.injEq] at h2
    subst h2
    have hm : x ∈ l := List.mem_of_getElem? (by simpa using h)
    have : l.contains x = true := by simpa using hm
    rw [this] at hd; simp at hd
  | x :: l, hd, j + 1, i + 1, a, hj, h, h2 => by
    simp only [distB, Bool.and_eq_true, Bool.not_eq_true'] at hd
    exact distB_ne l hd.2 j i a (by omega) (by simpa using h) (by simpa using h2)
def T1 (v : V) : Bool := decide (v.kind < 0) || decide (5 < v.kind)
def T3 (v : V) : Bool := ((v.kind != 1 && v.kind != 2) && v.int != 0) || ((v.kind == 1 && v.int != 0) && v.int != 1)
def T6 (v : V) : Bool := (v.kind != 3 && !v.text.toList.isEmpty) || !utf.okB v.text.data.toList
def T8 (v : V) : Bool := (v.kind != 4 && decide (0 < v.list.length)) || (v.kind != 5 && decide (0 < v.fields.length))
theorem bool8 : ∀ i0 i1 k1 k2 k3 k4 k5 te : Bool, (k1 && k2) = false → ∀ l0 f0 lo hi ok : Bool,
    ((i0 || k2 || (k1 && i1)) && (te || k3) && (l0 || k4) && (f0 || k5) && (!lo && !hi) && ok) =
    (!(lo || hi) && !(((!k1 && !k2) && !i0) || ((k1 && !i0) && !i1)) && !((!k3 && !te) || !ok) && !((!k4 && !l0) || (!k5 && !f0))) := by decide +kernel
theorem head_tests (v : V) : headB v = (!T1 v && !T3 v && !T6 v && !T8 v) := by
  unfold headB T1 T3 T6 T8
  have e1 : decide (0 < v.list.length) = !decide (v.list.length = 0) := by
    by_cases h : v.list.length = 0
    · rw [h]; rfl
    · rw [decide_eq_true (by omega), decide_eq_false h]; rfl
  have e2 : decide (0 < v.fields.length) = !decide (v.fields.length = 0) := by
    by_cases h : v.fields.length = 0
    · rw [h]; rfl
    · rw [decide_eq_true (by omega), decide_eq_false h]; rfl
  have e3 : decide (0 ≤ v.kind) = !decide (v.kind < 0) := by rw [Bool.eq_iff_iff]; simp
  have e4 : decide (v.kind ≤ 5) = !decide (5 < v.kind) := by rw [Bool.eq_iff_iff]; simp
  have e5 : (v.kind == 1 && v.kind == 2) = false := by
    by_cases h : v.kind = 1
    · rw [h]; rfl
    · have : (v.kind == 1) = false := by simpa using h
      rw [this]; rfl
  rw [e1, e2, e3, e4]
  simp only [bne]
  exact bool8 _ _ _ _ _ _ _ _ e5 _ _ _ _ _

set_option maxRecDepth 100000 in
set_option maxHeartbeats 8000000 in
theorem shape_any : ∀ (v : V) (S : Nat → Prop) (W : World) (r t : Sl), (∀ g, S g → g < W.heap.size) → HV S W v r t → smallV v = true →
    Calls Tryd.prog 45 #[.agg #[.int .i64 v.kind, .int .i64 v.int, .string v.text, .slice r.a r.n r.c, .slice t.a t.n t.c]] W fun e w' => e = .returned (.bool (shapeV v)) ∧ Below W.heap.size W w' := V.ind fun v ihl ihf => by
  intro S W r t hS hh hsm
  have hb1 : ∀ o, Below W.heap.size W (W.alloc o) := fun o => (Below.refl _ _).alloc (Nat.le_refl _) o
  have hn1 := hh.1.len
  have hn2 := hh.2.len
  have hm1 := hh.1.max
  have hm2 := hh.2.max
  obtain ⟨ra, rn, rc⟩ := r
  obtain ⟨ta, tn, tc⟩ := t
  simp only at hn1 hn2
  subst hn1 hn2
  obtain ⟨hs1, hs2, hs3⟩ := (smallV_eq v).1 hsm
  have Hb := Lib.hid (And.intro hb1 (And.intro hS (And.intro hh (And.intro ihl (And.intro ihf (And.intro hs2 hs3))))))
  have hbox : ∀ wr, Below (W.heap.size + 1) (W.alloc (.cells #[.int .i64 v.kind, .int .i64 v.int, .string v.text, .slice ra v.list.length rc, .slice ta v.fields.length tc] 27)) wr → BoxV W.heap.size v ⟨ra, v.list.length, rc⟩ ⟨ta, v.fields.length, tc⟩ wr := fun wr hb => (hb.block W.heap.size (Nat.lt_succ_self _)).trans (block_new W _)
  have Hx := Lib.hid hbox
  have heq := shapeV_eq v
  rw [head_tests] at heq
  have Hq := Lib.hid heq
  have cV := fun w => utf.refValid_any v.text hs1 w
  clear hb1 hS hh ihl ihf heq hbox hsm hs1 hs2 hs3
  go_enter Tryd.func45, Tryd.ntmps45
  go_upto_region 1 with fail
  go_cut [17] from 10 to 17 (fun s17 wc => s17 = .bool (T1 v) ∧ wc = W.alloc (.cells #[.int .i64 v.kind, .int .i64 v.int, .string v.text, .slice ra v.list.length rc, .slice ta v.fields.length tc] 27))
  case first =>
    clear cV
    by_cases h1 : v.kind < 0
    · have d1 : decide (v.kind < 0) = true := decide_eq_true h1
      go_wp2
      go_meet
      case rel => exact ⟨by unfold T1; rw [d1]; rfl, rfl⟩
    · have d1 : decide (v.kind < 0) = false := decide_eq_false h1
      by_cases h2 : 5 < v.kind
      · have d2 : decide (5 < v.kind) = true := decide_eq_true h2
        go_wp2
        go_meet
        case rel => exact ⟨by unfold T1; rw [d1, d2]; rfl, rfl⟩
      · have d2 : decide (5 < v.kind) = false := decide_eq_false h2
        go_wp2
        go_meet
        case rel => exact ⟨by unfold T1; rw [d1, d2]; rfl, rfl⟩
  case rest =>
    obtain ⟨rfl, rfl⟩ := hcut
    cases ht1 : T1 v with
    | true =>
      have H := Lib.hid (show shapeV v = false by rw [Hq.out, ht1]; rfl)
      clear ht1
      go_wp2
      go_ret
      rw [H.out]
      exact ⟨rfl, Hb.out.1 _⟩
    | false =>
      go_upto_region 3 with fail
      go_cut [45] from 18 to 45 (fun s45 wc => s45 = .bool (T3 v) ∧ wc = W.alloc (.cells #[.int .i64 v.kind, .int .i64 v.int, .string v.text, .slice ra v.list.length rc, .slice ta v.fields.length tc] 27))
      case first =>
        clear cV
        by_cases p1 : v.kind = 1
        · have p1a : (v.kind == 1) = true := by simp [p1]
          have p1b : (v.kind != 1) = false := by simp [p1]
          clear p1
          by_cases p2 : v.kind = 2
          · have p2a : (v.kind == 2) = true := by simp [p2]
            have p2b : (v.kind != 2) = false := by simp [p2]
            clear p2
            by_cases p3 : v.int = 0
            · have p3a : (v.int == 0) = true := by simp [p3]
              have p3b : (v.int != 0) = false := by simp [p3]
              clear p3
              by_cases p4 : v.int = 1
              · have p4a : (v.int == 1) = true := by simp [p4]
                have p4b : (v.int != 1) = false := by simp [p4]
                clear p4
                go_wp2
                go_meet
                case rel => exact ⟨by simp [T3, *], rfl⟩
              · have p4a : (v.int == 1) = false := by simp [p4]
                have p4b : (v.int != 1) = true := by simp [p4]
                go_wp2
                go_meet
                case rel => exact ⟨by simp [T3, *], rfl⟩
            · have p3a : (v.int == 0) = false := by simp [p3]
              have p3b : (v.int != 0) = true := by simp [p3]
              by_cases p4 : v.int = 1
              · have p4a : (v.int == 1) = true := by simp [p4]
                have p4b : (v.int != 1) = false := by simp [p4]
                clear p4
                go_wp2
                go_meet
                case rel => exact ⟨by simp [T3, *], rfl⟩
              · have p4a : (v.int == 1) = false := by simp [p4]
                have p4b : (v.int != 1) = true := by simp [p4]
                go_wp2
                go_meet
                case rel => exact ⟨by simp [T3, *], rfl⟩
          · have p2a : (v.kind == 2) = false := by simp [p2]
            have p2b : (v.kind != 2) = true := by simp [p2]
            by_cases p3 : v.int = 0
            · have p3a : (v.int == 0) = true := by simp [p3]
              have p3b : (v.int != 0) = false := by simp [p3]
              clear p3
              by_cases p4 : v.int = 1
              · have p4a : (v.int == 1) = true := by simp [p4]
                have p4b : (v.int != 1) = false := by simp [p4]
                clear p4
                go_wp2
                go_meet
                case rel => exact ⟨by simp [T3, *], rfl⟩
              · have p4a : (v.int == 1) = false := by simp [p4]
                have p4b : (v.int != 1) = true := by simp [p4]
                go_wp2
                go_meet
                case rel => exact ⟨by simp [T3, *], rfl⟩
            · have p3a : (v.int == 0) = false := by simp [p3]
              have p3b : (v.int != 0) = true := by simp [p3]
              by_cases p4 : v.int = 1
              · have p4a : (v.int == 1) = true := by simp [p4]
                have p4b : (v.int != 1) = false := by simp [p4]
                clear p4
                go_wp2
                go_meet
                case rel => exact ⟨by simp [T3, *], rfl⟩
              · have p4a : (v.int == 1) = false := by simp [p4]
                have p4b : (v.int != 1) = true := by simp [p4]
                go_wp2
                go_meet
                case rel => exact ⟨by simp [T3, *], rfl⟩
        · have p1a : (v.kind == 1) = false := by simp [p1]
          have p1b : (v.kind != 1) = true := by simp [p1]
          by_cases p2 : v.kind = 2
          · have p2a : (v.kind == 2) = true := by simp [p2]
            have p2b : (v.kind != 2) = false := by simp [p2]
            clear p2
            by_cases p3 : v.int = 0
            · have p3a : (v.int == 0) = true := by simp [p3]
              have p3b : (v.int != 0) = false := by simp [p3]
              clear p3
              by_cases p4 : v.int = 1
              · have p4a : (v.int == 1) = true := by simp [p4]
                have p4b : (v.int != 1) = false := by simp [p4]
                clear p4
                go_wp2
                go_meet
                case rel => exact ⟨by simp [T3, *], rfl⟩
              · have p4a : (v.int == 1) = false := by simp [p4]
                have p4b : (v.int != 1) = true := by simp [p4]
                go_wp2
                go_meet
                case rel => exact ⟨by simp [T3, *], rfl⟩
            · have p3a : (v.int == 0) = false := by simp [p3]
              have p3b : (v.int != 0) = true := by simp [p3]
              by_cases p4 : v.int = 1
              · have p4a : (v.int == 1) = true := by simp [p4]
                have p4b : (v.int != 1) = false := by simp [p4]
                clear p4
                go_wp2
                go_meet
                case rel => exact ⟨by simp [T3, *], rfl⟩
              · have p4a : (v.int == 1) = false := by simp [p4]
                have p4b : (v.int != 1) = true := by simp [p4]
                go_wp2
                go_meet
                case rel => exact ⟨by simp [T3, *], rfl⟩
          · have p2a : (v.kind == 2) = false := by simp [p2]
            have p2b : (v.kind != 2) = true := by simp [p2]
            by_cases p3 : v.int = 0
            · have p3a : (v.int == 0) = true := by simp [p3]
              have p3b : (v.int != 0) = false := by simp [p3]
              clear p3
              by_cases p4 : v.int = 1
              · have p4a : (v.int == 1) = true := by simp [p4]
                have p4b : (v.int != 1) = false := by simp [p4]
                clear p4
                go_wp2
                go_meet
                case rel => exact ⟨by simp [T3, *], rfl⟩
              · have p4a : (v.int == 1) = false := by simp [p4]
                have p4b : (v.int != 1) = true := by simp [p4]
                go_wp2
                go_meet
                case rel => exact ⟨by simp [T3, *], rfl⟩
            · have p3a : (v.int == 0) = false := by simp [p3]
              have p3b : (v.int != 0) = true := by simp [p3]
              by_cases p4 : v.int = 1
              · have p4a : (v.int == 1) = true := by simp [p4]
                have p4b : (v.int != 1) = false := by simp [p4]
                clear p4
                go_wp2
                go_meet
                case rel => exact ⟨by simp [T3, *], rfl⟩
              · have p4a : (v.int == 1) = false := by simp [p4]
                have p4b : (v.int != 1) = true := by simp [p4]
                go_wp2
                go_meet
                case rel => exact ⟨by simp [T3, *], rfl⟩
      case rest =>
        obtain ⟨rfl, rfl⟩ := hcut
        cases ht3 : T3 v with
        | true =>
          have H := Lib.hid (show shapeV v = false by rw [Hq.out, ht3]; simp)
          clear ht3
          go_wp2
          go_ret
          rw [H.out]
          exact ⟨rfl, Hb.out.1 _⟩
        | false =>
          go_wp2_with fail
          refine (cV _).mono ?_
          rintro e w1 ⟨rfl, hb⟩
          have hb0 : Below (W.heap.size + 1) (W.alloc (.cells #[.int .i64 v.kind, .int .i64 v.int, .string v.text, .slice ra v.list.length rc, .slice ta v.fields.length tc] 27)) w1 := by rw [size_alloc] at hb; exact hb
          have H1 := Lib.hid hb0
          obtain ⟨c50, c51, c52, c53, c54⟩ := (Hx.out w1 hb0).c
          clear hb hb0 cV
          generalize ho : utf.okB v.text.data.toList = o
          go_upto_region 6 with fail
          go_cut [60] from 49 to 60 (fun s60 wc => s60 = .bool (T6 v) ∧ wc = w1)
          case first =>
            by_cases p1 : v.kind = 3
            · have p1a : (v.kind == 3) = true := by simp [p1]
              have p1b : (v.kind != 3) = false := by simp [p1]
              clear p1
              by_cases p2 : v.text.toList.isEmpty = true
              · have p2b : (!v.text.toList.isEmpty) = false := by simp [p2]
                cases o
                all_goals (go_wp2; go_meet)
                all_goals exact ⟨by simp [T6, *], rfl⟩
              · have p2a : v.text.toList.isEmpty = false := by simpa using p2
                have p2b : (!v.text.toList.isEmpty) = true := by simp [p2a]
                clear p2
                cases o
                all_goals (go_wp2; go_meet)
                all_goals exact ⟨by simp [T6, *], rfl⟩
            · have p1a : (v.kind == 3) = false := by simp [p1]
              have p1b : (v.kind != 3) = true := by simp [p1]
              by_cases p2 : v.text.toList.isEmpty = true
              · have p2b : (!v.text.toList.isEmpty) = false := by simp [p2]
                cases o
                all_goals (go_wp2; go_meet)
                all_goals exact ⟨by simp [T6, *], rfl⟩
              · have p2a : v.text.toList.isEmpty = false := by simpa using p2
                have p2b : (!v.text.toList.isEmpty) = true := by simp [p2a]
                clear p2
                cases o
                all_goals (go_wp2; go_meet)
                all_goals exact ⟨by simp [T6, *], rfl⟩
          case rest =>
            obtain ⟨rfl, rfl⟩ := hcut
            cases ht6 : T6 v with
            | true =>
              have H := Lib.hid (show shapeV v = false by rw [Hq.out, ht6]; simp)
              clear ht6
              go_wp2
              go_ret
              rw [H.out]
              exact ⟨rfl, (Hb.out.1 _).trans (H1.out.mono (Nat.le_succ _))⟩
            | false =>
              go_upto_region 8 with fail
              go_cut [80] from 61 to 80 (fun s80 wd => s80 = .bool (T8 v) ∧ wd = wc)
              case first =>
                by_cases p1 : v.kind = 4
                · have p1a : (v.kind == 4) = true := by simp [p1]
                  have p1b : (v.kind != 4) = false := by simp [p1]
                  clear p1
                  by_cases p2 : v.kind = 5
                  · have p2a : (v.kind == 5) = true := by simp [p2]
                    have p2b : (v.kind != 5) = false := by simp [p2]
                    clear p2
                    by_cases p3 : 0 < v.list.length
                    · have p3a : (0 : Int) < (v.list.length : Int) := by omega
                      by_cases p4 : 0 < v.fields.length
                      · have p4a : (0 : Int) < (v.fields.length : Int) := by omega
                        go_wp2
                        go_meet
                        case rel => exact ⟨by simp [T8, *], rfl⟩
                      · have p4a : ¬ (0 : Int) < (v.fields.length : Int) := by omega
                        go_wp2
                        go_meet
                        case rel => exact ⟨by simp [T8, *], rfl⟩
                    · have p3a : ¬ (0 : Int) < (v.list.length : Int) := by omega
                      by_cases p4 : 0 < v.fields.length
                      · have p4a : (0 : Int) < (v.fields.length : Int) := by omega
                        go_wp2
                        go_meet
                        case rel => exact ⟨by simp [T8, *], rfl⟩
                      · have p4a : ¬ (0 : Int) < (v.fields.length : Int) := by omega
                        go_wp2
                        go_meet
                        case rel => exact ⟨by simp [T8, *], rfl⟩
                  · have p2a : (v.kind == 5) = false := by simp [p2]
                    have p2b : (v.kind != 5) = true := by simp [p2]
                    by_cases p3 : 0 < v.list.length
                    · have p3a : (0 : Int) < (v.list.length : Int) := by omega
                      by_cases p4 : 0 < v.fields.length
                      · have p4a : (0 : Int) < (v.fields.length : Int) := by omega
                        go_wp2
                        go_meet
                        case rel => exact ⟨by simp [T8, *], rfl⟩
                      · have p4a : ¬ (0 : Int) < (v.fields.length : Int) := by omega
                        go_wp2
                        go_meet
                        case rel => exact ⟨by simp [T8, *], rfl⟩
                    · have p3a : ¬ (0 : Int) < (v.list.length : Int) := by omega
                      by_cases p4 : 0 < v.fields.length
                      · have p4a : (0 : Int) < (v.fields.length : Int) := by omega
                        go_wp2
                        go_meet
                        case rel => exact ⟨by simp [T8, *], rfl⟩
                      · have p4a : ¬ (0 : Int) < (v.fields.length : Int) := by omega
                        go_wp2
                        go_meet
                        case rel => exact ⟨by simp [T8, *], rfl⟩
                · have p1a : (v.kind == 4) = false := by simp [p1]
                  have p1b : (v.kind != 4) = true := by simp [p1]
                  by_cases p2 : v.kind = 5
                  · have p2a : (v.kind == 5) = true := by simp [p2]
                    have p2b : (v.kind != 5) = false := by simp [p2]
                    clear p2
                    by_cases p3 : 0 < v.list.length
                    · have p3a : (0 : Int) < (v.list.length : Int) := by omega
                      by_cases p4 : 0 < v.fields.length
                      · have p4a : (0 : Int) < (v.fields.length : Int) := by omega
                        go_wp2
                        go_meet
                        case rel => exact ⟨by simp [T8, *], rfl⟩
                      · have p4a : ¬ (0 : Int) < (v.fields.length : Int) := by omega
                        go_wp2
                        go_meet
                        case rel => exact ⟨by simp [T8, *], rfl⟩
                    · have p3a : ¬ (0 : Int) < (v.list.length : Int) := by omega
                      by_cases p4 : 0 < v.fields.length
                      · have p4a : (0 : Int) < (v.fields.length : Int) := by omega
                        go_wp2
                        go_meet
                        case rel => exact ⟨by simp [T8, *], rfl⟩
                      · have p4a : ¬ (0 : Int) < (v.fields.length : Int) := by omega
                        go_wp2
                        go_meet
                        case rel => exact ⟨by simp [T8, *], rfl⟩
                  · have p2a : (v.kind == 5) = false := by simp [p2]
                    have p2b : (v.kind != 5) = true := by simp [p2]
                    by_cases p3 : 0 < v.list.length
                    · have p3a : (0 : Int) < (v.list.length : Int) := by omega
                      by_cases p4 : 0 < v.fields.length
                      · have p4a : (0 : Int) < (v.fields.length : Int) := by omega
                        go_wp2
                        go_meet
                        case rel => exact ⟨by simp [T8, *], rfl⟩
                      · have p4a : ¬ (0 : Int) < (v.fields.length : Int) := by omega
                        go_wp2
                        go_meet
                        case rel => exact ⟨by simp [T8, *], rfl⟩
                    · have p3a : ¬ (0 : Int) < (v.list.length : Int) := by omega
                      by_cases p4 : 0 < v.fields.length
                      · have p4a : (0 : Int) < (v.fields.length : Int) := by omega
                        go_wp2
                        go_meet
                        case rel => exact ⟨by simp [T8, *], rfl⟩
                      · have p4a : ¬ (0 : Int) < (v.fields.length : Int) := by omega
                        go_wp2
                        go_meet
                        case rel => exact ⟨by simp [T8, *], rfl⟩
              case rest =>
                obtain ⟨rfl, rfl⟩ := hcut
                cases ht8 : T8 v with
                | true =>
                  have H := Lib.hid (show shapeV v = false by rw [Hq.out, ht8]; simp)
                  clear ht8
                  go_wp2
                  go_ret
                  rw [H.out]
                  exact ⟨rfl, (Hb.out.1 _).trans (H1.out.mono (Nat.le_succ _))⟩
                | false =>
                  have H0 := Lib.hid (show shapeV v = (v.list.all shapeV && (keysB v.fields && v.fields.all fun g => shapeV g.2)) by rw [Hq.out, ht1, ht3, ht6, ht8]; simp)
                  clear ht1 ht3 ht6 ht8
                  clear c50 c51 c52
                  go_wp2
                  clear c53 c54
                  have hst1 := H1.out
                  go_loopg [4, 5] v.list.length (fun gg s4 _ wr => ∃ i : Nat, i ≤ v.list.length ∧ v.list.length - i ≤ gg ∧ s4 = .int .i64 i ∧ Hid ((∀ x ∈ v.list.take i, shapeV x = true) ∧ Below (W.heap.size + 1) (W.alloc (.cells #[.int .i64 v.kind, .int .i64 v.int, .string v.text, .slice ra v.list.length rc, .slice ta v.fields.length tc] 27)) wr))
                  case atStart => exact ⟨0, Nat.zero_le _, by omega, rfl, by simp, hst1⟩
                  case round =>
                    clear hst1
                    obtain ⟨i, hil, hgg, rfl, H⟩ := hrel
                    have hbx := Hx.out wr H.out.2
                    obtain ⟨_, _, _, c53, c54⟩ := hbx.c
                    have hBW := (Hb.out.1 (.cells #[.int .i64 v.kind, .int .i64 v.int, .string v.text, .slice ra v.list.length rc, .slice ta v.fields.length tc] 27)).trans (H.out.2.mono (Nat.le_succ _))
                    clear hbx
                    by_cases hlt : i < v.list.length
                    · have hltz : (i : Int) < (v.list.length : Int) := by omega
                      obtain ⟨g1, r', t', ha, hgl, _, hc, hhx⟩ := (Hb.out.2.2.1.later hBW).1.at hlt
                      have hin := List.getElem_mem hlt
                      have htk := List.take_succ_eq_append_getElem hlt
                      simp only at ha
                      subst ha
                      generalize v.list[i] = x at hc hhx hin htk
                      have c0 : wr.cell? ⟨g1, i * 5, none⟩ = some (.int .i64 x.kind) := hc 0 _ rfl
                      have c1 : wr.cell? ⟨g1, i * 5 + 1, none⟩ = some (.int .i64 x.int) := hc 1 _ rfl
                      have c2 : wr.cell? ⟨g1, i * 5 + 2, none⟩ = some (.string x.text) := hc 2 _ rfl
                      have c3 : wr.cell? ⟨g1, i * 5 + 3, none⟩ = some (.slice r'.a r'.n r'.c) := hc 3 _ rfl
                      have c4 : wr.cell? ⟨g1, i * 5 + 4, none⟩ = some (.slice t'.a t'.n t'.c) := hc 4 _ rfl
                      have hcall := Hb.out.2.2.2.1 x hin S wr r' t' (fun g hg => Nat.lt_of_lt_of_le (Hb.out.2.1 g hg) hBW.size) hhx (Hb.out.2.2.2.2.2.1 x hin)
                      have HB := Lib.hid (And.intro hBW (And.intro hin htk))
                      clear hc hhx hin htk hBW
                      cases hsx : shapeV x with
                      | false =>
                        rw [hsx] at hcall
                        have H2 := Lib.hid (show shapeV v = false by
                          rw [H0.out, List.all_eq_false.2 ⟨x, HB.out.2.1, by rw [hsx]; simp⟩]; rfl)
                        clear hsx
                        go_wp2_with fail
                        refine hcall.mono ?_
                        rintro e w4 ⟨rfl, hb4⟩
                        clear hcall
                        go_wp2
                        go_ret
                        rw [H2.out]
                        exact ⟨rfl, HB.out.1.trans (hb4.mono HB.out.1.size)⟩
                      | true =>
                        rw [hsx] at hcall
                        have Hs := Lib.hid hsx
                        clear hsx
                        go_wp2_with fail
                        refine hcall.mono ?_
                        rintro e w4 ⟨rfl, hb4⟩
                        clear hcall
                        go_wp2
                        go_roundg (v.list.length - (i + 1))
                        case measure => omega
                        case rel =>
                          refine ⟨i + 1, by omega, by omega, by go_num, ?_, H.out.2.trans (hb4.mono (by have := H.out.2.size; rw [size_alloc] at this; exact this))⟩
                          rw [HB.out.2.2]
                          intro y hy
                          rcases List.mem_append.1 hy with hy | hy
                          · exact H.out.1 y hy
                          · rw [List.mem_singleton] at hy; rw [hy]; exact Hs.out
                    · obtain rfl : i = v.list.length := by omega
                      have hall1 : v.list.all shapeV = true := by
                        have := H.out.1
                        rw [List.take_length] at this
                        exact List.all_eq_true.2 this
                      have H3 := Lib.hid (show shapeV v = (keysB v.fields && v.fields.all fun g => shapeV g.2) by rw [H0.out, hall1]; rfl)
                      have HB := Lib.hid hBW
                      clear hall1 hBW
                      go_wp2
                      clear c53 c54
                      go_loopg [6, 7, 8, 9] v.fields.length (fun gg s6 _ _ _ wr => ∃ i : Nat, i ≤ v.fields.length ∧ v.fields.length - i ≤ gg ∧ s6 = .int .i64 i ∧
                        Hid ((∀ x ∈ v.fields.take i, utf.okB x.1.data.toList = true ∧ shapeV x.2 = true) ∧ distB ((v.fields.take i).map (·.1.data.toList)) = true ∧ Below (W.heap.size + 1) (W.alloc (.cells #[.int .i64 v.kind, .int .i64 v.int, .string v.text, .slice ra v.list.length rc, .slice ta v.fields.length tc] 27)) wr))
                      case atStart => exact ⟨0, Nat.zero_le _, by omega, rfl, by simp, rfl, H.out.2⟩
                      case round =>
                        obtain ⟨i, hil2, hgg2, rfl, H4⟩ := hrel
                        obtain ⟨wo, rfl⟩ : ∃ w', w' = wr := ⟨wr, rfl⟩
                        have hbx := Hx.out wo H4.out.2.2
                        obtain ⟨_, _, _, c53, c54⟩ := hbx.c
                        have hBW := (Hb.out.1 (.cells #[.int .i64 v.kind, .int .i64 v.int, .string v.text, .slice ra v.list.length rc, .slice ta v.fields.length tc] 27)).trans (H4.out.2.2.mono (Nat.le_succ _))
                        clear hbx c53
                        by_cases hlf : i < v.fields.length
                        · have hltf : (i : Int) < (v.fields.length : Int) := by omega
                          obtain ⟨g1, r', t', ha, hgl, _, hc, hhx⟩ := (Hb.out.2.2.1.later hBW).2.at hlf
                          have hin := List.getElem_mem hlf
                          have htk := List.take_succ_eq_append_getElem hlf
                          have hgi := List.getElem?_eq_getElem hlf
                          simp only at ha
                          subst ha
                          generalize v.fields[i] = x at hc hhx hin htk hgi
                          have c0 : wo.cell? ⟨g1, i * 6, none⟩ = some (.string x.1) := hc 0 _ rfl
                          have hcV := utf.refValid_any x.1 (Hb.out.2.2.2.2.2.2 x hin).1 wo
                          have hcall := fun W1 (hb : Below wo.heap.size wo W1) => Hb.out.2.2.2.2.1 x hin S W1 r' t' (fun g hg => Nat.lt_of_lt_of_le (Hb.out.2.1 g hg) (hBW.trans (hb.mono hBW.size)).size) (hhx.later hb) (Hb.out.2.2.2.2.2.2 x hin).2
                          have HB := Lib.hid (And.intro hBW (And.intro hin (And.intro htk (And.intro hgi hc))))
                          have HC := Lib.hid hcall
                          clear hc hhx hin htk hBW hgi hcall
                          have lW : W.heap.size < wo.heap.size := by have := H4.out.2.2.size; rw [size_alloc] at this; omega
                          generalize hok : utf.okB x.1.data.toList = ok at hcV
                          generalize hsh : shapeV x.2 = sh
                          have Hok := Lib.hid (And.intro hok hsh)
                          have hcall2 : ∀ W1, Below wo.heap.size wo W1 → Calls Tryd.prog 45 #[.agg #[.int .i64 x.2.kind, .int .i64 x.2.int, .string x.2.text, .slice r'.a r'.n r'.c, .slice t'.a t'.n t'.c]] W1 fun e w' => e = .returned (.bool sh) ∧ Below W1.heap.size W1 w' := fun W1 hb => by rw [← hsh]; exact HC.out W1 hb
                          clear hok hsh
                          go_wp2_with (go_at_call 71; refine hcV.mono ?_; rintro e w4 ⟨rfl, hb4⟩; have d54 : w4.cell? ⟨W.heap.size, 4, none⟩ = some (.slice (some ⟨g1, 0, none⟩) v.fields.length tc) := (hb4.cell (by exact lW)).trans c54; have y1 : w4.cell? ⟨g1, i * 6 + 1, none⟩ = some (.int .i64 x.2.kind) := (hb4.cell (by exact hgl)).trans (HB.out.2.2.2.2 1 _ rfl); have y2 : w4.cell? ⟨g1, i * 6 + 2, none⟩ = some (.int .i64 x.2.int) := (hb4.cell (by exact hgl)).trans (HB.out.2.2.2.2 2 _ rfl); have y3 : w4.cell? ⟨g1, i * 6 + 3, none⟩ = some (.string x.2.text) := (hb4.cell (by exact hgl)).trans (HB.out.2.2.2.2 3 _ rfl); have y4 : w4.cell? ⟨g1, i * 6 + 4, none⟩ = some (.slice r'.a r'.n r'.c) := (hb4.cell (by exact hgl)).trans (HB.out.2.2.2.2 4 _ rfl); have y5 : w4.cell? ⟨g1, i * 6 + 5, none⟩ = some (.slice t'.a t'.n t'.c) := (hb4.cell (by exact hgl)).trans (HB.out.2.2.2.2 5 _ rfl); have H5 := Lib.hid hb4; clear hb4)
                          refine (hcall2 _ H5.out).mono ?_
                          rintro e w5 ⟨rfl, hb5⟩
                          have hb05 := H5.out.trans (hb5.mono H5.out.size)
                          have H6 := Lib.hid hb05
                          clear hcall2 hcV d54 y1 y2 y3 y4 y5 hb5 hb05 c0 c54 H5
                          cases ok with
                          | false =>
                            have H7 := Lib.hid (show shapeV v = false by
                              rw [H3.out]; unfold keysB
                              rw [List.all_eq_false.2 ⟨x, HB.out.2.1, by rw [Hok.out.1]; simp⟩]; rfl)
                            go_wp2
                            go_ret
                            rw [H7.out]
                            exact ⟨rfl, HB.out.1.trans (H6.out.mono HB.out.1.size)⟩
                          | true =>
                            cases sh with
                            | false =>
                              have H7 := Lib.hid (show shapeV v = false by
                                have hf : (v.fields.all fun g => shapeV g.2) = false := List.all_eq_false.2 ⟨x, HB.out.2.1, by rw [Hok.out.2]; simp⟩
                                rw [H3.out, hf]; simp)
                              go_wp2
                              go_ret
                              rw [H7.out]
                              exact ⟨rfl, HB.out.1.trans (H6.out.mono HB.out.1.size)⟩
                            | true =>
                              go_wp2
                              go_loopg [9] i (fun gg s9 wr => ∃ j : Nat, j ≤ i ∧ i - j ≤ gg ∧ s9 = .int .i64 j ∧ Hid ((∀ m, m < j → (v.fields[m]?).map (·.1.data.toList) ≠ some x.1.data.toList) ∧ Below wo.heap.size wo wr))
                              case atStart => exact ⟨0, Nat.zero_le _, by omega, rfl, by simp, H6.out⟩
                              case round =>
                                obtain ⟨j, hji, hggj, rfl, H8⟩ := hrel
                                have d54 : wo.cell? ⟨W.heap.size, 4, none⟩ = some (.slice (some ⟨g1, 0, none⟩) v.fields.length tc) := by rw [(Hx.out wo H4.out.2.2).c.2.2.2.2]
                                have e54 := (H8.out.2.cell (p := ⟨W.heap.size, 4, none⟩) (by exact lW)).trans d54
                                clear d54
                                by_cases hlj : j < i
                                · have hljz : (j : Int) < (i : Int) := by omega
                                  have hjn : (j : Int) < (v.fields.length : Int) := by omega
                                  obtain ⟨g3, r3, t3, ha3, _, _, hc3, _⟩ := (Hb.out.2.2.1.later HB.out.1).2.at (i := j) (by omega)
                                  simp only [Option.some.injEq, Addr.mk.injEq, and_true] at ha3
                                  obtain rfl := ha3
                                  have hgj : v.fields[j]? = some v.fields[j] := List.getElem?_eq_getElem (by omega)
                                  generalize v.fields[j] = y at hc3 hgj
                                  have cj : ∀ W1, Below wo.heap.size wo W1 → W1.cell? ⟨g1, j * 6, none⟩ = some (.string y.1) := fun W1 hb => (hb.cell (by exact hgl)).trans (hc3 0 _ rfl)
                                  have kj := cj wr H8.out.2
                                  have ki : wr.cell? ⟨g1, i * 6, none⟩ = some (.string x.1) := (H8.out.2.cell (by exact hgl)).trans (HB.out.2.2.2.2 0 _ rfl)
                                  clear hc3 cj
                                  have Hgj := Lib.hid hgj
                                  clear hgj
                                  by_cases hxy : y.1.toList = x.1.toList
                                  · have e1 : (y.1.toList == x.1.toList) = true := by simpa using hxy
                                    have H9 := Lib.hid (show shapeV v = false by
                                      rw [H3.out]
                                      cases hd : distB (v.fields.map (·.1.data.toList)) with
                                      | false => unfold keysB; rw [hd]; simp
                                      | true =>
                                        exfalso
                                        refine distB_ne _ hd j i x.1.data.toList hlj (by rw [List.getElem?_map, HB.out.2.2.2.1]; rfl) ?_
                                        rw [List.getElem?_map, Hgj.out]
                                        rw [ByteArray.toList_eq, ByteArray.toList_eq] at hxy
                                        exact congrArg some hxy)
                                    clear hxy
                                    go_wp2_with fail
                                    go_quiet (fail)
                                    go_wp2
                                    go_ret
                                    rw [H9.out]
                                    have hbq : Below wo.heap.size wo (wr.drewN nq) := ⟨H8.out.2.os, H8.out.2.tape, H8.out.2.output, H8.out.2.size, H8.out.2.block⟩
                                    exact ⟨rfl, HB.out.1.trans (hbq.mono HB.out.1.size)⟩
                                  · have e1 : (y.1.toList == x.1.toList) = false := by simpa using hxy
                                    have Hxy := Lib.hid hxy
                                    clear hxy
                                    go_wp2_with fail
                                    go_quiet (fail)
                                    go_wp2
                                    go_roundg (i - (j + 1))
                                    case measure => omega
                                    case rel =>
                                      refine ⟨j + 1, by omega, by omega, by go_num, ?_, ⟨H8.out.2.os, H8.out.2.tape, H8.out.2.output, H8.out.2.size, H8.out.2.block⟩⟩
                                      intro m hm
                                      by_cases e : m = j
                                      · subst e
                                        rw [Hgj.out]
                                        intro h
                                        injection h with h
                                        exact Hxy.out (by rw [ByteArray.toList_eq, ByteArray.toList_eq]; exact h)
                                      · exact H8.out.1 m (by omega)
                                · obtain rfl : j = i := by omega
                                  go_wp2
                                  go_roundg (v.fields.length - (j + 1))
                                  case measure => omega
                                  case rel =>
                                    refine ⟨j + 1, by omega, by omega, by go_num, ?_, ?_, H4.out.2.2.trans (H8.out.2.mono (by have := H4.out.2.2.size; rw [size_alloc] at this; exact this))⟩
                                    · rw [HB.out.2.2.1]
                                      intro z hz
                                      rcases List.mem_append.1 hz with hz | hz
                                      · exact H4.out.1 z hz
                                      · rw [List.mem_singleton] at hz; rw [hz]; exact Hok.out
                                    · rw [HB.out.2.2.1, List.map_append, List.map_singleton, distB_snoc, H4.out.2.1]
                                      have hn : ¬ x.1.data.toList ∈ (v.fields.take j).map (·.1.data.toList) := fun hm => by
                                        obtain ⟨m, hm2⟩ := List.getElem?_of_mem hm
                                        rw [List.getElem?_map, List.getElem?_take] at hm2
                                        split at hm2
                                        · rename_i hmj
                                          exact H8.out.1 m hmj hm2
                                        · cases hm2
                                      cases hcc : ((v.fields.take j).map (·.1.data.toList)).contains x.1.data.toList with
                                      | false => rfl
                                      | true => exact absurd (by simpa using hcc) hn
                        · obtain rfl : i = v.fields.length := by omega
                          have H7 := Lib.hid (show shapeV v = true by
                            rw [H3.out]
                            have h1 := H4.out.1
                            have h2 := H4.out.2.1
                            rw [List.take_length] at h1 h2
                            unfold keysB
                            rw [List.all_eq_true.2 (fun x hx => (h1 x hx).1), h2, List.all_eq_true.2 (fun x hx => (h1 x hx).2)]; rfl)
                          have HB := Lib.hid hBW
                          clear hBW
                          go_wp2
                          go_ret
                          rw [H7.out]
                          exact ⟨rfl, HB.out⟩
end Go.Proofs.YteocenjneoclbaaDoor.tre

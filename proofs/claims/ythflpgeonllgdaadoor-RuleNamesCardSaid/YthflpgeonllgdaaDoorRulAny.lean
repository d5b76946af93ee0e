/- Layer 8: of the document: Any. -/
import Derived.Test.YthflpgeonllgdaaDoorRulIdx
import Derived.Test.YthflpgeonllgdaaDoorRepQ
import Derived.BigQuiet
namespace Go.Proofs.YthflpgeonllgdaaDoor.rul
open Go.RowKit Go.Proofs.YthflpgeonllgdaaDoor.rep Go.Proofs.YthflpgeonllgdaaDoor.lab

theorem mixed : Tryd.prog.follows .mixedOrders = true := by kernel_rfl
theorem cell_lt {w : World} {g j : Nat} {v : Value} (h : w.cell? ⟨g, j, none⟩ = some v) : g < w.heap.size := World.block_lt_of_cell? w _ h

theorem cell_new (w : World) (cs : Array Value) (t : TypeId) (j : Nat) : (w.alloc (.cells cs t)).cell? ⟨w.heap.size, j, none⟩ = cs[j]? := cell_of_row _ w.heap.size j cs t (0, 0) (heap_alloc_new w _)
theorem ruAt.later {B : Nat} {W w : World} {v g s n p : Value} {r : Ru} (h : ruAt B W v g s n p r) (hb : Below W.heap.size W w) : ruAt B w v g s n p r := ⟨h.1.later hb, h.2.1.later hb, h.2.2.1.later hb, h.2.2.2.1.later hb, h.2.2.2.2.later hb⟩
def ruR (B : Nat) : Rep Ru where
  n := 5
  at_ W cs x := ∃ v g s n p, cs = [v, g, s, n, p] ∧ ruAt B W v g s n p x
  len h := by obtain ⟨v, g, s, n, p, h, _⟩ := h; rw [h]; rfl
  later h hb := by obtain ⟨v, g, s, n, p, h, h1⟩ := h; exact ⟨v, g, s, n, p, h, h1.later hb⟩
set_option maxHeartbeats 1000000 in
theorem rAny_any (B : Nat) (hB : B ≤ 140737488355328) (a : Option Addr) (c : Nat) (l : List Ru) (hl : l.length ≤ 140737488355328) (x : Ak) (hx : akOk B x) (w : World) (hr : RowIn (ruR B) w a l) :
    Calls Tryd.prog 23 #[.slice a l.length c, .agg #[.string x.verb, .string x.group, .string x.resource, .string x.part, .string x.name, .string x.space, .string x.path]] w fun e w' => e = .returned (.bool (l.any (allowsB · x))) ∧ Below w.heap.size w w' := by
  have Hr := Lib.hid hr
  clear hr
  have bq := below_new w (.cells #[.string x.verb, .string x.group, .string x.resource, .string x.part, .string x.name, .string x.space, .string x.path] 26)
  have C0 := Lib.hid (show ∀ W, Below (w.alloc (.cells #[.string x.verb, .string x.group, .string x.resource, .string x.part, .string x.name, .string x.space, .string x.path] 26)).heap.size (w.alloc (.cells #[.string x.verb, .string x.group, .string x.resource, .string x.part, .string x.name, .string x.space, .string x.path] 26)) W →
      W.cell? ⟨w.heap.size, 0, none⟩ = some (.string x.verb) ∧ W.cell? ⟨w.heap.size, 1, none⟩ = some (.string x.group) ∧ W.cell? ⟨w.heap.size, 2, none⟩ = some (.string x.resource) ∧ W.cell? ⟨w.heap.size, 3, none⟩ = some (.string x.part) ∧ W.cell? ⟨w.heap.size, 4, none⟩ = some (.string x.name) ∧ W.cell? ⟨w.heap.size, 5, none⟩ = some (.string x.space) ∧ W.cell? ⟨w.heap.size, 6, none⟩ = some (.string x.path) from fun W hW => by
    refine ⟨?_, ?_, ?_, ?_, ?_, ?_, ?_⟩ <;> exact (hW.cell (by show w.heap.size < _; simp)).trans (cell_new _ _ _ _))
  go_enter Tryd.func23, Tryd.ntmps23
  go_wp2
  go_loopw [5] (fun v wr => ∃ k : Nat, k ≤ l.length ∧ v = .int .i64 k ∧ Hid (∀ j, j < k → ∀ (hj : j < l.length), allowsB l[j] x = false) ∧ Below (w.alloc (.cells #[.string x.verb, .string x.group, .string x.resource, .string x.part, .string x.name, .string x.space, .string x.path] 26)).heap.size (w.alloc (.cells #[.string x.verb, .string x.group, .string x.resource, .string x.part, .string x.name, .string x.space, .string x.path] 26)) wr) (fun v _ => l.length - (intOf v).toNat)
  case atStart => exact ⟨0, by omega, rfl, fun j hj => by omega, Below.refl _ _⟩
  case round =>
    obtain ⟨k, hk, rfl, Ha, hbr⟩ := hrel
    obtain ⟨wo, rfl⟩ : ∃ w', w' = wr := ⟨wr, rfl⟩
    obtain ⟨q0, q1, q2, q3, q4, q5, q6⟩ := C0.out wo hbr
    have hbo := chain bq hbr
    by_cases hlt : k < l.length
    · obtain ⟨b, off, rfl, hbl, cs, hat, hcell⟩ := (Hr.out.later hbo).get hlt
      obtain ⟨v, g, s, n, p, hcs, hru⟩ := hat
      subst hcs
      have c0 : wo.cell? ⟨b, off + k * 5, none⟩ = some v := hcell 0 _ rfl
      have c1 : wo.cell? ⟨b, off + k * 5 + 1, none⟩ = some g := hcell 1 _ rfl
      have c2 : wo.cell? ⟨b, off + k * 5 + 2, none⟩ = some s := hcell 2 _ rfl
      have c3 : wo.cell? ⟨b, off + k * 5 + 3, none⟩ = some n := hcell 3 _ rfl
      have c4 : wo.cell? ⟨b, off + k * 5 + 4, none⟩ = some p := hcell 4 _ rfl
      clear hcell
      have CA := Lib.hid (show ∀ W, Below wo.heap.size wo W → Calls Tryd.prog 17 #[.agg #[v, g, s, n, p], .agg #[.string x.verb, .string x.group, .string x.resource, .string x.part, .string x.name, .string x.space, .string x.path]] W (fun e W' => e = .returned (.bool (allowsB l[k] x)) ∧ Below W.heap.size W W') from fun W hW => rAllows_any B hB l[k] v g s n p x W (hru.later hW) hx)
      have g0 := cell_below hbl c0
      have g1 := cell_below hbl c1
      have g2 := cell_below hbl c2
      have g3 := cell_below hbl c3
      have g4 := cell_below hbl c4
      have hgl := cell_lt q0
      have k0 := cell_below hgl q0
      have k1 := cell_below hgl q1
      have k2 := cell_below hgl q2
      have k3 := cell_below hgl q3
      have k4 := cell_below hgl q4
      have k5 := cell_below hgl q5
      have k6 := cell_below hgl q6
      have ki : (k : Int) < (l.length : Int) := by omega
      have mixed := mixed
      obtain ⟨b1, hb1⟩ : ∃ b1, allowsB l[k] x = b1 := ⟨_, rfl⟩
      have Hv := Lib.hid hb1
      rw [hb1] at CA
      clear hb1 hru
      go_wp2
      refine wp_region_quiet_below (by assumption) (by kernel_rfl) ?_
      repeat (quiet_step (first
        | (go_at_call 17; exact calls_below (CA.out _ (below_of_grown _ _)))))
      refine wpQuiet_nil ?_
      intro _ hw'
      obtain ⟨⟨nq, osq⟩, hw''⟩ := hw'
      subst hw''
      cases b1 with
      | true =>
        have H := Lib.hid (show l.any (allowsB · x) = true from List.any_eq_true.2 ⟨l[k], List.getElem_mem hlt, Hv.out⟩)
        go_wp2
        go_ret
        exact ⟨ret_bool H.out.symm, chain hbo (below_of_grown nq osq)⟩
      | false =>
        have Hn := Lib.hid (show ∀ j, j < k + 1 → ∀ (hj : j < l.length), allowsB l[j] x = false from fun j hjk hj => by
          by_cases e : j = k
          · subst e; exact Hv.out
          · exact Ha.out j (by omega) hj)
        go_wp2
        go_roundw
        case rel => exact ⟨k + 1, by omega, by go_num, Hn, chain hbr (below_of_grown nq osq)⟩
        case measure => simp [intOf]; omega
    · have Hn : Hid (l.any (allowsB · x) = false) := any_false (p := (allowsB · x)) fun j hj => Ha.out j (by omega) hj
      clear Ha
      go_wp2
      go_ret
      exact ⟨ret_bool Hn.out.symm, hbo⟩
end Go.Proofs.YthflpgeonllgdaaDoor.rul

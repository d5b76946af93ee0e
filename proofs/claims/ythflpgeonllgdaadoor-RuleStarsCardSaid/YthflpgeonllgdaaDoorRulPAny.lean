/- Layer 8: rule's Any. -/
import Derived.Test.YthflpgeonllgdaaDoorRulAlw
namespace Go.Proofs.YthflpgeonllgdaaDoor.rul
open Go.RowKit Go.Proofs.YthflpgeonllgdaaDoor.rep Go.Proofs.YthflpgeonllgdaaDoor.lab

set_option maxHeartbeats 2000000 in
theorem Any_any (B : Nat) (hB : B ≤ 140737488355328) (a : Option Addr) (c : Nat) (l : List Ru) (hl : l.length ≤ 140737488355328) (x : Ak) (hx : akOk B x) (w : World) (hr : RowIn (ruR B) w a l) :
    Calls Tryd.prog 22 #[.slice a l.length c, .agg #[.string x.verb, .string x.group, .string x.resource, .string x.part, .string x.name, .string x.space, .string x.path]] w fun e w' => e = .returned (.bool (l.any (allowsB · x))) ∧ Below w.heap.size w w' := by
  have Hr := Lib.hid hr
  clear hr
  have bq := below_new w (.cells #[.string x.verb, .string x.group, .string x.resource, .string x.part, .string x.name, .string x.space, .string x.path] 26)
  have C0 := Lib.hid (show ∀ W, Below (w.alloc (.cells #[.string x.verb, .string x.group, .string x.resource, .string x.part, .string x.name, .string x.space, .string x.path] 26)).heap.size (w.alloc (.cells #[.string x.verb, .string x.group, .string x.resource, .string x.part, .string x.name, .string x.space, .string x.path] 26)) W →
      W.cell? ⟨w.heap.size, 0, none⟩ = some (.string x.verb) ∧ W.cell? ⟨w.heap.size, 1, none⟩ = some (.string x.group) ∧ W.cell? ⟨w.heap.size, 2, none⟩ = some (.string x.resource) ∧ W.cell? ⟨w.heap.size, 3, none⟩ = some (.string x.part) ∧ W.cell? ⟨w.heap.size, 4, none⟩ = some (.string x.name) ∧ W.cell? ⟨w.heap.size, 5, none⟩ = some (.string x.space) ∧ W.cell? ⟨w.heap.size, 6, none⟩ = some (.string x.path) from fun W hW => by
    refine ⟨?_, ?_, ?_, ?_, ?_, ?_, ?_⟩ <;> exact (hW.cell (by show w.heap.size < _; simp)).trans (cell_new _ _ _ _))
  go_enter Tryd.func22, Tryd.ntmps22
  go_wp2
  go_step3
  go_wp2
  go_step3
  go_wp2
  generalize hwa : (w.alloc (.cells #[.string x.verb, .string x.group, .string x.resource, .string x.part, .string x.name, .string x.space, .string x.path] 26)) = wa at *
  have b0 := Below.refl wa.heap.size wa
  go_loopw [5, 10] (fun u v wr => u = .bool false ∧ ∃ k : Nat, k ≤ l.length ∧ v = .int .i64 k ∧ Hid (∀ j, j < k → ∀ (hj : j < l.length), allowsB l[j] x = false) ∧ Below wa.heap.size wa wr) (fun _ v _ => l.length - (intOf v).toNat)
  case atStart => exact ⟨rfl, 0, by omega, rfl, fun j hj => by omega, b0⟩
  case round =>
    obtain ⟨rfl, k, hk, rfl, Ha, hbr⟩ := hrel
    obtain ⟨wo, rfl⟩ : ∃ w', w' = wr := ⟨wr, rfl⟩
    have hbo := chain bq hbr
    by_cases hlt : k < l.length
    · obtain ⟨b, off, rfl, hbl, cs, hat, hcell⟩ := (Hr.out.later hbo).get hlt
      obtain ⟨v, g, s, n, p, hcs, hru⟩ := hat
      subst hcs
      obtain ⟨⟨va, vc, rfl, hv⟩, ⟨ga, gc, rfl, hg⟩, ⟨sa, sc, rfl, hs⟩, ⟨na, nc, rfl, hn⟩, ⟨pa, pc, rfl, hp⟩⟩ := hru
      have hru : ruAt B wo _ _ _ _ _ l[k] := ⟨⟨va, vc, rfl, hv⟩, ⟨ga, gc, rfl, hg⟩, ⟨sa, sc, rfl, hs⟩, ⟨na, nc, rfl, hn⟩, ⟨pa, pc, rfl, hp⟩⟩
      clear hv hg hs hn hp
      have c0 : wo.cell? ⟨b, off + k * 5, none⟩ = some (.slice va l[k].verbs.length vc) := hcell 0 _ rfl
      have c1 : wo.cell? ⟨b, off + k * 5 + 1, none⟩ = some (.slice ga l[k].groups.length gc) := hcell 1 _ rfl
      have c2 : wo.cell? ⟨b, off + k * 5 + 2, none⟩ = some (.slice sa l[k].resources.length sc) := hcell 2 _ rfl
      have c3 : wo.cell? ⟨b, off + k * 5 + 3, none⟩ = some (.slice na l[k].names.length nc) := hcell 3 _ rfl
      have c4 : wo.cell? ⟨b, off + k * 5 + 4, none⟩ = some (.slice pa l[k].paths.length pc) := hcell 4 _ rfl
      clear hcell
      have ki : (k : Int) < (l.length : Int) := by omega
      have hn := below_new wo (.cells #[.slice va l[k].verbs.length vc, .slice ga l[k].groups.length gc, .slice sa l[k].resources.length sc, .slice na l[k].names.length nc, .slice pa l[k].paths.length pc] 24)
      obtain ⟨q0, q1, q2, q3, q4, q5, q6⟩ := C0.out _ (chain hbr hn)
      have ca := Allows_any B hB l[k] _ _ _ _ _ x _ (hru.later hn) hx
      obtain ⟨b1, hb1⟩ : ∃ b1, allowsB l[k] x = b1 := ⟨_, rfl⟩
      have Hv := Lib.hid hb1
      rw [hb1] at ca
      clear hb1 hru
      cases b1 with
      | true =>
        have H := Lib.hid (show l.any (allowsB · x) = true from List.any_eq_true.2 ⟨l[k], List.getElem_mem hlt, Hv.out⟩)
        clear Ha Hv
        go_wp2_with fail
        refine ca.mono ?_
        rintro e w2 ⟨rfl, hb2⟩
        go_wp2
        rw [Exit.noGoto_ret]
        go_ret
        exact ⟨ret_bool H.out.symm, chain bq (chain hbr (chain hn hb2))⟩
      | false =>
        have Hn := Lib.hid (show ∀ j, j < k + 1 → ∀ (hj : j < l.length), allowsB l[j] x = false from fun j hjk hj => by
          by_cases e : j = k
          · subst e; exact Hv.out
          · exact Ha.out j (by omega) hj)
        clear Ha Hv
        go_wp2_with fail
        refine ca.mono ?_
        rintro e w2 ⟨rfl, hb2⟩
        have hbr2 := chain hbr (chain hn hb2)
        go_wp2
        go_roundw
        case rel => exact ⟨rfl, k + 1, by omega, by go_num, Hn, hbr2⟩
        case measure => simp [intOf]; omega
    · have Hn : Hid (l.any (allowsB · x) = false) := any_false (p := (allowsB · x)) fun j hj => Ha.out j (by omega) hj
      clear Ha
      go_wp2
      rw [Exit.noGoto_ret]
      go_ret
      exact ⟨ret_bool Hn.out.symm, hbo⟩
end Go.Proofs.YthflpgeonllgdaaDoor.rul

/- Layer 8: rule's among, a function value that is asked for words; named, Resource. -/
import Derived.Test.YthflpgeonllgdaaDoorRulAny
import Derived.Deep.RegionHeld3
namespace Go.Proofs.YthflpgeonllgdaaDoor.rul
open Go.RowKit Go.Proofs.YthflpgeonllgdaaDoor.rep Go.Proofs.YthflpgeonllgdaaDoor.lab

/-- Is one of some words in a list? -/
def someB (l ws : List ByteArray) : Bool := l.any fun x => ws.any (isT x)
theorem any_or {α : Type} (p q : α → Bool) : ∀ l : List α, (l.any fun x => p x || q x) = (l.any p || l.any q)
  | [] => rfl
  | x :: l => by
    rw [List.any_cons, List.any_cons, List.any_cons, any_or p q l]
    cases p x <;> cases q x <;> simp
theorem some_nil (l : List ByteArray) : someB l [] = false := by
  unfold someB
  induction l with
  | nil => rfl
  | cons x l ih => rw [List.any_cons, ih]; rfl
theorem some_cons (l : List ByteArray) (v : ByteArray) (ws : List ByteArray) : someB l (v :: ws) = (among l v || someB l ws) := by
  unfold someB among isT
  rw [← any_or]
  rfl
theorem some_one (l : List ByteArray) (v : ByteArray) : someB l [v] = among l v := by rw [some_cons, some_nil, Bool.or_false]
theorem some_two (l : List ByteArray) (v : ByteArray) : someB l [v, starT] = eitherB l v := by rw [some_cons, some_cons, some_nil, Bool.or_false]; rfl
theorem some_three (l : List ByteArray) (a b : ByteArray) : someB l [slash a b, (⟨#[42, 47]⟩ : ByteArray) ++ b, starT] = (eitherB l (slash a b) || among l ((⟨#[42, 47]⟩ : ByteArray) ++ b)) := by
  rw [some_cons, some_cons, some_cons, some_nil, Bool.or_false]
  unfold eitherB
  cases among l (slash a b) <;> cases among l starT <;> simp

/-- A row of texts of one's own. -/
theorem row_new {B : Nat} (w : World) (ws : List ByteArray) (t : TypeId) (h : ∀ x ∈ ws, x.size ≤ B) : RowIn (text B) (w.alloc (.cells (ws.map Value.string).toArray t)) (some ⟨w.heap.size, 0, none⟩) ws := by
  refine .inr ⟨w.heap.size, 0, rfl, by simp, fun i hi => ⟨[.string ws[i]], ⟨rfl, h _ (List.getElem_mem hi)⟩, fun j u hu => ?_⟩⟩
  have hj : j = 0 := by
    rcases j with _ | j
    · rfl
    · simp at hu
  subst hj
  have hu2 : u = .string ws[i] := by simpa using hu.symm
  subst hu2
  rw [show 0 + i * (text B).n + 0 = i by simp [text], cell_new]
  simp [hi]
theorem drew_below (w : World) : Below w.heap.size w w.drew := (Below.refl _ _).drew

theorem amongCC_any (B : Nat) (a : Option Addr) (c : Nat) (ws : List ByteArray) (hl : ws.length ≤ 9223372036854775807) (x : ByteArray) (g : Nat) (w : World) (hg : w.cell? ⟨g, 0, none⟩ = some (.slice a ws.length c)) (hr : RowIn (text B) w a ws) :
    Calls Tryd.prog 74 #[.string x, .pointer (some ⟨g, 0, none⟩)] w fun e w' => e = .returned (.bool (ws.any (isT x))) ∧ Below w.heap.size w w' := by
  have hlt := cell_lt hg
  go_enter Tryd.func74, Tryd.ntmps74
  go_wp2_with fail
  refine (conV_any B a c ws hl x _ hr).mono ?_
  rintro e w1 ⟨rfl, rfl⟩
  go_wp2
  go_ret
  exact ⟨rfl, Below.refl _ _⟩
theorem amongC_any (B D : Nat) (wa : Option Addr) (wc : Nat) (ws : List ByteArray) (hw : ws.length ≤ 9223372036854775807) (a : Option Addr) (c : Nat) (l : List ByteArray) (hl : l.length ≤ 9223372036854775807) (g : Nat) (w : World)
    (hg : w.cell? ⟨g, 0, none⟩ = some (.slice a l.length c)) (hr : RowIn (text B) w a l) (hrw : RowIn (text D) w wa ws) :
    Calls Tryd.prog 73 #[.slice wa ws.length wc, .pointer (some ⟨g, 0, none⟩)] w fun e w' => e = .returned (.bool (someB l ws)) ∧ Below w.heap.size w w' := by
  have hlt := cell_lt hg
  have hA : ∀ t, AskR (TxV B) 74 #[.pointer (some ⟨w.heap.size, 0, none⟩)] (fun x => ws.any (isT x)) (w.alloc (.cells #[.slice wa ws.length wc] t)) := fun t =>
    ⟨enters_of Tryd.func74 (by kernel_rfl) rfl, fun W v x hx hb => by
      have hn := below_new w (.cells #[.slice wa ws.length wc] t)
      have hc : (w.alloc (.cells #[.slice wa ws.length wc] t)).cell? ⟨w.heap.size, 0, none⟩ = some (.slice wa ws.length wc) := cell_new _ _ _ _
      obtain ⟨rfl, _⟩ := hx
      exact amongCC_any D wa wc ws hw x _ W ((hb.cell (cell_lt hc)).trans hc) (hrw.later (chain hn hb))⟩
  have HA := Lib.hid hA
  clear hA
  go_enter Tryd.func73, Tryd.ntmps73
  go_wp2_with fail
  refine (conT_any B a c l hl _ _ _ _ (hr.later (below_new _ _)) (HA.out _)).mono ?_
  rintro e w1 ⟨rfl, hb1⟩
  go_wp2
  go_ret
  exact ⟨rfl, chain (below_new _ _) hb1⟩
/-- A function value answers whether one of the words that it is handed is in l. -/
def AskW (k : FuncId) (cap : Array Value) (l : List ByteArray) (w : World) : Prop :=
  (∀ args W, (callFunc k args).run Tryd.prog W = .ok (.enter k args) W) ∧
  ∀ (W : World) (D : Nat) (wa : Option Addr) (wc : Nat) (ws : List ByteArray), ws.length ≤ 9223372036854775807 → Below w.heap.size w W → RowIn (text D) W wa ws → Calls Tryd.prog k (#[.slice wa ws.length wc] ++ cap) W fun e W' => e = .returned (.bool (someB l ws)) ∧ Below W.heap.size W W'
theorem AskW.later {k : FuncId} {cap : Array Value} {l : List ByteArray} {w W : World} (h : AskW k cap l w) (hb : Below w.heap.size w W) : AskW k cap l W :=
  ⟨h.1, fun W' D wa wc ws hl hb' hr => h.2 W' D wa wc ws hl (hb.trans (hb'.mono hb.size)) hr⟩
def AmongTo (l : List ByteArray) (w : World) (e : Ending) (w' : World) : Prop := ∃ k cap, e = .returned (.func (.func k) #[] cap) ∧ AskW k cap l w' ∧ Below w.heap.size w w'
theorem among_any (B : Nat) (a : Option Addr) (c : Nat) (l : List ByteArray) (hl : l.length ≤ 9223372036854775807) (w : World) (hr : RowIn (text B) w a l) :
    Calls Tryd.prog 44 #[.slice a l.length c] w (AmongTo l w) := by
  have hA : ∀ t, AskW 73 #[.pointer (some ⟨w.heap.size, 0, none⟩)] l (w.alloc (.cells #[.slice a l.length c] t)) := fun t =>
    ⟨enters_of Tryd.func73 (by kernel_rfl) rfl, fun W D wa wc ws hw hb hrw => by
      have hn := below_new w (.cells #[.slice a l.length c] t)
      have hc : (w.alloc (.cells #[.slice a l.length c] t)).cell? ⟨w.heap.size, 0, none⟩ = some (.slice a l.length c) := cell_new _ _ _ _
      exact amongC_any B D wa wc ws hw a c l hl _ W ((hb.cell (cell_lt hc)).trans hc) (hr.later (chain hn hb)) hrw⟩
  go_enter Tryd.func44, Tryd.ntmps44
  go_wp2
  go_ret
  exact ⟨_, _, rfl, hA _, below_new _ _⟩

set_option maxHeartbeats 1000000 in
theorem named_any (B : Nat) (a : Option Addr) (c : Nat) (l : List ByteArray) (hl : l.length ≤ 140737488355328) (v : ByteArray) (w : World) (hr : RowIn (text B) w a l) :
    Calls Tryd.prog 45 #[.slice a l.length c, .string v] w fun e w' => e = .returned (.bool (decide (l.length = 0) || (!v.toList.isEmpty && among l v))) ∧ Below w.heap.size w w' := by
  by_cases e1 : l.length = 0
  · have e1' : ((l.length : Int) == 0) = true := by rw [e1]; rfl
    have H := Lib.hid (show (decide (l.length = 0) || (!v.toList.isEmpty && among l v)) = true by rw [decide_eq_true e1]; rfl)
    go_enter Tryd.func45, Tryd.ntmps45
    go_wp2
    go_ret
    exact ⟨ret_bool H.out.symm, Below.refl _ _⟩
  · have e1' : ((l.length : Int) == 0) = false := by rw [beq_eq_false_iff_ne]; omega
    cases e2 : v.toList.isEmpty with
    | true =>
      have H := Lib.hid (show (decide (l.length = 0) || (!true && among l v)) = false by rw [decide_eq_false e1]; rfl)
      go_enter Tryd.func45, Tryd.ntmps45
      go_wp2
      go_ret
      exact ⟨ret_bool H.out.symm, Below.refl _ _⟩
    | false =>
      have H := Lib.hid (show (decide (l.length = 0) || (!false && among l v)) = someB l [v] by rw [decide_eq_false e1, some_one]; rfl)
      have ca := fun w hr => among_any B a c l (by omega) w hr
      clear e1
      go_enter Tryd.func45, Tryd.ntmps45
      go_wp2_with fail
      refine (ca _ hr).mono ?_
      rintro e w1 ⟨k, cap, rfl, hk, hb1⟩
      have ek := hk.1
      have hn := below_new w1 (.cells #[.string v] 9)
      have ck := hk.2 _ v.size _ 1 [v] (by show 1 ≤ _; omega) hn (row_new w1 [v] 9 (by simp))
      go_wp2_with fail
      refine ck.mono ?_
      rintro e w2 ⟨rfl, hb2⟩
      go_wp2
      go_ret
      exact ⟨ret_bool H.out.symm, chain hb1 (chain hn hb2)⟩
theorem slash_size (a b : ByteArray) : (slash a b).size = a.size + 1 + b.size := by unfold slash; simp [ByteArray.size_append]; rfl
set_option maxHeartbeats 1000000 in
theorem Resource_any (B : Nat) (hB : B ≤ 140737488355328) (a : Option Addr) (c : Nat) (l : List ByteArray) (hl : l.length ≤ 140737488355328) (name part : ByteArray) (h1 : name.size ≤ B) (h2 : part.size ≤ B) (w : World) (hr : RowIn (text B) w a l) :
    Calls Tryd.prog 18 #[.slice a l.length c, .string name, .string part] w fun e w' => e = .returned (.bool (resB l name part)) ∧ Below w.heap.size w w' := by
  have ca := fun w hr => among_any B a c l (by omega) w hr
  cases hp : part.toList.isEmpty with
  | true =>
    have H := Lib.hid (show resB l name part = someB l [name, starT] by unfold resB; rw [if_pos hp, some_two])
    go_enter Tryd.func18, Tryd.ntmps18
    go_wp2_with fail
    refine (ca _ hr).mono ?_
    rintro e w1 ⟨k, cap, rfl, hk, hb1⟩
    have ek := hk.1
    have hn := below_new w1 (.cells #[.string name, .string starT] 9)
    have ck := hk.2 _ (name.size + 1) _ 2 [name, starT] (by show 2 ≤ _; omega) hn (row_new w1 [name, starT] 9 (by simp [show starT.size = 1 from rfl]))
    unfold starT at hn ck
    go_wp2_with fail
    refine ck.mono ?_
    rintro e w2 ⟨rfl, hb2⟩
    go_wp2
    go_ret
    exact ⟨ret_bool H.out.symm, chain hb1 (chain hn hb2)⟩
  | false =>
    have H := Lib.hid (show resB l name part = someB l [slash name part, (⟨#[42, 47]⟩ : ByteArray) ++ part, starT] by unfold resB; rw [if_neg (by rw [hp]; decide), some_three])
    have hs := slash_size name part
    have hs2 : ((⟨#[42, 47]⟩ : ByteArray) ++ part).size = 2 + part.size := by rw [ByteArray.size_append]; rfl
    go_enter Tryd.func18, Tryd.ntmps18
    go_wp2_with fail
    refine (ca _ hr).mono ?_
    rintro e w1 ⟨k, cap, rfl, hk, hb1⟩
    have ek := hk.1
    have hn := below_new w1 (.cells #[.string (slash name part), .string ((⟨#[42, 47]⟩ : ByteArray) ++ part), .string starT] 9)
    have hsz : ∀ x ∈ [slash name part, (⟨#[42, 47]⟩ : ByteArray) ++ part, starT], x.size ≤ 2 * B + 2 := by
      have hs3 : starT.size = 1 := rfl
      simp only [List.mem_cons, List.not_mem_nil, or_false]
      rintro x (rfl | rfl | rfl) <;> omega
    have ck := hk.2 _ (2 * B + 2) _ 3 [slash name part, (⟨#[42, 47]⟩ : ByteArray) ++ part, starT] (by show 3 ≤ _; omega) hn (row_new w1 [slash name part, (⟨#[42, 47]⟩ : ByteArray) ++ part, starT] 9 hsz)
    clear hs hs2 hsz
    unfold starT slash at hn ck
    go_wp2_with fail
    refine ck.mono ?_
    rintro e w2 ⟨rfl, hb2⟩
    go_wp2
    go_ret
    exact ⟨ret_bool H.out.symm, chain hb1 (chain hn hb2)⟩
end Go.Proofs.YthflpgeonllgdaaDoor.rul

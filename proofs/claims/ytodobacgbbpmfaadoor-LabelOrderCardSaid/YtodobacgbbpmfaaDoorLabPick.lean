/- Layer 7: label.pick and its closures; label.Wants. -/
import Derived.Test.YtodobacgbbpmfaaDoorLabHas
import Derived.Deep.RegionHeld3
import Derived.BigRegion
namespace Go.Proofs.YtodobacgbbpmfaaDoor.lab
open Go.RowKit Go.Proofs.YtodobacgbbpmfaaDoor.rep

theorem beqS_comm (a b : ByteArray) : (a.toList == b.toList) = (b.toList == a.toList) := by
  rw [Bool.eq_iff_iff, beqS_iff, beqS_iff]; exact eq_comm
theorem among_idx (l : List ByteArray) (v : ByteArray) : decide (0 ≤ idxB (fun x : ByteArray => v.toList == x.toList) l) = among l v := by
  rw [idx_ge]; unfold among
  congr 1
  exact funext fun x => beqS_comm _ _

set_option maxHeartbeats 1000000 in
theorem index_any (B : Nat) (a : Option Addr) (c : Nat) (l : List ByteArray) (hl : l.length ≤ 9223372036854775807) (v : ByteArray) (w : World) (hr : RowIn (text B) w a l) :
    Calls Tryd.prog 63 #[.slice a l.length c, .string v] w fun e w' => e = .returned (.int .i64 (idxB (fun x : ByteArray => v.toList == x.toList) l)) ∧ w = w' := by
  have Hr := Lib.hid hr
  clear hr
  go_enter Tryd.func63, Tryd.ntmps63
  go_wp2
  go_loop [8] (fun u => ∃ k : Nat, k ≤ l.length ∧ u = .int .i64 k ∧ Hid (∀ j, j < k → ∀ (hj : j < l.length), (v.toList == l[j].toList) = false)) (fun u => l.length - (intOf u).toNat)
  case atStart => exact ⟨0, by omega, rfl, fun j hj => by omega⟩
  case round =>
    obtain ⟨k, hk, rfl, Ha⟩ := hrel
    by_cases hlt : k < l.length
    · obtain ⟨b, off, rfl, hbl, cs, hat, hcell⟩ := Hr.out.get hlt
      obtain ⟨hcs, hx⟩ := hat
      subst hcs
      have c0 : w.cell? ⟨b, off + k, none⟩ = some (.string l[k]) := by have := hcell 0 _ rfl; simpa [text] using this
      clear hcell
      cases hp1 : (v.toList == l[k].toList) with
      | true =>
        have Hn := Lib.hid (idx_at (p := fun x : ByteArray => v.toList == x.toList) hlt hp1 fun j hj hjk => Ha.out j hjk hj)
        clear Ha
        go_wp2
        go_ret
        exact ⟨ret_int Hn.out.symm, rfl⟩
      | false =>
        have Hn := Lib.hid (show ∀ j, j < k + 1 → ∀ (hj : j < l.length), (v.toList == l[j].toList) = false from fun j hjk hj => by
          by_cases e : j = k
          · subst e; exact hp1
          · exact Ha.out j (by omega) hj)
        clear Ha
        go_wp2
        go_round
        case rel => exact ⟨k + 1, by omega, by go_num, Hn⟩
        case measure => simp [intOf]; omega
    · have Hn := Lib.hid (idx_none (p := fun x : ByteArray => v.toList == x.toList) (l := l) fun j hj => Ha.out j (by omega) hj)
      clear Ha
      go_wp2
      go_ret
      exact ⟨ret_int Hn.out.symm, rfl⟩
theorem contains_any (B : Nat) (a : Option Addr) (c : Nat) (l : List ByteArray) (hl : l.length ≤ 9223372036854775807) (v : ByteArray) (w : World) (hr : RowIn (text B) w a l) :
    Calls Tryd.prog 41 #[.slice a l.length c, .string v] w fun e w' => e = .returned (.bool (among l v)) ∧ w = w' := by
  have hi := fun w => index_any B a c l hl v w
  have H := Lib.hid (among_idx l v)
  obtain ⟨h1, h2⟩ := idx_bd (fun x : ByteArray => v.toList == x.toList) l
  generalize idxB (fun x : ByteArray => v.toList == x.toList) l = z at *
  generalize among l v = y at *
  go_enter Tryd.func41, Tryd.ntmps41
  go_wp2_with fail
  refine (hi _ hr).mono ?_
  rintro e w1 ⟨rfl, rfl⟩
  go_wp2
  go_ret
  exact ⟨ret_bool H.out, rfl⟩

/-- A function value answers q of what a label says, and whether it is there. -/
def Ask2 (k : FuncId) (cap : Array Value) (q : ByteArray → Bool → Bool) (w : World) : Prop :=
  (∀ args W, (callFunc k args).run Tryd.prog W = .ok (.enter k args) W) ∧
  ∀ (W : World) (v : ByteArray) (is : Bool), Below w.heap.size w W → Calls Tryd.prog k (#[.string v, .bool is] ++ cap) W fun e W' => e = .returned (.bool (q v is)) ∧ Below W.heap.size W W'
theorem Ask2.later {k : FuncId} {cap : Array Value} {q : ByteArray → Bool → Bool} {w W : World} (h : Ask2 k cap q w) (hb : Below w.heap.size w W) : Ask2 k cap q W :=
  ⟨h.1, fun W' v is hb' => h.2 W' v is (hb.trans (hb'.mono hb.size))⟩

theorem amongC_any (B : Nat) (vals : List ByteArray) (v : ByteArray) (is : Bool) (g : Nat) (u : Value) (w : World) (hg : w.cell? ⟨g, 2, none⟩ = some u) (hu : RowAt B (text B) w u vals) :
    Calls Tryd.prog 40 #[.string v, .bool is, .pointer (some ⟨g, 0, none⟩)] w fun e w' => e = .returned (.bool (amongB vals v is)) ∧ Below w.heap.size w w' := by
  obtain ⟨a, c, rfl, _, hc, _, hr⟩ := hu
  have cc := fun w => contains_any B a c vals (by omega) v w
  cases is with
  | false =>
    go_enter Tryd.func40, Tryd.ntmps40
    go_wp2
    go_ret
    exact ⟨rfl, Below.refl _ _⟩
  | true =>
    have H : Hid (amongB vals v true = among vals v) := by unfold amongB; exact Bool.true_and _
    generalize among vals v = z at *
    go_enter Tryd.func40, Tryd.ntmps40
    go_wp2_with fail
    refine (cc _ hr).mono ?_
    rintro e w1 ⟨rfl, rfl⟩
    go_wp2
    go_ret
    exact ⟨ret_bool H.out.symm, Below.refl _ _⟩
theorem among_ask (B : Nat) (vals : List ByteArray) (g : Nat) (u : Value) (w : World) (hg : w.cell? ⟨g, 2, none⟩ = some u) (hu : RowAt B (text B) w u vals) :
    Ask2 40 #[.pointer (some ⟨g, 0, none⟩)] (amongB vals) w :=
  ⟨enters_of Tryd.func40 (by kernel_rfl) rfl, fun W v is hb => amongC_any B vals v is g u W ((hb.cell (World.block_lt_of_cell? w _ hg)).trans hg) (hu.later hb)⟩
theorem notC_any (k : FuncId) (cap : Array Value) (q : ByteArray → Bool → Bool) (v : ByteArray) (is : Bool) (g : Nat) (w : World) (hg : w.cell? ⟨g, 0, none⟩ = some (.func (.func k) #[] cap)) (hq : Ask2 k cap q w) :
    Calls Tryd.prog 42 #[.string v, .bool is, .pointer (some ⟨g, 0, none⟩)] w fun e w' => e = .returned (.bool (!(q v is))) ∧ Below w.heap.size w w' := by
  have ek := hq.1
  have cq := hq.2 w v is (Below.refl _ _)
  go_enter Tryd.func42, Tryd.ntmps42
  go_wp2_with fail
  refine cq.mono ?_
  rintro e w1 ⟨rfl, hb1⟩
  go_wp2
  go_ret
  exact ⟨rfl, hb1⟩
theorem not_ask (k : FuncId) (cap : Array Value) (q : ByteArray → Bool → Bool) (g : Nat) (w : World) (hg : w.cell? ⟨g, 0, none⟩ = some (.func (.func k) #[] cap)) (hq : Ask2 k cap q w) :
    Ask2 42 #[.pointer (some ⟨g, 0, none⟩)] (fun v is => !(q v is)) w :=
  ⟨enters_of Tryd.func42 (by kernel_rfl) rfl, fun W v is hb => notC_any k cap q v is g W ((hb.cell (World.block_lt_of_cell? w _ hg)).trans hg) (hq.later hb)⟩
theorem there_ask (w : World) : Ask2 43 #[] (fun _ is => is) w :=
  ⟨enters_of Tryd.func43 (by kernel_rfl) rfl, fun W v is hb => by
    show Calls Tryd.prog 43 #[.string v, .bool is] W _
    go_enter Tryd.func43, Tryd.ntmps43
    go_wp2
    go_ret
    exact ⟨rfl, Below.refl _ _⟩⟩
theorem gone_ask (w : World) : Ask2 44 #[] (fun _ is => !is) w :=
  ⟨enters_of Tryd.func44 (by kernel_rfl) rfl, fun W v is hb => by
    show Calls Tryd.prog 44 #[.string v, .bool is] W _
    go_enter Tryd.func44, Tryd.ntmps44
    go_wp2
    go_ret
    exact ⟨rfl, Below.refl _ _⟩⟩
theorem never_ask (w : World) : Ask2 45 #[] (fun _ _ => false) w :=
  ⟨enters_of Tryd.func45 (by kernel_rfl) rfl, fun W v is hb => by
    show Calls Tryd.prog 45 #[.string v, .bool is] W _
    go_enter Tryd.func45, Tryd.ntmps45
    go_wp2
    go_ret
    exact ⟨rfl, Below.refl _ _⟩⟩

def PickTo (q : ByteArray → Bool → Bool) (w : World) (e : Ending) (w' : World) : Prop := ∃ k cap, e = .returned (.func (.func k) #[] cap) ∧ Ask2 k cap q w' ∧ Below w.heap.size w w'
theorem how_lists : inS.toList = [73, 110] ∧ notS.toList = [78, 111, 116, 73, 110] ∧ thereS.toList = [69, 120, 105, 115, 116, 115] ∧ goneS.toList = [68, 111, 101, 115, 78, 111, 116, 69, 120, 105, 115, 116] := by
  refine ⟨?_, ?_, ?_, ?_⟩ <;> (rw [ByteArray.toList_eq]; rfl)
theorem how_yes {h x : ByteArray} {l : List UInt8} (hx : x.toList = l) (e : h = x) : (h.toList == l) = true := by rw [e, hx]; exact beq_self_eq_true _
theorem how_no {h x : ByteArray} {l : List UInt8} (hx : x.toList = l) (e : h ≠ x) : (h.toList == l) = false := by rw [← hx]; exact beqS_no.2 e
set_option maxHeartbeats 1000000 in
theorem pick_any (B : Nat) (x : Wt) (u : Value) (w : World) (hu : RowAt B (text B) w u x.vals) :
    Calls Tryd.prog 26 #[.agg #[.string x.key, .string x.how, u]] w (PickTo (pickB x) w) := by
  have hb1 := below_new w (.cells #[.string x.key, .string x.how, u] 37)
  have c2 : (w.alloc (.cells #[.string x.key, .string x.how, u] 37)).cell? ⟨w.heap.size, 2, none⟩ = some u := cell_new _ _ _ _
  have Ha := Lib.hid (among_ask B x.vals w.heap.size u _ c2 (hu.later hb1))
  have rs := fun (a : Addr) (w' : World) (m : Mode) => run_store (P := Tryd.prog) w' a (.func (.func 40) #[] #[.pointer (some ⟨w.heap.size, 0, none⟩)]) m rfl
  clear c2
  by_cases h1 : x.how = inS
  · have H : Hid (pickB x = amongB x.vals) := by unfold pickB; funext v is; rw [if_pos h1]
    have t1 := how_yes how_lists.1 h1
    clear h1
    go_enter Tryd.func26, Tryd.ntmps26
    go_wp2
    go_ret
    exact ⟨_, _, rfl, by rw [H.out]; exact Ha.out.later (below_new _ _), chain hb1 (below_new _ _)⟩
  · by_cases h2 : x.how = notS
    · have H : Hid (pickB x = fun v is => !(amongB x.vals v is)) := by unfold pickB; funext v is; rw [if_neg h1, if_pos h2]
      have t1 := how_no how_lists.1 h1
      have t2 := how_yes how_lists.2.1 h2
      clear h1 h2
      go_enter Tryd.func26, Tryd.ntmps26
      go_wp2
      go_ret
      refine ⟨_, _, rfl, ?_, chain hb1 (below_new _ _)⟩
      rw [H.out]
      have hc := fun t => cell_new (w.alloc (.cells #[.string x.key, .string x.how, u] 37)) #[.func (.func 40) #[] #[.pointer (some ⟨w.heap.size, 0, none⟩)]] t 0
      simp only [World.size_alloc] at hc
      exact not_ask _ _ _ _ _ (hc _) (Ha.out.later (below_new _ _))
    · by_cases h3 : x.how = thereS
      · have H : Hid (pickB x = fun _ is => is) := by unfold pickB; funext v is; rw [if_neg h1, if_neg h2, if_pos h3]
        have t1 := how_no how_lists.1 h1
        have t2 := how_no how_lists.2.1 h2
        have t3 := how_yes how_lists.2.2.1 h3
        clear h1 h2 h3
        go_enter Tryd.func26, Tryd.ntmps26
        go_wp2
        go_ret
        exact ⟨_, _, rfl, by rw [H.out]; exact there_ask _, chain hb1 (below_new _ _)⟩
      · by_cases h4 : x.how = goneS
        · have H : Hid (pickB x = fun _ is => !is) := by unfold pickB; funext v is; rw [if_neg h1, if_neg h2, if_neg h3, if_pos h4]
          have t1 := how_no how_lists.1 h1
          have t2 := how_no how_lists.2.1 h2
          have t3 := how_no how_lists.2.2.1 h3
          have t4 := how_yes how_lists.2.2.2 h4
          clear h1 h2 h3 h4
          go_enter Tryd.func26, Tryd.ntmps26
          go_wp2
          go_ret
          exact ⟨_, _, rfl, by rw [H.out]; exact gone_ask _, chain hb1 (below_new _ _)⟩
        · have H : Hid (pickB x = fun _ _ => false) := by unfold pickB; funext v is; rw [if_neg h1, if_neg h2, if_neg h3, if_neg h4]
          have t1 := how_no how_lists.1 h1
          have t2 := how_no how_lists.2.1 h2
          have t3 := how_no how_lists.2.2.1 h3
          have t4 := how_no how_lists.2.2.2 h4
          clear h1 h2 h3 h4
          go_enter Tryd.func26, Tryd.ntmps26
          go_wp2
          go_ret
          exact ⟨_, _, rfl, by rw [H.out]; exact never_ask _, chain hb1 (below_new _ _)⟩
set_option maxHeartbeats 1000000 in
theorem Wants_any (B : Nat) (hB : B ≤ 140737488355328) (x : Wt) (u : Value) (a : Option Addr) (c : Nat) (l : List Pr) (hl : l.length ≤ 9223372036854775807) (w : World) (hu : RowAt B (text B) w u x.vals) (hr : RowIn (prR B) w a l) :
    Calls Tryd.prog 14 #[.agg #[.string x.key, .string x.how, u], .slice a l.length c] w fun e w' => e = .returned (.bool (wantsB x l)) ∧ Below w.heap.size w w' := by
  have cp := fun w hu => pick_any B x u w hu
  have ch := fun w hr => Has_any B hB a c l hl x.key w hr
  have H : Hid (wantsB x l = pickB x (hasV l x.key) (hasB l x.key)) := rfl
  have hb1 := below_new w (.cells #[.string x.key, .string x.how, u] 37)
  have c0 : (w.alloc (.cells #[.string x.key, .string x.how, u] 37)).cell? ⟨w.heap.size, 0, none⟩ = some (.string x.key) := cell_new _ _ _ _
  have c1 : (w.alloc (.cells #[.string x.key, .string x.how, u] 37)).cell? ⟨w.heap.size, 1, none⟩ = some (.string x.how) := cell_new _ _ _ _
  have c2 : (w.alloc (.cells #[.string x.key, .string x.how, u] 37)).cell? ⟨w.heap.size, 2, none⟩ = some u := cell_new _ _ _ _
  go_enter Tryd.func14, Tryd.ntmps14
  go_wp2
  go_region_held3 (fun w' => w'.cell? ⟨w.heap.size, 0, none⟩ = some (.string x.key) ∧ w'.cell? ⟨w.heap.size, 1, none⟩ = some (.string x.how) ∧ w'.cell? ⟨w.heap.size, 2, none⟩ = some u)
    (first | go_keep)
    (first
      | (go_at_call 26; refine (cp _ (hu.later hb1.drew)).mono ?_; rintro e w2 ⟨k, cap, rfl, hk, hb2⟩; have hb3 := chain hb1.drew hb2; have d0 := (hb2.cell (p := ⟨w.heap.size, 0, none⟩) (by show w.heap.size < _; simp)).trans c0; have d1 := (hb2.cell (p := ⟨w.heap.size, 1, none⟩) (by show w.heap.size < _; simp)).trans c1; have d2 := (hb2.cell (p := ⟨w.heap.size, 2, none⟩) (by show w.heap.size < _; simp)).trans c2; have ek := hk.1; have hl2 := hb2.size; simp at hl2; have Hk := Lib.hid hk; clear hk)
      | (go_at_call 12; refine (ch _ (hr.later hb3)).mono ?_; rintro e w3 ⟨rfl, hb4⟩; have hb5 := chain hb3 hb4; have e0 := (hb4.cell (p := ⟨w.heap.size, 0, none⟩) (by show w.heap.size < _; omega)).trans d0; have e1 := (hb4.cell (p := ⟨w.heap.size, 1, none⟩) (by show w.heap.size < _; omega)).trans d1; have e2 := (hb4.cell (p := ⟨w.heap.size, 2, none⟩) (by show w.heap.size < _; omega)).trans d2)
      | (refine ((Hk.out.later hb4).2 _ (hasV l x.key) (hasB l x.key) (Below.refl _ _)).mono ?_; rintro e w4 ⟨rfl, hb6⟩; have hb7 := chain hb5 hb6; have hl4 := hb4.size; have f0 := (hb6.cell (p := ⟨w.heap.size, 0, none⟩) (by show w.heap.size < _; omega)).trans e0; have f1 := (hb6.cell (p := ⟨w.heap.size, 1, none⟩) (by show w.heap.size < _; omega)).trans e1; have f2 := (hb6.cell (p := ⟨w.heap.size, 2, none⟩) (by show w.heap.size < _; omega)).trans e2))
  all_goals (go_wp2; go_ret; exact ⟨ret_bool H.out.symm, hb7⟩)
end Go.Proofs.YtodobacgbbpmfaaDoor.lab

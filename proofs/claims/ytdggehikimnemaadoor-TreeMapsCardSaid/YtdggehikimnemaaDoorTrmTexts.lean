/- Layer 4: Texts, and the document's own SameTexts. Layer 4: the document's own SameTexts. -/
import Derived.BigQuiet
import Derived.Deep.QuietTactic
import Derived.Test.YtdggehikimnemaaDoorTrmCnt
import Derived.Test.YtdggehikimnemaaDoorTrmCopy
import Derived.Test.YtdggehikimnemaaDoorTrmEq
namespace Go.Proofs.YtdggehikimnemaaDoor.tre
open Go.RowKit Go.Shelf

def isText (_ : Unit) (x : V) : Bool × Unit := (x.kind == 3, ())
theorem vst_none : Vst (fun (_ : Unit) (_ : World) => True) (fun _ _ _ => False) := ⟨fun _ _ _ _ _ => trivial, fun _ _ _ _ h => h.elim, fun _ _ _ _ _ _ h => h⟩
theorem ask_text (l : List V) (s0 : Unit) : AskV (fun (_ : Unit) (_ : World) => True) (fun _ _ _ => False) l s0 58 #[] isText := by
  refine ⟨enters_of Tryd.func58 (by kernel_rfl) rfl, fun i x hx S s W r t hs hi hS hh => ?_⟩
  clear hs hS hh hi
  have Hi := Lib.hid (fun o => Step.below vst_none (s := s) (w := W) trivial ((Below.refl _ _).alloc (Nat.le_refl _) o))
  go_enter Tryd.func58, Tryd.ntmps58
  go_wp2
  go_ret
  exact ⟨rfl, Hi.out _⟩
theorem all_text : ∀ (l : List V), (allS isText () l).1 = l.all (fun x => x.kind == 3)
  | [] => rfl
  | x :: l => by
    unfold allS
    cases h : (x.kind == 3) with
    | true => simpa [isText, h] using all_text l
    | false => simp [isText, h]
/-- The texts of a list that has nothing else, and none of nothing. -/
def textsV (v : V) : List ByteArray × Bool :=
  if v.kind = 0 then ([], true) else if v.kind = 4 ∧ (v.list.all fun x => x.kind == 3) = true then (v.list.map V.text, true) else ([], false)
def strs (l : List ByteArray) : List Value := l.map Value.string
theorem info_str : (Tryd.prog.info? 9).map (fun i => (i.zero, i.size, i.bytes)) = some (some (.string ByteArray.empty), 1, 16) := by kernel_rfl

set_option maxRecDepth 100000 in
set_option maxHeartbeats 4000000 in
theorem Texts_any (v : V) (hn : v.list.length ≤ 100000) (S : Nat → Prop) (W : World) (r t : Sl) (hS : ∀ g, S g → g < W.heap.size) (hh : HV S W v r t) :
    Calls Tryd.prog 33 #[.agg #[.int .i64 v.kind, .int .i64 v.int, .string v.text, .slice r.a r.n r.c, .slice t.a t.n t.c]] W fun e w' => ∃ sl : Sl, e = .returned (.tuple #[.slice sl.a sl.n sl.c, .bool (textsV v).2]) ∧
      w'.ownsRow W.heap.size 9 1 (.slice sl.a sl.n sl.c) (textsV v).1.length (strs (textsV v).1) ∧ Below W.heap.size W w' := by
  obtain ⟨i0, hi0, hz0, hz1, hz2⟩ := info_of info_str
  obtain ⟨ra, rn, rc⟩ := r
  obtain rfl : rn = v.list.length := hh.1.len
  have hb1 : ∀ o, Below W.heap.size W (W.alloc o) := fun o => (Below.refl _ _).alloc (Nat.le_refl _) o
  have hcall := fun o => allV_any vst_none (ask_text v.list ()) (w := W.alloc o) (p := ⟨ra, v.list.length, rc⟩) (S := S) (hh.1.later (hb1 o)) (fun g hg => ⟨Nat.lt_of_lt_of_le (hS g hg) (hb1 o).size, fun h => h⟩) trivial
  rw [all_text] at hcall
  have hbx : ∀ T w1, Below (W.heap.size + 1) (W.alloc (.cells #[.int .i64 v.kind, .int .i64 v.int, .string v.text, .slice ra v.list.length rc, .slice t.a t.n t.c] T)) w1 → w1.heap[W.heap.size]? = some (.cells #[.int .i64 v.kind, .int .i64 v.int, .string v.text, .slice ra v.list.length rc, .slice t.a t.n t.c] T (0, 0)) := fun T w1 hb => (hb.block _ (Nat.lt_succ_self _)).trans (block_new W _)
  have H := Lib.hid (And.intro hb1 (And.intro hh (And.intro hS hbx)))
  clear hb1 hh hS hbx
  by_cases hk0 : v.kind = 0
  · have k0a : (v.kind == 0) = true := by simp [hk0]
    have Ho := Lib.hid (show textsV v = ([], true) from if_pos hk0)
    clear hk0 hcall
    go_enter Tryd.func33, Tryd.ntmps33
    go_wp2
    go_ret2
    rw [Ho.out]
    exact ⟨⟨none, 0, 0⟩, rfl, World.ownsRow_nil _ _ _ _, H.out.1 _⟩
  · have k0a : (v.kind == 0) = false := by simp [hk0]
    by_cases hk4 : v.kind = 4
    · have k4a : (v.kind != 4) = false := by simp [hk4]
      cases hall : (v.list.all fun x => x.kind == 3) with
      | false =>
        have Ho := Lib.hid (show textsV v = ([], false) by unfold textsV; rw [if_neg hk0, if_neg (fun h => by rw [hall] at h; cases h.2)])
        rw [hall] at hcall
        clear hk0 hk4 hall
        go_enter Tryd.func33, Tryd.ntmps33
        go_wp2_with fail
        refine (hcall _).mono ?_
        rintro e w1 ⟨rfl, hs1⟩
        go_wp2
        go_ret2
        rw [Ho.out]
        exact ⟨⟨none, 0, 0⟩, rfl, World.ownsRow_nil _ _ _ _, (H.out.1 _).trans ((hs1.quiet (fun _ h => h)).mono (H.out.1 _).size)⟩
      | true =>
        have Ho := Lib.hid (show textsV v = (v.list.map V.text, true) by unfold textsV; rw [if_neg hk0, if_pos ⟨hk4, hall⟩])
        rw [hall] at hcall
        clear hk0 hk4 hall
        go_enter Tryd.func33, Tryd.ntmps33
        go_wp2_with (go_at_call 59; refine (hcall _).mono ?_; rintro e w1 ⟨rfl, hs1⟩; have hb := hs1.quiet (fun _ h => h); have e1 := H.out.2.2.2 _ w1 (by rw [size_alloc] at hb; exact hb); have k3 : w1.cell? ⟨W.heap.size, 3, none⟩ = some (.slice ra v.list.length rc) := (by rw [blk_cell e1]; rfl); have H1 := Lib.hid ((H.out.1 _).trans (hb.mono (H.out.1 _).size)); clear hs1 hb e1)
        clear hcall
        go_loopg [5, 7, 24] v.list.length (fun gg s5 _ s24 wr => ∃ (i : Nat) (sl : Sl), i ≤ v.list.length ∧ v.list.length - i ≤ gg ∧ s5 = .slice sl.a sl.n sl.c ∧ s24 = .int .i64 i ∧
          Hid (wr.ownsRow W.heap.size 9 1 (.slice sl.a sl.n sl.c) i (strs ((v.list.take i).map V.text)) ∧ Below W.heap.size W wr))
        case atStart => exact ⟨0, ⟨none, 0, 0⟩, Nat.zero_le _, by omega, rfl, rfl, World.ownsRow_nil _ _ _ _, H1.out⟩
        case round =>
          obtain ⟨i, ⟨sa, sn, sc⟩, hil, hgg, rfl, rfl, HH⟩ := hrel
          simp only at HH
          clear k3
          by_cases hlt : i < v.list.length
          · have hltz : (i : Int) < (v.list.length : Int) := by omega
            obtain ⟨g1, r', t', ha, hgl, _, hc, _⟩ := (H.out.2.1.later HH.out.2).1.at hlt
            simp only at ha
            subst ha
            have hsn : strs ((v.list.take (i + 1)).map V.text) = strs ((v.list.take i).map V.text) ++ [.string v.list[i].text] := by
              rw [List.take_succ_eq_append_getElem hlt]; simp only [strs, List.map_append, List.map_cons, List.map_nil]
            generalize v.list[i] = x at hc hsn
            have c0 : wr.cell? ⟨g1, i * 5, none⟩ = some (.int .i64 x.kind) := hc 0 _ rfl
            have c1 : wr.cell? ⟨g1, i * 5 + 1, none⟩ = some (.int .i64 x.int) := hc 1 _ rfl
            have c2 : wr.cell? ⟨g1, i * 5 + 2, none⟩ = some (.string x.text) := hc 2 _ rfl
            have c3 : wr.cell? ⟨g1, i * 5 + 3, none⟩ = some (.slice r'.a r'.n r'.c) := hc 3 _ rfl
            have c4 : wr.cell? ⟨g1, i * 5 + 4, none⟩ = some (.slice t'.a t'.n t'.c) := hc 4 _ rfl
            have Hsn := Lib.hid hsn
            have hownA := fun o1 o2 => (HH.out.1.alloc o1).alloc o2
            have Hnews := Lib.hid (fun (o : Obj) => World.news_of_block (w := (wr.alloc o).alloc (.cells #[.string x.text] 9)) (B := wr.heap.size + 1) (by
              have := block_new (wr.alloc o) (.cells #[.string x.text] 9)
              rw [size_alloc] at this
              exact this))
            have hsz := HH.out.2.size
            clear hc hsn
            go_wp2_with (at_builtin; refine wpList_append_own_at _ rfl _ _ 48 rfl W.heap.size 9 i0 _ 1 16 Tryd.underlying48 hi0 hz0 hz1 hz2 rfl (by decide) _ _ _ rfl (hownA _ _) _ 1 1 [.string x.text] rfl rfl (Hnews.out _) (by simp [Value.oneCell']) (by unfold maxLen; omega) (by omega) (by simp; omega) ?_; intro v' w1 hown1 hgrow1 _ _; obtain ⟨g', cap', rfl, _, _⟩ := hown1.form (by omega))
            go_roundg (v.list.length - (i + 1))
            case measure => omega
            case rel =>
              refine ⟨i + 1, ⟨some ⟨g', 0, none⟩, i + 1, cap'⟩, by omega, by omega, rfl, by go_num, ?_, ?_⟩
              · rw [Hsn.out]
                exact hown1
              · exact ((HH.out.2.alloc HH.out.2.size _).alloc (by rw [size_alloc]; omega) _).grown hgrow1 (by rw [size_alloc, size_alloc]; omega) (fun k e => (HH.out.1.lt k e).1)
          · obtain rfl : i = v.list.length := by omega
            go_wp2
            go_ret2
            rw [Ho.out]
            refine ⟨⟨sa, sn, sc⟩, rfl, ?_, HH.out.2⟩
            have h := HH.out.1
            rw [List.take_length] at h
            simpa using h
    · have k4a : (v.kind != 4) = true := by simp [hk4]
      have Ho := Lib.hid (show textsV v = ([], false) by unfold textsV; rw [if_neg hk0, if_neg (fun h => hk4 h.1)])
      clear hk0 hk4 hcall
      go_enter Tryd.func33, Tryd.ntmps33
      go_wp2
      go_ret2
      rw [Ho.out]
      exact ⟨⟨none, 0, 0⟩, rfl, World.ownsRow_nil _ _ _ _, H.out.1 _⟩
end Go.Proofs.YtdggehikimnemaaDoor.tre
namespace Go.Proofs.YtdggehikimnemaaDoor.tre
open Go.RowKit Go.Shelf

/-- These texts stand in this slice. -/
def TextAt (W : World) (p : Sl) (l : List ByteArray) : Prop :=
  p.n = l.length ∧ ∀ i (h : i < l.length), ∃ g, p.a = some ⟨g, 0, none⟩ ∧ g < W.heap.size ∧ W.cell? ⟨g, i, none⟩ = some (.string l[i])
theorem TextAt.later {W w : World} {p : Sl} {l : List ByteArray} (h : TextAt W p l) (hb : Below W.heap.size W w) : TextAt w p l :=
  ⟨h.1, fun i hi => by
    obtain ⟨g, h1, h2, h3⟩ := h.2 i hi
    exact ⟨g, h1, Nat.lt_of_lt_of_le h2 hb.size, (hb.cell (p := ⟨g, i, none⟩) (by exact h2)).trans h3⟩⟩
theorem TextAt.of_own {w : World} {B : Nat} {e : TypeId} {sl : Sl} {l : List ByteArray} (h : w.ownsRow B e 1 (.slice sl.a sl.n sl.c) l.length (strs l)) : TextAt w sl l := by
  obtain ⟨a, n, c⟩ := sl
  have h' := h
  rcases h.2 with ⟨hv, hn⟩ | ⟨g, cap, cur, hv, _, hg, _⟩
  · obtain rfl : l = [] := List.eq_nil_of_length_eq_zero hn
    injection hv with _ hv2 _
    exact ⟨hv2, fun i hi => by cases hi⟩
  · injection hv with hv1 hv2 hv3
    subst hv1 hv2 hv3
    refine ⟨rfl, fun i hi => ⟨g, rfl, (Array.getElem?_eq_some_iff.1 hg).1, ?_⟩⟩
    have h2 := h'.cells (g := g) rfl i (.string l[i]) (by simp [strs, hi])
    rw [Addr.add_lit, Nat.zero_add] at h2
    exact h2

set_option maxRecDepth 100000 in
set_option maxHeartbeats 1000000 in
theorem SameTexts_any (a b : List ByteArray) (hna : a.length ≤ 100000) (hnb : b.length ≤ 100000) (p q : Sl) (W : World) (ha : TextAt W p a) (hb : TextAt W q b) :
    Calls Tryd.prog 35 #[.slice p.a p.n p.c, .slice q.a q.n q.c] W fun e w' => (∃ r, e = .returned (.bool r) ∧ (r = true ↔ a = b)) ∧ Below W.heap.size W w' := by
  obtain ⟨pa, pn, pc⟩ := p
  obtain ⟨qa, qn, qc⟩ := q
  obtain ⟨hpn, ha⟩ := ha
  obtain ⟨hqn, hb⟩ := hb
  simp only at hpn hqn ha hb
  subst hpn hqn
  have H := Lib.hid (And.intro ha hb)
  clear ha hb
  by_cases hl : a.length = b.length
  · have hlb : ((a.length : Int) != (b.length : Int)) = false := by rw [hl]; simp
    have Hl := Lib.hid hl
    clear hl
    go_enter Tryd.func35, Tryd.ntmps35
    go_wp2
    go_loopg [5] a.length (fun gg s5 wr => ∃ i : Nat, i ≤ a.length ∧ a.length - i ≤ gg ∧ s5 = .int .i64 i ∧ Hid (a.take i = b.take i ∧ Below W.heap.size W wr))
    case atStart => exact ⟨0, Nat.zero_le _, by omega, rfl, rfl, Below.refl _ _⟩
    case round =>
      obtain ⟨i, hil, hgg, rfl, HH⟩ := hrel
      by_cases hlt : i < a.length
      · have hltz : (i : Int) < (a.length : Int) := by omega
        have hlt2 : i < b.length := by have := Hl.out; omega
        have hltz2 : (i : Int) < (b.length : Int) := by omega
        obtain ⟨g1, h1, hg1, c1⟩ := (TextAt.later (p := ⟨pa, a.length, pc⟩) ⟨rfl, H.out.1⟩ HH.out.2).2 i hlt
        obtain ⟨g2, h2, hg2, c2⟩ := (TextAt.later (p := ⟨qa, b.length, qc⟩) ⟨rfl, H.out.2⟩ HH.out.2).2 i hlt2
        simp only at h1 h2
        subst h1 h2
        have Hn := Lib.hid (show ¬ a[i] = b[i] → ¬ a = b from fun h e => h (by subst e; rfl))
        have Htk := Lib.hid (fun h => take_eq_snoc hlt hlt2 HH.out.1 h)
        generalize a[i] = x at c1 Hn Htk
        generalize b[i] = y at c2 Hn Htk
        cases hk : (x.toList == y.toList) with
        | false =>
          have Hk := Lib.hid (Hn.out (fun e => by rw [e] at hk; simp at hk))
          have hk2 : (x.toList != y.toList) = true := by simp only [bne, hk]; rfl
          clear hlt2 hlt
          go_wp2_with fail
          go_quiet (fail)
          go_wp2
          go_ret
          have hbq : Below W.heap.size W (wr.drewN nq) := ⟨HH.out.2.os, HH.out.2.tape, HH.out.2.output, HH.out.2.size, HH.out.2.block⟩
          exact ⟨⟨false, rfl, by simp; exact Hk.out⟩, hbq⟩
        | true =>
          have Hk := Lib.hid (Htk.out (text_eq.1 (beq_iff_eq.1 hk)))
          have hk2 : (x.toList != y.toList) = false := by simp only [bne, hk]; rfl
          clear hlt2
          go_wp2_with fail
          go_quiet (fail)
          go_wp2
          go_roundg (a.length - (i + 1))
          case measure => omega
          case rel =>
            have hbq : Below W.heap.size W (wr.drewN nq) := ⟨HH.out.2.os, HH.out.2.tape, HH.out.2.output, HH.out.2.size, HH.out.2.block⟩
            exact ⟨i + 1, by omega, by omega, by go_num, Hk.out, hbq⟩
      · obtain rfl : i = a.length := by omega
        go_wp2
        go_ret
        exact ⟨⟨true, rfl, ⟨fun _ => by
          have h := HH.out.1
          rw [List.take_length, Hl.out, List.take_length] at h
          exact h, fun _ => rfl⟩⟩, HH.out.2⟩
  · have hlb : ((a.length : Int) != (b.length : Int)) = true := by simp; omega
    have Hl := Lib.hid (show ¬ a = b from fun e => hl (by rw [e]))
    clear hl
    go_enter Tryd.func35, Tryd.ntmps35
    go_wp2
    go_ret
    exact ⟨⟨false, rfl, by simp; exact Hl.out⟩, Below.refl _ _⟩
end Go.Proofs.YtdggehikimnemaaDoor.tre

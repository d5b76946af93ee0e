/- Layer 4: the law TreeTexts. -/
import Derived.Test.YtkecimhohmkkkaaDoorTreAwake
import Derived.Test.YtkecimhohmkkkaaDoorTreWord
import Derived.Test.YtkecimhohmkkkaaDoorTreSameT
import Derived.Test.YtkecimhohmkkkaaDoorTreFrame
import Derived.BigRegion
import Derived.Deep.AppendLies
namespace Go.Proofs.YtkecimhohmkkkaaDoor.tre
open Go.RowKit Go.Shelf

def leafT (s : ByteArray) : V := .mk 3 0 s [] []
def cellsT (s : ByteArray) : List Value := [.int .i64 3, .int .i64 0, .string s, .slice none 0 0, .slice none 0 0]
def listT (l : List V) : V := .mk 4 0 ⟨#[]⟩ l []
theorem own_keep {w w' : World} {B : Nat} {e : TypeId} {size : Nat} {v : Value} {n : Nat} {xs : List Value} (h : w.ownsRow B e size v n xs) (hk : ∀ g, v.ownBlock = some g → g < w.heap.size → w'.heap[g]? = w.heap[g]?) : w'.ownsRow B e size v n xs := by
  obtain ⟨h1, h2⟩ := h
  refine ⟨h1, ?_⟩
  rcases h2 with h2 | ⟨g, cap, cur, hv, hB, hg, r⟩
  · exact .inl h2
  · exact .inr ⟨g, cap, cur, hv, hB, (hk g (by rw [hv]; rfl) (Array.getElem?_eq_some_iff.1 hg).1).trans hg, r⟩
theorem flatT_len (l : List ByteArray) : ∀ xs ∈ l.map cellsT, xs.length = 5 := fun xs hx => by
  obtain ⟨s, _, rfl⟩ := List.mem_map.1 hx
  rfl
theorem liesT (S : Nat → Prop) (w : World) (s : ByteArray) : Lies S w (leafT s) (cellsT s) := lies_iff.2 ⟨⟨none, 0, 0⟩, ⟨none, 0, 0⟩, rfl, RowV.nil S w, RowF.nil S w⟩
/-- A row of texts as values. -/
theorem rowT {w : World} {B : Nat} {p : Sl} {l : List ByteArray} (h : w.ownsRow B 28 5 p.val l.length ((l.map cellsT).flatten)) : RowC (fun g => B ≤ g ∧ p.val.ownBlock = some g) w 28 5 l.length p (l.map cellsT) ∧ AllZ (Lies (fun g => B ≤ g ∧ p.val.ownBlock = some g) w) (l.map leafT) (l.map cellsT) :=
  ⟨⟨by simp, flatT_len l, own_zero h, fun g hg => ⟨(h.lt g hg).1, hg⟩⟩, fun i x y hx hy => by
    rw [List.getElem?_map, Option.map_eq_some_iff] at hx hy
    obtain ⟨s, h1, rfl⟩ := hx
    obtain ⟨s', h2, rfl⟩ := hy
    rw [h1] at h2
    cases h2
    exact liesT _ _ s⟩
theorem allT (S : Nat → Prop) (w : World) (l : List ByteArray) : AllZ (Lies S w) (l.map leafT) (l.map cellsT) := fun i x y hx hy => by
  rw [List.getElem?_map, Option.map_eq_some_iff] at hx hy
  obtain ⟨s, h1, rfl⟩ := hx
  obtain ⟨s', h2, rfl⟩ := hy
  rw [h1] at h2
  cases h2
  exact liesT _ _ s
theorem liesK (S : Nat → Prop) (w : World) (k : Int) : Lies S w (.mk k 0 ⟨#[]⟩ [] []) [.int .i64 k, .int .i64 0, .string ⟨#[]⟩, .slice none 0 0, .slice none 0 0] := lies_iff.2 ⟨⟨none, 0, 0⟩, ⟨none, 0, 0⟩, rfl, RowV.nil S w, RowF.nil S w⟩
theorem texts_list (ws : List ByteArray) : textsV (listT (ws.map leafT)) = (ws, true) := by
  have h : ((ws.map leafT).all fun x => x.kind == 3) = true := List.all_eq_true.2 (fun x hx => by
    obtain ⟨s, _, rfl⟩ := List.mem_map.1 hx
    rfl)
  have h2 : (ws.map leafT).map V.text = ws := by rw [List.map_map]; exact List.map_id _
  unfold textsV
  rw [if_neg (by simp [listT, V.kind]), if_pos ⟨rfl, h⟩]
  show ((ws.map leafT).map V.text, true) = _
  rw [h2]
theorem texts_set3 (ws : List ByteArray) (j : Nat) (_ : j < ws.length) (kk : Int) (h3 : kk = 3) : textsV (listT ((ws.map leafT).set j (.mk kk 0 ⟨#[]⟩ [] []))) = (((ws.map leafT).set j (.mk kk 0 ⟨#[]⟩ [] [])).map V.text, true) := by
  have h : (((ws.map leafT).set j (.mk kk 0 ⟨#[]⟩ [] [])).all fun x => x.kind == 3) = true := List.all_eq_true.2 (fun x hx => by
    rcases List.mem_or_eq_of_mem_set hx with hx | rfl
    · obtain ⟨s, _, rfl⟩ := List.mem_map.1 hx
      rfl
    · simp [V.kind, h3])
  unfold textsV
  rw [if_neg (by simp [listT, V.kind]), if_pos ⟨rfl, h⟩]
  rfl
theorem texts_set0 (ws : List ByteArray) (j : Nat) (hj : j < ws.length) (kk : Int) (h3 : ¬ kk = 3) : textsV (listT ((ws.map leafT).set j (.mk kk 0 ⟨#[]⟩ [] []))) = ([], false) := by
  have h : ¬ (((ws.map leafT).set j (.mk kk 0 ⟨#[]⟩ [] [])).all fun x => x.kind == 3) = true := fun h => by
    have := List.all_eq_true.1 h (.mk kk 0 ⟨#[]⟩ [] []) (List.mem_iff_getElem.2 ⟨j, by simpa using hj, by simp⟩)
    simp [V.kind] at this
    exact h3 this
  unfold textsV
  rw [if_neg (by simp [listT, V.kind]), if_neg (fun e => h e.2)]
theorem texts_nil : textsV nilV = ([], true) := rfl
theorem index_of (x : Int) (n : Nat) (h0 : 0 < n) (h1 : n ≤ 12) : ∃ j : Nat, j < n ∧ (wrap64 (x.tmod (n : Int) + (n : Int))).tmod (n : Int) = (j : Int) := by
  have hb : -(n : Int) < x.tmod n ∧ x.tmod n < n := by
    have h3 := Int.tmod_lt_of_pos x (show (0 : Int) < n by omega)
    have h4 := Int.tmod_lt_of_pos (-x) (show (0 : Int) < n by omega)
    rw [Int.neg_tmod] at h4
    omega
  have e : wrap64 (x.tmod (n : Int) + (n : Int)) = x.tmod (n : Int) + (n : Int) := IntWalk.wrap64_in _ (by omega)
  rw [e]
  have h2 : 0 ≤ (x.tmod (n : Int) + (n : Int)).tmod (n : Int) := Int.tmod_nonneg _ (by omega)
  have h3 : (x.tmod (n : Int) + (n : Int)).tmod (n : Int) < n := Int.tmod_lt_of_pos _ (by omega)
  exact ⟨((x.tmod (n : Int) + (n : Int)).tmod (n : Int)).toNat, by omega, by omega⟩
set_option maxRecDepth 100000 in
set_option maxHeartbeats 8000000 in
theorem lawTexts (a : Option Addr) (c : Nat) (l : List ByteArray) {W : World} (h : WordsIn W a l) (x : Int) (_ : (Lit.int .i64 x).wf = true) (k : Int) (_ : (Lit.int .i64 k).wf = true) (hT : utf.Tab W) :
    Calls Tryd.prog 9 #[.slice a l.length c, .int .i64 x, .int .i64 k] W fun e w' => e = .returned (.bool true) ∧ Below W.heap.size W w' := by
  have haw := awake_any W hT
  have H := Lib.hid (And.intro h hT)
  have hl63 := h.1
  clear h hT
  go_enter Tryd.func9, Tryd.ntmps9
  go_wp2_with fail
  refine haw.mono ?_
  rintro e w1 ⟨rfl, hb1⟩
  have H1 := Lib.hid hb1
  clear hb1 haw
  go_wp2_with fail
  go_loopg [9, 10, 11] 12 (fun gg s9 s10 _ wr => ∃ (i : Nat) (ws : List ByteArray) (p t : Sl), i ≤ l.length ∧ i ≤ 12 ∧ 12 - i ≤ gg ∧ s9 = .slice t.a t.n t.c ∧ s10 = .int .i64 i ∧
    Hid (ws = (l.take i).map wordV ∧ wr.heap[w1.heap.size]? = some (.cells #[.int .i64 4, .int .i64 0, .string ⟨#[]⟩, .slice p.a p.n p.c, .slice none 0 0] 28 (0, 0)) ∧
      wr.ownsRow (w1.heap.size + 1) 9 1 (.slice t.a t.n t.c) ws.length (strs ws) ∧ wr.ownsRow (w1.heap.size + 1) 28 5 (.slice p.a p.n p.c) ws.length ((ws.map cellsT).flatten) ∧
      (∀ g, t.val.ownBlock = some g → p.val.ownBlock ≠ some g) ∧ Below w1.heap.size w1 wr))
  case atStart => exact ⟨0, [], ⟨none, 0, 0⟩, ⟨none, 0, 0⟩, Nat.zero_le _, by omega, by omega, rfl, rfl, rfl, block_new w1 _, World.ownsRow_nil _ _ _ _, World.ownsRow_nil _ _ _ _, (fun g hg => by cases hg), (Below.refl _ _).alloc (Nat.le_refl _) _⟩
  case round =>
    obtain ⟨i, ws, ⟨pa, pn, pc⟩, ⟨ta, tn, tc⟩, hil, hi12, hgg, rfl, rfl, HH⟩ := hrel
    simp only at HH
    by_cases hlh : i < l.length ∧ i < 12
    · obtain ⟨hlt, h12⟩ := hlh
      have hltz : (i : Int) < (l.length : Int) := by omega
      · have h12z : (i : Int) < 12 := by omega
        have hw12 : ws.length ≤ 12 := by rw [HH.out.1, List.length_map, List.length_take]; omega
        obtain ⟨bl, off, rfl, hbl, hcl⟩ : ∃ bl off, a = some ⟨bl, off, none⟩ ∧ bl < W.heap.size ∧ ∀ i (h : i < l.length), W.cell? ⟨bl, off + i, none⟩ = some (.string l[i]) := by
          rcases H.out.1.2.2 with h | h
          · rw [h] at hlt; cases hlt
          · exact h
        have ck : wr.cell? ⟨bl, off + i, none⟩ = some (.string l[i]) := ((H1.out.trans (HH.out.2.2.2.2.2.mono H1.out.size)).cell (p := ⟨bl, off + i, none⟩) (by exact hbl)).trans (hcl i hlt)
        have hsz := H.out.1.2.1 _ (List.getElem_mem hlt)
        have htk : (l.take (i + 1)).map wordV = ws ++ [wordV l[i]] := by rw [List.take_succ_eq_append_getElem hlt, List.map_append, ← HH.out.1]; rfl
        generalize l[i] = s at ck hsz htk
        have hwd := word_any s hsz wr
        have lbl : bl < wr.heap.size := Nat.lt_of_lt_of_le hbl (H1.out.trans (HH.out.2.2.2.2.2.mono H1.out.size)).size
        have Hk := Lib.hid htk
        obtain ⟨i0, hi0, hz0, hz1, hz2⟩ := info_of info_str
        obtain ⟨i1, hi1, hy0, hy1, hy2⟩ := info_of info_V
        have hw5 := wordV_size s
        clear htk hcl hsz
        go_wp2_with fail
        refine hwd.mono ?_
        rintro e w2 ⟨rfl, hb2⟩
        have lr : w1.heap.size < wr.heap.size := (Array.getElem?_eq_some_iff.1 HH.out.2.1).1
        have m2 := (hb2.block w1.heap.size lr).trans HH.out.2.1
        have l2 : w1.heap.size < w2.heap.size := (Array.getElem?_eq_some_iff.1 m2).1
        have hownA := fun o => (own_keep (w' := w2) HH.out.2.2.1 (fun g _ hl => hb2.block g hl)).alloc o
        have hs2 := hb2.size
        have H2 := Lib.hid (And.intro hb2 m2)
        clear hb2 m2 hwd
        go_wp2_with (first
          | (at_builtin; (refine wpList_append_lies _ (by rfl) (.tmp 38) (.tmp 40) 48 (by rfl) (w1.heap.size + 1) 9 i0 (.string ByteArray.empty) 1 16 Tryd.underlying48 hi0 hz0 hz1 hz2 rfl (by decide) (.slice ta tn tc) ws.length (strs ws) (by rfl) (hownA _) ⟨w2.heap.size, 0, none⟩ 1 1 [.string (wordV s)] (by rfl) (by rfl) (World.news_of_block (cs := #[.string (wordV s)]) (t := 9) (fr := (0, 0)) (block_new w2 _)) (by simp [Value.oneCell']) (by decide) (by unfold maxLen; omega) (by omega) (by simp; omega) (w2.heap.size + 1) (by simp) ?_); intro g1 cap1 w4 hown4 hgrow4 hat4 hlt4; have hst := HH.out.2.2.1; have hsp := HH.out.2.2.2.1; have m4 := (hgrow4.block w1.heap.size (by simp; omega) (fun e => by have := (hst.lt _ e.symm).1; omega)).trans ((block_old l2).trans H2.out.2); have c4 : w4.cell? ⟨w1.heap.size, 3, none⟩ = some (.slice pa pn pc) := (by rw [blk_cell m4]; rfl); have l4 : w1.heap.size < w4.heap.size := (Array.getElem?_eq_some_iff.1 m4).1; have hp4 : w4.ownsRow (w1.heap.size + 1) 28 5 (.slice pa pn pc) ws.length ((ws.map cellsT).flatten) := own_keep hsp (fun g hg hl => (hgrow4.block g (by simp; omega) (fun e => HH.out.2.2.2.2.1 g e.symm hg)).trans ((block_old (by omega)).trans (H2.out.1.block g hl))); have hownB := fun o => hp4.alloc o; have hs42 : w2.heap.size + 1 ≤ w4.heap.size := (by have := hgrow4.size; simpa using this); have H4 := Lib.hid (And.intro hown4 (And.intro hgrow4 (And.intro hat4 (And.intro m4 (And.intro hp4 hs42))))); clear hst hsp hown4 hgrow4 hat4 m4 hp4)
          | (at_builtin; (refine wpList_append_lies _ (by rfl) (.tmp 43) (.tmp 46) 25 (by rfl) (w1.heap.size + 1) 28 i1 zeroV 5 80 Tryd.underlying25 hi1 hy0 hy1 hy2 rfl (by decide) (.slice pa pn pc) ws.length ((ws.map cellsT).flatten) (by rfl) (hownB _) ⟨w4.heap.size, 0, none⟩ 1 1 (cellsT (wordV s)) (by rfl) (by rfl) (World.news_of_block (cs := #[.int .i64 3, .int .i64 0, .string (wordV s), .slice none 0 0, .slice none 0 0]) (t := 28) (fr := (0, 0)) (block_new w4 _)) (by simp [cellsT, Value.oneCell']) (by decide) (by unfold maxLen; omega) (by omega) (by simp; omega) (w4.heap.size + 1) (by simp) ?_); intro g2 cap2 w5 hown5 hgrow5 hat5 hlt5; have m5 := (hgrow5.block w1.heap.size (by simp; omega) (fun e => by have := (H4.out.2.2.2.2.1.lt _ e.symm).1; omega)).trans ((block_old l4).trans H4.out.2.2.2.1); have f5 := blk_frozen m5 3; have d5 : w5.cell? ⟨w1.heap.size, 3, none⟩ = some (.slice pa pn pc) := (by rw [blk_cell m5]; rfl); have H5 := Lib.hid (And.intro hown5 (And.intro hgrow5 (And.intro hat5 m5))); clear hown5 hgrow5 hat5 m5))
        go_roundg (12 - (i + 1))
        case measure => omega
        case rel =>
          have hs4 := H4.out.2.2.2.2.2
          have hpl : ∀ g, (⟨pa, pn, pc⟩ : Sl).val.ownBlock = some g → g < wr.heap.size := fun g hg => (HH.out.2.2.2.1.lt g hg).2
          have hne1 : (⟨pa, pn, pc⟩ : Sl).val.ownBlock ≠ some g1 := fun e => by
            have h1 := hpl g1 e
            rcases H4.out.2.2.1 with h | h
            · exact HH.out.2.2.2.2.1 g1 h e
            · omega
          have hg1 := (H4.out.1.lt g1 rfl).1
          have hg2 := (H5.out.1.lt g2 rfl).1
          have h45 : w5.heap[g1]? = w4.heap[g1]? := (H5.out.2.1.block g1 (by simp; omega) (fun e => hne1 e.symm)).trans (block_old hlt4)
          have hlen : (ws ++ [wordV s]).length = ws.length + 1 := by simp
          refine ⟨i + 1, ws ++ [wordV s], ⟨some ⟨g2, 0, none⟩, ws.length + 1, cap2⟩, ⟨some ⟨g1, 0, none⟩, ws.length + 1, cap1⟩, by omega, by omega, by omega, rfl, by go_num, Hk.out.symm, blk_set H5.out.2.2.2 3 _, ?_, ?_, ?_, ?_⟩
          · rw [hlen, show strs (ws ++ [wordV s]) = strs ws ++ [.string (wordV s)] by simp [strs]]
            refine own_keep (w := w5) (own_keep H4.out.1 (fun g hg _ => ?_)) (fun g hg _ => ?_)
            · cases hg; exact h45
            · cases hg; exact blk_far (by show g1 ≠ w1.heap.size; omega)
          · rw [hlen, List.map_append, List.flatten_append]
            refine own_keep (w := w5) ?_ (fun g hg _ => ?_)
            · simpa using H5.out.1
            · cases hg; exact blk_far (by show g2 ≠ w1.heap.size; omega)
          · intro g hg e
            cases hg
            cases e
            rcases H5.out.2.2.1 with h | h
            · exact hne1 h
            · omega
          · have hb0 := HH.out.2.2.2.2.2.trans (H2.out.1.mono HH.out.2.2.2.2.2.size)
            have hb4 := (hb0.alloc hb0.size _).grown H4.out.2.1 (hb0.alloc hb0.size _).size (fun g e => by have := (HH.out.2.2.1.lt g e).1; omega)
            exact ((hb4.alloc hb4.size _).grown H5.out.2.1 (hb4.alloc hb4.size _).size (fun g e => by have := (HH.out.2.2.2.1.lt g e).1; omega)).setCell (p := ⟨w1.heap.size, 3, none⟩) (Nat.le_refl _) _
    · have hw12 : ws.length ≤ 12 := by rw [HH.out.1, List.length_map, List.length_take]; omega
      have hpn : pn = ws.length := by
        rcases HH.out.2.2.2.1.2 with ⟨hv, h0⟩ | ⟨g, cap, cur, hv, _⟩
        · injection hv with _ h2 _; omega
        · injection hv with _ h2 _
      subst hpn
      have hrow := rowT (p := ⟨pa, ws.length, pc⟩) HH.out.2.2.2.1
      have hv : HV (fun g => w1.heap.size + 1 ≤ g ∧ (⟨pa, ws.length, pc⟩ : Sl).val.ownBlock = some g) wr (listT (ws.map leafT)) ⟨pa, ws.length, pc⟩ ⟨none, 0, 0⟩ := ⟨⟨_, by rw [show (listT (ws.map leafT)).list = ws.map leafT from rfl, List.length_map]; exact hrow.1, hrow.2⟩, RowF.nil _ _⟩
      have ht1 := Texts_any (listT (ws.map leafT)) (by rw [show (listT (ws.map leafT)).list = ws.map leafT from rfl, List.length_map]; omega) _ wr ⟨pa, ws.length, pc⟩ ⟨none, 0, 0⟩ (fun g hg => (HH.out.2.2.2.1.lt g hg.2).2) hv
      rw [texts_list] at ht1
      have e0 := HH.out.2.1
      have b0 : wr.cell? ⟨w1.heap.size, 0, none⟩ = some (.int .i64 4) := by rw [blk_cell e0]; rfl
      have b1 : wr.cell? ⟨w1.heap.size, 1, none⟩ = some (.int .i64 0) := by rw [blk_cell e0]; rfl
      have b2 : wr.cell? ⟨w1.heap.size, 2, none⟩ = some (.string ⟨#[]⟩) := by rw [blk_cell e0]; rfl
      have b3 : wr.cell? ⟨w1.heap.size, 3, none⟩ = some (.slice pa ws.length pc) := by rw [blk_cell e0]; rfl
      have b4 : wr.cell? ⟨w1.heap.size, 4, none⟩ = some (.slice none 0 0) := by rw [blk_cell e0]; rfl
      have Hv := Lib.hid (And.intro hv hrow)
      clear e0 hv hrow
      by_cases h1 : i < l.length
      case' pos =>
        have hltz : (i : Int) < (l.length : Int) := by omega
        have h12z : ¬ (i : Int) < 12 := by omega
      case' neg => have hltz : ¬ (i : Int) < (l.length : Int) := by omega
      all_goals
        clear hlh
        go_wp2_with fail
        refine ht1.mono ?_
        rintro e w2 ⟨⟨a2, n2, c2⟩, rfl, hown2, hb2⟩
        have H2 := Lib.hid (And.intro hown2 hb2)
        clear hown2 hb2 ht1
        go_wp2_with fail
        refine (SameTexts_any ws ws (by omega) (by omega) ⟨a2, n2, c2⟩ ⟨ta, tn, tc⟩ w2 (TextAt.of_own H2.out.1) ((TextAt.of_own (sl := ⟨ta, tn, tc⟩) HH.out.2.2.1).later H2.out.2)).mono ?_
        rintro e w3 ⟨⟨q, rfl, hq⟩, hb3⟩
        obtain rfl : q = true := hq.2 rfl
        have hnil := Texts_any nilV (Nat.zero_le _) (fun _ => False) w3 ⟨none, 0, 0⟩ ⟨none, 0, 0⟩ (fun g hg => hg.elim) (nilV_lies _ _)
        rw [texts_nil] at hnil
        have H3 := Lib.hid hb3
        clear hb3 hq
        go_wp2_with fail
        refine hnil.mono ?_
        rintro e w4 ⟨⟨a4, n4, c4⟩, rfl, _, hb4⟩
        have hb04 := (HH.out.2.2.2.2.2.trans ((H2.out.2.trans (H3.out.mono H2.out.2.size)).mono HH.out.2.2.2.2.2.size)).trans (hb4.mono (HH.out.2.2.2.2.2.trans ((H2.out.2.trans (H3.out.mono H2.out.2.size)).mono HH.out.2.2.2.2.2.size)).size)
        have hbr4 := (H2.out.2.trans (H3.out.mono H2.out.2.size)).trans (hb4.mono (H2.out.2.trans (H3.out.mono H2.out.2.size)).size)
        have e4 := (hbr4.block w1.heap.size (Array.getElem?_eq_some_iff.1 HH.out.2.1).1).trans HH.out.2.1
        have b30 : w4.cell? ⟨w1.heap.size, 0, none⟩ = some (.int .i64 4) := by rw [blk_cell e4]; rfl
        have b31 : w4.cell? ⟨w1.heap.size, 1, none⟩ = some (.int .i64 0) := by rw [blk_cell e4]; rfl
        have b32 : w4.cell? ⟨w1.heap.size, 2, none⟩ = some (.string ⟨#[]⟩) := by rw [blk_cell e4]; rfl
        have b33 : w4.cell? ⟨w1.heap.size, 3, none⟩ = some (.slice pa ws.length pc) := by rw [blk_cell e4]; rfl
        have b34 : w4.cell? ⟨w1.heap.size, 4, none⟩ = some (.slice none 0 0) := by rw [blk_cell e4]; rfl
        have H4 := Lib.hid (And.intro hb04 (And.intro hbr4 e4))
        clear hb04 hbr4 e4 hb4
        by_cases hw0 : ws.length = 0
        · have hwz : ((ws.length : Int) == 0) = true := by simp [hw0]
          clear hw0
          go_wp2_with fail
          go_ret
          exact ⟨rfl, H1.out.trans (H4.out.1.mono H1.out.size)⟩
        · have hwz : ((ws.length : Int) == 0) = false := by simpa using hw0
          obtain ⟨j, hj, hjx⟩ := index_of x ws.length (by omega) (by omega)
          obtain ⟨g, r', t', hga, hg4, _, hc, _⟩ := (Hv.out.1.1).at (show j < (listT (ws.map leafT)).list.length by rw [show (listT (ws.map leafT)).list = ws.map leafT from rfl, List.length_map]; exact hj)
          simp only at hga
          subst hga
          have hgw := (HH.out.2.2.2.1.lt g rfl).1
          have hrow4 := Hv.out.2.1.map (S' := fun g => w1.heap.size + 1 ≤ g) (w' := w4) (fun k hk hl => ⟨hk.1, H4.out.2.1.block k hl⟩)
          have hfz := fun m => hrow4.2.2.1.frozenAt (g := g) m
          have hx0 := hrow4.2.2.1.cellAt (g := g)
          have f0 := hfz (j * 5)
          have f1 := hfz (j * 5 + 1)
          have f2 := hfz (j * 5 + 2)
          have f3 := hfz (j * 5 + 3)
          have f4 := hfz (j * 5 + 4)
          have hjz : (j : Int) < (ws.length : Int) := by omega
          have hnz : ¬ (ws.length : Int) = 0 := by omega
          have lg : g < w4.heap.size := Nat.lt_of_lt_of_le hg4 H4.out.2.1.size
          have HR := Lib.hid hrow4
          have y0 := (H4.out.2.1.cell (p := ⟨g, j * 5, none⟩) (by exact hg4)).trans (hc 0 _ rfl)
          have y1 := (H4.out.2.1.cell (p := ⟨g, j * 5 + 1, none⟩) (by exact hg4)).trans (hc 1 _ rfl)
          have y2 := (H4.out.2.1.cell (p := ⟨g, j * 5 + 2, none⟩) (by exact hg4)).trans (hc 2 _ rfl)
          have y3 := (H4.out.2.1.cell (p := ⟨g, j * 5 + 3, none⟩) (by exact hg4)).trans (hc 3 _ rfl)
          have y4 := (H4.out.2.1.cell (p := ⟨g, j * 5 + 4, none⟩) (by exact hg4)).trans (hc 4 _ rfl)
          clear hfz hx0 hrow4 hg4 hc
          go_wp2_with fail
          generalize (wrap64 (k.tmod 6 + 6)).tmod 6 = kk
          have hvS := fun w5 (hw : w5 = (((((w4.setCell ⟨g, j * 5, none⟩ (.int .i64 kk)).setCell ⟨g, j * 5 + 1, none⟩ (.int .i64 0)).setCell ⟨g, j * 5 + 2, none⟩ (.string ⟨#[]⟩)).setCell ⟨g, j * 5 + 3, none⟩ (.slice none 0 0)).setCell ⟨g, j * 5 + 4, none⟩ (.slice none 0 0)).drew) =>
            show HV (fun k => k < w5.heap.size) w5 (listT ((ws.map leafT).set j (.mk kk 0 ⟨#[]⟩ [] []))) ⟨some ⟨g, 0, none⟩, ws.length, pc⟩ ⟨none, 0, 0⟩ from by
              subst hw
              refine ⟨⟨(ws.map cellsT).set j [.int .i64 kk, .int .i64 0, .string ⟨#[]⟩, .slice none 0 0, .slice none 0 0], ?_, ?_⟩, RowF.nil _ _⟩
              · rw [show (listT ((ws.map leafT).set j (.mk kk 0 ⟨#[]⟩ [] []))).list.length = ws.length by simp [listT, V.list]]
                refine (HR.out.put5 hj rfl _ _ _ _ _).map (fun q hq hl => ⟨hl, rfl⟩)
              · exact (allT _ _ _).set j (liesK _ _ kk)
          have Hvs := Lib.hid hvS
          clear hvS
          go_region
          go_wp2_with fail
          have ht5 := Texts_any (listT ((ws.map leafT).set j (.mk kk 0 ⟨#[]⟩ [] []))) (by rw [show (listT ((ws.map leafT).set j (.mk kk 0 ⟨#[]⟩ [] []))).list.length = ws.length by simp [listT, V.list]]; omega) _ _ ⟨some ⟨g, 0, none⟩, ws.length, pc⟩ ⟨none, 0, 0⟩ (fun g hg => hg) (Hvs.out _ rfl)
          have hbS : Below W.heap.size W (((((w4.setCell ⟨g, j * 5, none⟩ (.int .i64 kk)).setCell ⟨g, j * 5 + 1, none⟩ (.int .i64 0)).setCell ⟨g, j * 5 + 2, none⟩ (.string ⟨#[]⟩)).setCell ⟨g, j * 5 + 3, none⟩ (.slice none 0 0)).setCell ⟨g, j * 5 + 4, none⟩ (.slice none 0 0)).drew :=
            (((((((H1.out.trans (H4.out.1.mono H1.out.size)).setCell (p := ⟨g, j * 5, none⟩) (by have := H1.out.size; show W.heap.size ≤ g; omega) _).setCell (p := ⟨g, j * 5 + 1, none⟩) (by have := H1.out.size; show W.heap.size ≤ g; omega) _).setCell (p := ⟨g, j * 5 + 2, none⟩) (by have := H1.out.size; show W.heap.size ≤ g; omega) _).setCell (p := ⟨g, j * 5 + 3, none⟩) (by have := H1.out.size; show W.heap.size ≤ g; omega) _).setCell (p := ⟨g, j * 5 + 4, none⟩) (by have := H1.out.size; show W.heap.size ≤ g; omega) _)).drew
          have HbS := Lib.hid hbS
          clear hbS
          by_cases hk3 : kk = 3
          · have hkb : (kk == 3) = true := by simp [hk3]
            rw [texts_set3 ws j hj kk hk3] at ht5
            clear hk3
            refine ht5.mono ?_
            rintro e w6 ⟨⟨a6, n6, c6⟩, rfl, _, hb6⟩
            have H6 := Lib.hid (HbS.out.trans (hb6.mono HbS.out.size))
            clear hb6
            go_wp2_with fail
            go_ret
            exact ⟨rfl, H6.out⟩
          · have hkb : (kk == 3) = false := by simp [hk3]
            rw [texts_set0 ws j hj kk hk3] at ht5
            clear hk3
            refine ht5.mono ?_
            rintro e w6 ⟨⟨a6, n6, c6⟩, rfl, hown6, hb6⟩
            obtain rfl : n6 = 0 := (TextAt.of_own hown6).1
            have H6 := Lib.hid (HbS.out.trans (hb6.mono HbS.out.size))
            clear hb6 hown6
            go_wp2_with fail
            go_ret
            exact ⟨rfl, H6.out⟩
end Go.Proofs.YtkecimhohmkkkaaDoor.tre

/- Layer 4: shaped, of the laws' own: whatever came in, a value that may be. -/
import Derived.BigRegion
import Derived.Deep.AppendLies
import Derived.Deep.CutBlock
import Derived.Deep.RegionHeld3
import Derived.Test.YteocenjneoclbaaDoorTrmBackP
import Derived.Test.YteocenjneoclbaaDoorTrmFrame
import Derived.Test.YteocenjneoclbaaDoorTrmMakeW
import Derived.Test.YteocenjneoclbaaDoorTrmSortC
import Derived.Test.YteocenjneoclbaaDoorTrmWord
namespace Go.Proofs.YteocenjneoclbaaDoor.tre
open Go.RowKit Go.Shelf

/-- An array of sixteen numbers in a block. -/
def Open16 (w : World) (g : Nat) : Prop := ∃ cs : Array Value, w.heap[g]? = some (.cells cs 56 (0, 0)) ∧ cs.size = 16 ∧ ∀ j, j < 16 → ∃ n : Int, cs[j]? = some (.int .i64 n)
theorem Open16.at {w : World} {g : Nat} (h : Open16 w g) {j : Nat} (hj : j < 16) : ∃ n : Int, w.cell? ⟨g, j, none⟩ = some (.int .i64 n) := by
  obtain ⟨cs, h1, _, h3⟩ := h
  obtain ⟨n, hn⟩ := h3 j hj
  exact ⟨n, (blk_cell h1 j).trans hn⟩
theorem Open16.free {w : World} {g : Nat} (h : Open16 w g) (j : Nat) : w.frozen? ⟨g, j, none⟩ = false := by
  obtain ⟨cs, h1, _, _⟩ := h
  exact blk_frozen h1 j
theorem Open16.lt {w : World} {g : Nat} (h : Open16 w g) : g < w.heap.size := by
  obtain ⟨cs, h1, _, _⟩ := h
  exact (Array.getElem?_eq_some_iff.1 h1).1
theorem Open16.keep {w w' : World} {g : Nat} (h : Open16 w g) (e : w'.heap[g]? = w.heap[g]?) : Open16 w' g := by
  obtain ⟨cs, h1, h2, h3⟩ := h
  exact ⟨cs, e.trans h1, h2, h3⟩
theorem Open16.set {w : World} {g : Nat} (h : Open16 w g) (j : Nat) (n : Int) : Open16 (w.setCell ⟨g, j, none⟩ (.int .i64 n)) g := by
  obtain ⟨cs, h1, h2, h3⟩ := h
  refine ⟨_, blk_set h1 j _, by rw [Array.size_setIfInBounds]; exact h2, fun k hk => ?_⟩
  rw [Array.getElem?_setIfInBounds]
  by_cases hjk : j = k
  · rw [if_pos hjk, if_pos (by omega)]
    exact ⟨n, rfl⟩
  · rw [if_neg hjk]
    exact h3 k hk
theorem Open16.new {w : World} {g : Nat} (h : w.heap[g]? = some (.cells (Array.replicate 16 (.int .i64 0)) 56 (0, 0))) : Open16 w g :=
  ⟨_, h, by simp, fun j hj => ⟨0, by rw [Array.getElem?_replicate, if_pos hj]⟩⟩

theorem rest_of (x : Int) (n : Nat) (h0 : 0 < n) (h1 : n ≤ 14) : ∃ j : Nat, j < n ∧ (wrap64 (x.tmod (n : Int) + (n : Int))).tmod (n : Int) = (j : Int) := by
  have hb : -(n : Int) < x.tmod n ∧ x.tmod n < n := by
    have h3 := Int.tmod_lt_of_pos x (show (0 : Int) < n by omega)
    have h4 := Int.tmod_lt_of_pos (-x) (show (0 : Int) < n by omega)
    rw [Int.neg_tmod] at h4
    omega
  have e : wrap64 (x.tmod (n : Int) + (n : Int)) = x.tmod (n : Int) + (n : Int) := IntWalk.wrap64_in _ (by omega)
  rw [e]
  have h2 : 0 ≤ (x.tmod (n : Int) + (n : Int)).tmod (n : Int) := Int.tmod_nonneg _ (by omega)
  have h3 : (x.tmod (n : Int) + (n : Int)).tmod (n : Int) < n := Int.tmod_lt_of_pos _ (by omega)
  exact ⟨((x.tmod (n : Int) + (n : Int)).tmod (n : Int)).toNat, by omega, by omega⟩
theorem makeR_good (l : List It) : checkR (makeR l).1 = true := by
  unfold makeR
  split
  · decide +kernel
  · split
    · decide +kernel
    · split
      · rename_i h; exact h.2
      · decide +kernel

theorem block_new2 (W : World) (o1 o2 : Obj) : ((W.alloc o1).alloc o2).heap[W.heap.size]? = some o1 ∧ ((W.alloc o1).alloc o2).heap[W.heap.size + 1]? = some o2 := by
  have h := block_new (W.alloc o1) o2
  rw [size_alloc] at h
  exact ⟨(block_old (by rw [size_alloc]; omega)).trans (block_new W o1), h⟩

theorem after_key1 {wo w4 : World} {g : Nat} {cs : Array Value} {T : TypeId} (e : w4.heap[g]? = some (.cells cs T (0, 0))) (hb : Below wo.heap.size wo w4) (hg : wo.heap.size ≤ g) (k : Value) (o : Obj) :
    ((w4.setCell ⟨g, 3, none⟩ k).alloc o).heap[g]? = some (.cells (cs.setIfInBounds 3 k) T (0, 0)) ∧ Below wo.heap.size wo ((w4.setCell ⟨g, 3, none⟩ k).alloc o) := by
  have h := blk_set e 3 k
  have hb2 := hb.setCell (p := ⟨g, 3, none⟩) hg k
  exact ⟨(block_old (Array.getElem?_eq_some_iff.1 h).1).trans h, hb2.alloc hb2.size _⟩
theorem own_stay {w w' : World} {B : Nat} {e : TypeId} {size : Nat} {v : Value} {n : Nat} {xs : List Value} (h : w.ownsRow B e size v n xs) (hk : ∀ g o, w.heap[g]? = some o → B ≤ g → w'.heap[g]? = w.heap[g]?) : w'.ownsRow B e size v n xs := by
  obtain ⟨h1, h2⟩ := h
  refine ⟨h1, ?_⟩
  rcases h2 with h2 | ⟨g, cap, cur, hv, hB, hg, r⟩
  · exact .inl h2
  · exact .inr ⟨g, cap, cur, hv, hB, (hk g _ hg hB).trans hg, r⟩
theorem conv_two (w1 : World) (g : Nat) (a b : Int) (h : w1.heap[g]? = some (.cells #[.int .u8 a, .int .u8 b] 5 (0, 0))) : (convert 57 9 (.slice (some ⟨g, 0, none⟩) 2 2)).run Tryd.prog w1 = .ok (.string (strOfNums [a, b])) w1 :=
  run_convert_bytes_arg (P := Tryd.prog) _ 57 5 Tryd.underlying57 Tryd.underlying5 g 0 2 2 [a, b] rfl (fun i hi => by
    rw [cell_of_row _ g (0 + i) _ 5 (0, 0) h]
    match i, hi with
    | 0, _ => rfl
    | 1, _ => rfl) 9 Tryd.underlying9

set_option maxRecDepth 100000 in
set_option maxHeartbeats 8000000 in
theorem shaped_anyM (a : Option Addr) (c : Nat) (l : List It) {W : World} (h : ItemsIn W a l) :
    Calls Tryd.prog 7 #[.slice a l.length c] W fun e w' => ∃ (v : V) (p q : Sl), e = .returned (.agg #[.int .i64 v.kind, .int .i64 v.int, .string v.text, .slice p.a p.n p.c, .slice q.a q.n q.c]) ∧
      Hid (checkR v = true ∧ smallV v = true ∧ HM W.heap.size w' v p q ∧ Below W.heap.size W w') := by
  obtain ⟨i0, hi0, hz0, hz1, hz2⟩ := info_of info_item
  have hl63 := h.1
  have Hit := Lib.hid h
  clear h
  go_enter Tryd.func7, Tryd.ntmps7
  go_wp2_with fail
  go_loopg [3, 5, 6, 7, 8] 40 (fun gg s3 s5 _ _ _ wr => ∃ (i : Nat) (sl : Sl) (out : List It), i ≤ l.length ∧ i ≤ 40 ∧ 40 - i ≤ gg ∧ out.length ≤ i ∧ s3 = .slice sl.a sl.n sl.c ∧ s5 = .int .i64 i ∧
    Hid ((∀ y ∈ out, y.key.size ≤ 1000 ∧ y.text.size ≤ 1000) ∧ wr.ownsRow (W.heap.size + 2) 55 5 (.slice sl.a sl.n sl.c) out.length (flatI out) ∧ Open16 wr (W.heap.size + 1) ∧
      wr.heap[W.heap.size]? = some (.cells #[.int .i64 0, .int .i64 0, .string ⟨#[]⟩, .slice none 0 0, .slice none 0 0] 27 (0, 0)) ∧ Below W.heap.size W wr))
  case atStart =>
    have h0 := block_new2 W (.cells #[.int .i64 0, .int .i64 0, .string ⟨#[]⟩, .slice none 0 0, .slice none 0 0] 27) (.cells (Array.replicate 16 (.int .i64 0)) 56)
    exact ⟨0, ⟨none, 0, 0⟩, [], Nat.zero_le _, by omega, by omega, Nat.le_refl _, rfl, rfl, (fun y hy => by cases hy), World.ownsRow_nil _ _ _ _, .new h0.2, h0.1, ((Below.refl _ _).alloc (Nat.le_refl _) _).alloc (by rw [size_alloc]; omega) _⟩
  case round =>
    obtain ⟨i, ⟨sa, sn, sc⟩, out, hil, hi40, hgg, hoi, rfl, rfl, H⟩ := hrel
    simp only at H
    obtain ⟨wo, rfl⟩ : ∃ w', w' = wr := ⟨wr, rfl⟩
    have l0 : W.heap.size + 1 < wo.heap.size := H.out.2.2.1.lt
    by_cases hlh : i < l.length ∧ i < 40
    · obtain ⟨hlt, h40⟩ := hlh
      have hltz : (i : Int) < (l.length : Int) := by omega
      have h40z : (i : Int) < 40 := by omega
      obtain ⟨bl, off, rfl, hbl, hii⟩ : ∃ bl off, a = some ⟨bl, off, none⟩ ∧ bl < W.heap.size ∧ ItIn W bl off l := by
        rcases Hit.out.2.2 with h | h
        · rw [h] at hlt; simp at hlt
        · exact h
      have hin := List.getElem_mem hlt
      have hsz := Hit.out.2.1 _ hin
      have hbW := H.out.2.2.2.2
      have c0 := (hbW.cell (p := ⟨bl, off + i * 5, none⟩) (by exact hbl)).trans (hii i hlt 0 _ rfl)
      have c1 := (hbW.cell (p := ⟨bl, off + i * 5 + 1, none⟩) (by exact hbl)).trans (hii i hlt 1 _ rfl)
      have c2 := (hbW.cell (p := ⟨bl, off + i * 5 + 2, none⟩) (by exact hbl)).trans (hii i hlt 2 _ rfl)
      have c3 := (hbW.cell (p := ⟨bl, off + i * 5 + 3, none⟩) (by exact hbl)).trans (hii i hlt 3 _ rfl)
      have c4 := (hbW.cell (p := ⟨bl, off + i * 5 + 4, none⟩) (by exact hbl)).trans (hii i hlt 4 _ rfl)
      have lbl : bl < wo.heap.size := Nat.lt_of_lt_of_le hbl hbW.size
      generalize l[i] = x at c0 c1 c2 c3 c4 hin hsz
      obtain ⟨kd, hkd, hke⟩ := rest_of x.kind 6 (by omega) (by omega)
      obtain ⟨dd, hdd, hde⟩ := rest_of x.d 14 (by omega) (by omega)
      replace hke : (wrap64 (x.kind.tmod 6 + 6)).tmod 6 = (kd : Int) := hke
      replace hde : (wrap64 (x.d.tmod 14 + 14)).tmod 14 = (dd : Int) := hde
      have Hx := Lib.hid (And.intro hsz (And.intro hii hbW))
      clear hii hin hsz hbW
      have hx0 := Lib.hid (block_new wo (.cells #[.int .i64 0, .int .i64 kd, .int .i64 0, .string ⟨#[]⟩, .string ⟨#[]⟩] 55))
      go_upto_if 39 with (fail)
      go_cut [7] from 38 to 39 (fun s7 wc => ∃ d : Nat, d ≤ 13 ∧ s7 = .int .i64 d ∧ wc = wo.alloc (.cells #[.int .i64 0, .int .i64 kd, .int .i64 0, .string ⟨#[]⟩, .string ⟨#[]⟩] 55))
      case first =>
        by_cases hi00 : i = 0
        case' pos => have hie : ((i : Int) == 0) = true := by simpa using hi00
        case' neg => have hie : ((i : Int) == 0) = false := by simpa using hi00
        all_goals
          have Hi0 := Lib.hid hi00
          clear hi00
          go_wp2_with fail
          go_meet
          first
          | exact ⟨0, by omega, rfl, rfl⟩
          | exact ⟨dd, by omega, rfl, rfl⟩
      case rest =>
      obtain ⟨d0, hd0, rfl, rfl⟩ := hcut
      clear c1 c0
      go_upto_block 2 with fail
      go_cut [7] from 40 to 57 (fun s7 wc => ∃ d : Nat, d ≤ 13 ∧ s7 = .int .i64 d ∧ wc = wo.alloc (.cells #[.int .i64 0, .int .i64 kd, .int .i64 0, .string ⟨#[]⟩, .string ⟨#[]⟩] 55))
      case first =>
          go_wp2_with fail
          go_loopg [7] 13 (fun g2 s7 wr => ∃ d : Nat, d ≤ 13 ∧ d ≤ g2 ∧ s7 = .int .i64 d ∧ wr = wo.alloc (.cells #[.int .i64 0, .int .i64 kd, .int .i64 0, .string ⟨#[]⟩, .string ⟨#[]⟩] 55))
          case atStart => exact ⟨d0, by omega, by omega, rfl, rfl⟩
          case round =>
            obtain ⟨d, hd13, hdg, rfl, rfl⟩ := hrel
            have hop : Open16 (wo.alloc (.cells #[.int .i64 0, .int .i64 kd, .int .i64 0, .string ⟨#[]⟩, .string ⟨#[]⟩] 55)) (W.heap.size + 1) := H.out.2.2.1.keep (block_old l0)
            obtain ⟨d1, hd1⟩ : ∃ d1 : Nat, d1 ≤ 13 ∧ (0 < d → d = d1 + 1) := by
              cases d with
              | zero => exact ⟨0, by omega, by omega⟩
              | succ d1 => exact ⟨d1, by omega, by omega⟩
            obtain ⟨o1, ho1⟩ := hop.at (j := d1) (by omega)
            by_cases hd0 : 0 < d
            · obtain rfl := hd1.2 hd0
              have hdz : (0 : Int) < ((d1 + 1 : Nat) : Int) := by omega
              by_cases h4 : o1 = 4
              · subst h4
                go_wp2_with fail
                go_meet
                exact ⟨d1 + 1, hd13, by go_num, rfl⟩
              · by_cases h5 : o1 = 5
                · subst h5
                  go_wp2_with fail
                  go_meet
                  exact ⟨d1 + 1, hd13, by go_num, rfl⟩
                · have e4 : (o1 != 4) = true := by simpa using h4
                  have e5 : (o1 != 5) = true := by simpa using h5
                  go_wp2_with fail
                  go_roundg d1
                  case measure => omega
                  case rel => exact ⟨d1, by omega, Nat.le_refl _, by go_num, rfl⟩
            · obtain rfl : d = 0 := by omega
              go_wp2_with fail
              go_meet
              exact ⟨0, hd13, rfl, rfl⟩
      case rest =>
        obtain ⟨d, hd13, rfl, rfl⟩ := hcut
        go_upto_region 12 with fail
        go_cut [63] from 58 to 63 (fun c wc => c = .bool (decide (0 < i ∧ d = 0)) ∧ wc = wo.alloc (.cells #[.int .i64 0, .int .i64 kd, .int .i64 0, .string ⟨#[]⟩, .string ⟨#[]⟩] 55))
        case first =>
          by_cases hi0 : 0 < i
          · have hi0z : (0 : Int) < (i : Int) := by omega
            by_cases hd0 : d = 0
            · have hdb : ((d : Int) == 0) = true := by simpa using hd0
              have Hd := Lib.hid hd0
              clear hd0
              go_wp2_with fail
              go_meet
              exact ⟨by rw [decide_eq_true (show 0 < i ∧ d = 0 from ⟨hi0, Hd.out⟩)], rfl⟩
            · have hdb : ((d : Int) == 0) = false := by simpa using hd0
              go_wp2_with fail
              go_meet
              exact ⟨by rw [decide_eq_false (show ¬ (0 < i ∧ d = 0) from fun h => hd0 h.2)], rfl⟩
          · have hi0z : ¬ (0 : Int) < (i : Int) := by omega
            go_wp2_with fail
            go_meet
            exact ⟨by rw [decide_eq_false (show ¬ (0 < i ∧ d = 0) from fun h => hi0 h.1)], rfl⟩
        case rest =>
        obtain ⟨rfl, rfl⟩ := hcut
        by_cases hcon : 0 < i ∧ d = 0
        · rw [decide_eq_true hcon]
          go_wp2_with fail
          go_roundg (40 - (i + 1))
          case measure => omega
          case rel => exact ⟨i + 1, ⟨sa, sn, sc⟩, out, by omega, by omega, by omega, by omega, rfl, by go_num, H.out.1, own_stay H.out.2.1 (fun g _ hg _ => block_old (Array.getElem?_eq_some_iff.1 hg).1), H.out.2.2.1.keep (block_old l0), (block_old (by omega)).trans H.out.2.2.2.1, H.out.2.2.2.2.alloc H.out.2.2.2.2.size _⟩
        rw [decide_eq_false hcon]
        go_upto_if 66 with (fail)
        go_cut [] from 64 to 73 (fun wc => ∃ n : Int, wc = wo.alloc (.cells #[.int .i64 0, .int .i64 kd, .int .i64 n, .string ⟨#[]⟩, .string ⟨#[]⟩] 55))
        case first =>
          by_cases hk1 : kd = 1
          case' pos => have hk1b : ((kd : Int) == 1) = true := by rw [beq_iff_eq]; omega
          case' neg => have hk1b : ((kd : Int) == 1) = false := by rw [beq_eq_false_iff_ne]; omega
          all_goals
            clear hk1
            go_wp2_with fail
            go_meet
            exact ⟨_, rfl⟩
        case rest =>
        obtain ⟨n1, rfl⟩ := hcut
        go_upto_if 76 with (fail)
        go_cut [] from 74 to 82 (fun wc => ∃ n : Int, wc = wo.alloc (.cells #[.int .i64 0, .int .i64 kd, .int .i64 n, .string ⟨#[]⟩, .string ⟨#[]⟩] 55))
        case first =>
          by_cases hk1 : kd = 2
          case' pos => have hk1b : ((kd : Int) == 2) = true := by rw [beq_iff_eq]; omega
          case' neg => have hk1b : ((kd : Int) == 2) = false := by rw [beq_eq_false_iff_ne]; omega
          all_goals
            clear hk1
            go_wp2_with fail
            go_meet
            exact ⟨_, rfl⟩
        case rest =>
        obtain ⟨n, rfl⟩ := hcut
        clear c2 n1
        go_upto_if 85 with (fail)
        go_cut [] from 83 to 92 (fun wc => ∃ t : ByteArray, t.size ≤ 3 ∧ Hid (wc.heap[wo.heap.size]? = some (.cells #[.int .i64 0, .int .i64 kd, .int .i64 n, .string ⟨#[]⟩, .string t] 55 (0, 0)) ∧ Below wo.heap.size wo wc))
        case first =>
          have hwd := word_any x.text Hx.out.1.2 (wo.alloc (.cells #[.int .i64 0, .int .i64 kd, .int .i64 n, .string ⟨#[]⟩, .string ⟨#[]⟩] 55))
          have hw3 := wordV_size x.text
          have hbo : Below wo.heap.size wo (wo.alloc (.cells #[.int .i64 0, .int .i64 kd, .int .i64 n, .string ⟨#[]⟩, .string ⟨#[]⟩] 55)) := (Below.refl _ _).alloc (Nat.le_refl _) _
          have hn0 := block_new wo (.cells #[.int .i64 0, .int .i64 kd, .int .i64 n, .string ⟨#[]⟩, .string ⟨#[]⟩] 55)
          have Hw := Lib.hid (And.intro hw3 (And.intro hbo hn0))
          clear hw3 hbo hn0
          by_cases hk1 : kd = 3
          · have hk1b : ((kd : Int) == 3) = true := by rw [beq_iff_eq]; omega
            clear hk1
            go_wp2_with fail
            refine hwd.mono ?_
            rintro e w2 ⟨rfl, hb2⟩
            have e2 := (hb2.block wo.heap.size (by rw [size_alloc]; omega)).trans Hw.out.2.2
            have fr2 := blk_frozen e2 4
            have p24 : w2.cell? ⟨wo.heap.size, 4, none⟩ = some (.string ⟨#[]⟩) := by rw [blk_cell e2]; rfl
            have l2 := (Array.getElem?_eq_some_iff.1 e2).1
            have H2 := Lib.hid (And.intro hb2 e2)
            clear hb2 e2
            go_wp2_with fail
            go_meet
            exact ⟨_, Hw.out.1, blk_set H2.out.2 4 _, (Hw.out.2.1.trans (H2.out.1.mono Hw.out.2.1.size)).setCell (Nat.le_refl _) _⟩
          · have hk1b : ((kd : Int) == 3) = false := by rw [beq_eq_false_iff_ne]; omega
            clear hk1
            go_wp2_with fail
            go_meet
            exact ⟨⟨#[]⟩, by decide, Hw.out.2.2, Hw.out.2.1⟩
        case rest =>
        obtain ⟨t, ht, HT⟩ := hcut
        clear c4
        obtain ⟨wx, rfl⟩ : ∃ w', w' = wc := ⟨wc, rfl⟩
        have ky := (HT.out.2.cell (p := ⟨bl, off + i * 5 + 3, none⟩) (by exact lbl)).trans c3
        clear c3
        go_upto_region 19 with fail
        go_cut [101] from 93 to 101 (fun c wc => ∃ b : Bool, c = .bool b ∧ wc = wx)
        case first =>
          have hop : Open16 wx (W.heap.size + 1) := H.out.2.2.1.keep (HT.out.2.block _ l0)
          obtain ⟨d1, hd1⟩ : ∃ d1 : Nat, d1 ≤ 13 ∧ (0 < d → d = d1 + 1) := by
            cases d with
            | zero => exact ⟨0, by omega, by omega⟩
            | succ d1 => exact ⟨d1, by omega, by omega⟩
          obtain ⟨o1, ho1⟩ := hop.at (j := d1) (by omega)
          by_cases hd0 : 0 < d
          · obtain rfl := hd1.2 hd0
            have hdz : (0 : Int) < ((d1 + 1 : Nat) : Int) := by omega
            go_wp2_with fail
            go_meet
            exact ⟨_, rfl, rfl⟩
          · obtain rfl : d = 0 := by omega
            go_wp2_with fail
            go_meet
            exact ⟨_, rfl, rfl⟩
        case rest =>
        obtain ⟨b, rfl, rfl⟩ := hcut
        go_upto_if 101 with (fail)
        go_cut [] from 102 to 119 (fun wc => ∃ k : ByteArray, k.size ≤ 5 ∧ Hid (wc.heap[wo.heap.size]? = some (.cells #[.int .i64 0, .int .i64 kd, .int .i64 n, .string k, .string t] 55 (0, 0)) ∧ Below wo.heap.size wo wc))
        case first =>
          cases b with
          | false =>
            go_wp2_with fail
            go_meet
            exact ⟨⟨#[]⟩, by decide, HT.out⟩
          | true =>
            have hwd := word_any x.key Hx.out.1.1
            have hne1 : ¬ bl = wo.heap.size := by omega
            have hne2 : ¬ wo.heap.size = bl := by omega
            have lblc : bl < wc.heap.size := Nat.lt_of_lt_of_le lbl HT.out.2.size
            have hw3 := wordV_size x.key
            have hcv1 := fun (w1 : World) (a b : Int) => conv_two (w1.alloc (.cells #[.int .u8 a, .int .u8 b] 5)) w1.heap.size a b (block_new w1 _)
            have hcv2 := fun (w1 : World) (a b : Int) => conv_two (w1.alloc (.cells #[.int .u8 a, .int .u8 b] 5)).drew w1.heap.size a b (block_new w1 _)
            have Hk5 := Lib.hid (show ∀ a b : Int, (wordV x.key ++ strOfNums [a, b]).size ≤ 5 from fun a b => by
              rw [ByteArray.size_append, strOfNums_size]; simp; omega)
            have hsz : ∀ a b : Int, ¬ 9223372036854775807 < (wordV x.key).size + (strOfNums [a, b]).size := fun a b => by
              rw [strOfNums_size]; simp; omega
            go_wp2_with fail
            go_region_law ((go_simp; go_wp2_with (first
              | (go_at_call 33; refine (hwd _).mono ?_; rintro e w4 ⟨rfl, hb4⟩; have hb0 : Below wc.heap.size wc w4 := (Below.refl wc.heap.size wc).drew.trans hb4; have ky4 : w4.cell? ⟨bl, off + i * 5 + 3, none⟩ = some (.string x.key) := (hb0.cell (p := ⟨bl, off + i * 5 + 3, none⟩) (by exact Nat.lt_of_lt_of_le lbl HT.out.2.size)).trans ky; have e4 := (hb0.block wo.heap.size (Array.getElem?_eq_some_iff.1 HT.out.1).1).trans HT.out.1; have p43 : w4.cell? ⟨wo.heap.size, 3, none⟩ = some (.string ⟨#[]⟩) := (by rw [blk_cell e4]; rfl); have fr4 := blk_frozen e4 3; have l4 := (Array.getElem?_eq_some_iff.1 e4).1; have m4 := World.new_ne w4 _ ky4; have H4 := Lib.hid (And.intro hb0 e4); clear hb4 hb0 e4)
              | (go_at_call 33; refine (hwd _).mono ?_; rintro e w4 ⟨rfl, hb4⟩; have hb0 : Below wc.heap.size wc w4 := ((Below.refl wc.heap.size wc).alloc (Nat.le_refl _) (.cells #[.int .u8 (IntKind.u8.wrap (IntKind.i64.wrap (97 + (i : Int).tmod 26))), .int .u8 (IntKind.u8.wrap (IntKind.i64.wrap (48 + IntKind.i64.wrap ((i : Int) / 26))))] 5)).drew.trans (hb4.mono (by simp only [World.drew, size_alloc]; omega)); have eb := (hb4.block wc.heap.size (by simp only [World.drew, size_alloc]; omega)).trans (block_new wc (.cells #[.int .u8 (IntKind.u8.wrap (IntKind.i64.wrap (97 + (i : Int).tmod 26))), .int .u8 (IntKind.u8.wrap (IntKind.i64.wrap (48 + IntKind.i64.wrap ((i : Int) / 26))))] 5)); have hcv4 := conv_two w4 wc.heap.size _ _ eb; have ky4 : w4.cell? ⟨bl, off + i * 5 + 3, none⟩ = some (.string x.key) := (hb0.cell (p := ⟨bl, off + i * 5 + 3, none⟩) (by exact Nat.lt_of_lt_of_le lbl HT.out.2.size)).trans ky; have e4 := (hb0.block wo.heap.size (Array.getElem?_eq_some_iff.1 HT.out.1).1).trans HT.out.1; have p43 : w4.cell? ⟨wo.heap.size, 3, none⟩ = some (.string ⟨#[]⟩) := (by rw [blk_cell e4]; rfl); have fr4 := blk_frozen e4 3; have l4 := (Array.getElem?_eq_some_iff.1 e4).1; have m4 := World.new_ne w4 _ ky4; have H4 := Lib.hid (And.intro hb0 e4); clear hb4 hb0 e4 eb))))
            all_goals
              go_wp2_with fail
              go_meet
              have hb4 := HT.out.2.trans (H4.out.1.mono HT.out.2.size)
              first
              | exact ⟨_, Hk5.out _ _, after_key1 H4.out.2 hb4 (Nat.le_refl _) _ _⟩
              | exact ⟨_, Hk5.out _ _, blk_set H4.out.2 3 _, hb4.setCell (p := ⟨wo.heap.size, 3, none⟩) (Nat.le_refl _) _⟩

        case rest =>
        obtain ⟨k, hk, HK⟩ := hcut
        clear ky HT
        have lw := (Array.getElem?_eq_some_iff.1 HK.out.1).1
        have x0 : wc.cell? ⟨wo.heap.size, 0, none⟩ = some (.int .i64 0) := by rw [blk_cell HK.out.1]; rfl
        have x1 : wc.cell? ⟨wo.heap.size, 1, none⟩ = some (.int .i64 kd) := by rw [blk_cell HK.out.1]; rfl
        have x2 : wc.cell? ⟨wo.heap.size, 2, none⟩ = some (.int .i64 n) := by rw [blk_cell HK.out.1]; rfl
        have x3 : wc.cell? ⟨wo.heap.size, 3, none⟩ = some (.string k) := by rw [blk_cell HK.out.1]; rfl
        have x4 : wc.cell? ⟨wo.heap.size, 4, none⟩ = some (.string t) := by rw [blk_cell HK.out.1]; rfl
        have fx0 := blk_frozen HK.out.1 0
        have hop : Open16 wc (W.heap.size + 1) := H.out.2.2.1.keep (HK.out.2.block _ l0)
        have fop := hop.free d
        have lop := hop.lt
        obtain ⟨od, hod⟩ := hop.at (j := d) (by omega)
        have hdz : (d : Int) < 16 := by omega
        have Hop := Lib.hid hop
        clear hop
        go_wp2_with fail
        go_loopg [8] 16 (fun g2 s8 wr => ∃ k' : Nat, k' ≤ 16 ∧ 16 - k' ≤ g2 ∧ s8 = .int .i64 k' ∧ Hid (Open16 wr (W.heap.size + 1) ∧ wr.heap[wo.heap.size]? = some (.cells #[.int .i64 d, .int .i64 kd, .int .i64 n, .string k, .string t] 55 (0, 0)) ∧ Below W.heap.size wo wr ∧
          (∀ j, j < wo.heap.size → j ≠ W.heap.size + 1 → wr.heap[j]? = wo.heap[j]?)))
        case atStart =>
          have hx0 := blk_set HK.out.1 0 (.int .i64 d)
          have hb0 := (HK.out.2.mono (show W.heap.size ≤ wo.heap.size by omega)).setCell (p := ⟨wo.heap.size, 0, none⟩) (show W.heap.size ≤ wo.heap.size by omega) (.int .i64 d)
          exact ⟨d + 1, by omega, by omega, by go_num, (Hop.out.keep (blk_far (show W.heap.size + 1 ≠ wo.heap.size by omega))).set d kd, (blk_far (show wo.heap.size ≠ W.heap.size + 1 by omega)).trans hx0, hb0.setCell (p := ⟨W.heap.size + 1, d, none⟩) (Nat.le_succ _) _,
            fun j hj hne => (blk_far (show j ≠ W.heap.size + 1 from hne)).trans ((blk_far (show j ≠ wo.heap.size by omega)).trans (HK.out.2.block j hj))⟩
        case round =>
          obtain ⟨k', hk16, hkg, rfl, HL⟩ := hrel
          have lwr := (Array.getElem?_eq_some_iff.1 HL.out.2.1).1
          by_cases hkl : k' < 16
          · have hklz : (k' : Int) < 16 := by omega
            obtain ⟨ok, hok⟩ := HL.out.1.at hkl
            have fok := HL.out.1.free k'
            have lok := HL.out.1.lt
            go_wp2_with fail
            go_roundg (16 - (k' + 1))
            case measure => omega
            case rel =>
              exact ⟨k' + 1, by omega, Nat.le_refl _, by go_num, HL.out.1.set k' 0, (blk_far (show wo.heap.size ≠ W.heap.size + 1 by omega)).trans HL.out.2.1, HL.out.2.2.1.setCell (p := ⟨W.heap.size + 1, k', none⟩) (Nat.le_succ _) _,
                fun j hj hne => (blk_far (show j ≠ W.heap.size + 1 from hne)).trans (HL.out.2.2.2 j hj hne)⟩
          · obtain rfl : k' = 16 := by omega
            have y0 : wr.cell? ⟨wo.heap.size, 0, none⟩ = some (.int .i64 d) := by rw [blk_cell HL.out.2.1]; rfl
            have y1 : wr.cell? ⟨wo.heap.size, 1, none⟩ = some (.int .i64 kd) := by rw [blk_cell HL.out.2.1]; rfl
            have y2 : wr.cell? ⟨wo.heap.size, 2, none⟩ = some (.int .i64 n) := by rw [blk_cell HL.out.2.1]; rfl
            have y3 : wr.cell? ⟨wo.heap.size, 3, none⟩ = some (.string k) := by rw [blk_cell HL.out.2.1]; rfl
            have y4 : wr.cell? ⟨wo.heap.size, 4, none⟩ = some (.string t) := by rw [blk_cell HL.out.2.1]; rfl
            have hownA := fun o => (own_stay (w' := wr) H.out.2.1 (fun g _ hg hB => HL.out.2.2.2 g (Array.getElem?_eq_some_iff.1 hg).1 (by omega))).alloc o
            have ho40 : out.length ≤ 40 := by omega
            have hwl := HL.out.2.2.1.size
            go_wp2_with (at_builtin; refine wpList_append_own_at _ rfl _ _ 22 rfl (W.heap.size + 2) 55 i0 _ 5 56 Tryd.underlying22 hi0 hz0 hz1 hz2 rfl (by decide) _ _ _ rfl (hownA _) ⟨wr.heap.size, 0, none⟩ 1 1 [.int .i64 d, .int .i64 kd, .int .i64 n, .string k, .string t] rfl rfl (World.news_of_block (cs := #[.int .i64 d, .int .i64 kd, .int .i64 n, .string k, .string t]) (t := 55) (fr := (0, 0)) (block_new wr _)) (by simp [Value.oneCell']) (by unfold maxLen; omega) (by omega) (by simp; omega) ?_; intro v' w1 hown1 hgrow1 _ hat1; obtain ⟨g', cap', rfl, _, _⟩ := hown1.form (by omega))
            go_roundg (40 - (i + 1))
            case measure => omega
            case rel =>
              have hb1 := (HL.out.2.2.1.alloc (by omega) (.cells #[.int .i64 d, .int .i64 kd, .int .i64 n, .string k, .string t] 55)).grown hgrow1 (by rw [size_alloc]; omega) (fun j e => by have := (H.out.2.1.lt j e).1; omega)
              refine ⟨i + 1, ⟨some ⟨g', 0, none⟩, out.length + 1, cap'⟩, out ++ [⟨d, kd, n, k, t⟩], by omega, by omega, by omega, by simp; omega, rfl, by go_num, ?_, ?_, ?_, ?_, ?_⟩
              · intro y hy
                rcases List.mem_append.1 hy with h | h
                · exact H.out.1 y h
                · rw [List.mem_singleton] at h
                  subst h
                  exact ⟨by show k.size ≤ 1000; omega, by show t.size ≤ 1000; omega⟩
              · rw [flatI_snoc, List.length_append]
                exact hown1
              · exact HL.out.1.keep ((hgrow1.block _ (by rw [size_alloc]; have := HL.out.1.lt; omega) (fun e => by have := (H.out.2.1.lt _ e.symm).1; omega)).trans (block_old HL.out.1.lt))
              · exact ((hgrow1.block W.heap.size (by rw [size_alloc]; omega) (fun e => by have := (H.out.2.1.lt _ e.symm).1; omega)).trans (block_old (by omega))).trans ((HL.out.2.2.2 _ (by omega) (by omega)).trans H.out.2.2.2.1)
              · exact H.out.2.2.2.2.trans hb1
    · have hform := own_form H.out.2.1
      have hmk := rMake_rowM out (by omega) H.out.1 (W.heap.size + 2) ⟨sa, sn, sc⟩ wo H.out.2.1
      obtain ⟨hsn, -⟩ := hform
      subst hsn
      have r0 : wo.cell? ⟨W.heap.size, 0, none⟩ = some (.int .i64 0) := by rw [blk_cell H.out.2.2.2.1]; rfl
      have r1 : wo.cell? ⟨W.heap.size, 1, none⟩ = some (.int .i64 0) := by rw [blk_cell H.out.2.2.2.1]; rfl
      have r2 : wo.cell? ⟨W.heap.size, 2, none⟩ = some (.string ⟨#[]⟩) := by rw [blk_cell H.out.2.2.2.1]; rfl
      have r3 : wo.cell? ⟨W.heap.size, 3, none⟩ = some (.slice none 0 0) := by rw [blk_cell H.out.2.2.2.1]; rfl
      have r4 : wo.cell? ⟨W.heap.size, 4, none⟩ = some (.slice none 0 0) := by rw [blk_cell H.out.2.2.2.1]; rfl
      have fr0 := blk_frozen H.out.2.2.2.1 0
      have fr1 := blk_frozen H.out.2.2.2.1 1
      have fr2 := blk_frozen H.out.2.2.2.1 2
      have fr3 := blk_frozen H.out.2.2.2.1 3
      have fr4 := blk_frozen H.out.2.2.2.1 4
      have hgood := And.intro (makeR_good out) (small_make out H.out.1)
      generalize (makeR out).2 = ok at hmk
      generalize (makeR out).1 = v at hmk hgood
      have Hg := Lib.hid hgood
      clear hgood
      by_cases hlt : i < l.length
      case' pos =>
        have hltz : (i : Int) < (l.length : Int) := by omega
        have h40z : ¬ (i : Int) < 40 := by omega
      case' neg => have hltz : ¬ (i : Int) < (l.length : Int) := by omega
      all_goals
        by_cases hz : out.length = 0
        · have hzb : ((out.length : Int) == 0) = true := by rw [beq_iff_eq]; omega
          clear hmk hz
          go_wp2_with fail
          refine bodyPost_ret (results_cell_row rfl _ _ W.heap.size 27 _ (0, 0) _ rfl (set5 _ _ _ _ _ H.out.2.2.2.1) Tryd.underlying27 rfl size_V) rfl ?_
          exact ⟨nilV, ⟨none, 0, 0⟩, ⟨none, 0, 0⟩, rfl, by decide +kernel, by decide +kernel, HM.none _ _ _ _ _, below5 H.out.2.2.2.2 (Nat.le_refl _) _ _ _ _ _ _ _ _ _ _⟩
        · have hzb : ((out.length : Int) == 0) = false := by rw [beq_eq_false_iff_ne]; omega
          clear hz
          go_wp2_with fail
          refine hmk.mono ?_
          rintro e w2 ⟨px, qx, rfl, hvx, hb2⟩
          have e2 := (hb2.block W.heap.size (by omega)).trans H.out.2.2.2.1
          have l2 := (Array.getElem?_eq_some_iff.1 e2).1
          have s0 : w2.cell? ⟨W.heap.size, 0, none⟩ = some (.int .i64 0) := by rw [blk_cell e2]; rfl
          have s1 : w2.cell? ⟨W.heap.size, 1, none⟩ = some (.int .i64 0) := by rw [blk_cell e2]; rfl
          have s2 : w2.cell? ⟨W.heap.size, 2, none⟩ = some (.string ⟨#[]⟩) := by rw [blk_cell e2]; rfl
          have s3 : w2.cell? ⟨W.heap.size, 3, none⟩ = some (.slice none 0 0) := by rw [blk_cell e2]; rfl
          have s4 : w2.cell? ⟨W.heap.size, 4, none⟩ = some (.slice none 0 0) := by rw [blk_cell e2]; rfl
          have fs0 := blk_frozen e2 0
          have fs1 := blk_frozen e2 1
          have fs2 := blk_frozen e2 2
          have fs3 := blk_frozen e2 3
          have fs4 := blk_frozen e2 4
          have H2 := Lib.hid (And.intro hvx (And.intro hb2 e2))
          clear hvx hb2 e2 hmk
          go_wp2_with fail
          have h5 := set5 (.int .i64 v.kind) (.int .i64 v.int) (.string v.text) (.slice px.a px.n px.c) (.slice qx.a qx.n qx.c) H2.out.2.2
          have hb5 := below5 (H.out.2.2.2.2.trans (H2.out.2.1.mono (show W.heap.size ≤ wo.heap.size by omega))) (Nat.le_refl W.heap.size) 0 1 2 3 4 (.int .i64 v.kind) (.int .i64 v.int) (.string v.text) (.slice px.a px.n px.c) (.slice qx.a qx.n qx.c)
          refine bodyPost_ret (results_cell_row rfl _ _ W.heap.size 27 _ (0, 0) _ rfl ((block_old (Array.getElem?_eq_some_iff.1 h5).1).trans h5) Tryd.underlying27 rfl size_V) rfl ?_
          exact ⟨v, px, qx, rfl, Hg.out.1, Hg.out.2, H2.out.1.map (fun k hk hl => ⟨by omega, (block_old (by simpa using hl)).trans (far5 (by omega))⟩), hb5.alloc hb5.size _⟩
theorem shaped_any (a : Option Addr) (c : Nat) (l : List It) {W : World} (h : ItemsIn W a l) :
    Calls Tryd.prog 7 #[.slice a l.length c] W fun e w' => ∃ (v : V) (p q : Sl), e = .returned (.agg #[.int .i64 v.kind, .int .i64 v.int, .string v.text, .slice p.a p.n p.c, .slice q.a q.n q.c]) ∧
      Hid (checkR v = true ∧ smallV v = true ∧ HV (fun g => W.heap.size ≤ g) w' v p q ∧ Below W.heap.size W w') :=
  (shaped_anyM a c l h).mono (fun _ _ ⟨v, p, q, h1, h2⟩ => ⟨v, p, q, h1, h2.out.1, h2.out.2.1, h2.out.2.2.1.hv, h2.out.2.2.2⟩)
end Go.Proofs.YteocenjneoclbaaDoor.tre

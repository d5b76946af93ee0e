/- Layer 4: rows of fields in the heap; how two are compared. Layer 4: swapRange, rotate, of rows of fields. Layer 4: rotate, of rows of fields. -/
import Derived.BigQuiet
import Derived.BigRegion
import Derived.Deep.QuietTactic
import Derived.Lib.Bytealg
import Derived.Lib.Strings
import Derived.Test.YteocenjneoclbaaDoorTrmSortP
namespace Go.Proofs.YteocenjneoclbaaDoor.tre
open Go.RowKit Go.Shelf

/-- These fields stand in block g, from its beginning on. -/
def RowE (g c : Nat) (w : World) (l : List El) : Prop := RowC (fun k => k = g) w 31 6 l.length ⟨some ⟨g, 0, none⟩, l.length, c⟩ (l.map cellsE)
theorem RowE.lt {g c : Nat} {w : World} {l : List El} (h : RowE g c w l) : g < w.heap.size := (h.2.2.1.lt g rfl).2
theorem RowE.cell {g c : Nat} {w : World} {l : List El} (h : RowE g c w l) {i : Nat} {e : El} (hi : l[i]? = some e) :
    (w.cell? ⟨g, i * 6, none⟩ = some (.string e.k) ∧ w.cell? ⟨g, i * 6 + 1, none⟩ = some (.int .i64 e.kind) ∧ w.cell? ⟨g, i * 6 + 2, none⟩ = some (.int .i64 e.int) ∧ w.cell? ⟨g, i * 6 + 3, none⟩ = some (.string e.text) ∧ w.cell? ⟨g, i * 6 + 4, none⟩ = some (.slice e.p.a e.p.n e.p.c) ∧ w.cell? ⟨g, i * 6 + 5, none⟩ = some (.slice e.q.a e.q.n e.q.c)) ∧
    ∀ j, w.frozen? ⟨g, i * 6 + j, none⟩ = false := by
  obtain ⟨hil, rfl⟩ := List.getElem?_eq_some_iff.1 hi
  have key : ∀ j u, j < 6 → (cellsE l[i])[j]? = some u → w.cell? ⟨g, i * 6 + j, none⟩ = some u := fun j u hj hu => by
    have h1 := h.2.2.1.cellAt (g := g) (i * 6 + j) (by show i * 6 + j < l.length * 6; omega)
    rw [h1, flatten_at (l.map cellsE) 6 h.2.1 i (cellsE l[i]) (by rw [List.getElem?_map, hi]; rfl) j hj]
    exact hu
  exact ⟨⟨key 0 _ (by omega) rfl, key 1 _ (by omega) rfl, key 2 _ (by omega) rfl, key 3 _ (by omega) rfl, key 4 _ (by omega) rfl, key 5 _ (by omega) rfl⟩, fun j => h.2.2.1.frozenAt (g := g) (i * 6 + j)⟩
theorem RowE.keep {g c : Nat} {w w' : World} {l : List El} (h : RowE g c w l) (hk : w'.heap[g]? = w.heap[g]?) : RowE g c w' l := RowC.map (fun k hs _ => ⟨hs, by rw [hs]; exact hk⟩) h
theorem RowE.later {g c : Nat} {w w' : World} {l : List El} (h : RowE g c w l) (hb : Below w.heap.size w w') : RowE g c w' l := h.keep (hb.block g h.lt)
theorem RowE.put {g c : Nat} {w : World} {l : List El} (h : RowE g c w l) {i : Nat} (hi : i < l.length) (e : El) :
    RowE g c ((((((w.setCell ⟨g, i * 6, none⟩ (.string e.k)).setCell ⟨g, i * 6 + 1, none⟩ (.int .i64 e.kind)).setCell ⟨g, i * 6 + 2, none⟩ (.int .i64 e.int)).setCell ⟨g, i * 6 + 3, none⟩ (.string e.text)).setCell ⟨g, i * 6 + 4, none⟩ (.slice e.p.a e.p.n e.p.c)).setCell ⟨g, i * 6 + 5, none⟩ (.slice e.q.a e.q.n e.q.c)) (l.set i e) := by
  have hl : i < (l.map cellsE).length := by rw [List.length_map]; exact hi
  have hx : (l.map cellsE).getD i [] = cellsE l[i] := by
    rw [List.getD_eq_getElem?_getD, List.getElem?_map, List.getElem?_eq_getElem hi]; rfl
  have h0 := RowC.set1 h hi (j := 0) (by omega) (g := g) rfl (.string e.k)
  have h1 := h0.set1 hi (j := 1) (by omega) rfl (.int .i64 e.kind)
  have h2 := h1.set1 hi (j := 2) (by omega) rfl (.int .i64 e.int)
  have h3 := h2.set1 hi (j := 3) (by omega) rfl (.string e.text)
  have h4 := h3.set1 hi (j := 4) (by omega) rfl (.slice e.p.a e.p.n e.p.c)
  have h5 := h4.set1 hi (j := 5) (by omega) rfl (.slice e.q.a e.q.n e.q.c)
  simp only [getD_set, hl, hx, List.set_set, cellsE, List.set_cons_zero, List.set_cons_succ] at h5
  unfold RowE
  rw [List.length_set, List.map_set]
  exact h5
theorem set6_far {w : World} {g a b c d e f : Nat} {u0 u1 u2 u3 u4 u5 : Value} {k : Nat} (hk : k ≠ g) :
    ((((((w.setCell ⟨g, a, none⟩ u0).setCell ⟨g, b, none⟩ u1).setCell ⟨g, c, none⟩ u2).setCell ⟨g, d, none⟩ u3).setCell ⟨g, e, none⟩ u4).setCell ⟨g, f, none⟩ u5).heap[k]? = w.heap[k]? := (blk_far hk).trans (far5 hk)
theorem keeps6 {w w4 : World} {g a b c d e f : Nat} {u0 u1 u2 u3 u4 u5 : Value} {X : Nat → Prop} (h : Keeps X w w4) (hX : X g) :
    Keeps X w ((((((w4.setCell ⟨g, a, none⟩ u0).setCell ⟨g, b, none⟩ u1).setCell ⟨g, c, none⟩ u2).setCell ⟨g, d, none⟩ u3).setCell ⟨g, e, none⟩ u4).setCell ⟨g, f, none⟩ u5) := (keeps5 h hX).set (a := ⟨g, f, none⟩) hX u5
theorem Keeps.drewN {X : Nat → Prop} {w w' : World} (h : Keeps X w w') (n : Nat) : Keeps X w (w'.drewN n) := ⟨h.os, h.tape, h.output, h.size, h.block⟩
theorem Keeps.drew {X : Nat → Prop} {w w' : World} (h : Keeps X w w') : Keeps X w w'.drew := ⟨h.os, h.tape, h.output, h.size, h.block⟩
theorem RowE.drew {g c : Nat} {w : World} {l : List El} (h : RowE g c w l) : RowE g c w.drew l := h
theorem RowE.drewN {g c : Nat} {w : World} {l : List El} (h : RowE g c w l) (n : Nat) : RowE g c (w.drewN n) l := h

set_option maxRecDepth 100000 in
theorem compareString_any (a b : ByteArray) (W : World) : Calls Tryd.prog 68 #[.string a, .string b] W fun e w' => e = .returned (.int .i64 (cmpB a b)) ∧ W = w' := by
  go_enter Tryd.func68, Tryd.ntmps68
  go_wp2
  rw [run_callFunc_extern Tryd.func82 (by kernel_rfl) (by kernel_rfl) (by kernel_rfl) (e := Extern.BytealgCompare.compare) (by kernel_rfl), Lib.run_compareString]
  simp only [Result.andThen]
  rw [Oper.upon_value]
  go_wp2
  go_ret
  exact ⟨rfl, rfl⟩
theorem strCompare_any (a b : ByteArray) (W : World) : Calls Tryd.prog 42 #[.string a, .string b] W fun e w' => e = .returned (.int .i64 (cmpB a b)) ∧ W = w' := by
  go_enter Tryd.func42, Tryd.ntmps42
  go_wp2_with (go_at_call 68; refine (compareString_any _ _ _).mono ?_; rintro e w' ⟨rfl, rfl⟩)
  go_ret
  exact ⟨rfl, rfl⟩
theorem cmpF_any (a b : El) (W : World) : Calls Tryd.prog 41 #[.agg #[.string a.k, .int .i64 a.kind, .int .i64 a.int, .string a.text, .slice a.p.a a.p.n a.p.c, .slice a.q.a a.q.n a.q.c],
      .agg #[.string b.k, .int .i64 b.kind, .int .i64 b.int, .string b.text, .slice b.p.a b.p.n b.p.c, .slice b.q.a b.q.n b.q.c]] W fun e w' => e = .returned (.int .i64 (cmpB a.k b.k)) ∧ Below W.heap.size W w' := by
  have hb := Lib.hid (fun o1 o2 => ((Below.refl W.heap.size W).alloc (Nat.le_refl _) o1).alloc (by rw [size_alloc]; omega) o2)
  go_enter Tryd.func41, Tryd.ntmps41
  go_wp2_with (go_at_call 42; refine (strCompare_any _ _ _).mono ?_; rintro e w' ⟨rfl, rfl⟩)
  go_ret
  exact ⟨rfl, hb.out _ _⟩
theorem cmp_enters : ∀ args w, (callFunc 41 args).run Tryd.prog w = .ok (.enter 41 args) w := enters_of Tryd.func41 (by kernel_rfl) rfl
/-- The function value that compares. -/
def cmpV : Value := .func (.func 41) #[] #[]
end Go.Proofs.YteocenjneoclbaaDoor.tre
namespace Go.Proofs.YteocenjneoclbaaDoor.tre
open Go.RowKit Go.Shelf

/-- n places from a on changed round with as many from b on. -/
def swapR (l : List El) (a b : Nat) : Nat → List El
  | 0 => l
  | n + 1 => swp (swapR l a b n) (a + n) (b + n)
theorem swapR_len (l : List El) (a b : Nat) : ∀ n, (swapR l a b n).length = l.length
  | 0 => rfl
  | n + 1 => by rw [swapR, swp_len, swapR_len l a b n]
theorem swapR_at (l : List El) (a b : Nat) : ∀ n, a + n ≤ b → b + n ≤ l.length → ∀ p, (swapR l a b n)[p]? = if a ≤ p ∧ p < a + n then l[b + (p - a)]? else if b ≤ p ∧ p < b + n then l[a + (p - b)]? else l[p]?
  | 0, _, _, p => by rw [if_neg (by omega), if_neg (by omega)]; rfl
  | n + 1, h1, h2, p => by
    have ih := swapR_at l a b n (by omega) (by omega)
    rw [swapR, swp_at _ (by rw [swapR_len]; omega) (by rw [swapR_len]; omega), ih p, ih (a + n), ih (b + n)]
    rw [if_neg (show ¬ (a ≤ a + n ∧ a + n < a + n) by omega), if_neg (show ¬ (b ≤ a + n ∧ a + n < b + n) by omega), if_neg (show ¬ (a ≤ b + n ∧ b + n < a + n) by omega), if_neg (show ¬ (b ≤ b + n ∧ b + n < b + n) by omega)]
    by_cases e1 : p = b + n
    · subst e1
      rw [if_pos rfl, if_neg (show ¬ (a ≤ b + n ∧ b + n < a + (n + 1)) by omega), if_pos (show b ≤ b + n ∧ b + n < b + (n + 1) by omega), show a + (b + n - b) = a + n by omega]
    · rw [if_neg e1]
      by_cases e2 : p = a + n
      · subst e2
        rw [if_pos rfl, if_pos (show a ≤ a + n ∧ a + n < a + (n + 1) by omega), show b + (a + n - a) = b + n by omega]
      · rw [if_neg e2]
        by_cases e3 : a ≤ p ∧ p < a + n
        · rw [if_pos e3, if_pos (show a ≤ p ∧ p < a + (n + 1) by omega)]
        · rw [if_neg e3, if_neg (show ¬ (a ≤ p ∧ p < a + (n + 1)) by omega)]
          by_cases e4 : b ≤ p ∧ p < b + n
          · rw [if_pos e4, if_pos (show b ≤ p ∧ p < b + (n + 1) by omega)]
          · rw [if_neg e4, if_neg (show ¬ (b ≤ p ∧ p < b + (n + 1)) by omega)]
theorem swapR_mix (l : List El) (a b : Nat) : ∀ n, a + n ≤ b → b + n ≤ l.length → Mix a (b + n) l (swapR l a b n)
  | 0, _, _ => Mix.refl _ _ _
  | n + 1, h1, h2 => by
    have ih := (swapR_mix l a b n (by omega) (by omega)).mono (Nat.le_refl a) (show b + n ≤ b + (n + 1) by omega)
    exact ih.trans (Mix.swp _ (by omega) (by omega) (by omega) (by omega) (by rw [swapR_len]; omega))

set_option maxRecDepth 100000 in
set_option maxHeartbeats 4000000 in
theorem swapRange_any (l : List El) (g c a b n : Nat) (W : World) (hab : a + n ≤ b) (hbl : b + n ≤ l.length) (hl : l.length ≤ 100000) (h : RowE g c W l) :
    Calls Tryd.prog 90 #[.slice (some ⟨g, 0, none⟩) l.length c, .int .i64 a, .int .i64 b, .int .i64 n, cmpV] W fun e w' => e = .returned (.tuple #[]) ∧ RowE g c w' (swapR l a b n) ∧ Keeps (fun k => k = g) W w' := by
  have H := Lib.hid h
  clear h
  go_enter Tryd.func90, Tryd.ntmps90
  go_wp2
  go_loopg [10] n (fun gg s10 wr => ∃ i : Nat, i ≤ n ∧ n - i ≤ gg ∧ s10 = .int .i64 i ∧ Hid (RowE g c wr (swapR l a b i) ∧ Keeps (fun k => k = g) W wr))
  case atStart => exact ⟨0, Nat.zero_le _, by omega, rfl, H.out, Keeps.of_below (Below.refl _ _)⟩
  case round =>
    obtain ⟨i, hin, hgg, rfl, HH⟩ := hrel
    have hlen := swapR_len l a b i
    by_cases hlt : i < n
    · have hltz : (i : Int) < (n : Int) := by omega
      obtain ⟨x, hx⟩ : ∃ x, (swapR l a b i)[a + i]? = some x := ⟨_, List.getElem?_eq_getElem (by rw [hlen]; omega)⟩
      obtain ⟨y, hy⟩ : ∃ y, (swapR l a b i)[b + i]? = some y := ⟨_, List.getElem?_eq_getElem (by rw [hlen]; omega)⟩
      have hrow := HH.out.1
      have lg := hrow.lt
      obtain ⟨⟨x0, x1, x2, x3, x4, x5⟩, fx⟩ := hrow.cell hx
      obtain ⟨⟨y0, y1, y2, y3, y4, y5⟩, fy⟩ := hrow.cell hy
      have hsw : swp (swapR l a b i) (a + i) (b + i) = ((swapR l a b i).set (a + i) y).set (b + i) x := by unfold swp; rw [hx, hy]
      have fx0 : wr.frozen? ⟨g, (a + i) * 6, none⟩ = false := fx 0
      have fx1 := fx 1
      have fx2 := fx 2
      have fx3 := fx 3
      have fx4 := fx 4
      have fx5 := fx 5
      have fy0 : wr.frozen? ⟨g, (b + i) * 6, none⟩ = false := fy 0
      have fy1 := fy 1
      have fy2 := fy 2
      have fy3 := fy 3
      have fy4 := fy 4
      have fy5 := fy 5
      have Hs := Lib.hid (And.intro hsw hlen)
      obtain ⟨A, hA⟩ : ∃ A, a + i = A := ⟨_, rfl⟩
      obtain ⟨B, hB⟩ : ∃ B, b + i = B := ⟨_, rfl⟩
      rw [hA] at x0 x1 x2 x3 x4 x5 fx0 fx1 fx2 fx3 fx4 fx5 Hs
      rw [hB] at y0 y1 y2 y3 y4 y5 fy0 fy1 fy2 fy3 fy4 fy5 Hs
      have hAz : IntKind.i64.wrap ((a : Int) + (i : Int)) = (A : Int) := by rw [IntWalk.i64_in _ (by omega)]; omega
      have hBz : IntKind.i64.wrap ((b : Int) + (i : Int)) = (B : Int) := by rw [IntWalk.i64_in _ (by omega)]; omega
      have hAl : (A : Int) < (l.length : Int) := by omega
      have hBl : (B : Int) < (l.length : Int) := by omega
      have hABne : A + 1 ≤ B := by omega
      have HA := Lib.hid (And.intro hA hB)
      clear hx hy hsw fx fy hrow hA hB hlen
      go_wp2_with fail
      go_region
      go_wp2_with fail
      go_roundg (n - (i + 1))
      case measure => omega
      case rel =>
        refine ⟨i + 1, by omega, by omega, by go_num, ?_, (keeps6 (keeps6 HH.out.2 rfl) rfl).drew⟩
        show RowE g c _ (swp (swapR l a b i) (a + i) (b + i))
        rw [HA.out.1, HA.out.2, Hs.out.1]
        have hl := Hs.out.2
        exact ((HH.out.1.put (by omega) y).put (by rw [List.length_set]; omega) x).drew
    · obtain rfl : i = n := by omega
      go_wp2
      go_end0
      exact ⟨rfl, HH.out⟩
end Go.Proofs.YteocenjneoclbaaDoor.tre
namespace Go.Proofs.YteocenjneoclbaaDoor.tre
open Go.RowKit Go.Shelf

def swapI (a b n p : Nat) : Nat := if a ≤ p ∧ p < a + n then b + (p - a) else if b ≤ p ∧ p < b + n then a + (p - b) else p
def rotI (a m b p : Nat) : Nat := if a ≤ p ∧ p < a + (b - m) then p + (m - a) else if a + (b - m) ≤ p ∧ p < b then p - (b - m) else p
theorem swapR_ix (l : List El) (a b n : Nat) (h1 : a + n ≤ b) (h2 : b + n ≤ l.length) (p : Nat) : (swapR l a b n)[p]? = l[swapI a b n p]? := by
  rw [swapR_at l a b n h1 h2 p]
  unfold swapI
  split
  · rfl
  · split <;> rfl
/-- What stood from m on and ahead of b stands ahead of what stood from a on and ahead of m. -/
structure Rot (a m b : Nat) (l l' : List El) : Prop where
  mix : Mix a b l l'
  ix : ∀ p, l'[p]? = l[rotI a m b p]?
theorem rot_step1 (m i j p : Nat) (h1 : j < i) (h2 : i ≤ m) : swapI (m - i) m j (rotI (m - (i - j)) m (m + j) p) = rotI (m - i) m (m + j) p := by
  unfold rotI
  rw [show m + j - m = j by omega]
  unfold swapI
  by_cases c1 : m - (i - j) ≤ p ∧ p < m - (i - j) + j
  · rw [if_pos c1]
    rw [if_neg (by omega), if_pos (by omega)]
    by_cases c2 : m - i ≤ p ∧ p < m - i + j
    · omega
    · rw [if_neg c2, if_pos (by omega)]; omega
  · rw [if_neg c1]
    by_cases c3 : m - (i - j) + j ≤ p ∧ p < m + j
    · rw [if_pos c3, if_neg (by omega), if_neg (by omega), if_neg (by omega), if_pos (by omega)]
    · rw [if_neg c3]
      by_cases c4 : m - i ≤ p ∧ p < m - i + j
      · rw [if_pos c4, if_pos c4]; omega
      · rw [if_neg c4, if_neg (by omega), if_neg c4, if_neg (by omega)]
theorem rot_step2 (m i j p : Nat) (h1 : i < j) (h2 : i ≤ m) : swapI (m - i) (m + j - i) i (rotI (m - i) m (m + (j - i)) p) = rotI (m - i) m (m + j) p := by
  unfold rotI
  rw [show m + j - m = j by omega, show m + (j - i) - m = j - i by omega]
  unfold swapI
  by_cases c1 : m - i ≤ p ∧ p < m - i + (j - i)
  · rw [if_pos c1, if_neg (by omega), if_neg (by omega), if_pos (by omega)]
  · rw [if_neg c1]
    by_cases c2 : m - i + (j - i) ≤ p ∧ p < m + (j - i)
    · rw [if_pos c2, if_pos (by omega), if_pos (by omega)]; omega
    · rw [if_neg c2]
      by_cases c3 : m + j - i ≤ p ∧ p < m + j - i + i
      · rw [if_neg (by omega), if_pos c3, if_neg (by omega), if_pos (by omega)]; omega
      · rw [if_neg (by omega), if_neg c3, if_neg (by omega), if_neg (by omega)]
theorem rot_step3 (m i p : Nat) (h2 : i ≤ m) : swapI (m - i) m i p = rotI (m - i) m (m + i) p := by
  unfold rotI swapI
  rw [show m + i - m = i by omega]
  by_cases c1 : m - i ≤ p ∧ p < m - i + i
  · rw [if_pos c1, if_pos c1]; omega
  · rw [if_neg c1, if_neg c1]
    by_cases c2 : m ≤ p ∧ p < m + i
    · rw [if_pos c2, if_pos (by omega)]; omega
    · rw [if_neg c2, if_neg (by omega)]

set_option maxRecDepth 100000 in
set_option maxHeartbeats 4000000 in
theorem rotate_any (l : List El) (g c a m b : Nat) (W : World) (ham : a < m) (hmb : m < b) (hbl : b ≤ l.length) (hl : l.length ≤ 100000) (h : RowE g c W l) :
    Calls Tryd.prog 87 #[.slice (some ⟨g, 0, none⟩) l.length c, .int .i64 a, .int .i64 m, .int .i64 b, cmpV] W fun e w' => e = .returned (.tuple #[]) ∧ ∃ l', Rot a m b l l' ∧ RowE g c w' l' ∧ Keeps (fun k => k = g) W w' := by
  have H := Lib.hid h
  have hi0 : ((m : Int) - (a : Int)) = ((m - a : Nat) : Int) := by omega
  have hj0 : ((b : Int) - (m : Int)) = ((b - m : Nat) : Int) := by omega
  have wi : IntKind.i64.wrap ((m : Int) - (a : Int)) = ((m - a : Nat) : Int) := by rw [IntWalk.i64_in _ (by omega)]; omega
  clear h
  go_enter Tryd.func87, Tryd.ntmps87
  go_wp2
  have Hij := Lib.hid (And.intro hi0 hj0)
  clear hi0 hj0 wi
  go_loopg [10, 11] (b - a) (fun gg s10 s11 wr => ∃ (i j : Nat) (lt : List El), 0 < i ∧ 0 < j ∧ i ≤ m - a ∧ j ≤ b - m ∧ i + j ≤ gg ∧ s10 = .int .i64 i ∧ s11 = .int .i64 j ∧ Hid (lt.length = l.length ∧ Mix a b l lt ∧ (∀ p, lt[rotI (m - i) m (m + j) p]? = l[rotI a m b p]?) ∧ RowE g c wr lt ∧ Keeps (fun k => k = g) W wr))
  case atStart => exact ⟨m - a, b - m, l, by omega, by omega, Nat.le_refl _, Nat.le_refl _, by omega, rfl, rfl, rfl, Mix.refl _ _ _, fun p => by rw [show m - (m - a) = a by omega, show m + (b - m) = b by omega], H.out, Keeps.of_below (Below.refl _ _)⟩
  case round =>
    obtain ⟨i, j, lt, hi, hj, hia, hjb, hgg, rfl, rfl, HH⟩ := hrel
    by_cases hij : i = j
    · subst hij
      have hsw := swapRange_any lt g c (m - i) m i wr (by omega) (by rw [HH.out.1]; omega) (by rw [HH.out.1]; exact hl) HH.out.2.2.2.1
      rw [HH.out.1] at hsw
      have hmi : ((m : Int) - (i : Int)) = ((m - i : Nat) : Int) := by omega
      go_wp2_with fail
      refine hsw.mono ?_
      rintro e w2 ⟨rfl, hrow, hk⟩
      go_wp2_with fail
      go_end0
      refine ⟨rfl, _, ⟨HH.out.2.1.trans ((swapR_mix lt (m - i) m i (by omega) (by rw [HH.out.1]; omega)).mono (by omega) (by omega)), fun p => ?_⟩, hrow, HH.out.2.2.2.2.trans hk (fun k hk => .inl hk)⟩
      rw [swapR_ix lt (m - i) m i (by omega) (by rw [HH.out.1]; omega), rot_step3 m i p (by omega)]
      exact HH.out.2.2.1 p
    · have hijb : ((i : Int) != (j : Int)) = true := bne_iff_ne.2 (by omega)
      by_cases hlt : j < i
      · have hltz : (j : Int) < (i : Int) := by omega
        have hsw := swapRange_any lt g c (m - i) m j wr (by omega) (by rw [HH.out.1]; omega) (by rw [HH.out.1]; exact hl) HH.out.2.2.2.1
        rw [HH.out.1] at hsw
        have hmi : ((m : Int) - (i : Int)) = ((m - i : Nat) : Int) := by omega
        clear hij
        go_wp2_with fail
        refine hsw.mono ?_
        rintro e w2 ⟨rfl, hrow, hk⟩
        have H2 := Lib.hid (And.intro hrow hk)
        clear hrow hk hmi hsw
        go_wp2_with fail
        go_roundg (i - j + j)
        case measure => omega
        case rel =>
          refine ⟨i - j, j, swapR lt (m - i) m j, by omega, hj, by omega, hjb, Nat.le_refl _, by go_num, rfl, by rw [swapR_len]; exact HH.out.1, HH.out.2.1.trans ((swapR_mix lt (m - i) m j (by omega) (by rw [HH.out.1]; omega)).mono (by omega) (by omega)), fun p => ?_, H2.out.1, HH.out.2.2.2.2.trans H2.out.2 (fun k hk => .inl hk)⟩
          rw [swapR_ix lt (m - i) m j (by omega) (by rw [HH.out.1]; omega), rot_step1 m i j p hlt (by omega)]
          exact HH.out.2.2.1 p
      · have hltz : ¬ (j : Int) < (i : Int) := by omega
        have hlt2 : i < j := by omega
        have hsw := swapRange_any lt g c (m - i) (m + j - i) i wr (by omega) (by rw [HH.out.1]; omega) (by rw [HH.out.1]; exact hl) HH.out.2.2.2.1
        rw [HH.out.1] at hsw
        have hmi : ((m : Int) - (i : Int)) = ((m - i : Nat) : Int) := by omega
        have hmj : ((m : Int) + (j : Int) - (i : Int)) = ((m + j - i : Nat) : Int) := by omega
        clear hij
        go_wp2_with fail
        refine hsw.mono ?_
        rintro e w2 ⟨rfl, hrow, hk⟩
        have H2 := Lib.hid (And.intro hrow hk)
        clear hrow hk hmi hmj hsw
        go_wp2_with fail
        go_roundg (i + (j - i))
        case measure => omega
        case rel =>
          refine ⟨i, j - i, swapR lt (m - i) (m + j - i) i, hi, by omega, hia, by omega, Nat.le_refl _, rfl, by go_num, by rw [swapR_len]; exact HH.out.1, HH.out.2.1.trans ((swapR_mix lt (m - i) (m + j - i) i (by omega) (by rw [HH.out.1]; omega)).mono (by omega) (by omega)), fun p => ?_, H2.out.1, HH.out.2.2.2.2.trans H2.out.2 (fun k hk => .inl hk)⟩
          rw [swapR_ix lt (m - i) (m + j - i) i (by omega) (by rw [HH.out.1]; omega), rot_step2 m i j p hlt2 (by omega)]
          exact HH.out.2.2.1 p
end Go.Proofs.YteocenjneoclbaaDoor.tre

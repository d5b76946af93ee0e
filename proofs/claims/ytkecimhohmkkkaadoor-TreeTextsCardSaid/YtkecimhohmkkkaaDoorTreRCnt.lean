/- Layer 4: the document's own Count and Depth. -/
import Derived.Test.YtkecimhohmkkkaaDoorTreWalk
import Derived.Deep.LoopGhost
namespace Go.Proofs.YtkecimhohmkkkaaDoor.tre
open Go.RowKit Go.Shelf

theorem sum_snoc {α : Type _} (m : α → Nat) (l : List α) (i : Nat) (h : i < l.length) : sumN ((l.take (i + 1)).map m) = sumN ((l.take i).map m) + m l[i] := by
  have e : ∀ a b : List Nat, sumN (a ++ b) = sumN a + sumN b := by
    intro a b
    induction a with
    | nil => simp [sumN]
    | cons x a ih => simp only [List.cons_append, sumN, ih]; omega
  rw [List.take_succ_eq_append_getElem h, List.map_append, e]
  simp [sumN]
theorem max_snoc {α : Type _} (m : α → Nat) (l : List α) (i : Nat) (h : i < l.length) : maxN ((l.take (i + 1)).map m) = max (maxN ((l.take i).map m)) (m l[i]) := by
  have e : ∀ a b : List Nat, maxN (a ++ b) = max (maxN a) (maxN b) := by
    intro a b
    induction a with
    | nil => simp [maxN]
    | cons x a ih => simp only [List.cons_append, maxN, ih]; omega
  rw [List.take_succ_eq_append_getElem h, List.map_append, e]
  simp [maxN]
/-- The cells of a value in a box. -/
def BoxV (W0 : Nat) (v : V) (r t : Sl) (wr : World) : Prop := wr.heap[W0]? = some (.cells #[.int .i64 v.kind, .int .i64 v.int, .string v.text, .slice r.a r.n r.c, .slice t.a t.n t.c] 28 (0, 0))
theorem BoxV.c {W0 : Nat} {v : V} {r t : Sl} {wr : World} (h : BoxV W0 v r t wr) : wr.cell? ⟨W0, 0, none⟩ = some (.int .i64 v.kind) ∧ wr.cell? ⟨W0, 1, none⟩ = some (.int .i64 v.int) ∧ wr.cell? ⟨W0, 2, none⟩ = some (.string v.text) ∧
    wr.cell? ⟨W0, 3, none⟩ = some (.slice r.a r.n r.c) ∧ wr.cell? ⟨W0, 4, none⟩ = some (.slice t.a t.n t.c) := by
  refine ⟨?_, ?_, ?_, ?_, ?_⟩ <;> (rw [cell_of_block h]; rfl)

set_option maxRecDepth 100000 in
set_option maxHeartbeats 4000000 in
theorem rCount_any : ∀ (v : V) (S : Nat → Prop) (W : World) (r t : Sl), (∀ g, S g → g < W.heap.size) → HV S W v r t → countV v < 4611686018427387904 →
    Calls Tryd.prog 26 #[.agg #[.int .i64 v.kind, .int .i64 v.int, .string v.text, .slice r.a r.n r.c, .slice t.a t.n t.c]] W fun e w' => e = .returned (.int .i64 (countV v)) ∧ Below W.heap.size W w' := V.ind fun v ihl ihf => by
  intro S W r t hS hh hbd
  have hb1 : ∀ o, Below W.heap.size W (W.alloc o) := fun o => (Below.refl _ _).alloc (Nat.le_refl _) o
  have heq := countV_eq v
  have hn1 := hh.1.len
  have hn2 := hh.2.len
  have hm1 := hh.1.max
  have hm2 := hh.2.max
  obtain ⟨ra, rn, rc⟩ := r
  obtain ⟨ta, tn, tc⟩ := t
  simp only at hn1 hn2
  subst hn1 hn2
  have Hb := Lib.hid (And.intro hb1 (And.intro hS (And.intro hh (And.intro ihl ihf))))
  have Hq := Lib.hid (And.intro heq hbd)
  have hbox : ∀ wr, Below (W.heap.size + 1) (W.alloc (.cells #[.int .i64 v.kind, .int .i64 v.int, .string v.text, .slice ra v.list.length rc, .slice ta v.fields.length tc] 28)) wr → BoxV W.heap.size v ⟨ra, v.list.length, rc⟩ ⟨ta, v.fields.length, tc⟩ wr := fun wr hb => (hb.block W.heap.size (Nat.lt_succ_self _)).trans (block_new W _)
  have Hx := Lib.hid hbox
  clear hb1 hS hh ihl ihf heq hbd hbox
  go_enter Tryd.func26, Tryd.ntmps26
  go_wp2
  go_loopg [3, 4] v.list.length (fun gg s3 s4 wr => ∃ i A : Nat, i ≤ v.list.length ∧ v.list.length - i ≤ gg ∧ s3 = .int .i64 (A : Int) ∧ s4 = .int .i64 i ∧
    Hid (A = 1 + sumN ((v.list.take i).map countV) ∧ Below (W.heap.size + 1) (W.alloc (.cells #[.int .i64 v.kind, .int .i64 v.int, .string v.text, .slice ra v.list.length rc, .slice ta v.fields.length tc] 28)) wr))
  case atStart => exact ⟨0, 1, Nat.zero_le _, by omega, rfl, rfl, by simp [sumN], Below.refl _ _⟩
  case round =>
    obtain ⟨i, A, hil, hgg, rfl, rfl, H⟩ := hrel
    have hbx := Hx.out wr H.out.2
    obtain ⟨_, _, _, c53, c54⟩ := hbx.c
    have hBW := (Hb.out.1 (.cells #[.int .i64 v.kind, .int .i64 v.int, .string v.text, .slice ra v.list.length rc, .slice ta v.fields.length tc] 28)).trans (H.out.2.mono (Nat.le_succ _))
    clear hbx
    by_cases hlt : i < v.list.length
    · have hltz : (i : Int) < (v.list.length : Int) := by omega
      obtain ⟨g1, r', t', ha, hgl, _, hc, hhx⟩ := (Hb.out.2.2.1.later hBW).1.at hlt
      have hsn := sum_snoc countV v.list i hlt
      have hin := List.getElem_mem hlt
      have htk := sum_take countV v.list i _ (List.getElem?_eq_getElem hlt)
      simp only at ha
      subst ha
      generalize v.list[i] = x at hc hhx hsn hin htk
      have c0 : wr.cell? ⟨g1, i * 5, none⟩ = some (.int .i64 x.kind) := hc 0 _ rfl
      have c1 : wr.cell? ⟨g1, i * 5 + 1, none⟩ = some (.int .i64 x.int) := hc 1 _ rfl
      have c2 : wr.cell? ⟨g1, i * 5 + 2, none⟩ = some (.string x.text) := hc 2 _ rfl
      have c3 : wr.cell? ⟨g1, i * 5 + 3, none⟩ = some (.slice r'.a r'.n r'.c) := hc 3 _ rfl
      have c4 : wr.cell? ⟨g1, i * 5 + 4, none⟩ = some (.slice t'.a t'.n t'.c) := hc 4 _ rfl
      have hcall := Hb.out.2.2.2.1 x hin S wr r' t' (fun g hg => Nat.lt_of_lt_of_le (Hb.out.2.1 g hg) hBW.size) hhx (by have := Hq.out.1; have := Hq.out.2; omega)
      have hbd1 : (countV x : Int) < 4611686018427387904 ∧ (A : Int) + (countV x : Int) < 9223372036854775808 := by have := Hq.out.1; have := Hq.out.2; have := H.out.1; omega
      have Hsn := Lib.hid hsn
      have HB := Lib.hid hBW
      clear hc hhx hin hsn htk hBW
      go_wp2_with fail
      refine hcall.mono ?_
      rintro e w4 ⟨rfl, hb4⟩
      clear hcall
      go_wp2
      go_roundg (v.list.length - (i + 1))
      case measure => omega
      case rel => exact ⟨i + 1, A + countV x, by omega, by omega, by go_num, by go_num, by rw [Hsn.out, H.out.1]; omega, H.out.2.trans (hb4.mono (by have := H.out.2.size; rw [size_alloc] at this; exact this))⟩
    · obtain rfl : i = v.list.length := by omega
      clear hBW
      go_wp2
      clear c53 c54
      go_loopg [3, 5] v.fields.length (fun gg s3 s5 wr => ∃ i A : Nat, i ≤ v.fields.length ∧ v.fields.length - i ≤ gg ∧ s3 = .int .i64 (A : Int) ∧ s5 = .int .i64 i ∧
        Hid (A = 1 + sumN (v.list.map countV) + sumN ((v.fields.take i).map fun g => countV g.2) ∧ Below (W.heap.size + 1) (W.alloc (.cells #[.int .i64 v.kind, .int .i64 v.int, .string v.text, .slice ra v.list.length rc, .slice ta v.fields.length tc] 28)) wr))
      case atStart => exact ⟨0, A, Nat.zero_le _, by omega, rfl, rfl, by rw [H.out.1, List.take_length]; simp [sumN], H.out.2⟩
      case round =>
        obtain ⟨i, A, hil2, hgg2, rfl, rfl, H2⟩ := hrel
        have hbx := Hx.out wr H2.out.2
        obtain ⟨_, _, _, c53, c54⟩ := hbx.c
        have hBW := (Hb.out.1 (.cells #[.int .i64 v.kind, .int .i64 v.int, .string v.text, .slice ra v.list.length rc, .slice ta v.fields.length tc] 28)).trans (H2.out.2.mono (Nat.le_succ _))
        clear hbx
        by_cases hlf : i < v.fields.length
        · have hltf : (i : Int) < (v.fields.length : Int) := by omega
          obtain ⟨g1, r', t', ha, hgl, _, hc, hhx⟩ := (Hb.out.2.2.1.later hBW).2.at hlf
          have hsn := sum_snoc (fun g : ByteArray × V => countV g.2) v.fields i hlf
          have hin := List.getElem_mem hlf
          have htk := sum_take (fun g : ByteArray × V => countV g.2) v.fields i _ (List.getElem?_eq_getElem hlf)
          simp only at ha
          subst ha
          generalize v.fields[i] = x at hc hhx hsn hin htk
          have c0 : wr.cell? ⟨g1, i * 6 + 1, none⟩ = some (.int .i64 x.2.kind) := hc 1 _ rfl
          have c1 : wr.cell? ⟨g1, i * 6 + 2, none⟩ = some (.int .i64 x.2.int) := hc 2 _ rfl
          have c2 : wr.cell? ⟨g1, i * 6 + 3, none⟩ = some (.string x.2.text) := hc 3 _ rfl
          have c3 : wr.cell? ⟨g1, i * 6 + 4, none⟩ = some (.slice r'.a r'.n r'.c) := hc 4 _ rfl
          have c4 : wr.cell? ⟨g1, i * 6 + 5, none⟩ = some (.slice t'.a t'.n t'.c) := hc 5 _ rfl
          have hcall := Hb.out.2.2.2.2 x hin S wr r' t' (fun g hg => Nat.lt_of_lt_of_le (Hb.out.2.1 g hg) hBW.size) hhx (by have := Hq.out.1; have := Hq.out.2; omega)
          have hbd1 : (countV x.2 : Int) < 4611686018427387904 ∧ (A : Int) + (countV x.2 : Int) < 9223372036854775808 := by have := Hq.out.1; have := Hq.out.2; have := H2.out.1; omega
          have Hsn := Lib.hid hsn
          have HB := Lib.hid hBW
          clear hc hhx hin hsn htk hBW
          go_wp2_with fail
          refine hcall.mono ?_
          rintro e w4 ⟨rfl, hb4⟩
          clear hcall
          go_wp2
          go_roundg (v.fields.length - (i + 1))
          case measure => omega
          case rel => exact ⟨i + 1, A + countV x.2, by omega, by omega, by go_num, by go_num, by rw [Hsn.out, H2.out.1]; omega, H2.out.2.trans (hb4.mono (by have := H2.out.2.size; rw [size_alloc] at this; exact this))⟩
        · obtain rfl : i = v.fields.length := by omega
          have hA := H2.out.1
          rw [List.take_length] at hA
          have hfin : (0 : Int) ≤ 0 := by have := Hq.out.1; have := Hq.out.2; omega
          have HA := Lib.hid hA
          clear hA
          have HB := Lib.hid hBW
          clear hBW
          go_wp2
          go_ret
          refine ⟨?_, HB.out⟩
          have e : A = countV v := by rw [HA.out]; have := Hq.out.1; omega
          rw [← e]; rfl

set_option maxRecDepth 100000 in
set_option maxHeartbeats 4000000 in
theorem rDepth_any : ∀ (v : V) (S : Nat → Prop) (W : World) (r t : Sl), (∀ g, S g → g < W.heap.size) → HV S W v r t → depthV v < 4611686018427387904 →
    Calls Tryd.prog 24 #[.agg #[.int .i64 v.kind, .int .i64 v.int, .string v.text, .slice r.a r.n r.c, .slice t.a t.n t.c]] W fun e w' => e = .returned (.int .i64 (depthV v)) ∧ Below W.heap.size W w' := V.ind fun v ihl ihf => by
  intro S W r t hS hh hbd
  have hb1 : ∀ o, Below W.heap.size W (W.alloc o) := fun o => (Below.refl _ _).alloc (Nat.le_refl _) o
  have heq := depthV_eq v
  have hn1 := hh.1.len
  have hn2 := hh.2.len
  have hm1 := hh.1.max
  have hm2 := hh.2.max
  obtain ⟨ra, rn, rc⟩ := r
  obtain ⟨ta, tn, tc⟩ := t
  simp only at hn1 hn2
  subst hn1 hn2
  have Hb := Lib.hid (And.intro hb1 (And.intro hS (And.intro hh (And.intro ihl ihf))))
  have Hq := Lib.hid (And.intro heq hbd)
  have hbox : ∀ wr, Below (W.heap.size + 1) (W.alloc (.cells #[.int .i64 v.kind, .int .i64 v.int, .string v.text, .slice ra v.list.length rc, .slice ta v.fields.length tc] 28)) wr → BoxV W.heap.size v ⟨ra, v.list.length, rc⟩ ⟨ta, v.fields.length, tc⟩ wr := fun wr hb => (hb.block W.heap.size (Nat.lt_succ_self _)).trans (block_new W _)
  have Hx := Lib.hid hbox
  clear hb1 hS hh ihl ihf heq hbd hbox
  go_enter Tryd.func24, Tryd.ntmps24
  go_wp2
  go_loopg [3, 4, 5] v.list.length (fun gg s3 s4 _ wr => ∃ i A : Nat, i ≤ v.list.length ∧ v.list.length - i ≤ gg ∧ s3 = .int .i64 (A : Int) ∧ s4 = .int .i64 i ∧
    Hid (A = maxN ((v.list.take i).map depthV) ∧ Below (W.heap.size + 1) (W.alloc (.cells #[.int .i64 v.kind, .int .i64 v.int, .string v.text, .slice ra v.list.length rc, .slice ta v.fields.length tc] 28)) wr))
  case atStart => exact ⟨0, 0, Nat.zero_le _, by omega, rfl, rfl, by simp [maxN], Below.refl _ _⟩
  case round =>
    obtain ⟨i, A, hil, hgg, rfl, rfl, H⟩ := hrel
    have hbx := Hx.out wr H.out.2
    obtain ⟨_, _, _, c53, c54⟩ := hbx.c
    have hBW := (Hb.out.1 (.cells #[.int .i64 v.kind, .int .i64 v.int, .string v.text, .slice ra v.list.length rc, .slice ta v.fields.length tc] 28)).trans (H.out.2.mono (Nat.le_succ _))
    clear hbx
    by_cases hlt : i < v.list.length
    · have hltz : (i : Int) < (v.list.length : Int) := by omega
      obtain ⟨g1, r', t', ha, hgl, _, hc, hhx⟩ := (Hb.out.2.2.1.later hBW).1.at hlt
      have hsn := max_snoc depthV v.list i hlt
      have hin := List.getElem_mem hlt
      have htk := le_maxN (List.mem_map_of_mem (f := depthV) hin)
      simp only at ha
      subst ha
      generalize v.list[i] = x at hc hhx hsn hin htk
      have c0 : wr.cell? ⟨g1, i * 5, none⟩ = some (.int .i64 x.kind) := hc 0 _ rfl
      have c1 : wr.cell? ⟨g1, i * 5 + 1, none⟩ = some (.int .i64 x.int) := hc 1 _ rfl
      have c2 : wr.cell? ⟨g1, i * 5 + 2, none⟩ = some (.string x.text) := hc 2 _ rfl
      have c3 : wr.cell? ⟨g1, i * 5 + 3, none⟩ = some (.slice r'.a r'.n r'.c) := hc 3 _ rfl
      have c4 : wr.cell? ⟨g1, i * 5 + 4, none⟩ = some (.slice t'.a t'.n t'.c) := hc 4 _ rfl
      have hcall := Hb.out.2.2.2.1 x hin S wr r' t' (fun g hg => Nat.lt_of_lt_of_le (Hb.out.2.1 g hg) hBW.size) hhx (by have := Hq.out.1; have := Hq.out.2; omega)
      have hbd1 : (depthV x : Int) < 4611686018427387904 ∧ (0 : Int) ≤ 0 := by have := Hq.out.1; have := Hq.out.2; have := H.out.1; omega
      have Hsn := Lib.hid hsn
      have HB := Lib.hid hBW
      clear hc hhx hin hsn htk hBW
      by_cases hgt : A < depthV x
      · have hgtz : (A : Int) < (depthV x : Int) := by omega
        go_wp2_with fail
        refine hcall.mono ?_
        rintro e w4 ⟨rfl, hb4⟩
        clear hcall
        go_wp2
        go_roundg (v.list.length - (i + 1))
        case measure => omega
        case rel => exact ⟨i + 1, depthV x, by omega, by omega, rfl, by go_num, by rw [Hsn.out, ← H.out.1]; omega, H.out.2.trans (hb4.mono (by have := H.out.2.size; rw [size_alloc] at this; exact this))⟩
      · have hgtz : ¬ (A : Int) < (depthV x : Int) := by omega
        go_wp2_with fail
        refine hcall.mono ?_
        rintro e w4 ⟨rfl, hb4⟩
        clear hcall
        go_wp2
        go_roundg (v.list.length - (i + 1))
        case measure => omega
        case rel => exact ⟨i + 1, A, by omega, by omega, rfl, by go_num, by rw [Hsn.out, ← H.out.1]; omega, H.out.2.trans (hb4.mono (by have := H.out.2.size; rw [size_alloc] at this; exact this))⟩
    · obtain rfl : i = v.list.length := by omega
      clear hBW
      go_wp2
      clear c53 c54
      go_loopg [3, 6, 7] v.fields.length (fun gg s3 s6 _ wr => ∃ i A : Nat, i ≤ v.fields.length ∧ v.fields.length - i ≤ gg ∧ s3 = .int .i64 (A : Int) ∧ s6 = .int .i64 i ∧
        Hid (A = max (maxN (v.list.map depthV)) (maxN ((v.fields.take i).map fun g => depthV g.2)) ∧ Below (W.heap.size + 1) (W.alloc (.cells #[.int .i64 v.kind, .int .i64 v.int, .string v.text, .slice ra v.list.length rc, .slice ta v.fields.length tc] 28)) wr))
      case atStart => exact ⟨0, A, Nat.zero_le _, by omega, rfl, rfl, by rw [H.out.1, List.take_length]; simp [maxN], H.out.2⟩
      case round =>
        obtain ⟨i, A, hil2, hgg2, rfl, rfl, H2⟩ := hrel
        have hbx := Hx.out wr H2.out.2
        obtain ⟨_, _, _, c53, c54⟩ := hbx.c
        have hBW := (Hb.out.1 (.cells #[.int .i64 v.kind, .int .i64 v.int, .string v.text, .slice ra v.list.length rc, .slice ta v.fields.length tc] 28)).trans (H2.out.2.mono (Nat.le_succ _))
        clear hbx
        by_cases hlf : i < v.fields.length
        · have hltf : (i : Int) < (v.fields.length : Int) := by omega
          obtain ⟨g1, r', t', ha, hgl, _, hc, hhx⟩ := (Hb.out.2.2.1.later hBW).2.at hlf
          have hsn := max_snoc (fun g : ByteArray × V => depthV g.2) v.fields i hlf
          have hin := List.getElem_mem hlf
          have htk := le_maxN (List.mem_map_of_mem (f := fun g : ByteArray × V => depthV g.2) hin)
          simp only at ha
          subst ha
          generalize v.fields[i] = x at hc hhx hsn hin htk
          have c0 : wr.cell? ⟨g1, i * 6 + 1, none⟩ = some (.int .i64 x.2.kind) := hc 1 _ rfl
          have c1 : wr.cell? ⟨g1, i * 6 + 2, none⟩ = some (.int .i64 x.2.int) := hc 2 _ rfl
          have c2 : wr.cell? ⟨g1, i * 6 + 3, none⟩ = some (.string x.2.text) := hc 3 _ rfl
          have c3 : wr.cell? ⟨g1, i * 6 + 4, none⟩ = some (.slice r'.a r'.n r'.c) := hc 4 _ rfl
          have c4 : wr.cell? ⟨g1, i * 6 + 5, none⟩ = some (.slice t'.a t'.n t'.c) := hc 5 _ rfl
          have hcall := Hb.out.2.2.2.2 x hin S wr r' t' (fun g hg => Nat.lt_of_lt_of_le (Hb.out.2.1 g hg) hBW.size) hhx (by have := Hq.out.1; have := Hq.out.2; omega)
          have hbd1 : (depthV x.2 : Int) < 4611686018427387904 ∧ (0 : Int) ≤ 0 := by have := Hq.out.1; have := Hq.out.2; have := H2.out.1; omega
          have Hsn := Lib.hid hsn
          have HB := Lib.hid hBW
          clear hc hhx hin hsn htk hBW
          by_cases hgt : A < depthV x.2
          · have hgtz : (A : Int) < (depthV x.2 : Int) := by omega
            go_wp2_with fail
            refine hcall.mono ?_
            rintro e w4 ⟨rfl, hb4⟩
            clear hcall
            go_wp2
            go_roundg (v.fields.length - (i + 1))
            case measure => omega
            case rel => exact ⟨i + 1, depthV x.2, by omega, by omega, rfl, by go_num, by rw [Hsn.out]; have := H2.out.1; omega, H2.out.2.trans (hb4.mono (by have := H2.out.2.size; rw [size_alloc] at this; exact this))⟩
          · have hgtz : ¬ (A : Int) < (depthV x.2 : Int) := by omega
            go_wp2_with fail
            refine hcall.mono ?_
            rintro e w4 ⟨rfl, hb4⟩
            clear hcall
            go_wp2
            go_roundg (v.fields.length - (i + 1))
            case measure => omega
            case rel => exact ⟨i + 1, A, by omega, by omega, rfl, by go_num, by rw [Hsn.out]; have := H2.out.1; omega, H2.out.2.trans (hb4.mono (by have := H2.out.2.size; rw [size_alloc] at this; exact this))⟩
        · obtain rfl : i = v.fields.length := by omega
          have hA := H2.out.1
          rw [List.take_length] at hA
          have hfin : (A : Int) + 1 < 9223372036854775808 := by have := Hq.out.1; have := Hq.out.2; omega
          have HA := Lib.hid hA
          clear hA
          have HB := Lib.hid hBW
          clear hBW
          go_wp2
          go_ret
          refine ⟨?_, HB.out⟩
          have e : A + 1 = depthV v := by rw [HA.out]; have := Hq.out.1; omega
          rw [← e]; rfl
end Go.Proofs.YtkecimhohmkkkaaDoor.tre

/- Layer 4: the document's own Equal. -/
import Derived.BigQuiet
import Derived.Deep.CutRange
import Derived.Deep.DeepCutAuto
import Derived.Deep.QuietTactic
import Derived.Deep.RegionHeld3
import Derived.Test.YteocenjneoclbaaDoorTrmWalk
namespace Go.Proofs.YteocenjneoclbaaDoor.tre
open Go.RowKit Go.Shelf

theorem V.ext_iff {a b : V} : a = b ↔ a.kind = b.kind ∧ a.int = b.int ∧ a.text = b.text ∧ a.list = b.list ∧ a.fields = b.fields := by
  constructor
  · rintro rfl; exact ⟨rfl, rfl, rfl, rfl, rfl⟩
  · rintro ⟨h1, h2, h3, h4, h5⟩
    rw [← a.eta, ← b.eta, h1, h2, h3, h4, h5]
/-- Are the five parts the same, as far as one sees at once? -/
def frontB (a b : V) : Bool := a.kind == b.kind && a.int == b.int && a.text.toList == b.text.toList && a.list.length == b.list.length && a.fields.length == b.fields.length
theorem take_eq_snoc {α : Type _} {l m : List α} {i : Nat} (h1 : i < l.length) (h2 : i < m.length) (h : l.take i = m.take i) (he : l[i] = m[i]) : l.take (i + 1) = m.take (i + 1) := by
  rw [List.take_succ_eq_append_getElem h1, List.take_succ_eq_append_getElem h2, h, he]
theorem text_eq {a b : ByteArray} : a.toList = b.toList ↔ a = b := by
  rw [ByteArray.toList_eq, ByteArray.toList_eq]
  exact ⟨fun h => ByteArray.ext (Array.toList_inj.1 h), fun h => by rw [h]⟩

set_option maxRecDepth 100000 in
set_option maxHeartbeats 8000000 in
theorem Equal_any : ∀ (a b : V) (S : Nat → Prop) (W : World) (r t r2 t2 : Sl), (∀ g, S g → g < W.heap.size) → HV S W a r t → HV S W b r2 t2 →
    Calls Tryd.prog 11 #[.agg #[.int .i64 a.kind, .int .i64 a.int, .string a.text, .slice r.a r.n r.c, .slice t.a t.n t.c], .agg #[.int .i64 b.kind, .int .i64 b.int, .string b.text, .slice r2.a r2.n r2.c, .slice t2.a t2.n t2.c]] W
      fun e w' => (∃ q : Bool, e = .returned (.bool q) ∧ (q = true ↔ a = b)) ∧ Below W.heap.size W w' := V.ind fun a ihl ihf => by
  intro b S W r t r2 t2 hS hha hhb
  have hb1 : ∀ o1 o2, Below W.heap.size W ((W.alloc o1).alloc o2) := fun o1 o2 => ((Below.refl _ _).alloc (Nat.le_refl _) o1).alloc (by rw [size_alloc]; omega) o2
  have hn1 := hha.1.len
  have hn2 := hha.2.len
  have hn3 := hhb.1.len
  have hn4 := hhb.2.len
  have hm1 := hha.1.max
  have hm2 := hha.2.max
  obtain ⟨ra, rn, rc⟩ := r
  obtain ⟨ta, tn, tc⟩ := t
  obtain ⟨rb, rm, rd⟩ := r2
  obtain ⟨tb, tm, td⟩ := t2
  simp only at hn1 hn2 hn3 hn4
  subst hn1 hn2 hn3 hn4
  have Hb := Lib.hid (And.intro hb1 (And.intro hS (And.intro hha (And.intro hhb (And.intro ihl ihf)))))
  have hbox : ∀ wr, Below (W.heap.size + 2) ((W.alloc (.cells #[.int .i64 a.kind, .int .i64 a.int, .string a.text, .slice ra a.list.length rc, .slice ta a.fields.length tc] 27)).alloc (.cells #[.int .i64 b.kind, .int .i64 b.int, .string b.text, .slice rb b.list.length rd, .slice tb b.fields.length td] 27)) wr → BoxV W.heap.size a ⟨ra, a.list.length, rc⟩ ⟨ta, a.fields.length, tc⟩ wr ∧ BoxV (W.heap.size + 1) b ⟨rb, b.list.length, rd⟩ ⟨tb, b.fields.length, td⟩ wr := fun wr hb =>
    ⟨(hb.block W.heap.size (by omega)).trans (by rw [block_old (by rw [size_alloc]; omega)]; exact block_new W _), (hb.block (W.heap.size + 1) (by omega)).trans (by have := block_new (W.alloc (.cells #[.int .i64 a.kind, .int .i64 a.int, .string a.text, .slice ra a.list.length rc, .slice ta a.fields.length tc] 27)) (.cells #[.int .i64 b.kind, .int .i64 b.int, .string b.text, .slice rb b.list.length rd, .slice tb b.fields.length td] 27); rwa [size_alloc] at this)⟩
  have Hx := Lib.hid hbox
  clear hb1 hS hha hhb ihl ihf hbox
  go_enter Tryd.func11, Tryd.ntmps11
  go_upto_region 1 with fail
  go_cut [45] from 9 to 45 (fun s45 wc => s45 = .bool (!frontB a b) ∧ wc = ((W.alloc (.cells #[.int .i64 a.kind, .int .i64 a.int, .string a.text, .slice ra a.list.length rc, .slice ta a.fields.length tc] 27)).alloc (.cells #[.int .i64 b.kind, .int .i64 b.int, .string b.text, .slice rb b.list.length rd, .slice tb b.fields.length td] 27)))
  case first =>
    by_cases p1 : (a.kind == b.kind) = true
    · have p1b : (a.kind != b.kind) = false := by simpa using p1
      by_cases p2 : (a.int == b.int) = true
      · have p2b : (a.int != b.int) = false := by simpa using p2
        by_cases p3 : (a.text.toList == b.text.toList) = true
        · have p3b : (a.text.toList != b.text.toList) = false := by simpa using p3
          by_cases p4 : (a.list.length == b.list.length) = true
          · have p4b : ((a.list.length : Int) != (b.list.length : Int)) = false := by have e := beq_iff_eq.1 p4; simp [e]
            by_cases p5 : (a.fields.length == b.fields.length) = true
            · have p5b : ((a.fields.length : Int) != (b.fields.length : Int)) = false := by have e := beq_iff_eq.1 p5; simp [e]
              go_wp2
              go_meet
              case rel => exact ⟨by simp [frontB, *], rfl⟩
            · have p5a : (a.fields.length == b.fields.length) = false := by simpa using p5
              have p5b : ((a.fields.length : Int) != (b.fields.length : Int)) = true := by simpa [Int.natCast_inj] using p5
              clear p5
              go_wp2
              go_meet
              case rel => exact ⟨by simp [frontB, *], rfl⟩
          · have p4a : (a.list.length == b.list.length) = false := by simpa using p4
            have p4b : ((a.list.length : Int) != (b.list.length : Int)) = true := by simpa [Int.natCast_inj] using p4
            clear p4
            go_wp2
            go_meet
            case rel => exact ⟨by simp [frontB, *], rfl⟩
        · have p3a : (a.text.toList == b.text.toList) = false := by simpa using p3
          have p3b : (a.text.toList != b.text.toList) = true := by simpa using p3
          clear p3
          go_wp2
          go_meet
          case rel => exact ⟨by simp [frontB, *], rfl⟩
      · have p2a : (a.int == b.int) = false := by simpa using p2
        have p2b : (a.int != b.int) = true := by simpa using p2
        clear p2
        go_wp2
        go_meet
        case rel => exact ⟨by simp [frontB, *], rfl⟩
    · have p1a : (a.kind == b.kind) = false := by simpa using p1
      have p1b : (a.kind != b.kind) = true := by simpa using p1
      clear p1
      go_wp2
      go_meet
      case rel => exact ⟨by simp [frontB, *], rfl⟩
  case rest =>
    obtain ⟨rfl, rfl⟩ := hcut
    cases hf : frontB a b with
    | false =>
      have H := Lib.hid (show ¬ a = b from fun e => by rw [e] at hf; unfold frontB at hf; simp at hf)
      clear hf
      go_wp2
      go_ret
      exact ⟨⟨false, rfl, by simp; exact H.out⟩, Hb.out.1 _ _⟩
    | true =>
      have hf2 : a.kind = b.kind ∧ a.int = b.int ∧ a.text = b.text ∧ a.list.length = b.list.length ∧ a.fields.length = b.fields.length := by
        unfold frontB at hf
        simp only [Bool.and_eq_true, beq_iff_eq] at hf
        exact ⟨hf.1.1.1.1, hf.1.1.1.2, text_eq.1 hf.1.1.2, hf.1.2, hf.2⟩
      have Hf := Lib.hid hf2
      clear hf hf2
      go_wp2
      go_loopg [5, 6] a.list.length (fun gg s5 _ wr => ∃ i : Nat, i ≤ a.list.length ∧ a.list.length - i ≤ gg ∧ s5 = .int .i64 i ∧ Hid (a.list.take i = b.list.take i ∧ Below (W.heap.size + 2) ((W.alloc (.cells #[.int .i64 a.kind, .int .i64 a.int, .string a.text, .slice ra a.list.length rc, .slice ta a.fields.length tc] 27)).alloc (.cells #[.int .i64 b.kind, .int .i64 b.int, .string b.text, .slice rb b.list.length rd, .slice tb b.fields.length td] 27)) wr))
      case atStart => exact ⟨0, Nat.zero_le _, by omega, rfl, rfl, Below.refl _ _⟩
      case round =>
        obtain ⟨wo, rfl⟩ : ∃ w', w' = wr := ⟨wr, rfl⟩
        obtain ⟨i, hil, hgg, rfl, H⟩ := hrel
        have hbx := Hx.out wo H.out.2
        have c3 := hbx.1.c.2.2.2.1
        have d3 := hbx.2.c.2.2.2.1
        have c4 := hbx.1.c.2.2.2.2
        have d4 := hbx.2.c.2.2.2.2
        have hBW : Below W.heap.size W wo := (Hb.out.1 _ _).trans (H.out.2.mono (by omega))
        have lW : W.heap.size + 1 < wo.heap.size := by have := H.out.2.size; rw [size_alloc, size_alloc] at this; omega
        simp only at c3 d3 c4 d4
        clear hbx
        by_cases hlt : i < a.list.length
        · have hltz : (i : Int) < (a.list.length : Int) := by omega
          have hlt2 : i < b.list.length := by have := Hf.out.2.2.2.1; omega
          have hltz2 : (i : Int) < (b.list.length : Int) := by omega
          obtain ⟨g1, r', t', ha, hg1, _, hc, hhx⟩ := (Hb.out.2.2.1.later hBW).1.at hlt
          obtain ⟨g2, r'', t'', ha2, hg2, _, hd, hhy⟩ := (Hb.out.2.2.2.1.later hBW).1.at hlt2
          have hin := List.getElem_mem hlt
          have htk := fun h => take_eq_snoc hlt hlt2 H.out.1 h
          have hne : ∀ (_ : ¬ a.list[i] = b.list[i]), ¬ a = b := fun h e => h (by subst e; rfl)
          simp only at ha ha2
          subst ha ha2
          generalize a.list[i] = x at hc hhx hin htk hne
          generalize b.list[i] = y at hd hhy htk hne
          have x1 : wo.cell? ⟨g1, i * 5, none⟩ = some (.int .i64 x.kind) := hc 0 _ rfl
          have x2 : wo.cell? ⟨g1, i * 5 + 1, none⟩ = some (.int .i64 x.int) := hc 1 _ rfl
          have x3 : wo.cell? ⟨g1, i * 5 + 2, none⟩ = some (.string x.text) := hc 2 _ rfl
          have x4 : wo.cell? ⟨g1, i * 5 + 3, none⟩ = some (.slice r'.a r'.n r'.c) := hc 3 _ rfl
          have x5 : wo.cell? ⟨g1, i * 5 + 4, none⟩ = some (.slice t'.a t'.n t'.c) := hc 4 _ rfl
          have y1 : wo.cell? ⟨g2, i * 5, none⟩ = some (.int .i64 y.kind) := hd 0 _ rfl
          have y2 : wo.cell? ⟨g2, i * 5 + 1, none⟩ = some (.int .i64 y.int) := hd 1 _ rfl
          have y3 : wo.cell? ⟨g2, i * 5 + 2, none⟩ = some (.string y.text) := hd 2 _ rfl
          have y4 : wo.cell? ⟨g2, i * 5 + 3, none⟩ = some (.slice r''.a r''.n r''.c) := hd 3 _ rfl
          have y5 : wo.cell? ⟨g2, i * 5 + 4, none⟩ = some (.slice t''.a t''.n t''.c) := hd 4 _ rfl
          have hcall := fun W1 (hb : Below wo.heap.size wo W1) => Hb.out.2.2.2.2.1 x hin y S W1 r' t' r'' t'' (fun g hg => Nat.lt_of_lt_of_le (Hb.out.2.1 g hg) (hBW.trans (hb.mono hBW.size)).size) (hhx.later hb) (hhy.later hb)
          have HB := Lib.hid (And.intro hBW (And.intro htk hne))
          clear hc hd hhx hhy hin htk hBW hne c4 d4
          go_wp2_with fail
          go_region_held3 (fun w' => w'.cell? ⟨W.heap.size, 3, none⟩ = some (.slice (some ⟨g1, 0, none⟩) a.list.length rc) ∧ w'.cell? ⟨W.heap.size + 1, 3, none⟩ = some (.slice (some ⟨g2, 0, none⟩) b.list.length rd) ∧ w'.cell? ⟨g1, i * 5, none⟩ = some (.int .i64 x.kind) ∧ w'.cell? ⟨g1, i * 5 + 1, none⟩ = some (.int .i64 x.int) ∧ w'.cell? ⟨g1, i * 5 + 2, none⟩ = some (.string x.text) ∧ w'.cell? ⟨g1, i * 5 + 3, none⟩ = some (.slice r'.a r'.n r'.c) ∧ w'.cell? ⟨g1, i * 5 + 4, none⟩ = some (.slice t'.a t'.n t'.c) ∧ w'.cell? ⟨g2, i * 5, none⟩ = some (.int .i64 y.kind) ∧ w'.cell? ⟨g2, i * 5 + 1, none⟩ = some (.int .i64 y.int) ∧ w'.cell? ⟨g2, i * 5 + 2, none⟩ = some (.string y.text) ∧ w'.cell? ⟨g2, i * 5 + 3, none⟩ = some (.slice r''.a r''.n r''.c) ∧ w'.cell? ⟨g2, i * 5 + 4, none⟩ = some (.slice t''.a t''.n t''.c))
            (first | go_keep)
            (first | (go_at_call 11; refine (hcall _ (Below.refl _ _).drew).mono ?_; rintro e w4 ⟨⟨q, rfl, hq⟩, hb4⟩; have hb0 := (Below.refl wo.heap.size wo).drew.trans hb4; have k3 := (hb0.cell (p := ⟨W.heap.size, 3, none⟩) (by show W.heap.size < _; omega)).trans c3; have k4 := (hb0.cell (p := ⟨W.heap.size + 1, 3, none⟩) (by exact lW)).trans d3; have kx1 := (hb0.cell (p := ⟨g1, i * 5, none⟩) (by exact hg1)).trans x1; have kx2 := (hb0.cell (p := ⟨g1, i * 5 + 1, none⟩) (by exact hg1)).trans x2; have kx3 := (hb0.cell (p := ⟨g1, i * 5 + 2, none⟩) (by exact hg1)).trans x3; have kx4 := (hb0.cell (p := ⟨g1, i * 5 + 3, none⟩) (by exact hg1)).trans x4; have kx5 := (hb0.cell (p := ⟨g1, i * 5 + 4, none⟩) (by exact hg1)).trans x5; have ky1 := (hb0.cell (p := ⟨g2, i * 5, none⟩) (by exact hg2)).trans y1; have ky2 := (hb0.cell (p := ⟨g2, i * 5 + 1, none⟩) (by exact hg2)).trans y2; have ky3 := (hb0.cell (p := ⟨g2, i * 5 + 2, none⟩) (by exact hg2)).trans y3; have ky4 := (hb0.cell (p := ⟨g2, i * 5 + 3, none⟩) (by exact hg2)).trans y4; have ky5 := (hb0.cell (p := ⟨g2, i * 5 + 4, none⟩) (by exact hg2)).trans y5; have H4 := Lib.hid (And.intro hq hb0); clear hq hb0 hb4))
          cases q with
          | false =>
            have H5 := Lib.hid (HB.out.2.2 (fun e => by have := H4.out.1.2 e; cases this))
            clear hcall
            go_wp2
            go_ret
            exact ⟨⟨false, rfl, by simp; exact H5.out⟩, HB.out.1.trans (H4.out.2.mono HB.out.1.size)⟩
          | true =>
            clear hcall
            go_wp2
            go_roundg (a.list.length - (i + 1))
            case measure => omega
            case rel => exact ⟨i + 1, by omega, by omega, by go_num, HB.out.2.1 (by have h := H4.out.1; simpa using h), H.out.2.trans (H4.out.2.mono (by omega))⟩
        · obtain rfl : i = a.list.length := by omega
          have hl : a.list = b.list := by
            have := H.out.1
            rw [List.take_length, Hf.out.2.2.2.1, List.take_length] at this
            exact this
          have Hl := Lib.hid hl
          clear hl hBW
          go_wp2
          clear c3 d3 c4 d4
          go_loopg [7, 8] a.fields.length (fun gg s7 _ wr => ∃ i : Nat, i ≤ a.fields.length ∧ a.fields.length - i ≤ gg ∧ s7 = .int .i64 i ∧ Hid (a.fields.take i = b.fields.take i ∧ Below (W.heap.size + 2) ((W.alloc (.cells #[.int .i64 a.kind, .int .i64 a.int, .string a.text, .slice ra a.list.length rc, .slice ta a.fields.length tc] 27)).alloc (.cells #[.int .i64 b.kind, .int .i64 b.int, .string b.text, .slice rb b.list.length rd, .slice tb b.fields.length td] 27)) wr))
          case atStart => exact ⟨0, Nat.zero_le _, by omega, rfl, rfl, H.out.2⟩
          case round =>
            clear lW
            obtain ⟨wo, rfl⟩ : ∃ w', w' = wr := ⟨wr, rfl⟩
            obtain ⟨i, hif, hgf, rfl, H6⟩ := hrel
            have hbx := Hx.out wo H6.out.2
            have c4 := hbx.1.c.2.2.2.2
            have d4 := hbx.2.c.2.2.2.2
            have hBW : Below W.heap.size W wo := (Hb.out.1 _ _).trans (H6.out.2.mono (by omega))
            have lW : W.heap.size + 1 < wo.heap.size := by have := H6.out.2.size; rw [size_alloc, size_alloc] at this; omega
            simp only at c4 d4
            clear hbx
            by_cases hlt : i < a.fields.length
            · have hltz : (i : Int) < (a.fields.length : Int) := by omega
              have hlt2 : i < b.fields.length := by have := Hf.out.2.2.2.2; omega
              have hltz2 : (i : Int) < (b.fields.length : Int) := by omega
              obtain ⟨g1, r', t', ha, hg1, _, hc, hhx⟩ := (Hb.out.2.2.1.later hBW).2.at hlt
              obtain ⟨g2, r'', t'', ha2, hg2, _, hd, hhy⟩ := (Hb.out.2.2.2.1.later hBW).2.at hlt2
              have hin := List.getElem_mem hlt
              have htk := fun h => take_eq_snoc hlt hlt2 H6.out.1 h
              have hne : ∀ (_ : ¬ a.fields[i] = b.fields[i]), ¬ a = b := fun h e => h (by subst e; rfl)
              simp only at ha ha2
              subst ha ha2
              generalize a.fields[i] = x at hc hhx hin htk hne
              generalize b.fields[i] = y at hd hhy htk hne
              have x0 : wo.cell? ⟨g1, i * 6, none⟩ = some (.string x.1) := hc 0 _ rfl
              have y0 : wo.cell? ⟨g2, i * 6, none⟩ = some (.string y.1) := hd 0 _ rfl
              have x1 : wo.cell? ⟨g1, i * 6 + 1, none⟩ = some (.int .i64 x.2.kind) := hc 1 _ rfl
              have x2 : wo.cell? ⟨g1, i * 6 + 2, none⟩ = some (.int .i64 x.2.int) := hc 2 _ rfl
              have x3 : wo.cell? ⟨g1, i * 6 + 3, none⟩ = some (.string x.2.text) := hc 3 _ rfl
              have x4 : wo.cell? ⟨g1, i * 6 + 4, none⟩ = some (.slice r'.a r'.n r'.c) := hc 4 _ rfl
              have x5 : wo.cell? ⟨g1, i * 6 + 5, none⟩ = some (.slice t'.a t'.n t'.c) := hc 5 _ rfl
              have y1 : wo.cell? ⟨g2, i * 6 + 1, none⟩ = some (.int .i64 y.2.kind) := hd 1 _ rfl
              have y2 : wo.cell? ⟨g2, i * 6 + 2, none⟩ = some (.int .i64 y.2.int) := hd 2 _ rfl
              have y3 : wo.cell? ⟨g2, i * 6 + 3, none⟩ = some (.string y.2.text) := hd 3 _ rfl
              have y4 : wo.cell? ⟨g2, i * 6 + 4, none⟩ = some (.slice r''.a r''.n r''.c) := hd 4 _ rfl
              have y5 : wo.cell? ⟨g2, i * 6 + 5, none⟩ = some (.slice t''.a t''.n t''.c) := hd 5 _ rfl
              have hcall := fun W1 (hb : Below wo.heap.size wo W1) => Hb.out.2.2.2.2.2 x hin y.2 S W1 r' t' r'' t'' (fun g hg => Nat.lt_of_lt_of_le (Hb.out.2.1 g hg) (hBW.trans (hb.mono hBW.size)).size) (hhx.later hb) (hhy.later hb)
              have HB := Lib.hid (And.intro hBW (And.intro htk hne))
              clear hc hd hhx hhy hin htk hBW hne
              go_wp2_with fail
              go_region_held3 (fun w' => w'.cell? ⟨W.heap.size, 4, none⟩ = some (.slice (some ⟨g1, 0, none⟩) a.fields.length tc) ∧ w'.cell? ⟨W.heap.size + 1, 4, none⟩ = some (.slice (some ⟨g2, 0, none⟩) b.fields.length td) ∧ w'.cell? ⟨g1, i * 6 + 1, none⟩ = some (.int .i64 x.2.kind) ∧ w'.cell? ⟨g1, i * 6 + 2, none⟩ = some (.int .i64 x.2.int) ∧ w'.cell? ⟨g1, i * 6 + 3, none⟩ = some (.string x.2.text) ∧ w'.cell? ⟨g1, i * 6 + 4, none⟩ = some (.slice r'.a r'.n r'.c) ∧ w'.cell? ⟨g1, i * 6 + 5, none⟩ = some (.slice t'.a t'.n t'.c) ∧ w'.cell? ⟨g2, i * 6 + 1, none⟩ = some (.int .i64 y.2.kind) ∧ w'.cell? ⟨g2, i * 6 + 2, none⟩ = some (.int .i64 y.2.int) ∧ w'.cell? ⟨g2, i * 6 + 3, none⟩ = some (.string y.2.text) ∧ w'.cell? ⟨g2, i * 6 + 4, none⟩ = some (.slice r''.a r''.n r''.c) ∧ w'.cell? ⟨g2, i * 6 + 5, none⟩ = some (.slice t''.a t''.n t''.c))
                (first | go_keep)
                (first | (go_at_call 11; refine (hcall _ (Below.refl _ _).drew).mono ?_; rintro e w4 ⟨⟨q, rfl, hq⟩, hb4⟩; have hb0 := (Below.refl wo.heap.size wo).drew.trans hb4; have k3 := (hb0.cell (p := ⟨W.heap.size, 4, none⟩) (by show W.heap.size < _; omega)).trans c4; have k4 := (hb0.cell (p := ⟨W.heap.size + 1, 4, none⟩) (by exact lW)).trans d4; have kx0 := (hb0.cell (p := ⟨g1, i * 6, none⟩) (by exact hg1)).trans x0; have ky0 := (hb0.cell (p := ⟨g2, i * 6, none⟩) (by exact hg2)).trans y0; have kx1 := (hb0.cell (p := ⟨g1, i * 6 + 1, none⟩) (by exact hg1)).trans x1; have kx2 := (hb0.cell (p := ⟨g1, i * 6 + 2, none⟩) (by exact hg1)).trans x2; have kx3 := (hb0.cell (p := ⟨g1, i * 6 + 3, none⟩) (by exact hg1)).trans x3; have kx4 := (hb0.cell (p := ⟨g1, i * 6 + 4, none⟩) (by exact hg1)).trans x4; have kx5 := (hb0.cell (p := ⟨g1, i * 6 + 5, none⟩) (by exact hg1)).trans x5; have ky1 := (hb0.cell (p := ⟨g2, i * 6 + 1, none⟩) (by exact hg2)).trans y1; have ky2 := (hb0.cell (p := ⟨g2, i * 6 + 2, none⟩) (by exact hg2)).trans y2; have ky3 := (hb0.cell (p := ⟨g2, i * 6 + 3, none⟩) (by exact hg2)).trans y3; have ky4 := (hb0.cell (p := ⟨g2, i * 6 + 4, none⟩) (by exact hg2)).trans y4; have ky5 := (hb0.cell (p := ⟨g2, i * 6 + 5, none⟩) (by exact hg2)).trans y5; have H4 := Lib.hid (And.intro hq hb0); clear hq hb0 hb4))
              clear hcall
              cases q with
              | false =>
                have H5 := Lib.hid (HB.out.2.2 (fun e => by have := H4.out.1.2 (by rw [e]); cases this))
                go_wp2_with fail
                go_quiet (fail)
                go_wp2
                go_ret
                have hbq : Below wo.heap.size wo (w4.drewN nq) := ⟨H4.out.2.os, H4.out.2.tape, H4.out.2.output, H4.out.2.size, H4.out.2.block⟩
                exact ⟨⟨false, rfl, by simp; exact H5.out⟩, HB.out.1.trans (hbq.mono HB.out.1.size)⟩
              | true =>
                cases hk : (x.1.toList == y.1.toList) with
                | false =>
                  have H5 := Lib.hid (HB.out.2.2 (fun e => by rw [e] at hk; simp at hk))
                  have hk2 : (x.1.toList != y.1.toList) = true := by simp only [bne, hk]; rfl
                  go_wp2_with fail
                  go_quiet (fail)
                  go_wp2
                  go_ret
                  have hbq : Below wo.heap.size wo (w4.drewN nq) := ⟨H4.out.2.os, H4.out.2.tape, H4.out.2.output, H4.out.2.size, H4.out.2.block⟩
                  exact ⟨⟨false, rfl, by simp; exact H5.out⟩, HB.out.1.trans (hbq.mono HB.out.1.size)⟩
                | true =>
                  have Hk := Lib.hid (text_eq.1 (beq_iff_eq.1 hk))
                  have hk2 : (x.1.toList != y.1.toList) = false := by simp only [bne, hk]; rfl
                  go_wp2_with fail
                  go_quiet (fail)
                  go_wp2
                  go_roundg (a.fields.length - (i + 1))
                  case measure => omega
                  case rel =>
                    have hbq : Below wo.heap.size wo (w4.drewN nq) := ⟨H4.out.2.os, H4.out.2.tape, H4.out.2.output, H4.out.2.size, H4.out.2.block⟩
                    exact ⟨i + 1, by omega, by omega, by go_num, HB.out.2.1 (Prod.ext Hk.out (by have h := H4.out.1; simpa using h)), H6.out.2.trans (hbq.mono (by omega))⟩
            · obtain rfl : i = a.fields.length := by omega
              have hff : a = b := V.ext_iff.2 ⟨Hf.out.1, Hf.out.2.1, Hf.out.2.2.1, Hl.out, by
                have := H6.out.1
                rw [List.take_length, Hf.out.2.2.2.2, List.take_length] at this
                exact this⟩
              have Hff := Lib.hid hff
              have HB := Lib.hid hBW
              clear hff hBW
              go_wp2
              go_ret
              exact ⟨⟨true, rfl, by simp; exact Hff.out⟩, HB.out⟩
end Go.Proofs.YteocenjneoclbaaDoor.tre

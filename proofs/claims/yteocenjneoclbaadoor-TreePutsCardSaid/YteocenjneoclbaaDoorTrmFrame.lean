/- Layer 4: from a row's reading to the walks: the table of leads out of the row's list; a world in which it lies so; the row's end behind calls that only made new memory. -/
import Derived.ChangeOld
import Derived.ChangeSame
import Derived.Deep.DeepHandedRow
import Derived.Deep.Fields
import Derived.Deep.Slices
import Derived.Deep.Strs
import Derived.Lib.LaidTab
import Derived.Lib.SmallJoins
import Derived.OpenShut
import Derived.ProofKit
import Derived.Test.YteocenjneoclbaaDoorCards
import Derived.Test.YteocenjneoclbaaDoorTie
import Derived.Test.YteocenjneoclbaaDoorTrmMakeW
import Derived.Test.YteocenjneoclbaaDoorTrmSameI
import Derived.WalkKit
namespace Go.Proofs.YteocenjneoclbaaDoor.utf
open Go.ChangeShapes Go.WideShapes Go.ChangeAt Go.RowKit

theorem own : ownKnob Tryd.prog.godebug = none := by kernel_rfl
theorem gTab : Tryd.prog.globalNamed "vestibule/utf.leads" = some 1 := by kernel_rfl
theorem gTabType : (Tryd.prog.globals[1]?).map (·.type) = some 109 := by kernel_rfl
theorem cellsTab : Tryd.prog.cellsOf 109 = 12 := by kernel_rfl
theorem cellsLead : Tryd.prog.cellsOf 108 = 3 := by kernel_rfl
theorem cellsU8 : Tryd.prog.cellsOf 5 = 1 := by kernel_rfl
theorem cellsInt : Tryd.prog.cellsOf 3 = 1 := by kernel_rfl

set_option maxRecDepth 100000 in
theorem lead_row {H : Type} {enc : TypeId × Value → H} {W : World} {base : Nat} {sp : Nat → Bool} {held : Bool} {fuel : Nat} {cs : List Value} {x : DataW H × List MemPlace} {a b c : Int}
    (h : DataW.trod enc Tryd.prog W base sp held fuel 108 cs = some x) (hx : x.1 = .agg [.lit (.int .u8 a), .lit (.int .u8 b), .lit (.int .i64 c)]) :
    cs = [.int .u8 a, .int .u8 b, .int .i64 c] := by
  obtain ⟨y0, y1, y2, n, rfl, hl, h0, h1, h2⟩ := Go.Deep.trod_struct3 Tryd.underlying108 h
  rw [cellsLead] at hl
  match cs, hl with
  | [c0, c1, c2], _ =>
    simp only [cellsU8, cellsInt] at h0 h1 h2
    obtain ⟨n0, e0, rfl, _⟩ := DataW.trod_int Tryd.underlying5 h0
    obtain ⟨n1, e1, rfl, _⟩ := DataW.trod_int Tryd.underlying5 h1
    obtain ⟨n2, e2, rfl, _⟩ := DataW.trod_int Tryd.underlying3 h2
    simp at e0 e1 e2 hx
    obtain ⟨rfl, rfl, rfl⟩ := hx
    rw [e0, e1, e2]

set_option maxRecDepth 100000 in
theorem lead_cells {H : Type} {enc : TypeId × Value → H} {W : World} {base : Nat} {sp : Nat → Bool} {held : Bool} {fuel : Nat} {cs : List Value} {p : List MemPlace}
    (h : DataW.trod enc Tryd.prog W base sp held fuel 109 cs = some (Rows.laid_vestibule_utf_leads, p)) : cs = leadCells.toList := by
  obtain ⟨xs, m, _, hx, hl, hn, hi⟩ := DataW.trod_array Tryd.underlying109 h
  rw [cellsTab] at hl
  rw [cellsLead] at hi
  match xs, hn with
  | [x0, x1, x2, x3], _ =>
    simp only [Prod.mk.injEq, Rows.laid_vestibule_utf_leads, List.map_cons, List.map_nil, DataW.agg.injEq, List.cons.injEq, and_true] at hx
    obtain ⟨⟨a0, a1, a2, a3⟩, _⟩ := hx
    have r0 := lead_row (hi 0 (by omega)) a0.symm
    have r1 := lead_row (hi 1 (by omega)) a1.symm
    have r2 := lead_row (hi 2 (by omega)) a2.symm
    have r3 := lead_row (hi 3 (by omega)) a3.symm
    match cs, hl with
    | [c0, c1, c2, c3, c4, c5, c6, c7, c8, c9, c10, c11], _ =>
      simp at r0 r1 r2 r3
      obtain ⟨rfl, rfl, rfl⟩ := r0
      obtain ⟨rfl, rfl, rfl⟩ := r1
      obtain ⟨rfl, rfl, rfl⟩ := r2
      obtain ⟨rfl, rfl, rfl⟩ := r3
      rfl

/-- What the row's list gives: the table lies as it was laid. -/
theorem tab_of {W : World} (h' : laidMet Tryd.prog [("vestibule/utf.leads", Rows.laid_vestibule_utf_leads)] W) : Tab W := by
  obtain ⟨ps, ⟨g', t', cs, fuel, p, q, hg', ht', hvar, hd, _, _⟩, _⟩ := h'
  obtain rfl := Option.some.inj (gTab.symm.trans hg')
  obtain rfl := Option.some.inj (gTabType.symm.trans ht')
  have hc := lead_cells hd
  unfold World.var? at hvar
  rw [gTab] at hvar
  simp only [Option.bind_some] at hvar
  cases hh : W.heap[1]? with
  | none => rw [hh] at hvar; cases hvar
  | some o =>
    rw [hh] at hvar
    cases o with
    | cells cells t fr =>
      simp only [Option.some.injEq] at hvar
      refine ⟨t, fr, ?_⟩
      show W.heap[1]? = _
      rw [hh, hvar, Array.toList_inj.1 hc]
    | _ => cases hvar

section
variable {H : Type} {enc : TypeId × Value → H} {P : Program}
/-- A row's end where the call has only made new memory. -/
theorem post_new {f : Func} {s : ChangeSpec} {apart fresh handsOn again : Bool} {W W' : World} {args : Array Value} {v : Value} {ds gs : List (DataW H)} {before pa pv : List MemPlace}
    (hW : DataW.Whole enc P f.params.toList s.vars apart W args.toList ds gs before)
    (hres : ∀ (b : Nat) (sp : Nat → Bool) (hd : Bool), DataW.TrodAll enc P W' b sp hd f.resultTypes.toList (v.resultList f.resultTypes.size) (s.fn H (ds ++ gs)).results [])
    (hargs : ∀ sp : Nat → Bool, (∀ p ∈ before, sp p.block = true) → DataW.TrodAll enc P W' 0 sp true f.params.toList args.toList (s.fn H (ds ++ gs)).args pa)
    (hvars : ∀ sp : Nat → Bool, (∀ p ∈ before, sp p.block = true) → DataW.TrodVars enc P W' sp s.vars (s.fn H (ds ++ gs)).vars pv)
    (hps : before = pa ++ pv) (hb : Below W.heap.size W W')
    (hok : ∀ (j : Nat) (t : TypeId) (r : Value), f.resultTypes[j]? = some t → (v.resultList f.resultTypes.size)[j]? = some r → Value.okWide P W' .any 0 t r) :
    s.post enc P f apart fresh handsOn again W args v W' := by
  have hlt : ∀ p ∈ before, p.block < W.heap.size := fun p hp => hW.lt p hp
  have hold : ∀ p ∈ before, (fun b => decide (b < W.heap.size)) p.block = true := fun p hp => by simpa using hlt p hp
  refine ⟨ds, gs, before, [], pa, pv, hW, hres _ _ _, hargs _ hold, hvars _ hold, World.keptBut_mono (fun p hp => ⟨hp, ?_⟩) (hb.frame (· ∈ before)), fun _ => ?_⟩
  · rw [hps, List.mem_append] at hp
    exact Or.inr hp
  · obtain ⟨_, _, _, _, _, hz, hn⟩ := hW
    refine ⟨hok, _, _, ([] ++ pa) ++ pv, ⟨[] ++ pa, pv, trodAll_append (hargs _ (fun _ _ => rfl)) (hres _ _ _), hvars _ (fun _ _ => rfl), rfl, ?_, ?_⟩, ?_⟩
    · intro b off hp
      have hin : MemPlace.cell b off ∈ before := by rw [hps]; simpa using hp
      rw [hb.frozen (hlt _ hin)]
      exact hz b off hin
    · intro ha
      have := hn ha
      rw [hps] at this
      simpa using this
    · intro p hp _
      rw [hps]
      simpa using hp
end

/-- A world for the witness: the settled one, the table holding what its initialiser lays. -/
noncomputable def laidWorld (os : Os) : World :=
  { World.holding Tryd.prog os ⟨#[], #[], []⟩ with heap := (World.holding Tryd.prog os ⟨#[], #[], []⟩).heap.modify 1 fun
      | .cells _ t frozen => .cells leadCells t frozen
      | o => o }
theorem laidOut : laidOutB Tryd.prog = true := by kernel_rfl

section
open Go.Deep
variable {H : Type} {enc : TypeId × Value → H} {P : Program} {w : World} {base : Nat} {spare : Nat → Bool} {held : Bool}
/-- A slice of structs of fields of one cell each, opened to its cells. -/
theorem open_fields {t e : TypeId} {fs : Array Field} {fuel : Nat} {cs : List Value} {x : DataW H × List MemPlace} (ht : P.underlying t = some (.slice e)) (he : P.underlying e = some (.struct fs))
    (hone : oneCellFields P fs = true) (hC : P.cellsOf e = fs.size) (h : DataW.trod enc P w base spare held fuel t cs = some x) :
    (cs = [.slice none 0 0]) ∨
    ∃ (a : Addr) (len cap m : Nat), cs = [.slice (some a) len cap] ∧ len ≤ cap ∧ cap ≤ maxLen ∧ m = (if spare a.block then cap else len) ∧
      ∀ i, i < m → ∃ (n : Nat), ∀ (j : Nat) (f : Field), fs[j]? = some f → ∃ (v : Value) (y : DataW H × List MemPlace), w.cell? (a.add (i * fs.size + j)) = some v ∧ DataW.trod enc P w base spare held n f.type [v] = some y := by
  rcases open_slice ht h with h0 | ⟨a, len, cap, m, n, D, Pl, hcs, hb, hl, hm, hmm, hx, hi⟩
  · exact .inl h0.1
  · refine .inr ⟨a, len, cap, m, hcs, hl, hm, hmm, fun i him => ?_⟩
    obtain ⟨cs', hc, ht'⟩ := hi i him
    rw [hC] at hc
    obtain ⟨ys, n', hn', hy, hlen, hyl, hf⟩ := DataW.trod_struct he ht'
    obtain ⟨_, hcl, hat⟩ := World.cells?_some hc
    refine ⟨n', fun j f hj => ?_⟩
    obtain ⟨ho, hk⟩ := hone_of hone j f hj
    have hjl : j < fs.size := (Array.getElem?_eq_some_iff.1 hj).1
    have hcell := hat j hjl
    have hv : cs'[j]? = some (cs'[j]'(by omega)) := List.getElem?_eq_getElem (by omega)
    have h1 := hf j f hj
    rw [ho, hk] at h1
    have hone' : (cs'.drop j).take 1 = [cs'[j]'(by omega)] := by
      rw [List.drop_eq_getElem_cons (by omega)]
      rfl
    rw [hone'] at h1
    have hys : ys[j]? = some (ys[j]'(by omega)) := List.getElem?_eq_getElem (by omega)
    refine ⟨_, _, ?_, h1.trans hys⟩
    rw [← Go.Deep.add_add, hcell, hv]
end
end Go.Proofs.YteocenjneoclbaaDoor.utf
namespace Go.Proofs.YteocenjneoclbaaDoor.tre
open Go.ChangeShapes Go.WideShapes Go.ChangeAt Go.RowKit

/-- A slice of items that came in, as the walks read it. -/
def ItemsIn (W : World) (a : Option Addr) (l : List It) : Prop :=
  l.length ≤ 9223372036854775807 ∧ (∀ y ∈ l, y.key.size ≤ maxLen ∧ y.text.size ≤ maxLen) ∧ (l = [] ∨ ∃ bl off, a = some ⟨bl, off, none⟩ ∧ bl < W.heap.size ∧ ItIn W bl off l)
theorem ItemsIn.later {W w : World} {a : Option Addr} {l : List It} (h : ItemsIn W a l) (hb : Below W.heap.size W w) : ItemsIn w a l :=
  ⟨h.1, h.2.1, by
    rcases h.2.2 with h | ⟨bl, off, h1, h2, h3⟩
    · exact .inl h
    · exact .inr ⟨bl, off, h1, Nat.lt_of_lt_of_le h2 hb.size, fun i hi j u hu => (hb.cell (p := ⟨bl, off + i * 5 + j, none⟩) (by exact h2)).trans (h3 i hi j u hu)⟩⟩
theorem addr_add {b off : Nat} (j : Nat) : (⟨b, off, none⟩ : Addr).add j = ⟨b, off + j, none⟩ := by unfold Addr.add; split <;> simp_all
theorem listOf {α : Type _} {n : Nat} {R : Nat → α → Prop} (h : ∀ i, i < n → ∃ x, R i x) : ∃ l : List α, l.length = n ∧ ∀ i (hi : i < l.length), R i l[i] := by
  induction n with
  | zero => exact ⟨[], rfl, fun i hi => by cases hi⟩
  | succ n ih =>
    obtain ⟨l, hl, hr⟩ := ih (fun i hi => h i (by omega))
    obtain ⟨x, hx⟩ := h n (by omega)
    refine ⟨l ++ [x], by simp [hl], fun i hi => ?_⟩
    by_cases hin : i < l.length
    · rw [List.getElem_append_left hin]; exact hr i hin
    · obtain rfl : i = l.length := by simp at hi; omega
      rw [List.getElem_append_right (Nat.le_refl _)]
      simpa [hl] using hx
theorem items_of {H : Type} {enc : TypeId × Value → H} {W : World} {d : DataW H} {p : List MemPlace} {a : Option Addr} {len cap : Nat}
    (h : DataW.Trod enc Tryd.prog W 0 (fun _ => true) true 22 (.slice a len cap) d p) : ∃ l : List It, l.length = len ∧ ItemsIn W a l := by
  obtain ⟨fuel, hf⟩ := h
  rcases utf.open_fields Tryd.underlying22 Tryd.underlying55 (by kernel_rfl) (by kernel_rfl) hf with hcs | ⟨x, l, c, m, hcs, hl, hm, hmm, hi⟩
  · simp [Value.cells] at hcs
    obtain ⟨rfl, rfl, rfl⟩ := hcs
    exact ⟨[], rfl, by simp, by simp, .inl rfl⟩
  · simp [Value.cells] at hcs
    obtain ⟨rfl, rfl, rfl⟩ := hcs
    rw [if_pos rfl] at hmm
    subst hmm
    unfold maxLen at hm
    obtain ⟨its, hlen, hits⟩ := listOf (n := len) (R := fun i (y : It) => (∀ j u, (cellsI y)[j]? = some u → W.cell? (x.add (i * 5 + j)) = some u) ∧ y.key.size ≤ maxLen ∧ y.text.size ≤ maxLen) (fun i hil => by
      obtain ⟨n, hf⟩ := hi i (by omega)
      obtain ⟨v0, y0, c0, t0⟩ := hf 0 _ rfl
      obtain ⟨v1, y1, c1, t1⟩ := hf 1 _ rfl
      obtain ⟨v2, y2, c2, t2⟩ := hf 2 _ rfl
      obtain ⟨v3, y3, c3, t3⟩ := hf 3 _ rfl
      obtain ⟨v4, y4, c4, t4⟩ := hf 4 _ rfl
      obtain ⟨x0, e0, _, _⟩ := DataW.trod_int Tryd.underlying3 t0
      obtain ⟨x1, e1, _, _⟩ := DataW.trod_int Tryd.underlying3 t1
      obtain ⟨x2, e2, _, _⟩ := DataW.trod_int Tryd.underlying2 t2
      obtain ⟨x3, e3, _, s3⟩ := DataW.trod_string Tryd.underlying9 t3
      obtain ⟨x4, e4, _, s4⟩ := DataW.trod_string Tryd.underlying9 t4
      simp only [List.cons.injEq, and_true] at e0 e1 e2 e3 e4
      subst e0 e1 e2 e3 e4
      refine ⟨⟨x0, x1, x2, x3, x4⟩, fun j u hu => ?_, s3, s4⟩
      match j, hu with
      | 0, hu => cases hu; exact c0
      | 1, hu => cases hu; exact c1
      | 2, hu => cases hu; exact c2
      | 3, hu => cases hu; exact c3
      | 4, hu => cases hu; exact c4
      | j + 5, hu => simp [cellsI] at hu)
    refine ⟨its, hlen, by omega, fun y hy => ?_, ?_⟩
    · obtain ⟨i, hi, rfl⟩ := List.getElem_of_mem hy
      exact (hits i hi).2
    · match its, hits, hlen with
      | [], _, _ => exact .inl rfl
      | z :: its, hits, hlen =>
        refine .inr ?_
        obtain ⟨b, off, spot⟩ := x
        have hc := (hits 0 (Nat.succ_pos _)).1 0 _ rfl
        have hspot : spot = none := by simpa [Addr.add] using World.cell?_spot hc
        subst hspot
        rw [addr_add] at hc
        exact ⟨b, off, rfl, World.block_lt_of_cell? _ _ hc, fun i hi j u hu => by have := (hits i hi).1 j u hu; rw [addr_add] at this; rw [Nat.add_assoc]; exact this⟩
def WordsIn (W : World) (a : Option Addr) (l : List ByteArray) : Prop :=
  l.length ≤ 9223372036854775807 ∧ (∀ y ∈ l, y.size ≤ maxLen) ∧ (l = [] ∨ ∃ bl off, a = some ⟨bl, off, none⟩ ∧ bl < W.heap.size ∧ ∀ i (h : i < l.length), W.cell? ⟨bl, off + i, none⟩ = some (.string l[i]))
theorem words_of {H : Type} {enc : TypeId × Value → H} {W : World} {d : DataW H} {p : List MemPlace} {a : Option Addr} {len cap : Nat}
    (h : DataW.Trod enc Tryd.prog W 0 (fun _ => true) true 45 (.slice a len cap) d p) : ∃ l : List ByteArray, l.length = len ∧ WordsIn W a l := by
  obtain ⟨fuel, hf⟩ := h
  rcases Go.Deep.open_strs Tryd.underlying45 Tryd.underlying9 (by kernel_rfl) hf with ⟨hcs, _⟩ | ⟨x, l, c, m, Sx, hcs, _, hl, hm, hmm, _, hi⟩
  · simp [Value.cells] at hcs
    obtain ⟨rfl, rfl, rfl⟩ := hcs
    exact ⟨[], rfl, by simp, by simp, .inl rfl⟩
  · simp [Value.cells] at hcs
    obtain ⟨rfl, rfl, rfl⟩ := hcs
    rw [if_pos rfl] at hmm
    subst hmm
    unfold maxLen at hm
    refine ⟨(List.range len).map Sx, by simp, by simp; omega, fun y hy => ?_, ?_⟩
    · obtain ⟨i, hi', rfl⟩ := List.mem_map.1 hy
      exact (hi i (by have := List.mem_range.1 hi'; omega)).2
    · by_cases h0 : len = 0
      · exact .inl (by simp [h0])
      · refine .inr ?_
        obtain ⟨b, off, spot⟩ := x
        have hc := (hi 0 (by omega)).1
        have hspot : spot = none := by simpa [Addr.add] using World.cell?_spot hc
        subst hspot
        rw [addr_add] at hc
        refine ⟨b, off, rfl, World.block_lt_of_cell? _ _ hc, fun i hi2 => ?_⟩
        have := (hi i (by simp at hi2; omega)).1
        rw [addr_add] at this
        simpa using this
set_option maxRecDepth 100000 in
/-- Two keys, and whether they are its own. -/
theorem keys_of {H : Type} {enc : TypeId × Value → H} {W : World} {base : Nat} {d : DataW H} {p : List MemPlace} {v : Value} (hv : Value.okWide Tryd.prog W .any base 40 v)
    (h : DataW.Trod enc Tryd.prog W 0 (fun _ => true) true 40 v d p) : ∃ (a b : ByteArray) (o : Bool), v = .agg #[.string a, .string b, .bool o] ∧ a.size ≤ maxLen ∧ b.size ≤ maxLen := by
  obtain ⟨v0, v1, v2, y0, y1, y2, n, rfl, _, _, t0, t1, t2⟩ := Go.Joins.open_agg3 Tryd.underlying40 (by kernel_rfl) (by kernel_rfl) hv h
  obtain ⟨x0, e0, _, s0⟩ := DataW.trod_string Tryd.underlying9 t0
  obtain ⟨x1, e1, _, s1⟩ := DataW.trod_string Tryd.underlying9 t1
  obtain ⟨x2, e2, _⟩ := DataW.trod_bool Tryd.underlying4 t2
  simp only [List.cons.injEq, and_true] at e0 e1 e2
  subst e0 e1 e2
  exact ⟨x0, x1, x2, rfl, s0, s1⟩
end Go.Proofs.YteocenjneoclbaaDoor.tre

/- From a row's reading to how data lies: each text and each row within a bound. Nothing of the program. -/
import Derived.Test.YthflpgeonllgdaaDoorRepR
import Derived.Deep.Slices
import Derived.Deep.Fields
import Derived.SizedLaws
namespace Go.Proofs.YthflpgeonllgdaaDoor.rep
open Go.ChangeShapes Go.WideShapes Go.RowKit

/-- What is known of a datum goes down to its parts, and bounds its texts and rows. -/
structure Good (P : Program) {H : Type} (B : Nat) (G : TypeId → DataW H → Prop) : Prop where
  str : ∀ {t : TypeId} {b : List UInt8}, G t (.lit (.string b)) → b.length ≤ B
  sl : ∀ {t e : TypeId} {es sp : List (DataW H)}, P.underlying t = some (.slice e) → 0 < P.bytesOf e → G t (.slice es sp) → es.length ≤ B ∧ ∀ d ∈ es, G e d
  st : ∀ {t : TypeId} {fs : Array Field} {ds : List (DataW H)}, P.underlying t = some (.struct fs) → G t (.agg ds) → ∀ (j : Nat) (f : Field) (d : DataW H), fs[j]? = some f → ds[j]? = some d → G f.type d
  ar : ∀ {t e : TypeId} {n : Nat} {ds : List (DataW H)}, P.underlying t = some (.array n e) → G t (.agg ds) → ∀ d ∈ ds, G e d
def Opens (P : Program) (B : Nat) {α : Type} (t : TypeId) (r : Rep α) : Prop :=
  ∀ (H : Type) (enc : TypeId × Value → H) (G : TypeId → DataW H → Prop), Good P B G → ∀ (W : World) (fuel : Nat) (cs : List Value) (d : DataW H) (p : List MemPlace), DataW.trod enc P W 0 (fun _ => true) true fuel t cs = some (d, p) → G t d → ∃ x, r.at_ W cs x

theorem opens_text {P : Program} {B : Nat} {t : TypeId} (ht : P.underlying t = some .string) : Opens P B t (text B) := by
  intro H enc G hG W fuel cs d p h hd
  obtain ⟨s, rfl, hx, _⟩ := DataW.trod_string ht h
  simp only [Prod.mk.injEq] at hx
  obtain ⟨rfl, _⟩ := hx
  have := hG.str hd
  exact ⟨s, rfl, by simpa using this⟩
theorem opens_num {P : Program} {B : Nat} {t : TypeId} (ht : P.underlying t = some (.int .i64)) : Opens P B t num := by
  intro H enc G hG W fuel cs d p h hd
  obtain ⟨n, rfl, _, hw⟩ := DataW.trod_int ht h
  exact ⟨n, rfl, hw⟩
theorem opens_yes {P : Program} {B : Nat} {t : TypeId} (ht : P.underlying t = some .bool) : Opens P B t yes := by
  intro H enc G hG W fuel cs d p h hd
  obtain ⟨b, rfl, _⟩ := DataW.trod_bool ht h
  exact ⟨b, rfl⟩
theorem listOf {α : Type _} {n : Nat} {R : Nat → α → Prop} (h : ∀ i, i < n → ∃ x, R i x) : ∃ l : List α, l.length = n ∧ ∀ i (hi : i < l.length), R i l[i] := by
  induction n with
  | zero => exact ⟨[], rfl, fun i hi => by cases hi⟩
  | succ n ih =>
    obtain ⟨l, hl, hr⟩ := ih (fun i hi => h i (by omega))
    obtain ⟨x, hx⟩ := h n (by omega)
    refine ⟨l ++ [x], by simp [hl], fun i hi => ?_⟩
    by_cases hin : i < l.length
    · rw [List.getElem_append_left hin]; exact hr i hin
    · obtain rfl : i = l.length := by simp at hi; omega
      rw [List.getElem_append_right (Nat.le_refl _)]
      simpa [hl] using hx
theorem opens_row {P : Program} {B : Nat} {t e : TypeId} {α : Type} {r : Rep α} (ht : P.underlying t = some (.slice e)) (hn : P.cellsOf e = r.n) (hpos : 0 < r.n) (hb : 0 < P.bytesOf e) (he : Opens P B e r) : Opens P B t (row B r) := by
  intro H enc G hG W fuel cs d p h hd
  rcases Go.Deep.open_slice ht h with ⟨hcs, _⟩ | ⟨a, len, cap, m, n, D, Pl, rfl, _, hl, hm, hmm, hx, hi⟩
  · subst hcs
    exact ⟨[], _, rfl, none, 0, rfl, Nat.le_refl _, by omega, by simp, .inl rfl⟩
  · rw [if_pos rfl] at hmm
    subst hmm
    simp only [Prod.mk.injEq] at hx
    obtain ⟨rfl, _⟩ := hx
    obtain ⟨hlB, hes⟩ := hG.sl ht hb hd
    simp only [List.length_map, List.length_range] at hlB
    unfold maxLen at hm
    rw [hn] at hi
    obtain ⟨l, hlen, hls⟩ := listOf (n := len) (R := fun i (x : α) => ∃ cs, r.at_ W cs x ∧ ∀ j u, cs[j]? = some u → W.cell? ((a.add (i * r.n)).add j) = some u) (fun i hil => by
      obtain ⟨cs', hc, htr⟩ := hi i (by omega)
      obtain ⟨_, hcl, hat⟩ := World.cells?_some hc
      obtain ⟨x, hx⟩ := he H enc G hG W n cs' (D i) (Pl i) htr (hes _ (List.mem_map.2 ⟨i, List.mem_range.2 hil, rfl⟩))
      exact ⟨x, cs', hx, fun j u hu => by rw [hat j (by have := (List.getElem?_eq_some_iff.1 hu).1; omega), hu]⟩)
    subst hlen
    refine ⟨l, _, rfl, some a, m, rfl, hl, hm, hlB, ?_⟩
    match l, hls with
    | [], _ => exact .inl rfl
    | z :: l, hls =>
      refine .inr ?_
      obtain ⟨b, off, spot⟩ := a
      obtain ⟨cs0, h0, hc0⟩ := hls 0 (Nat.succ_pos _)
      have hlen0 := r.len h0
      have hc := hc0 0 (cs0[0]'(by omega)) (List.getElem?_eq_getElem _)
      have hspot : spot = none := by
        have := World.cell?_spot hc
        simp only [Addr.add] at this
        cases spot with
        | none => rfl
        | some s => simp at this
      subst hspot
      have haa : ∀ i j : Nat, ((⟨b, off, none⟩ : Addr).add i).add j = ⟨b, off + i + j, none⟩ := fun i j => by rw [addr_add, addr_add]
      rw [haa] at hc
      refine ⟨b, off, rfl, World.block_lt_of_cell? _ _ hc, fun i hi => ?_⟩
      obtain ⟨cs, h1, h2⟩ := hls i hi
      exact ⟨cs, h1, fun j u hu => by have := h2 j u hu; rwa [haa] at this⟩
/-- A struct's fields, one by one. -/
theorem trod_fields {P : Program} {H : Type} {enc : TypeId × Value → H} {W : World} {fuel : Nat} {t : TypeId} {fs : Array Field} {cs : List Value} {d : DataW H} {p : List MemPlace} (ht : P.underlying t = some (.struct fs)) (h : DataW.trod enc P W 0 (fun _ => true) true fuel t cs = some (d, p)) :
    ∃ ds, d = .agg ds ∧ cs.length = P.cellsOf t ∧ ∃ n, ∀ (j : Nat) (f : Field), fs[j]? = some f → ∃ y q, ds[j]? = some y ∧ DataW.trod enc P W 0 (fun _ => true) true n f.type ((cs.drop f.offset).take (P.cellsOf f.type)) = some (y, q) := by
  obtain ⟨xs, n, _, hx, hl, hlen, hf⟩ := DataW.trod_struct ht h
  simp only [Prod.mk.injEq] at hx
  obtain ⟨rfl, _⟩ := hx
  refine ⟨_, rfl, hl, n, fun j f hj => ?_⟩
  have hjl : j < xs.length := by rw [hlen]; exact (Array.getElem?_eq_some_iff.1 hj).1
  have h2 := hf j f hj
  rw [List.getElem?_eq_getElem hjl] at h2
  exact ⟨xs[j].1, xs[j].2, by simp [hjl], h2⟩

/-- A struct whose fields are one cell each. -/
theorem trod_ones {P : Program} {H : Type} {enc : TypeId × Value → H} {W : World} {fuel : Nat} {t : TypeId} {fs : Array Field} {cs : List Value} {d : DataW H} {p : List MemPlace} (ht : P.underlying t = some (.struct fs)) (hone : Go.Deep.oneCellFields P fs = true) (hC : P.cellsOf t = fs.size) (h : DataW.trod enc P W 0 (fun _ => true) true fuel t cs = some (d, p)) {B : Nat} {G : TypeId → DataW H → Prop} (hG : Good P B G) (hd : G t d) :
    cs.length = fs.size ∧ ∀ (j : Nat) (f : Field), fs[j]? = some f → ∃ v y q n, cs[j]? = some v ∧ G f.type y ∧ DataW.trod enc P W 0 (fun _ => true) true n f.type [v] = some (y, q) := by
  obtain ⟨ds, rfl, hl, n, hf⟩ := trod_fields ht h
  rw [hC] at hl
  refine ⟨hl, fun j f hj => ?_⟩
  obtain ⟨y, q, hy, ht2⟩ := hf j f hj
  obtain ⟨ho, hk⟩ := Go.Deep.hone_of hone j f hj
  have hjl : j < fs.size := (Array.getElem?_eq_some_iff.1 hj).1
  rw [ho, hk] at ht2
  have hone' : (cs.drop j).take 1 = [cs[j]'(by omega)] := by
    rw [List.drop_eq_getElem_cons (by omega)]
    rfl
  rw [hone'] at ht2
  exact ⟨_, y, q, n, List.getElem?_eq_getElem (by omega), hG.st ht hd j f y hj hy, ht2⟩

/-! What a row says of its arguments' sizes. -/
def Light (P : Program) {H : Type} (t : TypeId) (d : DataW H) : Prop := ∀ n ∈ d.weights P t, n ≤ reachBytes
theorem all_mem {P : Program} {H : Type} {e : TypeId} : ∀ {es : List (DataW H)} {d : DataW H}, d ∈ es → ∀ n ∈ d.weights P e, n ∈ DataW.weightsAll P e es
  | d0 :: es, d, hd, n, hn => by
    simp only [DataW.weightsAll, List.mem_append]
    rcases List.mem_cons.1 hd with rfl | hd
    · exact .inl hn
    · exact .inr (all_mem hd n hn)
theorem light_good {P : Program} {H : Type} : Good P reachBytes (Light P (H := H)) where
  str h := h _ (by simp [DataW.weights])
  sl := by
    intro t e es sp ht hb h
    refine ⟨?_, fun d hd n hn => h n ?_⟩
    · have := h ((es.length + sp.length) * P.bytesOf e) (by simp [DataW.weights, ht])
      have h2 : es.length + sp.length ≤ (es.length + sp.length) * P.bytesOf e := Nat.le_mul_of_pos_right _ hb
      omega
    · simp only [DataW.weights, ht, List.mem_cons, List.mem_append]
      exact .inr (.inl (all_mem hd n hn))
  st := by
    intro t fs ds ht h j f d hf hd n hn
    refine h n ?_
    simp only [DataW.weights, ht]
    refine DataW.weights_mem_each (j := j) (t := f.type) (d := d) ?_ hd n hn
    simp [hf]
  ar := by
    intro t e n ds ht h d hd k hk
    refine h k ?_
    simp only [DataW.weights, ht]
    exact all_mem hd k hk
/-- An argument is light. -/
theorem light_arg {P : Program} {H : Type} {ts us : List TypeId} {ds gs : List (DataW H)} (h : (DataW.weightsEach P (ts ++ us) (ds ++ gs)).all (· ≤ reachBytes) = true) {j : Nat} {t : TypeId} {d : DataW H} (ht : ts[j]? = some t) (hd : ds[j]? = some d) : Light P t d := by
  intro n hn
  have h1 : (ts ++ us)[j]? = some t := by rw [List.getElem?_append_left (List.getElem?_eq_some_iff.1 ht).1, ht]
  have h2 : (ds ++ gs)[j]? = some d := by rw [List.getElem?_append_left (List.getElem?_eq_some_iff.1 hd).1, hd]
  have := List.all_eq_true.1 h _ (DataW.weights_mem_each h1 h2 n hn)
  simpa using this
/-- An argument that is a struct or an array is told by its cells. -/
theorem agg_of {P : Program} {W : World} {base : Nat} {t : TypeId} {v : Value} {u : TypeDesc} (hu : P.underlying t = some u) (hd : (match u with | .struct _ | .array _ _ => true | _ => false) = true) (h : Value.okWide P W .any base t v) : ∃ cs : Array Value, v = .agg cs := by
  unfold Value.okWide at h
  rw [hu] at h
  cases u <;> simp at hd <;> (obtain ⟨cs, h, _⟩ := h; exact ⟨cs, h⟩)
end Go.Proofs.YthflpgeonllgdaaDoor.rep

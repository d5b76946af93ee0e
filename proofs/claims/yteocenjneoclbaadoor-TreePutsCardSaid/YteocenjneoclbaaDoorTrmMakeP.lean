/- Layer 4: what made makes: as many values as items, and small ones. -/
import Derived.Test.YteocenjneoclbaaDoorTrmCnt
import Derived.Test.YteocenjneoclbaaDoorTrmCopy
import Derived.Test.YteocenjneoclbaaDoorTrmFit
namespace Go.Proofs.YteocenjneoclbaaDoor.tre
open Go.RowKit Go.Shelf

theorem loopV_keeps {Q : V → Nat → Prop} (L : List It) (hleaf : ∀ y ∈ L, Q (leafV y) 1) (hl : ∀ m N x k, Q m N → Q x k → Q (addL m x) (N + k)) (hf : ∀ m N x k, ∀ y ∈ L, Q m N → Q x k → Q (addF m y.key x) (N + k)) :
    ∀ (A : Nat) (l : List It), l.length ≤ A → (∀ y ∈ l, y ∈ L) → ∀ (B : Nat) (d : Int) (m : V) (N : Nat), l.length - N ≤ B → Q m N → ∀ x k, loopV l d m N = some (x, k) → Q x k := by
  intro A
  induction A with
  | zero =>
    intro l hA _ B d m N _ hQ x k h
    rw [loopV, dif_neg (by omega)] at h
    simp only [Option.some.injEq, Prod.mk.injEq] at h
    obtain ⟨rfl, rfl⟩ := h
    exact hQ
  | succ A ihA =>
    intro l hA hL B
    induction B with
    | zero =>
      intro d m N hB hQ x k h
      rw [loopV, dif_neg (by omega)] at h
      simp only [Option.some.injEq, Prod.mk.injEq] at h
      obtain ⟨rfl, rfl⟩ := h
      exact hQ
    | succ B ihB =>
      intro d m N hB hQ x k h
      rw [loopV] at h
      split at h
      · rename_i hN
        split at h
        · split at h
          · split at h
            · cases h
            · rename_i y j hy
              have hQy : Q y j := ihA (l.drop N) (by rw [List.length_drop]; omega) (fun z hz => hL z (List.mem_of_mem_drop hz)) (l.drop N).length (d + 1) (leafV (l[N]'hN.2)) 1 (by omega) (hleaf _ (hL _ (List.getElem_mem hN.2))) y j hy
              split at h
              · cases h
              · split at h
                · split at h
                  · exact ihB d (addL m y) (N + j) (by omega) (hl m N y j hQ hQy) x k h
                  · cases h
                · split at h
                  · exact ihB d (addF m _ y) (N + j) (by omega) (hf m N y j _ (hL _ (List.getElem_mem hN.2)) hQ hQy) x k h
                  · cases h
          · cases h
        · simp only [Option.some.injEq, Prod.mk.injEq] at h
          obtain ⟨rfl, rfl⟩ := h
          exact hQ
      · simp only [Option.some.injEq, Prod.mk.injEq] at h
        obtain ⟨rfl, rfl⟩ := h
        exact hQ
theorem madeV_keeps {Q : V → Nat → Prop} (l : List It) (hleaf : ∀ y ∈ l, Q (leafV y) 1) (hl : ∀ m N x k, Q m N → Q x k → Q (addL m x) (N + k)) (hf : ∀ m N x k, ∀ y ∈ l, Q m N → Q x k → Q (addF m y.key x) (N + k)) (d : Int) (x : V) (k : Nat) (h : madeV l d = some (x, k)) : Q x k := by
  unfold madeV at h
  split at h
  · cases h
  · split at h
    · exact loopV_keeps _ hleaf hl hf _ _ (Nat.le_refl _) (fun _ h => h) _ d _ 1 (Nat.le_refl _) (hleaf _ (by simp)) x k h
    · cases h
theorem sum_one (a : List Nat) (x : Nat) : sumN (a ++ [x]) = sumN a + x := by
  induction a with
  | nil => simp [sumN]
  | cons y a ih => simp only [List.cons_append, sumN, ih]; omega
theorem madeV_count (l : List It) (d : Int) (x : V) (k : Nat) (h : madeV l d = some (x, k)) : countV x = k := by
  refine madeV_keeps (Q := fun x k => countV x = k) l (fun y _ => by rw [countV_eq]; rfl) (fun m N x k h1 h2 => ?_) (fun m N x k y _ h1 h2 => ?_) d x k h
  · rw [countV_eq] at h1 ⊢
    show sumN ((m.list ++ [x]).map countV) + sumN (m.fields.map fun g => countV g.2) + 1 = _
    rw [List.map_append, List.map_singleton, sum_one]; omega
  · rw [countV_eq] at h1 ⊢
    show sumN (m.list.map countV) + sumN ((m.fields ++ [(y.key, x)]).map fun g => countV g.2) + 1 = _
    rw [List.map_append, List.map_singleton, sum_one]
    have e : countV ((y.key, x) : ByteArray × V).2 = countV x := rfl
    omega
theorem madeV_small (l : List It) (hs : ∀ y ∈ l, y.key.size ≤ 1000 ∧ y.text.size ≤ 1000) (d : Int) (x : V) (k : Nat) (h : madeV l d = some (x, k)) : smallV x = true := by
  refine madeV_keeps (Q := fun x _ => smallV x = true) l (fun y hy => ?_) (fun m N x k h1 h2 => ?_) (fun m N x k y hy h1 h2 => ?_) d x k h
  · exact (smallV_eq _).2 ⟨(hs y hy).2, by simp [leafV, V.list], by simp [leafV, V.fields]⟩
  · obtain ⟨a, b, c⟩ := (smallV_eq m).1 h1
    refine (smallV_eq _).2 ⟨a, fun z hz => ?_, c⟩
    rcases List.mem_append.1 (show z ∈ m.list ++ [x] from hz) with hz | hz
    · exact b z hz
    · rw [List.mem_singleton] at hz; rw [hz]; exact h2
  · obtain ⟨a, b, c⟩ := (smallV_eq m).1 h1
    refine (smallV_eq _).2 ⟨a, b, fun z hz => ?_⟩
    rcases List.mem_append.1 (show z ∈ m.fields ++ [(y.key, x)] from hz) with hz | hz
    · exact c z hz
    · rw [List.mem_singleton] at hz; rw [hz]; exact ⟨(hs y hy).1, h2⟩
theorem sum_ge {α : Type _} (m : α → Nat) : ∀ (l : List α) (x : α), x ∈ l → m x ≤ sumN (l.map m)
  | y :: l, x, h => by
    simp only [List.map_cons, sumN]
    rcases List.mem_cons.1 h with rfl | h
    · omega
    · have := sum_ge m l x h; omega
theorem maxN_le {l : List Nat} {b : Nat} (h : ∀ x ∈ l, x ≤ b) : maxN l ≤ b := by
  induction l with
  | nil => exact Nat.zero_le _
  | cons x l ih => exact Nat.max_le.2 ⟨h x (by simp), ih (fun y hy => h y (by simp [hy]))⟩
/-- A value is no deeper than it has values in it. -/
theorem depth_count : ∀ v : V, depthV v ≤ countV v := V.ind fun v ihl ihf => by
  rw [depthV_eq, countV_eq]
  have h1 : maxN (v.list.map depthV) ≤ sumN (v.list.map countV) := maxN_le (fun x hx => by
    obtain ⟨y, hy, rfl⟩ := List.mem_map.1 hx
    exact Nat.le_trans (ihl y hy) (sum_ge countV v.list y hy))
  have h2 : maxN (v.fields.map fun g => depthV g.2) ≤ sumN (v.fields.map fun g => countV g.2) := maxN_le (fun x hx => by
    obtain ⟨y, hy, rfl⟩ := List.mem_map.1 hx
    exact Nat.le_trans (ihf y hy) (sum_ge (fun g : ByteArray × V => countV g.2) v.fields y hy))
  omega
theorem len_count {α : Type _} (m : α → Nat) (hm : ∀ x, 1 ≤ m x) : ∀ l : List α, l.length ≤ sumN (l.map m)
  | [] => Nat.zero_le _
  | x :: l => by have := len_count m hm l; have := hm x; simp only [List.length_cons, List.map_cons, sumN]; omega
theorem count_pos (v : V) : 1 ≤ countV v := by rw [countV_eq]; omega
theorem smallC_count : ∀ v : V, countV v ≤ 100000 → smallC v = true := V.ind fun v ihl ihf => by
  intro h
  rw [countV_eq] at h
  have h1 := len_count countV count_pos v.list
  have h2 := len_count (fun g : ByteArray × V => countV g.2) (fun g => count_pos g.2) v.fields
  exact (smallC_eq v).2 ⟨by omega, by omega, fun x hx => ihl x hx (by have := sum_ge countV v.list x hx; omega), fun g hg => ihf g hg (by have := sum_ge (fun g : ByteArray × V => countV g.2) v.fields g hg; omega)⟩
end Go.Proofs.YteocenjneoclbaaDoor.tre

/- Layer 4: keysFit, fits and Check. Layer 4: fits. Layer 4: Check. -/
import Derived.Maps.OwnSet
import Derived.Test.YteocenjneoclbaaDoorTrmCnt
import Derived.Test.YteocenjneoclbaaDoorTrmUSeq
namespace Go.Proofs.YteocenjneoclbaaDoor.tre
open Go.RowKit Go.Shelf Go.Maps

def klit (k : List UInt8) : Lit := .string k
theorem klit_inj {a b : List UInt8} : (klit a).sameKey (klit b) = (a == b) := by
  by_cases h : a = b
  · subst h
    rw [WideAt.sameKey_self (by trivial)]; simp
  · rw [sameKey_ne (fun e => h (by injection e))]
    simp [h]
/-- Is each there once? -/
def distB : List (List UInt8) → Bool
  | [] => true
  | k :: r => !r.contains k && distB r
def addK (acc : List (List UInt8)) (x : List UInt8) : List (List UInt8) := if acc.contains x then acc else acc ++ [x]
theorem addKey_map (acc : List (List UInt8)) (x : List UInt8) : addKey (acc.map klit) (klit x) = (addK acc x).map klit := by
  unfold addKey addK
  have : (acc.map klit).any (fun y => y.sameKey (klit x)) = acc.contains x := by
    induction acc with
    | nil => rfl
    | cons a r ih => rw [List.map_cons, List.any_cons, ih, klit_inj, List.contains_cons, Bool.beq_comm]
  rw [this]
  split <;> simp
theorem fold_map : ∀ (xs acc : List (List UInt8)), (xs.map klit).foldl addKey (acc.map klit) = (xs.foldl addK acc).map klit
  | [], _ => rfl
  | x :: r, acc => by rw [List.map_cons, List.foldl_cons, List.foldl_cons, addKey_map, fold_map r]
theorem fold_len : ∀ (xs acc : List (List UInt8)), (xs.foldl addK acc).length ≤ acc.length + xs.length ∧ ((xs.foldl addK acc).length = acc.length + xs.length ↔ (distB xs = true ∧ ∀ x ∈ xs, x ∉ acc))
  | [], acc => by simp [distB]
  | x :: r, acc => by
    rw [List.foldl_cons]
    by_cases h : x ∈ acc
    · have : addK acc x = acc := by unfold addK; rw [if_pos (by simpa using h)]
      rw [this]
      obtain ⟨h1, _⟩ := fold_len r acc
      refine ⟨by rw [List.length_cons]; omega, ⟨fun e => by rw [List.length_cons] at e; omega, fun e => absurd h (e.2 x (by simp))⟩⟩
    · have : addK acc x = acc ++ [x] := by unfold addK; rw [if_neg (by simpa using h)]
      rw [this]
      obtain ⟨h1, h2⟩ := fold_len r (acc ++ [x])
      rw [List.length_append, List.length_singleton] at h1 h2
      refine ⟨by rw [List.length_cons]; omega, ?_⟩
      rw [List.length_cons, show acc.length + (r.length + 1) = acc.length + 1 + r.length by omega, h2]
      constructor
      · rintro ⟨a, b⟩
        refine ⟨?_, fun y hy => ?_⟩
        · have hx : x ∉ r := fun e => b x e (by simp)
          simp [distB, hx, a]
        · rcases List.mem_cons.1 hy with rfl | hy
          · exact h
          · exact fun e => b y hy (by simp [e])
      · rintro ⟨a, b⟩
        simp only [distB, Bool.and_eq_true, Bool.not_eq_true', List.contains_eq_mem, decide_eq_false_iff_not] at a
        refine ⟨a.2, fun y hy e => ?_⟩
        rcases List.mem_append.1 e with e | e
        · exact b y (by simp [hy]) e
        · rw [List.mem_singleton] at e; subst e; exact a.1 hy
theorem size_keys (ks : List (List UInt8)) : (Maps.size (setOf (DataW.agg [] : DataW Unit) (ks.map klit)) = ks.length ↔ distB ks = true) ∧ Maps.size (setOf (DataW.agg [] : DataW Unit) (ks.map klit)) ≤ ks.length := by
  rw [size_setOf _ _ (fun x hx => by obtain ⟨_, _, rfl⟩ := List.mem_map.1 hx; trivial)]
  have := fold_map ks []
  rw [List.map_nil] at this
  rw [this, List.length_map]
  have h := fold_len ks []
  simp only [List.length_nil, Nat.zero_add, List.not_mem_nil, not_false_eq_true, implies_true, and_true] at h
  exact ⟨h.2, h.1⟩

def keyF (ks : List (List UInt8)) (x : ByteArray × V) : Bool × List (List UInt8) := (utf.okB x.1.data.toList, ks ++ [x.1.data.toList])
theorem aft_keys : ∀ (l : List (ByteArray × V)) (ks : List (List UInt8)), aft keyF ks l = ks ++ l.map (·.1.data.toList)
  | [], ks => by simp [aft]
  | x :: l, ks => by
    have := aft_keys l (ks ++ [x.1.data.toList])
    unfold aft at this ⊢
    rw [List.foldl_cons]
    show List.foldl _ (ks ++ [x.1.data.toList]) l = _
    rw [this]; simp
theorem all_keys : ∀ (l : List (ByteArray × V)) (ks : List (List UInt8)), (allS keyF ks l).1 = l.all (fun g => utf.okB g.1.data.toList) ∧ ((allS keyF ks l).1 = true → (allS keyF ks l).2 = ks ++ l.map (·.1.data.toList))
  | [], ks => by simp [allS]
  | x :: l, ks => by
    have ih := all_keys l (ks ++ [x.1.data.toList])
    unfold allS
    cases h : utf.okB x.1.data.toList with
    | true => simpa [keyF, h] using ih
    | false => simp [keyF, h]
/-- May these be keys of one map? -/
def keysB (l : List (ByteArray × V)) : Bool := l.all (fun g => utf.okB g.1.data.toList) && distB (l.map (·.1.data.toList))

def SetInv (Bx M : Nat) (T : TypeId) (ks : List (List UInt8)) (W : World) : Prop :=
  W.heap[Bx]? = some (.cells #[.map (some M)] T (0, 0)) ∧ W.ownsMap Tryd.prog 9 (unitElem (H := Unit)) M ks.length (setOf (.agg []) (ks.map klit)) ∧ utf.Tab W ∧ Bx ≠ M ∧ M ≠ 1
theorem vst_set (Bx M : Nat) (T : TypeId) : Vst (SetInv Bx M T) (fun _ _ b => b = M) :=
  ⟨fun _ w _ h hb => ⟨(hb.block Bx (Array.getElem?_eq_some_iff.1 h.1).1).trans h.1, h.2.1.kept ⟨hb.os, hb.tape, hb.output, hb.size, fun k hk _ => hb.block k hk⟩ (row := none) (by simp), h.2.2.1.self hb, h.2.2.2⟩,
   fun _ _ b h hb => by subst hb; exact h.2.1.lt, fun _ _ _ _ _ _ h => h⟩
theorem law_str : Keyed Tryd.prog 9 := string_keyed Tryd.underlying9

set_option maxRecDepth 100000 in
set_option maxHeartbeats 1000000 in
theorem ask_keys (Bx M : Nat) (T : TypeId) (l : List (ByteArray × V)) (hl : l.length ≤ 9223372036854775807) (hk : ∀ x ∈ l, x.1.size ≤ maxLen) :
    AskF (SetInv Bx M T) (fun _ _ b => b = M) l [] 84 #[.pointer (some ⟨Bx, 0, none⟩)] keyF := by
  refine ⟨enters_of Tryd.func84 (by kernel_rfl) rfl, fun i x hx S ks W r t hs hi hS hh => ?_⟩
  have hil : ks.length < 9223372036854775807 := by
    rw [hs, aft_keys, List.nil_append, List.length_map, List.length_take]
    have := (List.getElem?_eq_some_iff.1 hx).1
    omega
  clear hs
  obtain ⟨h1, hown, hT, h2, h3⟩ := hi
  have hkey : keyOf Tryd.prog 9 (.string x.1) = some (klit x.1.data.toList) := Go.WideMaps.keyOf_string_mk Tryd.underlying9 (hk x (List.mem_of_getElem? hx))
  have hkx := hk x (List.mem_of_getElem? hx)
  have lB := (Array.getElem?_eq_some_iff.1 h1).1
  have lM := hown.lt
  have cB : W.cell? ⟨Bx, 0, none⟩ = some (.map (some M)) := by rw [blk_cell h1]; rfl
  have hbA : ∀ o, Below W.heap.size W (W.alloc o) := fun o => (Below.refl _ _).alloc (Nat.le_refl _) o
  have hownA := fun o => hown.alloc o
  have H := Lib.hid (And.intro h1 (And.intro hT (And.intro hbA (And.intro h2 h3))))
  clear h1 hT hbA hh hS hk hx hown h2 h3
  go_enter Tryd.func84, Tryd.ntmps84
  go_wp2_with (at_mapUpdate; refine wpList_mapUpdate_own _ rfl _ _ _ 89 rfl 9 90 law_str Tryd.underlying89 (unitElem (H := Unit)) M ks.length _ rfl (hownA _) (by unfold maxLen; omega) _ _ _ rfl rfl hkey _ [] unitElem_mk ?_; intro w1 hown1 hgrow1; have c0 : w1.cell? ⟨W.heap.size, 0, none⟩ = some (.string x.1) := hgrow1.cell (by rw [blk_cell (block_new W _)]; rfl) (by intro e; injection e with e; simp only at e; omega))
  have hb1 := H.out.2.2.1 (.cells #[.string x.1, .int .i64 x.2.kind, .int .i64 x.2.int, .string x.2.text, .slice r.a r.n r.c, .slice t.a t.n t.c] 31)
  have hT1 : utf.Tab w1 := by
    obtain ⟨t, fr, h⟩ := H.out.2.1.self hb1
    exact ⟨t, fr, (hgrow1.block _ (Array.getElem?_eq_some_iff.1 h).1 (fun e => by injection e with e; exact H.out.2.2.2.2 e.symm)).trans h⟩
  have hx1 : w1.heap[Bx]? = some (.cells #[.map (some M)] T (0, 0)) := (hgrow1.block Bx (by rw [size_alloc]; omega) (fun e => by injection e with e; exact H.out.2.2.2.1 e)).trans ((hb1.block Bx lB).trans H.out.1)
  have hKe : Keeps (fun b => b = M) W w1 := (Keeps.of_below hb1).trans (Y := fun b => b = M) ⟨hgrow1.os, hgrow1.tape, hgrow1.output, hgrow1.size, fun k hk hne => hgrow1.block k hk (fun e => hne (by injection e))⟩ (fun _ h => .inl h)
  have H1 := Lib.hid (And.intro hT1 (And.intro hx1 (And.intro hown1 hKe)))
  clear hb1 hx1 hKe hown1 hgrow1 hownA
  refine (utf.Valid_any x.1 hkx _ hT1).mono ?_
  rintro e w2 ⟨rfl, hb2⟩
  clear hT1
  go_wp2
  go_ret
  refine ⟨rfl, ⟨?_, fun _ h => .inl h, H1.out.2.2.2.trans (Y := fun _ => False) (Keeps.of_below hb2) (fun _ h => h.elim)⟩⟩
  refine ⟨(hb2.block Bx (Array.getElem?_eq_some_iff.1 H1.out.2.1).1).trans H1.out.2.1, ?_, H1.out.1.self hb2, H.out.2.2.2⟩
  have hm := H1.out.2.2.1.kept (row := none) (utf.grown_of_below hb2) (by simp)
  show w2.ownsMap _ _ _ M (ks ++ [x.1.data.toList]).length (setOf _ ((ks ++ [x.1.data.toList]).map klit))
  rw [List.length_append, List.length_singleton, List.map_append, List.map_singleton, setOf_snoc]
  exact hm

set_option maxRecDepth 100000 in
set_option maxHeartbeats 1000000 in
/-- keysFit. -/
theorem keysFit_any (l : List (ByteArray × V)) (hk : ∀ x ∈ l, x.1.size ≤ maxLen) (S : Nat → Prop) (w : World) (q : Sl) (hS : ∀ g, S g → g < w.heap.size) (hrow : RowF S w l q) (hT : utf.Tab w) :
    Calls Tryd.prog 70 #[.slice q.a q.n q.c] w fun e w' => e = .returned (.bool (keysB l)) ∧ Below w.heap.size w w' := by
  have hl := hrow.max
  have hmm := @run_makeMap Tryd.prog
  have hb2 : ∀ o1 o2, Below w.heap.size w ((w.alloc o1).alloc o2) := fun o1 o2 => ((Below.refl _ _).alloc (Nat.le_refl _) o1).alloc (by rw [size_alloc]; omega) o2
  have hcall := fun T => allF_any (vst_set (w.heap.size + 1) w.heap.size T) (s0 := []) (ask_keys (w.heap.size + 1) w.heap.size T l hl hk) (S := S) (w := (w.alloc (.map #[] 0)).alloc (.cells #[.map (some w.heap.size)] T)) (hrow.later (hb2 _ _))
    (fun g hg => ⟨Nat.lt_of_lt_of_le (hS g hg) (hb2 _ _).size, fun e => by have := hS g hg; omega⟩)
    ⟨by have := block_new (w.alloc (.map #[] 0)) (.cells #[.map (some w.heap.size)] T); rwa [size_alloc] at this, (World.ownsMap_made w _ _ _).alloc _, hT.self (hb2 _ _), by omega, by have := hT.pos; omega⟩
  obtain ⟨hk1, hk2⟩ := all_keys l []
  have hn := hrow.len
  have hsz := size_keys (l.map (·.1.data.toList))
  have Hb := Lib.hid hb2
  clear hrow hT hS hk hb2
  obtain ⟨qa, qn, qc⟩ := q
  simp only at hn
  subst hn
  generalize hz : allS keyF [] l = z at hcall hk1 hk2
  obtain ⟨z1, ks⟩ := z
  simp only at hk1 hk2 hcall
  cases z1 with
  | false =>
    have H := Lib.hid (show keysB l = false by unfold keysB; rw [← hk1]; rfl)
    clear hk1 hk2 hz hsz
    go_enter Tryd.func70, Tryd.ntmps70
    go_wp2_with fail
    refine (hcall _).mono ?_
    rintro e w1 ⟨rfl, hs1⟩
    go_wp2
    go_ret
    rw [H.out]
    exact ⟨rfl, (Hb.out _ _).trans (hs1.keeps.below (fun k hk => by omega) (Hb.out _ _).size)⟩
  | true =>
    have hks := hk2 rfl
    rw [List.nil_append] at hks
    subst hks
    have H := Lib.hid (show keysB l = distB (l.map (·.1.data.toList)) by unfold keysB; rw [← hk1]; rfl)
    clear hk1 hk2 hz
    go_enter Tryd.func70, Tryd.ntmps70
    go_wp2_with fail
    refine (hcall _).mono ?_
    rintro e w1 ⟨rfl, hs1⟩
    have c1 : w1.cell? ⟨w.heap.size + 1, 0, none⟩ = some (.map (some w.heap.size)) := by rw [blk_cell hs1.inv.1]; rfl
    have hown := hs1.inv.2.1
    have Hs := Lib.hid hs1
    clear hs1 hcall
    rw [List.length_map] at hsz
    generalize hD : setOf (DataW.agg [] : DataW Unit) ((l.map (·.1.data.toList)).map klit) = D at hown hsz
    have Hsz := Lib.hid hsz
    have hle : Maps.size D ≤ 9223372036854775807 := by omega
    clear hsz hD
    have hlen := hown.len Tryd.underlying89 3
    go_wp2
    go_ret
    refine ⟨?_, (Hb.out _ _).trans (Hs.out.keeps.below (fun k hk => by omega) (Hb.out _ _).size)⟩
    rw [H.out]
    have h2 := Hsz.out.1
    cases hd : distB (l.map (·.1.data.toList)) with
    | true =>
      rw [hd] at h2
      have := h2.2 rfl
      simp [this]
    | false =>
      rw [hd] at h2
      have : ¬ Maps.size D = l.length := fun e => absurd (h2.1 e) (by simp)
      simp
      omega
end Go.Proofs.YteocenjneoclbaaDoor.tre
namespace Go.Proofs.YteocenjneoclbaaDoor.tre
open Go.RowKit Go.Shelf

/-- Has a value what its kind asks for, and nothing else? -/
def fitsB (v : V) : Bool := (v.int == 0 || v.kind == 2 || (v.kind == 1 && v.int == 1)) && (v.text.toList.isEmpty || v.kind == 3) && (decide (v.list.length = 0) || v.kind == 4) && (decide (v.fields.length = 0) || v.kind == 5) &&
  (decide (0 ≤ v.kind) && decide (v.kind ≤ 5)) && utf.okB v.text.data.toList && keysB v.fields

set_option maxRecDepth 100000 in
set_option maxHeartbeats 8000000 in
theorem fits_any (v : V) (ht : v.text.size ≤ maxLen) (hk : ∀ x ∈ v.fields, x.1.size ≤ maxLen) (S : Nat → Prop) (W : World) (r t : Sl) (hS : ∀ g, S g → g < W.heap.size) (hh : HV S W v r t) (hT : utf.Tab W) :
    Calls Tryd.prog 44 #[.agg #[.int .i64 v.kind, .int .i64 v.int, .string v.text, .slice r.a r.n r.c, .slice t.a t.n t.c]] W fun e w' => e = .returned (.bool (fitsB v)) ∧ Below W.heap.size W w' := by
  have hb1 : ∀ o, Below W.heap.size W (W.alloc o) := fun o => (Below.refl _ _).alloc (Nat.le_refl _) o
  have cV := fun o => utf.Valid_any v.text ht (W.alloc o) (hT.self (hb1 o))
  have cK := fun o w1 (hb : Below (W.alloc o).heap.size (W.alloc o) w1) => keysFit_any v.fields hk S w1 t (fun g hg => Nat.lt_of_lt_of_le (hS g hg) ((hb1 o).trans (hb.mono (hb1 o).size)).size) ((hh.2.later (hb1 o)).later hb) ((hT.self (hb1 o)).self hb)
  have hn1 := hh.1.len
  have hn2 := hh.2.len
  have c3 : ∀ o cs T, o = .cells cs T (0, 0) → ∀ w1, Below (W.alloc o).heap.size (W.alloc o) w1 → w1.cell? ⟨W.heap.size, 4, none⟩ = cs[4]? := fun o cs T ho w1 hb => by
    rw [hb.cell (by rw [size_alloc]; exact Nat.lt_succ_self _), ho, blk_cell (block_new W _)]
  have Hb := Lib.hid hb1
  have HC := Lib.hid (And.intro cV (And.intro cK c3))
  clear hb1 hh hS hT hk ht cV cK c3
  obtain ⟨ra, rn, rc⟩ := r
  obtain ⟨ta, tn, tc⟩ := t
  simp only at hn1 hn2
  subst hn1
  subst hn2
  by_cases hk0 : v.kind = 0
  · skip
    cases hi0 : (v.int == 0) with
    | true =>
      cases ht0 : v.text.toList.isEmpty with
      | true =>
        by_cases hl0 : v.list.length = 0
        · have hl1 : ¬ (0 : Int) < v.list.length := by omega
          by_cases hf0 : v.fields.length = 0
          · have hf1 : ¬ (0 : Int) < v.fields.length := by omega
            have cV := HC.out.1
            cases ho : utf.okB v.text.data.toList with
            | false =>
              have H := Lib.hid (show fitsB v = false by simp [fitsB, *])
              rw [ho] at cV
              clear ho
              go_enter Tryd.func44, Tryd.ntmps44
              go_wp2_with fail
              refine (cV _).mono ?_
              rintro e w1 ⟨rfl, hb⟩
              go_wp2
              go_ret
              rw [H.out]
              exact ⟨rfl, (Hb.out _).trans (hb.mono (Hb.out _).size)⟩
            | true =>
              have H := Lib.hid (show fitsB v = keysB v.fields by simp [fitsB, *])
              rw [ho] at cV
              clear ho
              go_enter Tryd.func44, Tryd.ntmps44
              go_wp2_with fail
              refine (cV _).mono ?_
              rintro e w1 ⟨rfl, hb⟩
              have c4 := HC.out.2.2 _ _ _ rfl w1 hb
              have cK := HC.out.2.1 _ w1 hb
              rw [hf0] at cK
              clear cV
              go_wp2_with fail
              refine cK.mono ?_
              rintro e w2 ⟨rfl, hb2⟩
              go_wp2
              go_ret
              rw [H.out]
              exact ⟨rfl, (Hb.out _).trans ((hb.trans (hb2.mono hb.size)).mono (Hb.out _).size)⟩
          · have hf1 : (0 : Int) < v.fields.length := by omega
            have H := Lib.hid (show fitsB v = false by simp [fitsB, *])
            clear HC
            go_enter Tryd.func44, Tryd.ntmps44
            go_wp2
            go_ret
            rw [H.out]
            exact ⟨rfl, Hb.out _⟩
        · have hl1 : (0 : Int) < v.list.length := by omega
          have H := Lib.hid (show fitsB v = false by simp [fitsB, *])
          clear HC
          go_enter Tryd.func44, Tryd.ntmps44
          go_wp2
          go_ret
          rw [H.out]
          exact ⟨rfl, Hb.out _⟩
      | false =>
        have H := Lib.hid (show fitsB v = false by simp [fitsB, *])
        clear HC
        go_enter Tryd.func44, Tryd.ntmps44
        go_wp2
        go_ret
        rw [H.out]
        exact ⟨rfl, Hb.out _⟩
    | false =>
      have hi9 : ¬ v.int = 0 := by simpa using hi0
      have H := Lib.hid (show fitsB v = false by simp [fitsB, *])
      clear HC
      go_enter Tryd.func44, Tryd.ntmps44
      go_wp2
      go_ret
      rw [H.out]
      exact ⟨rfl, Hb.out _⟩
  by_cases hk1 : v.kind = 1
  · skip
    cases hi0 : (v.int == 0) with
    | true =>
      cases ht0 : v.text.toList.isEmpty with
      | true =>
        by_cases hl0 : v.list.length = 0
        · have hl1 : ¬ (0 : Int) < v.list.length := by omega
          by_cases hf0 : v.fields.length = 0
          · have hf1 : ¬ (0 : Int) < v.fields.length := by omega
            have cV := HC.out.1
            cases ho : utf.okB v.text.data.toList with
            | false =>
              have H := Lib.hid (show fitsB v = false by simp [fitsB, *])
              rw [ho] at cV
              clear ho
              go_enter Tryd.func44, Tryd.ntmps44
              go_wp2_with fail
              refine (cV _).mono ?_
              rintro e w1 ⟨rfl, hb⟩
              go_wp2
              go_ret
              rw [H.out]
              exact ⟨rfl, (Hb.out _).trans (hb.mono (Hb.out _).size)⟩
            | true =>
              have H := Lib.hid (show fitsB v = keysB v.fields by simp [fitsB, *])
              rw [ho] at cV
              clear ho
              go_enter Tryd.func44, Tryd.ntmps44
              go_wp2_with fail
              refine (cV _).mono ?_
              rintro e w1 ⟨rfl, hb⟩
              have c4 := HC.out.2.2 _ _ _ rfl w1 hb
              have cK := HC.out.2.1 _ w1 hb
              rw [hf0] at cK
              clear cV
              go_wp2_with fail
              refine cK.mono ?_
              rintro e w2 ⟨rfl, hb2⟩
              go_wp2
              go_ret
              rw [H.out]
              exact ⟨rfl, (Hb.out _).trans ((hb.trans (hb2.mono hb.size)).mono (Hb.out _).size)⟩
          · have hf1 : (0 : Int) < v.fields.length := by omega
            have H := Lib.hid (show fitsB v = false by simp [fitsB, *])
            clear HC
            go_enter Tryd.func44, Tryd.ntmps44
            go_wp2
            go_ret
            rw [H.out]
            exact ⟨rfl, Hb.out _⟩
        · have hl1 : (0 : Int) < v.list.length := by omega
          have H := Lib.hid (show fitsB v = false by simp [fitsB, *])
          clear HC
          go_enter Tryd.func44, Tryd.ntmps44
          go_wp2
          go_ret
          rw [H.out]
          exact ⟨rfl, Hb.out _⟩
      | false =>
        have H := Lib.hid (show fitsB v = false by simp [fitsB, *])
        clear HC
        go_enter Tryd.func44, Tryd.ntmps44
        go_wp2
        go_ret
        rw [H.out]
        exact ⟨rfl, Hb.out _⟩
    | false =>
      have hi9 : ¬ v.int = 0 := by simpa using hi0
      cases hi1 : (v.int == 1) with
      | true =>
        cases ht0 : v.text.toList.isEmpty with
        | true =>
          by_cases hl0 : v.list.length = 0
          · have hl1 : ¬ (0 : Int) < v.list.length := by omega
            by_cases hf0 : v.fields.length = 0
            · have hf1 : ¬ (0 : Int) < v.fields.length := by omega
              have cV := HC.out.1
              cases ho : utf.okB v.text.data.toList with
              | false =>
                have H := Lib.hid (show fitsB v = false by simp [fitsB, *])
                rw [ho] at cV
                clear ho
                go_enter Tryd.func44, Tryd.ntmps44
                go_wp2_with fail
                refine (cV _).mono ?_
                rintro e w1 ⟨rfl, hb⟩
                go_wp2
                go_ret
                rw [H.out]
                exact ⟨rfl, (Hb.out _).trans (hb.mono (Hb.out _).size)⟩
              | true =>
                have H := Lib.hid (show fitsB v = keysB v.fields by simp [fitsB, *])
                rw [ho] at cV
                clear ho
                go_enter Tryd.func44, Tryd.ntmps44
                go_wp2_with fail
                refine (cV _).mono ?_
                rintro e w1 ⟨rfl, hb⟩
                have c4 := HC.out.2.2 _ _ _ rfl w1 hb
                have cK := HC.out.2.1 _ w1 hb
                rw [hf0] at cK
                clear cV
                go_wp2_with fail
                refine cK.mono ?_
                rintro e w2 ⟨rfl, hb2⟩
                go_wp2
                go_ret
                rw [H.out]
                exact ⟨rfl, (Hb.out _).trans ((hb.trans (hb2.mono hb.size)).mono (Hb.out _).size)⟩
            · have hf1 : (0 : Int) < v.fields.length := by omega
              have H := Lib.hid (show fitsB v = false by simp [fitsB, *])
              clear HC
              go_enter Tryd.func44, Tryd.ntmps44
              go_wp2
              go_ret
              rw [H.out]
              exact ⟨rfl, Hb.out _⟩
          · have hl1 : (0 : Int) < v.list.length := by omega
            have H := Lib.hid (show fitsB v = false by simp [fitsB, *])
            clear HC
            go_enter Tryd.func44, Tryd.ntmps44
            go_wp2
            go_ret
            rw [H.out]
            exact ⟨rfl, Hb.out _⟩
        | false =>
          have H := Lib.hid (show fitsB v = false by simp [fitsB, *])
          clear HC
          go_enter Tryd.func44, Tryd.ntmps44
          go_wp2
          go_ret
          rw [H.out]
          exact ⟨rfl, Hb.out _⟩
      | false =>
        have hi8 : ¬ v.int = 1 := by simpa using hi1
        have H := Lib.hid (show fitsB v = false by simp [fitsB, *])
        clear HC
        go_enter Tryd.func44, Tryd.ntmps44
        go_wp2
        go_ret
        rw [H.out]
        exact ⟨rfl, Hb.out _⟩
  by_cases hk2 : v.kind = 2
  · skip
    cases hi0 : (v.int == 0) with
    | true =>
      cases ht0 : v.text.toList.isEmpty with
      | true =>
        by_cases hl0 : v.list.length = 0
        · have hl1 : ¬ (0 : Int) < v.list.length := by omega
          by_cases hf0 : v.fields.length = 0
          · have hf1 : ¬ (0 : Int) < v.fields.length := by omega
            have cV := HC.out.1
            cases ho : utf.okB v.text.data.toList with
            | false =>
              have H := Lib.hid (show fitsB v = false by simp [fitsB, *])
              rw [ho] at cV
              clear ho
              go_enter Tryd.func44, Tryd.ntmps44
              go_wp2_with fail
              refine (cV _).mono ?_
              rintro e w1 ⟨rfl, hb⟩
              go_wp2
              go_ret
              rw [H.out]
              exact ⟨rfl, (Hb.out _).trans (hb.mono (Hb.out _).size)⟩
            | true =>
              have H := Lib.hid (show fitsB v = keysB v.fields by simp [fitsB, *])
              rw [ho] at cV
              clear ho
              go_enter Tryd.func44, Tryd.ntmps44
              go_wp2_with fail
              refine (cV _).mono ?_
              rintro e w1 ⟨rfl, hb⟩
              have c4 := HC.out.2.2 _ _ _ rfl w1 hb
              have cK := HC.out.2.1 _ w1 hb
              rw [hf0] at cK
              clear cV
              go_wp2_with fail
              refine cK.mono ?_
              rintro e w2 ⟨rfl, hb2⟩
              go_wp2
              go_ret
              rw [H.out]
              exact ⟨rfl, (Hb.out _).trans ((hb.trans (hb2.mono hb.size)).mono (Hb.out _).size)⟩
          · have hf1 : (0 : Int) < v.fields.length := by omega
            have H := Lib.hid (show fitsB v = false by simp [fitsB, *])
            clear HC
            go_enter Tryd.func44, Tryd.ntmps44
            go_wp2
            go_ret
            rw [H.out]
            exact ⟨rfl, Hb.out _⟩
        · have hl1 : (0 : Int) < v.list.length := by omega
          have H := Lib.hid (show fitsB v = false by simp [fitsB, *])
          clear HC
          go_enter Tryd.func44, Tryd.ntmps44
          go_wp2
          go_ret
          rw [H.out]
          exact ⟨rfl, Hb.out _⟩
      | false =>
        have H := Lib.hid (show fitsB v = false by simp [fitsB, *])
        clear HC
        go_enter Tryd.func44, Tryd.ntmps44
        go_wp2
        go_ret
        rw [H.out]
        exact ⟨rfl, Hb.out _⟩
    | false =>
      have hi9 : ¬ v.int = 0 := by simpa using hi0
      cases ht0 : v.text.toList.isEmpty with
      | true =>
        by_cases hl0 : v.list.length = 0
        · have hl1 : ¬ (0 : Int) < v.list.length := by omega
          by_cases hf0 : v.fields.length = 0
          · have hf1 : ¬ (0 : Int) < v.fields.length := by omega
            have cV := HC.out.1
            cases ho : utf.okB v.text.data.toList with
            | false =>
              have H := Lib.hid (show fitsB v = false by simp [fitsB, *])
              rw [ho] at cV
              clear ho
              go_enter Tryd.func44, Tryd.ntmps44
              go_wp2_with fail
              refine (cV _).mono ?_
              rintro e w1 ⟨rfl, hb⟩
              go_wp2
              go_ret
              rw [H.out]
              exact ⟨rfl, (Hb.out _).trans (hb.mono (Hb.out _).size)⟩
            | true =>
              have H := Lib.hid (show fitsB v = keysB v.fields by simp [fitsB, *])
              rw [ho] at cV
              clear ho
              go_enter Tryd.func44, Tryd.ntmps44
              go_wp2_with fail
              refine (cV _).mono ?_
              rintro e w1 ⟨rfl, hb⟩
              have c4 := HC.out.2.2 _ _ _ rfl w1 hb
              have cK := HC.out.2.1 _ w1 hb
              rw [hf0] at cK
              clear cV
              go_wp2_with fail
              refine cK.mono ?_
              rintro e w2 ⟨rfl, hb2⟩
              go_wp2
              go_ret
              rw [H.out]
              exact ⟨rfl, (Hb.out _).trans ((hb.trans (hb2.mono hb.size)).mono (Hb.out _).size)⟩
          · have hf1 : (0 : Int) < v.fields.length := by omega
            have H := Lib.hid (show fitsB v = false by simp [fitsB, *])
            clear HC
            go_enter Tryd.func44, Tryd.ntmps44
            go_wp2
            go_ret
            rw [H.out]
            exact ⟨rfl, Hb.out _⟩
        · have hl1 : (0 : Int) < v.list.length := by omega
          have H := Lib.hid (show fitsB v = false by simp [fitsB, *])
          clear HC
          go_enter Tryd.func44, Tryd.ntmps44
          go_wp2
          go_ret
          rw [H.out]
          exact ⟨rfl, Hb.out _⟩
      | false =>
        have H := Lib.hid (show fitsB v = false by simp [fitsB, *])
        clear HC
        go_enter Tryd.func44, Tryd.ntmps44
        go_wp2
        go_ret
        rw [H.out]
        exact ⟨rfl, Hb.out _⟩
  by_cases hk3 : v.kind = 3
  · skip
    cases hi0 : (v.int == 0) with
    | true =>
      cases ht0 : v.text.toList.isEmpty with
      | true =>
        by_cases hl0 : v.list.length = 0
        · have hl1 : ¬ (0 : Int) < v.list.length := by omega
          by_cases hf0 : v.fields.length = 0
          · have hf1 : ¬ (0 : Int) < v.fields.length := by omega
            have cV := HC.out.1
            cases ho : utf.okB v.text.data.toList with
            | false =>
              have H := Lib.hid (show fitsB v = false by simp [fitsB, *])
              rw [ho] at cV
              clear ho
              go_enter Tryd.func44, Tryd.ntmps44
              go_wp2_with fail
              refine (cV _).mono ?_
              rintro e w1 ⟨rfl, hb⟩
              go_wp2
              go_ret
              rw [H.out]
              exact ⟨rfl, (Hb.out _).trans (hb.mono (Hb.out _).size)⟩
            | true =>
              have H := Lib.hid (show fitsB v = keysB v.fields by simp [fitsB, *])
              rw [ho] at cV
              clear ho
              go_enter Tryd.func44, Tryd.ntmps44
              go_wp2_with fail
              refine (cV _).mono ?_
              rintro e w1 ⟨rfl, hb⟩
              have c4 := HC.out.2.2 _ _ _ rfl w1 hb
              have cK := HC.out.2.1 _ w1 hb
              rw [hf0] at cK
              clear cV
              go_wp2_with fail
              refine cK.mono ?_
              rintro e w2 ⟨rfl, hb2⟩
              go_wp2
              go_ret
              rw [H.out]
              exact ⟨rfl, (Hb.out _).trans ((hb.trans (hb2.mono hb.size)).mono (Hb.out _).size)⟩
          · have hf1 : (0 : Int) < v.fields.length := by omega
            have H := Lib.hid (show fitsB v = false by simp [fitsB, *])
            clear HC
            go_enter Tryd.func44, Tryd.ntmps44
            go_wp2
            go_ret
            rw [H.out]
            exact ⟨rfl, Hb.out _⟩
        · have hl1 : (0 : Int) < v.list.length := by omega
          have H := Lib.hid (show fitsB v = false by simp [fitsB, *])
          clear HC
          go_enter Tryd.func44, Tryd.ntmps44
          go_wp2
          go_ret
          rw [H.out]
          exact ⟨rfl, Hb.out _⟩
      | false =>
        by_cases hl0 : v.list.length = 0
        · have hl1 : ¬ (0 : Int) < v.list.length := by omega
          by_cases hf0 : v.fields.length = 0
          · have hf1 : ¬ (0 : Int) < v.fields.length := by omega
            have cV := HC.out.1
            cases ho : utf.okB v.text.data.toList with
            | false =>
              have H := Lib.hid (show fitsB v = false by simp [fitsB, *])
              rw [ho] at cV
              clear ho
              go_enter Tryd.func44, Tryd.ntmps44
              go_wp2_with fail
              refine (cV _).mono ?_
              rintro e w1 ⟨rfl, hb⟩
              go_wp2
              go_ret
              rw [H.out]
              exact ⟨rfl, (Hb.out _).trans (hb.mono (Hb.out _).size)⟩
            | true =>
              have H := Lib.hid (show fitsB v = keysB v.fields by simp [fitsB, *])
              rw [ho] at cV
              clear ho
              go_enter Tryd.func44, Tryd.ntmps44
              go_wp2_with fail
              refine (cV _).mono ?_
              rintro e w1 ⟨rfl, hb⟩
              have c4 := HC.out.2.2 _ _ _ rfl w1 hb
              have cK := HC.out.2.1 _ w1 hb
              rw [hf0] at cK
              clear cV
              go_wp2_with fail
              refine cK.mono ?_
              rintro e w2 ⟨rfl, hb2⟩
              go_wp2
              go_ret
              rw [H.out]
              exact ⟨rfl, (Hb.out _).trans ((hb.trans (hb2.mono hb.size)).mono (Hb.out _).size)⟩
          · have hf1 : (0 : Int) < v.fields.length := by omega
            have H := Lib.hid (show fitsB v = false by simp [fitsB, *])
            clear HC
            go_enter Tryd.func44, Tryd.ntmps44
            go_wp2
            go_ret
            rw [H.out]
            exact ⟨rfl, Hb.out _⟩
        · have hl1 : (0 : Int) < v.list.length := by omega
          have H := Lib.hid (show fitsB v = false by simp [fitsB, *])
          clear HC
          go_enter Tryd.func44, Tryd.ntmps44
          go_wp2
          go_ret
          rw [H.out]
          exact ⟨rfl, Hb.out _⟩
    | false =>
      have hi9 : ¬ v.int = 0 := by simpa using hi0
      have H := Lib.hid (show fitsB v = false by simp [fitsB, *])
      clear HC
      go_enter Tryd.func44, Tryd.ntmps44
      go_wp2
      go_ret
      rw [H.out]
      exact ⟨rfl, Hb.out _⟩
  by_cases hk4 : v.kind = 4
  · skip
    cases hi0 : (v.int == 0) with
    | true =>
      cases ht0 : v.text.toList.isEmpty with
      | true =>
        by_cases hl0 : v.list.length = 0
        · have hl1 : ¬ (0 : Int) < v.list.length := by omega
          by_cases hf0 : v.fields.length = 0
          · have hf1 : ¬ (0 : Int) < v.fields.length := by omega
            have cV := HC.out.1
            cases ho : utf.okB v.text.data.toList with
            | false =>
              have H := Lib.hid (show fitsB v = false by simp [fitsB, *])
              rw [ho] at cV
              clear ho
              go_enter Tryd.func44, Tryd.ntmps44
              go_wp2_with fail
              refine (cV _).mono ?_
              rintro e w1 ⟨rfl, hb⟩
              go_wp2
              go_ret
              rw [H.out]
              exact ⟨rfl, (Hb.out _).trans (hb.mono (Hb.out _).size)⟩
            | true =>
              have H := Lib.hid (show fitsB v = keysB v.fields by simp [fitsB, *])
              rw [ho] at cV
              clear ho
              go_enter Tryd.func44, Tryd.ntmps44
              go_wp2_with fail
              refine (cV _).mono ?_
              rintro e w1 ⟨rfl, hb⟩
              have c4 := HC.out.2.2 _ _ _ rfl w1 hb
              have cK := HC.out.2.1 _ w1 hb
              rw [hf0] at cK
              clear cV
              go_wp2_with fail
              refine cK.mono ?_
              rintro e w2 ⟨rfl, hb2⟩
              go_wp2
              go_ret
              rw [H.out]
              exact ⟨rfl, (Hb.out _).trans ((hb.trans (hb2.mono hb.size)).mono (Hb.out _).size)⟩
          · have hf1 : (0 : Int) < v.fields.length := by omega
            have H := Lib.hid (show fitsB v = false by simp [fitsB, *])
            clear HC
            go_enter Tryd.func44, Tryd.ntmps44
            go_wp2
            go_ret
            rw [H.out]
            exact ⟨rfl, Hb.out _⟩
        · have hl1 : (0 : Int) < v.list.length := by omega
          by_cases hf0 : v.fields.length = 0
          · have hf1 : ¬ (0 : Int) < v.fields.length := by omega
            have cV := HC.out.1
            cases ho : utf.okB v.text.data.toList with
            | false =>
              have H := Lib.hid (show fitsB v = false by simp [fitsB, *])
              rw [ho] at cV
              clear ho
              go_enter Tryd.func44, Tryd.ntmps44
              go_wp2_with fail
              refine (cV _).mono ?_
              rintro e w1 ⟨rfl, hb⟩
              go_wp2
              go_ret
              rw [H.out]
              exact ⟨rfl, (Hb.out _).trans (hb.mono (Hb.out _).size)⟩
            | true =>
              have H := Lib.hid (show fitsB v = keysB v.fields by simp [fitsB, *])
              rw [ho] at cV
              clear ho
              go_enter Tryd.func44, Tryd.ntmps44
              go_wp2_with fail
              refine (cV _).mono ?_
              rintro e w1 ⟨rfl, hb⟩
              have c4 := HC.out.2.2 _ _ _ rfl w1 hb
              have cK := HC.out.2.1 _ w1 hb
              rw [hf0] at cK
              clear cV
              go_wp2_with fail
              refine cK.mono ?_
              rintro e w2 ⟨rfl, hb2⟩
              go_wp2
              go_ret
              rw [H.out]
              exact ⟨rfl, (Hb.out _).trans ((hb.trans (hb2.mono hb.size)).mono (Hb.out _).size)⟩
          · have hf1 : (0 : Int) < v.fields.length := by omega
            have H := Lib.hid (show fitsB v = false by simp [fitsB, *])
            clear HC
            go_enter Tryd.func44, Tryd.ntmps44
            go_wp2
            go_ret
            rw [H.out]
            exact ⟨rfl, Hb.out _⟩
      | false =>
        have H := Lib.hid (show fitsB v = false by simp [fitsB, *])
        clear HC
        go_enter Tryd.func44, Tryd.ntmps44
        go_wp2
        go_ret
        rw [H.out]
        exact ⟨rfl, Hb.out _⟩
    | false =>
      have hi9 : ¬ v.int = 0 := by simpa using hi0
      have H := Lib.hid (show fitsB v = false by simp [fitsB, *])
      clear HC
      go_enter Tryd.func44, Tryd.ntmps44
      go_wp2
      go_ret
      rw [H.out]
      exact ⟨rfl, Hb.out _⟩
  by_cases hk5 : v.kind = 5
  · skip
    cases hi0 : (v.int == 0) with
    | true =>
      cases ht0 : v.text.toList.isEmpty with
      | true =>
        by_cases hl0 : v.list.length = 0
        · have hl1 : ¬ (0 : Int) < v.list.length := by omega
          by_cases hf0 : v.fields.length = 0
          · have hf1 : ¬ (0 : Int) < v.fields.length := by omega
            have cV := HC.out.1
            cases ho : utf.okB v.text.data.toList with
            | false =>
              have H := Lib.hid (show fitsB v = false by simp [fitsB, *])
              rw [ho] at cV
              clear ho
              go_enter Tryd.func44, Tryd.ntmps44
              go_wp2_with fail
              refine (cV _).mono ?_
              rintro e w1 ⟨rfl, hb⟩
              go_wp2
              go_ret
              rw [H.out]
              exact ⟨rfl, (Hb.out _).trans (hb.mono (Hb.out _).size)⟩
            | true =>
              have H := Lib.hid (show fitsB v = keysB v.fields by simp [fitsB, *])
              rw [ho] at cV
              clear ho
              go_enter Tryd.func44, Tryd.ntmps44
              go_wp2_with fail
              refine (cV _).mono ?_
              rintro e w1 ⟨rfl, hb⟩
              have c4 := HC.out.2.2 _ _ _ rfl w1 hb
              have cK := HC.out.2.1 _ w1 hb
              rw [hf0] at cK
              clear cV
              go_wp2_with fail
              refine cK.mono ?_
              rintro e w2 ⟨rfl, hb2⟩
              go_wp2
              go_ret
              rw [H.out]
              exact ⟨rfl, (Hb.out _).trans ((hb.trans (hb2.mono hb.size)).mono (Hb.out _).size)⟩
          · have hf1 : (0 : Int) < v.fields.length := by omega
            have cV := HC.out.1
            cases ho : utf.okB v.text.data.toList with
            | false =>
              have H := Lib.hid (show fitsB v = false by simp [fitsB, *])
              rw [ho] at cV
              clear ho
              go_enter Tryd.func44, Tryd.ntmps44
              go_wp2_with fail
              refine (cV _).mono ?_
              rintro e w1 ⟨rfl, hb⟩
              go_wp2
              go_ret
              rw [H.out]
              exact ⟨rfl, (Hb.out _).trans (hb.mono (Hb.out _).size)⟩
            | true =>
              have H := Lib.hid (show fitsB v = keysB v.fields by simp [fitsB, *])
              rw [ho] at cV
              clear ho
              go_enter Tryd.func44, Tryd.ntmps44
              go_wp2_with fail
              refine (cV _).mono ?_
              rintro e w1 ⟨rfl, hb⟩
              have c4 := HC.out.2.2 _ _ _ rfl w1 hb
              have cK := HC.out.2.1 _ w1 hb
              clear cV
              go_wp2_with fail
              refine cK.mono ?_
              rintro e w2 ⟨rfl, hb2⟩
              go_wp2
              go_ret
              rw [H.out]
              exact ⟨rfl, (Hb.out _).trans ((hb.trans (hb2.mono hb.size)).mono (Hb.out _).size)⟩
        · have hl1 : (0 : Int) < v.list.length := by omega
          have H := Lib.hid (show fitsB v = false by simp [fitsB, *])
          clear HC
          go_enter Tryd.func44, Tryd.ntmps44
          go_wp2
          go_ret
          rw [H.out]
          exact ⟨rfl, Hb.out _⟩
      | false =>
        have H := Lib.hid (show fitsB v = false by simp [fitsB, *])
        clear HC
        go_enter Tryd.func44, Tryd.ntmps44
        go_wp2
        go_ret
        rw [H.out]
        exact ⟨rfl, Hb.out _⟩
    | false =>
      have hi9 : ¬ v.int = 0 := by simpa using hi0
      have H := Lib.hid (show fitsB v = false by simp [fitsB, *])
      clear HC
      go_enter Tryd.func44, Tryd.ntmps44
      go_wp2
      go_ret
      rw [H.out]
      exact ⟨rfl, Hb.out _⟩
  have hkf : (v.kind == 0) = false ∧ (v.kind == 1) = false ∧ (v.kind == 2) = false ∧ (v.kind == 3) = false ∧ (v.kind == 4) = false ∧ (v.kind == 5) = false := by simp [hk0, hk1, hk2, hk3, hk4, hk5]
  obtain ⟨f0, f1, f2, f3, f4, f5⟩ := hkf
  by_cases hlo : 0 ≤ v.kind
  · have d0 : decide (0 ≤ v.kind) = true := decide_eq_true hlo
    have hhi : 5 < v.kind := by omega
    have d1 : decide (v.kind ≤ 5) = false := decide_eq_false (by omega)
    clear hk0 hk1 hk2 hk3 hk4 hk5
    cases hi0 : (v.int == 0) with
    | true =>
      cases ht0 : v.text.toList.isEmpty with
      | true =>
        by_cases hl0 : v.list.length = 0
        · have hl1 : ¬ (0 : Int) < v.list.length := by omega
          by_cases hf0 : v.fields.length = 0
          · have hf1 : ¬ (0 : Int) < v.fields.length := by omega
            have H := Lib.hid (show fitsB v = false by simp [fitsB, *])
            clear HC
            go_enter Tryd.func44, Tryd.ntmps44
            go_wp2
            go_ret
            rw [H.out]
            exact ⟨rfl, Hb.out _⟩
          · have hf1 : (0 : Int) < v.fields.length := by omega
            have H := Lib.hid (show fitsB v = false by simp [fitsB, *])
            clear HC
            go_enter Tryd.func44, Tryd.ntmps44
            go_wp2
            go_ret
            rw [H.out]
            exact ⟨rfl, Hb.out _⟩
        · have hl1 : (0 : Int) < v.list.length := by omega
          have H := Lib.hid (show fitsB v = false by simp [fitsB, *])
          clear HC
          go_enter Tryd.func44, Tryd.ntmps44
          go_wp2
          go_ret
          rw [H.out]
          exact ⟨rfl, Hb.out _⟩
      | false =>
        have H := Lib.hid (show fitsB v = false by simp [fitsB, *])
        clear HC
        go_enter Tryd.func44, Tryd.ntmps44
        go_wp2
        go_ret
        rw [H.out]
        exact ⟨rfl, Hb.out _⟩
    | false =>
      have hi9 : ¬ v.int = 0 := by simpa using hi0
      have H := Lib.hid (show fitsB v = false by simp [fitsB, *])
      clear HC
      go_enter Tryd.func44, Tryd.ntmps44
      go_wp2
      go_ret
      rw [H.out]
      exact ⟨rfl, Hb.out _⟩
  · have d0 : decide (0 ≤ v.kind) = false := decide_eq_false hlo
    clear hk0 hk1 hk2 hk3 hk4 hk5
    cases hi0 : (v.int == 0) with
    | true =>
      cases ht0 : v.text.toList.isEmpty with
      | true =>
        by_cases hl0 : v.list.length = 0
        · have hl1 : ¬ (0 : Int) < v.list.length := by omega
          by_cases hf0 : v.fields.length = 0
          · have hf1 : ¬ (0 : Int) < v.fields.length := by omega
            have H := Lib.hid (show fitsB v = false by simp [fitsB, *])
            clear HC
            go_enter Tryd.func44, Tryd.ntmps44
            go_wp2
            go_ret
            rw [H.out]
            exact ⟨rfl, Hb.out _⟩
          · have hf1 : (0 : Int) < v.fields.length := by omega
            have H := Lib.hid (show fitsB v = false by simp [fitsB, *])
            clear HC
            go_enter Tryd.func44, Tryd.ntmps44
            go_wp2
            go_ret
            rw [H.out]
            exact ⟨rfl, Hb.out _⟩
        · have hl1 : (0 : Int) < v.list.length := by omega
          have H := Lib.hid (show fitsB v = false by simp [fitsB, *])
          clear HC
          go_enter Tryd.func44, Tryd.ntmps44
          go_wp2
          go_ret
          rw [H.out]
          exact ⟨rfl, Hb.out _⟩
      | false =>
        have H := Lib.hid (show fitsB v = false by simp [fitsB, *])
        clear HC
        go_enter Tryd.func44, Tryd.ntmps44
        go_wp2
        go_ret
        rw [H.out]
        exact ⟨rfl, Hb.out _⟩
    | false =>
      have hi9 : ¬ v.int = 0 := by simpa using hi0
      have H := Lib.hid (show fitsB v = false by simp [fitsB, *])
      clear HC
      go_enter Tryd.func44, Tryd.ntmps44
      go_wp2
      go_ret
      rw [H.out]
      exact ⟨rfl, Hb.out _⟩
end Go.Proofs.YteocenjneoclbaaDoor.tre
namespace Go.Proofs.YteocenjneoclbaaDoor.tre
open Go.RowKit Go.Shelf

/-- The texts and keys in a value are at most 1000 bytes long. -/
def smallV : V → Bool := V.fold fun v a b => decide (v.text.size ≤ 1000) && a.all id && b.all fun g => decide (g.1.size ≤ 1000) && g.2
theorem smallV_eq (v : V) : smallV v = true ↔ v.text.size ≤ 1000 ∧ (∀ x ∈ v.list, smallV x = true) ∧ ∀ g ∈ v.fields, g.1.size ≤ 1000 ∧ smallV g.2 = true := by
  unfold smallV; rw [V.fold_eq]; simp [and_assoc]
/-- The state: how many were seen; how small all are that are handed over. -/
def chkN (s : Int) (v : V) (_ : ByteArray) (d : Int) : Bool × Int := (decide (wrap64 (s + 1) ≤ 2000) && decide (d < 12) && fitsB v, wrap64 (s + 1))
def ChkInv (B : Nat) (T : TypeId) (s : Int) (W : World) : Prop := Cell1 B T s W ∧ utf.Tab W ∧ B ≠ 1
theorem vst_chk (B : Nat) (T : TypeId) : Vst (ChkInv B T) (Own1 B) :=
  ⟨fun s w w' h hb => ⟨(vst1 B T).stab s w w' h.1 hb, h.2.1.self hb, h.2.2⟩, fun s w b h hb => (vst1 B T).lt s w b h.1 hb, fun _ _ _ _ _ _ h => h⟩

theorem small_her : ∀ v, smallV v = true → (∀ x ∈ v.list, smallV x = true) ∧ ∀ g ∈ v.fields, smallV g.2 = true := fun v h => ⟨((smallV_eq v).1 h).2.1, fun g hg => (((smallV_eq v).1 h).2.2 g hg).2⟩
theorem chk_step {B : Nat} {T : TypeId} {s : Int} {W : World} (h : ChkInv B T s W) (s' : Int) (o : Obj) : Step (ChkInv B T) (Own1 B) s W s' ((W.setCell ⟨B, 0, none⟩ (.int .i64 s')).alloc o) := by
  have hs := cell1_step h.1 s' o
  refine ⟨⟨hs.inv, ?_, h.2.2⟩, hs.gives, hs.keeps⟩
  obtain ⟨t, fr, ht⟩ := h.2.1
  exact ⟨t, fr, (hs.keeps.block _ (Array.getElem?_eq_some_iff.1 ht).1 (fun e => h.2.2 (show 1 = B from e).symm)).trans ht⟩

set_option maxRecDepth 100000 in
set_option maxHeartbeats 1000000 in
theorem visits_chk (N B : Nat) (T : TypeId) : Visits (fun v => smallV v = true) (fun _ => 0) N (ChkInv B T) (Own1 B) 43 #[.pointer (some ⟨B, 0, none⟩)] chkN := by
  refine ⟨enters_of Tryd.func43 (by kernel_rfl) rfl, fun _ _ _ _ => Nat.zero_le _, fun v key d S s W r t hok _ _ _ hi hS hh => ?_⟩
  have hl := (Array.getElem?_eq_some_iff.1 hi.1).1
  have c0 : W.cell? ⟨B, 0, none⟩ = some (.int .i64 s) := by rw [blk_cell hi.1]; rfl
  have f0 := blk_frozen hi.1 0
  have hst := chk_step hi (wrap64 (s + 1))
  obtain ⟨ht, _, hf⟩ := (smallV_eq v).1 hok
  have hcall := fun o => fits_any v (Nat.le_trans ht (by decide)) (fun x hx => Nat.le_trans (hf x hx).1 (by decide)) S ((W.setCell ⟨B, 0, none⟩ (.int .i64 (wrap64 (s + 1)))).alloc o) r t (fun g hg => ((hst o).free hS).1 g hg |>.1) (hh.map ((hst o).free hS).2) (hst o).inv.2.1
  have Hst := Lib.hid hst
  clear hi hst hh hS hok ht hf
  by_cases h1 : wrap64 (s + 1) ≤ 2000
  · have d1 : decide (wrap64 (s + 1) ≤ 2000) = true := decide_eq_true h1
    by_cases h2 : d < 12
    · have d2 : decide (d < 12) = true := decide_eq_true h2
      have H := Lib.hid (show chkN s v key d = (fitsB v, wrap64 (s + 1)) by unfold chkN; rw [d1, d2]; rfl)
      go_enter Tryd.func43, Tryd.ntmps43
      go_wp2_with fail
      refine (hcall _).mono ?_
      rintro e w1 ⟨rfl, hb⟩
      go_wp2
      go_ret
      rw [H.out]
      exact ⟨rfl, (Hst.out _).trans (Step.below (vst_chk B T) (Hst.out _).inv hb)⟩
    · have d2 : decide (d < 12) = false := decide_eq_false h2
      have H := Lib.hid (show chkN s v key d = (false, wrap64 (s + 1)) by unfold chkN; rw [d1, d2]; rfl)
      clear hcall
      go_enter Tryd.func43, Tryd.ntmps43
      go_wp2
      go_ret
      rw [H.out]
      exact ⟨rfl, Hst.out _⟩
  · have d1 : decide (wrap64 (s + 1) ≤ 2000) = false := decide_eq_false h1
    have H := Lib.hid (show chkN s v key d = (false, wrap64 (s + 1)) by unfold chkN; rw [d1]; rfl)
    clear hcall
    go_enter Tryd.func43, Tryd.ntmps43
    go_wp2
    go_ret
    rw [H.out]
    exact ⟨rfl, Hst.out _⟩

/-- What Check answers, as it goes. -/
def checkW (v : V) : Bool := (walkS chkN v ⟨#[]⟩ 0 0).1
/-- Check. -/
theorem Check_any (v : V) (hok : smallV v = true) (hv : depthV v < 4611686018427387904) (S : Nat → Prop) (W : World) (r t : Sl) (hS : ∀ g, S g → g < W.heap.size) (hh : HV S W v r t) (hT : utf.Tab W) :
    Calls Tryd.prog 14 #[.agg #[.int .i64 v.kind, .int .i64 v.int, .string v.text, .slice r.a r.n r.c, .slice t.a t.n t.c]] W fun e w' => e = .returned (.bool (checkW v)) ∧ Below W.heap.size W w' := by
  have hb2 : ∀ o1 o2, Below W.heap.size W ((W.alloc o1).alloc o2) := fun o1 o2 => ((Below.refl _ _).alloc (Nat.le_refl _) o1).alloc (by rw [size_alloc]; omega) o2
  have hcall := fun o1 T => walk_any small_her (s := 0) (vst_chk (W.heap.size + 1) T) (visits_chk (countV v) (W.heap.size + 1) T) v hok (Nat.le_of_eq (Nat.zero_add _)) hv S ((W.alloc o1).alloc (.cells #[.int .i64 0] T)) r t
    ⟨by have := block_new (W.alloc o1) (.cells #[.int .i64 0] T); rwa [size_alloc] at this, hT.self (hb2 _ _), by have := hT.pos; omega⟩
    (fun g hg => ⟨Nat.lt_of_lt_of_le (hS g hg) (hb2 _ _).size, fun e => by have := hS g hg; obtain rfl : g = W.heap.size + 1 := e; omega⟩) (hh.later (hb2 _ _))
  have Hb := Lib.hid hb2
  clear hh hS hb2 hv hok hT
  go_enter Tryd.func14, Tryd.ntmps14
  go_wp2_with fail
  refine (hcall _ _).mono ?_
  rintro e w1 ⟨rfl, hs1⟩
  go_wp2
  go_ret
  exact ⟨rfl, (Hb.out _ _).trans (hs1.keeps.below (fun k hk => by obtain rfl : k = W.heap.size + 1 := hk; omega) (Hb.out _ _).size)⟩
end Go.Proofs.YteocenjneoclbaaDoor.tre

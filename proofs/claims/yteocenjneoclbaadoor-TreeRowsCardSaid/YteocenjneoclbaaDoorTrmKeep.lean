/- Layer 4: append behind a value's own row: the value is as it was. -/
import Derived.Test.YteocenjneoclbaaDoorTrmSt
namespace Go.Proofs.YteocenjneoclbaaDoor.tre
open Go.RowKit Go.Shelf

theorem ownsRow_room {B : Nat} {e : TypeId} {size g n cap : Nat} {cur : Array Value} {xs news : List Value} (hbg : B ≤ g) (hnc : n ≤ cap) (hcm : cap ≤ maxLen) (hcs : cur.size = cap * size) (htake : cur.toList.take (n * size) = xs) (hxl : xs.length = n * size)
    (hfit : n * size + news.length ≤ cur.size) (w' : World) (hw : w'.heap[g]? = some (.cells (cur.toList.take (n * size) ++ news ++ cur.toList.drop (n * size + news.length)).toArray e (0, 0))) : w'.ownsRow B e size (.slice (some ⟨g, 0, none⟩) n cap) n xs := by
  refine ⟨hxl, .inr ⟨g, cap, _, rfl, hbg, hw, hnc, hcm, ?_, ?_⟩⟩
  · simp only [List.size_toArray, List.length_append, List.length_take, List.length_drop, Array.length_toList]
    omega
  · show List.take _ (cur.toList.take (n * size) ++ news ++ cur.toList.drop (n * size + news.length)) = xs
    rw [htake, List.append_assoc, ← hxl]
    exact List.take_left
/-- append onto a row of one's own: what was told of the row holds still. -/
theorem run_keep {P : Program} (w : World) (base : Nat) (t ty e : TypeId) (i : TypeInfo) (z : Value) (size bytes : Nat) (ht : P.underlying t = some (.slice e)) (hi : P.info? e = some i) (hz : i.zero = some z)
    (hsize : i.size = size) (hby : i.bytes = bytes) (hzs : z.cells.size = size) (hsz : 0 < size)
    (v : Value) (n : Nat) (xs : List Value) (hown : w.ownsRow base e size v n xs)
    (a : Addr) (m c : Nat) (news : List Value) (hl : news.length = m * size) (hnews : ∀ j u, news[j]? = some u → w.cell? (a.add j) = some u) (h1 : ∀ u ∈ news, u.oneCell' = true)
    (h63 : n + m ≤ maxLen) (hbytes : (n + m) * bytes ≤ 140737488355328) (hbase : base ≤ w.heap.size) :
    ∃ v' w', (Builtin.append_ #[t, t] ty #[v, .slice (some a) m c]).run P w = .ok v' w' ∧ w'.ownsRow base e size v' (n + m) (xs ++ news) ∧ w'.ownsRow base e size v n xs ∧ w.grownBy w' v.ownBlock ∧
      (v'.ownBlock = v.ownBlock ∨ v'.ownBlock = some w.heap.size) := by
  obtain ⟨v', w', hr, h2, h3, -, h5⟩ := run_append_own_at (P := P) w base t ty e i z size bytes ht hi hz hsize hby hzs hsz v n xs hown a m c news hl hnews h1 h63 hbytes hbase
  refine ⟨v', w', hr, h2, ?_, h3, h5⟩
  have hsmall : n + m ≤ 9223372036854775807 := by simp only [maxLen] at h63; omega
  subst hsize
  subst hby
  have hown2 := hown
  rcases hown.2 with h0 | ⟨g, cap, cur, rfl, hbg, hg, hnc, hcm, hcs, htake⟩
  · exact ⟨hown.1, .inl h0⟩
  · by_cases hroom : n + m ≤ cap
    · have hfit : n * i.size + news.length ≤ cur.size := by rw [hl, hcs, ← Nat.add_mul]; exact Nat.mul_le_mul_right _ hroom
      have hr2 := run_append_room (P := P) w t ty e i ht hi g n cap cur hg a m c news hl hnews h1 hroom hfit
      rw [hr2] at hr
      injection hr with e1 e2
      rw [← e2]
      exact ownsRow_room hbg hnc hcm hcs htake hown.1 hfit _ (setRow_heap w g cur _ e _ hg)
    · have holds : ∀ j u, xs[j]? = some u → w.cell? ((⟨g, 0, none⟩ : Addr).add j) = some u := hown2.cells (g := g) rfl
      have hr2 := run_append_grow (P := P) w t ty e i z ht hi hz ⟨g, 0, none⟩ n cap xs hown.1 holds a m c news hl hnews (by omega) (by omega) (growslice_fits (by omega) hbytes)
      rw [hr2] at hr
      injection hr with e1 e2
      rw [← e2]
      exact ⟨hown.1, .inr ⟨g, cap, cur, rfl, hbg, (block_old (w := w.drew) (Array.getElem?_eq_some_iff.1 hg).1).trans hg, hnc, hcm, hcs, htake⟩⟩
theorem wpList_keep {P : Program} {w : World} {ops : Array Oper} {rest : List Oper} {o : Oper} {a : Act} {Q : Exit → Act → World → Prop} (hgd : o.guard = none) (s x : Operand) (t : TypeId)
    (ho : o.op = .call { callee := .builtin .append, args := #[s, x], argTypes := #[t, t] })
    (base : Nat) (e : TypeId) (i : TypeInfo) (z : Value) (size bytes : Nat) (ht : P.underlying t = some (.slice e)) (hi : P.info? e = some i) (hz : i.zero = some z)
    (hsize : i.size = size) (hby : i.bytes = bytes) (hzs : z.cells.size = size) (hsz : 0 < size)
    (v : Value) (n : Nat) (xs : List Value) (hs : a.eval s = v) (hown : w.ownsRow base e size v n xs)
    (ad : Addr) (m c : Nat) (news : List Value) (hx : a.eval x = .slice (some ad) m c) (hl : news.length = m * size) (hnews : ∀ j u, news[j]? = some u → w.cell? (ad.add j) = some u) (h1 : ∀ u ∈ news, u.oneCell' = true)
    (h63 : n + m ≤ maxLen) (hbytes : (n + m) * bytes ≤ 140737488355328) (hbase : base ≤ w.heap.size)
    (h : ∀ v' w', w'.ownsRow base e size v' (n + m) (xs ++ news) → w'.ownsRow base e size v n xs → w.grownBy w' v.ownBlock → (v'.ownBlock = v.ownBlock ∨ v'.ownBlock = some w.heap.size) → wpList P ops Q rest (a.put o.dst v') w') :
    wpList P ops Q (o :: rest) a w := by
  refine wpList_plain hgd fun K hK => ?_
  obtain ⟨v', w', hr, h2, h3, h4, h5⟩ := run_keep (P := P) w base t o.type e i z size bytes ht hi hz hsize hby hzs hsz v n xs hown ad m c news hl hnews h1 h63 hbytes hbase
  unfold Oper.wp execOp
  simp only [ho, resolve, invoke, builtin, Sem.run_bind, Sem.run_pure, Result.andThen_ok, List.map_toArray, List.map_cons, List.map_nil, hs, hx, hr]
  exact hK _ _ (h v' w' h2 h3 h4 h5)

/-- A row that is owned again, of which the last ones lie as they are told. -/
theorem rowC_of {S : Nat → Prop} {w : World} {e : TypeId} {size n : Nat} {p : Sl} {xss : List (List Value)} (h1 : xss.length = n) (h2 : ∀ xs ∈ xss, xs.length = size) (h3 : w.ownsRow 0 e size p.val n xss.flatten) (hS : ∀ g, p.val.ownBlock = some g → g < w.heap.size → S g) : RowC S w e size n p xss :=
  ⟨h1, h2, h3, fun g hg => hS g hg (h3.lt g hg).2⟩
theorem own_keep {w w' : World} {B : Nat} {e : TypeId} {size : Nat} {v : Value} {n : Nat} {xs : List Value} (h : w.ownsRow B e size v n xs) (hk : ∀ g, v.ownBlock = some g → w'.heap[g]? = w.heap[g]?) : w'.ownsRow B e size v n xs := by
  refine ⟨h.1, ?_⟩
  rcases h.2 with h0 | ⟨g, cap, cur, hv, hb, hg, r⟩
  · exact .inl h0
  · exact .inr ⟨g, cap, cur, hv, hb, (hk g (by rw [hv]; rfl)).trans hg, r⟩
theorem keepList {B : Nat} {w w' : World} {v : V} {p q p' : Sl} {xss zss : List (List Value)} (h : MV B w v p q xss zss) (hs : w.heap.size ≤ w'.heap.size) (hg : ∀ k, k < w.heap.size → p.val.ownBlock ≠ some k → w'.heap[k]? = w.heap[k]?) (hk : w'.ownsRow 0 27 5 p.val v.list.length xss.flatten)
    (hn : w'.ownsRow 0 27 5 p'.val (v.list.length + 1) (xss.flatten ++ cellsV v p q)) : HV (fun g => g < w'.heap.size) w' v p q ∧ HV (fun g => g < w'.heap.size) w' (addL v v) p' q := by
  obtain ⟨h1, h2, h3, h4, h5⟩ := h
  have hmap : ∀ k, (B ≤ k ∧ p.val.ownBlock ≠ some k ∧ q.val.ownBlock ≠ some k) → k < w.heap.size → k < w'.heap.size ∧ w'.heap[k]? = w.heap[k]? := fun k hk hl => ⟨Nat.lt_of_lt_of_le hl hs, hg k hl hk.2.1⟩
  have hp := rowC_of (S := fun g => g < w'.heap.size) (p := p) h1.1 h1.2.1 hk (fun g _ hl => hl)
  have hq : RowC (fun g => g < w'.heap.size) w' 31 6 v.fields.length q zss := by
    have hq2 := h2.keep (w' := w') (fun g hgo hl => hg g hl (fun e => h3 g e hgo))
    exact ⟨hq2.1, hq2.2.1, hq2.2.2.1, fun g hgo => (hq2.2.2.1.lt g hgo).2⟩
  have hl : AllZ (Lies (fun g => g < w'.heap.size) w') v.list xss := fun i y cs hy hc => Lies.map hmap y cs (h4 i y cs hy hc)
  have hf : AllZ (fun (g : ByteArray × V) xs => ∃ ys, xs = .string g.1 :: ys ∧ Lies (fun g => g < w'.heap.size) w' g.2 ys) v.fields zss := fun i y cs hy hc => by
    obtain ⟨ys, e, hl⟩ := h5 i y cs hy hc
    exact ⟨ys, e, Lies.map hmap _ _ hl⟩
  have hv : HV (fun g => g < w'.heap.size) w' v p q := ⟨⟨xss, hp, hl⟩, zss, hq, hf⟩
  refine ⟨hv, ⟨xss ++ [cellsV v p q], rowC_of (by show _ = (v.list ++ [v]).length; simp [h1.1]) (fun xs hxs => ?_) ?_ (fun g _ hl => hl), allZ_snoc h1.1 hl hv.lies⟩, zss, hq, hf⟩
  · rcases List.mem_append.1 hxs with hxs | hxs
    · exact h1.2.1 xs hxs
    · rw [List.mem_singleton] at hxs; rw [hxs]; rfl
  · show World.ownsRow _ _ _ _ _ (v.list ++ [v]).length _
    rw [List.length_append, List.length_singleton, List.flatten_append, List.flatten_singleton]
    exact hn
theorem keepField {B : Nat} {w w' : World} {v x : V} {k : ByteArray} {p q q' px qx : Sl} {xss zss : List (List Value)} (h : MV B w v p q xss zss) (hs : w.heap.size ≤ w'.heap.size) (hg : ∀ k, k < w.heap.size → q.val.ownBlock ≠ some k → w'.heap[k]? = w.heap[k]?) (hk : w'.ownsRow 0 31 6 q.val v.fields.length zss.flatten)
    (hx : HV (fun g => g < w'.heap.size) w' v p q → HV (fun g => g < w'.heap.size) w' x px qx)
    (hn : w'.ownsRow 0 31 6 q'.val (v.fields.length + 1) (zss.flatten ++ cellsF (k, x) px qx)) : HV (fun g => g < w'.heap.size) w' v p q ∧ HV (fun g => g < w'.heap.size) w' (addF v k x) p q' := by
  obtain ⟨h1, h2, h3, h4, h5⟩ := h
  have hmap : ∀ k, (B ≤ k ∧ p.val.ownBlock ≠ some k ∧ q.val.ownBlock ≠ some k) → k < w.heap.size → k < w'.heap.size ∧ w'.heap[k]? = w.heap[k]? := fun k hk hl => ⟨Nat.lt_of_lt_of_le hl hs, hg k hl hk.2.2⟩
  have hq := rowC_of (S := fun g => g < w'.heap.size) (p := q) h2.1 h2.2.1 hk (fun g _ hl => hl)
  have hp : RowC (fun g => g < w'.heap.size) w' 27 5 v.list.length p xss := by
    have hp2 := h1.keep (w' := w') (fun g hgo hl => hg g hl (fun e => h3 g hgo e))
    exact ⟨hp2.1, hp2.2.1, hp2.2.2.1, fun g hgo => (hp2.2.2.1.lt g hgo).2⟩
  have hl : AllZ (Lies (fun g => g < w'.heap.size) w') v.list xss := fun i y cs hy hc => Lies.map hmap y cs (h4 i y cs hy hc)
  have hf : AllZ (fun (g : ByteArray × V) xs => ∃ ys, xs = .string g.1 :: ys ∧ Lies (fun g => g < w'.heap.size) w' g.2 ys) v.fields zss := fun i y cs hy hc => by
    obtain ⟨ys, e, hl⟩ := h5 i y cs hy hc
    exact ⟨ys, e, Lies.map hmap _ _ hl⟩
  have hv : HV (fun g => g < w'.heap.size) w' v p q := ⟨⟨xss, hp, hl⟩, zss, hq, hf⟩
  refine ⟨hv, ⟨xss, hp, hl⟩, zss ++ [cellsF (k, x) px qx], rowC_of (by show _ = (v.fields ++ [(k, x)]).length; simp [h2.1]) (fun xs hxs => ?_) ?_ (fun g _ hl => hl), allZ_snoc h2.1 hf ⟨_, rfl, (hx hv).lies⟩⟩
  · rcases List.mem_append.1 hxs with hxs | hxs
    · exact h2.2.1 xs hxs
    · rw [List.mem_singleton] at hxs; rw [hxs]; rfl
  · show World.ownsRow _ _ _ _ _ (v.fields ++ [(k, x)]).length _
    rw [List.length_append, List.length_singleton, List.flatten_append, List.flatten_singleton]
    exact hn
theorem keepFields {B : Nat} {w w' : World} {v x y : V} {k l : ByteArray} {p q q' px qx py qy : Sl} {xss zss : List (List Value)} (h : MV B w v p q xss zss) (hs : w.heap.size ≤ w'.heap.size) (hg : ∀ k, k < w.heap.size → q.val.ownBlock ≠ some k → w'.heap[k]? = w.heap[k]?) (hk : w'.ownsRow 0 31 6 q.val v.fields.length zss.flatten)
    (hx : HV (fun g => g < w'.heap.size) w' v p q → HV (fun g => g < w'.heap.size) w' x px qx) (hy : HV (fun g => g < w'.heap.size) w' y py qy)
    (hn : w'.ownsRow 0 31 6 q'.val (v.fields.length + 2) (zss.flatten ++ (cellsF (k, x) px qx ++ cellsF (l, y) py qy))) : HV (fun g => g < w'.heap.size) w' v p q ∧ HV (fun g => g < w'.heap.size) w' (addF (addF v k x) l y) p q' := by
  obtain ⟨h1, h2, h3, h4, h5⟩ := h
  have hmap : ∀ k, (B ≤ k ∧ p.val.ownBlock ≠ some k ∧ q.val.ownBlock ≠ some k) → k < w.heap.size → k < w'.heap.size ∧ w'.heap[k]? = w.heap[k]? := fun k hk hl => ⟨Nat.lt_of_lt_of_le hl hs, hg k hl hk.2.2⟩
  have hq := rowC_of (S := fun g => g < w'.heap.size) (p := q) h2.1 h2.2.1 hk (fun g _ hl => hl)
  have hp : RowC (fun g => g < w'.heap.size) w' 27 5 v.list.length p xss := by
    have hp2 := h1.keep (w' := w') (fun g hgo hl => hg g hl (fun e => h3 g hgo e))
    exact ⟨hp2.1, hp2.2.1, hp2.2.2.1, fun g hgo => (hp2.2.2.1.lt g hgo).2⟩
  have hl : AllZ (Lies (fun g => g < w'.heap.size) w') v.list xss := fun i y cs hy hc => Lies.map hmap y cs (h4 i y cs hy hc)
  have hf : AllZ (fun (g : ByteArray × V) xs => ∃ ys, xs = .string g.1 :: ys ∧ Lies (fun g => g < w'.heap.size) w' g.2 ys) v.fields zss := fun i y cs hy hc => by
    obtain ⟨ys, e, hl⟩ := h5 i y cs hy hc
    exact ⟨ys, e, Lies.map hmap _ _ hl⟩
  have hv : HV (fun g => g < w'.heap.size) w' v p q := ⟨⟨xss, hp, hl⟩, zss, hq, hf⟩
  refine ⟨hv, ⟨xss, hp, hl⟩, (zss ++ [cellsF (k, x) px qx]) ++ [cellsF (l, y) py qy], rowC_of (by show _ = ((v.fields ++ [(k, x)]) ++ [(l, y)]).length; simp [h2.1]) (fun xs hxs => ?_) ?_ (fun g _ hl => hl), allZ_snoc (l := v.fields ++ [(k, x)]) (by simp [h2.1]) (allZ_snoc h2.1 hf ⟨_, rfl, (hx hv).lies⟩) ⟨_, rfl, hy.lies⟩⟩
  · rcases List.mem_append.1 hxs with hxs | hxs
    · rcases List.mem_append.1 hxs with hxs | hxs
      · exact h2.2.1 xs hxs
      · rw [List.mem_singleton] at hxs; rw [hxs]; rfl
    · rw [List.mem_singleton] at hxs; rw [hxs]; rfl
  · show World.ownsRow _ _ _ _ _ ((v.fields ++ [(k, x)]) ++ [(l, y)]).length _
    rw [List.length_append, List.length_append, List.length_singleton, List.length_singleton, List.flatten_append, List.flatten_append, List.flatten_singleton, List.flatten_singleton, List.append_assoc]
    exact hn
/-- Small in all its parts, and in how many they are. -/
def Few (v : V) : Prop := smallV v = true ∧ countV v ≤ 100000
theorem sumN_append : ∀ (l m : List Nat), sumN (l ++ m) = sumN l + sumN m
  | [], m => by simp [sumN]
  | x :: l, m => by rw [List.cons_append, sumN, sumN, sumN_append l m]; omega
theorem countL (v x : V) : countV (addL v x) = countV v + countV x := by
  rw [countV_eq, countV_eq v]
  show sumN ((v.list ++ [x]).map countV) + sumN (v.fields.map fun g => countV g.2) + 1 = _
  rw [List.map_append, sumN_append]
  show sumN (v.list.map countV) + (countV x + 0) + _ + 1 = _
  omega
theorem countF (v : V) (k : ByteArray) (x : V) : countV (addF v k x) = countV v + countV x := by
  rw [countV_eq, countV_eq v]
  show sumN (v.list.map countV) + sumN ((v.fields ++ [(k, x)]).map fun g => countV g.2) + 1 = _
  rw [List.map_append, sumN_append]
  show sumN (v.list.map countV) + (sumN (v.fields.map fun g => countV g.2) + (countV x + 0)) + 1 = _
  omega
theorem smallL {v x : V} (hv : smallV v = true) (hx : smallV x = true) : smallV (addL v x) = true := by
  obtain ⟨h1, h2, h3⟩ := (smallV_eq v).1 hv
  refine (smallV_eq _).2 ⟨h1, fun y hy => ?_, h3⟩
  rcases List.mem_append.1 (show y ∈ v.list ++ [x] from hy) with h | h
  · exact h2 y h
  · rw [List.mem_singleton] at h; rw [h]; exact hx
theorem smallF {v x : V} {k : ByteArray} (hv : smallV v = true) (hk : k.size ≤ 1000) (hx : smallV x = true) : smallV (addF v k x) = true := by
  obtain ⟨h1, h2, h3⟩ := (smallV_eq v).1 hv
  refine (smallV_eq _).2 ⟨h1, h2, fun y hy => ?_⟩
  rcases List.mem_append.1 (show y ∈ v.fields ++ [(k, x)] from hy) with h | h
  · exact h3 y h
  · rw [List.mem_singleton] at h; rw [h]; exact ⟨hk, hx⟩
theorem few_same {v : V} (hv : Few v) (k i : Int) (t : ByteArray) (ht : t.size ≤ 1000) : Few (.mk k i t v.list v.fields) := by
  obtain ⟨h1, h2⟩ := hv
  obtain ⟨-, h4, h5⟩ := (smallV_eq v).1 h1
  refine ⟨(smallV_eq _).2 ⟨ht, h4, h5⟩, ?_⟩
  rw [countV_eq] at h2 ⊢
  exact h2
/-- The law's two variables: both hold v. -/
structure RZ (W w2 wz : World) (v : V) (pv qv : Sl) : Prop where
  old : W.heap.size ≤ w2.heap.size
  size : wz.heap.size = w2.heap.size + 2
  low : Below W.heap.size W wz
  bv : wz.heap[w2.heap.size]? = some (.cells #[.int .i64 v.kind, .int .i64 v.int, .string v.text, .slice pv.a pv.n pv.c, .slice qv.a qv.n qv.c] 27 (0, 0))
  bw : wz.heap[w2.heap.size + 1]? = some (.cells #[.int .i64 v.kind, .int .i64 v.int, .string v.text, .slice pv.a pv.n pv.c, .slice qv.a qv.n qv.c] 27 (0, 0))
  keep : ∀ k, k < w2.heap.size → wz.heap[k]? = w2.heap[k]?
theorem RZ.new {W w2 : World} {v : V} {pv qv : Sl} (h : Below W.heap.size W w2) : RZ W w2 ((w2.alloc (.cells #[.int .i64 v.kind, .int .i64 v.int, .string v.text, .slice pv.a pv.n pv.c, .slice qv.a qv.n qv.c] 27)).alloc (.cells #[.int .i64 v.kind, .int .i64 v.int, .string v.text, .slice pv.a pv.n pv.c, .slice qv.a qv.n qv.c] 27)) v pv qv := by
  have hn := block_new2 w2 (.cells #[.int .i64 v.kind, .int .i64 v.int, .string v.text, .slice pv.a pv.n pv.c, .slice qv.a qv.n qv.c] 27) (.cells #[.int .i64 v.kind, .int .i64 v.int, .string v.text, .slice pv.a pv.n pv.c, .slice qv.a qv.n qv.c] 27)
  exact ⟨h.size, by rw [size_alloc, size_alloc], (h.alloc h.size _).alloc (by rw [size_alloc]; have := h.size; omega) _, hn.1, hn.2, fun k hk => (block_old (by rw [size_alloc]; omega)).trans (block_old hk)⟩
theorem RZ.set {W w2 wz : World} {v u : V} {pv qv : Sl} (h : RZ W w2 wz v pv qv) (hv : HV (fun g => g < w2.heap.size) w2 v pv qv) (j : Nat) (x : Value)
    (hu : (#[.int .i64 v.kind, .int .i64 v.int, .string v.text, .slice pv.a pv.n pv.c, .slice qv.a qv.n qv.c] : Array Value).setIfInBounds j x = #[.int .i64 u.kind, .int .i64 u.int, .string u.text, .slice pv.a pv.n pv.c, .slice qv.a qv.n qv.c]) (hl : u.list = v.list) (hf : u.fields = v.fields) : St W (wz.setCell ⟨w2.heap.size + 1, j, none⟩ x) w2.heap.size (w2.heap.size + 1) v u pv qv pv qv := by
  have hz : wz.heap.size = (wz.setCell ⟨w2.heap.size + 1, j, none⟩ x).heap.size := by simp [World.setCell]
  have hv2 : HV (fun g => g < (wz.setCell ⟨w2.heap.size + 1, j, none⟩ x).heap.size) (wz.setCell ⟨w2.heap.size + 1, j, none⟩ x) v pv qv := hv.map (fun k hk _ => ⟨by rw [← hz, h.size]; omega, (blk_far (show k ≠ w2.heap.size + 1 by omega)).trans (h.keep k hk)⟩)
  have hb := blk_set h.bw j x
  rw [hu] at hb
  exact ⟨h.low.setCell (p := ⟨w2.heap.size + 1, j, none⟩) (Nat.le_succ_of_le h.old) x, (blk_far (show w2.heap.size ≠ w2.heap.size + 1 by omega)).trans h.bv, hb, hv2, ⟨by have := hv2.1; rwa [← hl] at this, by have := hv2.2; rwa [← hf] at this⟩⟩
theorem RZ.grow {W w2 wz w6 : World} {v : V} {pv qv b b' : Sl} {o : Obj} (h : RZ W w2 wz v pv qv) (j : Nat) (x : Value) (hlo : ∀ g, b.val.ownBlock = some g → W.heap.size ≤ g ∧ g < w2.heap.size) (hg : (wz.alloc o).grownBy w6 b.val.ownBlock)
    (hat : b'.val.ownBlock = b.val.ownBlock ∨ b'.val.ownBlock = some (wz.alloc o).heap.size) :
    Below W.heap.size W (w6.setCell ⟨w2.heap.size + 1, j, none⟩ x) ∧ (w6.setCell ⟨w2.heap.size + 1, j, none⟩ x).heap[w2.heap.size]? = some (.cells #[.int .i64 v.kind, .int .i64 v.int, .string v.text, .slice pv.a pv.n pv.c, .slice qv.a qv.n qv.c] 27 (0, 0)) ∧
    (w6.setCell ⟨w2.heap.size + 1, j, none⟩ x).heap[w2.heap.size + 1]? = some (.cells ((#[.int .i64 v.kind, .int .i64 v.int, .string v.text, .slice pv.a pv.n pv.c, .slice qv.a qv.n qv.c] : Array Value).setIfInBounds j x) 27 (0, 0)) ∧
    w2.heap.size ≤ (w6.setCell ⟨w2.heap.size + 1, j, none⟩ x).heap.size ∧ (∀ k, k < w2.heap.size → b.val.ownBlock ≠ some k → (w6.setCell ⟨w2.heap.size + 1, j, none⟩ x).heap[k]? = w2.heap[k]?) ∧
    (∀ g, b.val.ownBlock = some g → (w6.setCell ⟨w2.heap.size + 1, j, none⟩ x).heap[g]? = w6.heap[g]?) ∧ (∀ g, b'.val.ownBlock = some g → (w6.setCell ⟨w2.heap.size + 1, j, none⟩ x).heap[g]? = w6.heap[g]?) := by
  have hz : (w6.setCell ⟨w2.heap.size + 1, j, none⟩ x).heap.size = w6.heap.size := by simp [World.setCell]
  have hs6 := hg.size
  rw [size_alloc, h.size] at hs6
  have hold : ∀ k, k < w2.heap.size + 2 → b.val.ownBlock ≠ some k → w6.heap[k]? = wz.heap[k]? := fun k hk hne => (hg.block k (by rw [size_alloc, h.size]; omega) (fun e => hne e.symm)).trans (block_old (by rw [h.size]; exact hk))
  refine ⟨?_, ?_, ?_, by rw [hz]; omega, ?_, ?_, ?_⟩
  · exact ((h.low.alloc (by rw [h.size]; have := h.old; omega) o).grown hg (by rw [size_alloc, h.size]; have := h.old; omega) (fun k e => (hlo k e).1)).setCell (p := ⟨w2.heap.size + 1, j, none⟩) (Nat.le_succ_of_le h.old) x
  · exact (blk_far (show w2.heap.size ≠ w2.heap.size + 1 by omega)).trans ((hold _ (by omega) (fun e => by have := (hlo _ e).2; omega)).trans h.bv)
  · exact blk_set ((hold _ (by omega) (fun e => by have := (hlo _ e).2; omega)).trans h.bw) j x
  · exact fun k hk hne => (blk_far (show k ≠ w2.heap.size + 1 by omega)).trans ((hold k (by omega) hne).trans (h.keep k hk))
  · exact fun g e => blk_far (show g ≠ w2.heap.size + 1 by have := (hlo g e).2; omega)
  · intro g e
    refine blk_far (show g ≠ w2.heap.size + 1 from ?_)
    rcases hat with a | a
    · have := (hlo g (a.symm.trans e)).2; omega
    · rw [a, size_alloc, h.size] at e; injection e with e; omega
theorem RZ.appL {W w2 wz w6 : World} {v : V} {pv qv p' : Sl} {o : Obj} {xss zss : List (List Value)} (h : RZ W w2 wz v pv qv) (hm : MV W.heap.size w2 v pv qv xss zss) (hg : (wz.alloc o).grownBy w6 pv.val.ownBlock)
    (hat : p'.val.ownBlock = pv.val.ownBlock ∨ p'.val.ownBlock = some (wz.alloc o).heap.size) (hk : w6.ownsRow 0 27 5 pv.val v.list.length xss.flatten) (hn : w6.ownsRow 0 27 5 p'.val (v.list.length + 1) (xss.flatten ++ cellsV v pv qv)) :
    St W (w6.setCell ⟨w2.heap.size + 1, 3, none⟩ (.slice p'.a p'.n p'.c)) w2.heap.size (w2.heap.size + 1) v (addL v v) pv qv p' qv := by
  obtain ⟨r1, r2, r3, r4, r5, r6, r7⟩ := h.grow (b := pv) (b' := p') 3 (.slice p'.a p'.n p'.c) (fun g e => ⟨hm.1.2.2.2 g e, (hm.1.2.2.1.lt g e).2⟩) hg hat
  obtain ⟨k1, k2⟩ := keepList hm r4 r5 (own_keep hk r6) (own_keep hn r7)
  exact ⟨r1, r2, r3, k1, k2⟩
theorem RZ.appF {W w2 wz w6 : World} {v x : V} {k : ByteArray} {pv qv q' px qx : Sl} {o : Obj} {xss zss : List (List Value)} (h : RZ W w2 wz v pv qv) (hm : MV W.heap.size w2 v pv qv xss zss) (hg : (wz.alloc o).grownBy w6 qv.val.ownBlock)
    (hat : q'.val.ownBlock = qv.val.ownBlock ∨ q'.val.ownBlock = some (wz.alloc o).heap.size) (hx : ∀ w', HV (fun g => g < w'.heap.size) w' v pv qv → HV (fun g => g < w'.heap.size) w' x px qx)
    (hk : w6.ownsRow 0 31 6 qv.val v.fields.length zss.flatten) (hn : w6.ownsRow 0 31 6 q'.val (v.fields.length + 1) (zss.flatten ++ cellsF (k, x) px qx)) :
    St W (w6.setCell ⟨w2.heap.size + 1, 4, none⟩ (.slice q'.a q'.n q'.c)) w2.heap.size (w2.heap.size + 1) v (addF v k x) pv qv pv q' := by
  obtain ⟨r1, r2, r3, r4, r5, r6, r7⟩ := h.grow (b := qv) (b' := q') 4 (.slice q'.a q'.n q'.c) (fun g e => ⟨hm.2.1.2.2.2 g e, (hm.2.1.2.2.1.lt g e).2⟩) hg hat
  obtain ⟨k1, k2⟩ := keepField hm r4 r5 (own_keep hk r6) (hx _) (own_keep hn r7)
  exact ⟨r1, r2, r3, k1, k2⟩
theorem RZ.appG {W w2 wz w6 : World} {v x y : V} {k l : ByteArray} {pv qv q' px qx py qy : Sl} {o : Obj} {xss zss : List (List Value)} (h : RZ W w2 wz v pv qv) (hm : MV W.heap.size w2 v pv qv xss zss) (hg : (wz.alloc o).grownBy w6 qv.val.ownBlock)
    (hat : q'.val.ownBlock = qv.val.ownBlock ∨ q'.val.ownBlock = some (wz.alloc o).heap.size) (hx : ∀ w', HV (fun g => g < w'.heap.size) w' v pv qv → HV (fun g => g < w'.heap.size) w' x px qx) (hy : ∀ w' : World, HV (fun g => g < w'.heap.size) w' y py qy)
    (hk : w6.ownsRow 0 31 6 qv.val v.fields.length zss.flatten) (hn : w6.ownsRow 0 31 6 q'.val (v.fields.length + 2) (zss.flatten ++ (cellsF (k, x) px qx ++ cellsF (l, y) py qy))) :
    St W (w6.setCell ⟨w2.heap.size + 1, 4, none⟩ (.slice q'.a q'.n q'.c)) w2.heap.size (w2.heap.size + 1) v (addF (addF v k x) l y) pv qv pv q' := by
  obtain ⟨r1, r2, r3, r4, r5, r6, r7⟩ := h.grow (b := qv) (b' := q') 4 (.slice q'.a q'.n q'.c) (fun g e => ⟨hm.2.1.2.2.2 g e, (hm.2.1.2.2.1.lt g e).2⟩) hg hat
  obtain ⟨k1, k2⟩ := keepFields hm r4 r5 (own_keep hk r6) (hx _) (hy _) (own_keep hn r7)
  exact ⟨r1, r2, r3, k1, k2⟩
end Go.Proofs.YteocenjneoclbaaDoor.tre

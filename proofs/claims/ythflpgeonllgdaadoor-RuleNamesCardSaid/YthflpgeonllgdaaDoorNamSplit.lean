/- Layer 3: the contract of the document's own Split. -/
import Derived.Test.YthflpgeonllgdaaDoorNamRef2
import Derived.Maps.AppendAt
import Derived.Laws.OwnMore
import Derived.Deep.AppendLies
import Derived.BigRegion
namespace Go.Proofs.YthflpgeonllgdaaDoor.nam
open Go.RowKit Go.Shelf

theorem info_str : (Tryd.prog.info? 9).map (fun i => (i.zero, i.size, i.bytes)) = some (some (.string ByteArray.empty), 1, 16) := by kernel_rfl
theorem info_parts {e : TypeId} {z : Value} {n b : Nat} (h : (Tryd.prog.info? e).map (fun i => (i.zero, i.size, i.bytes)) = some (some z, n, b)) : ∃ i, Tryd.prog.info? e = some i ∧ i.zero = some z ∧ i.size = n ∧ i.bytes = b := by
  cases hi : Tryd.prog.info? e with
  | none => rw [hi] at h; cases h
  | some i =>
    rw [hi] at h
    simp only [Option.map_some, Option.some.injEq, Prod.mk.injEq] at h
    exact ⟨i, rfl, h.1, h.2.1, h.2.2⟩

def strs (ps : List ByteArray) : List Value := ps.map Value.string
/-- What the parts of a text are, as a slice of the call's own. -/
def SplitPost (w : World) (c : UInt8) (l : List UInt8) (e : Ending) (w' : World) : Prop :=
  ∃ (g cap : Nat) (ps : List ByteArray), e = .returned (.slice (some ⟨g, 0, none⟩) ps.length cap) ∧ ps.map (·.data.toList) = spl c l ∧
    w'.ownsRow w.heap.size 9 1 (.slice (some ⟨g, 0, none⟩) ps.length cap) ps.length (strs ps) ∧ Below w.heap.size w w'

theorem take_snoc (s : ByteArray) (k : Nat) (h : k < s.size) : s.data.toList.take (k + 1) = s.data.toList.take k ++ [s[k]] := by
  rw [List.take_succ_eq_append_getElem (by simpa using h)]; rfl
theorem split_same {s : ByteArray} {c : UInt8} {k : Nat} {ps : List ByteArray} (h : ps.map (·.data.toList) = spl c (s.data.toList.take k)) (hk : k < s.size) (hc : s[k] = c) :
    (ps ++ [(⟨#[]⟩ : ByteArray)]).map (·.data.toList) = spl c (s.data.toList.take (k + 1)) := by
  obtain ⟨init, last, h1, h2, _⟩ := spl_snoc c (s.data.toList.take k)
  rw [take_snoc s k hk, hc, h2, List.map_append, h, h1]; rfl
theorem split_other {s : ByteArray} {c : UInt8} {k : Nat} {ps : List ByteArray} (h : ps.map (·.data.toList) = spl c (s.data.toList.take k)) (hk : k < s.size) (hc : s[k] ≠ c) :
    ∃ pi pl, ps = pi ++ [pl] ∧ pl.size ≤ k ∧ (pi ++ [pl ++ s.extract k (k + 1)]).map (·.data.toList) = spl c (s.data.toList.take (k + 1)) := by
  obtain ⟨init, last, h1, _, h3⟩ := spl_snoc c (s.data.toList.take k)
  rw [h1] at h
  obtain ⟨pi, pl', rfl, h4, h5⟩ := List.map_eq_append_iff.1 h
  obtain ⟨pl, rfl, h6⟩ := List.map_eq_singleton_iff.1 h5
  refine ⟨pi, pl, rfl, ?_, ?_⟩
  · have hb := spl_bound c (s.data.toList.take k) last (by rw [h1]; simp)
    rw [← h6, len_data, List.length_take, len_data] at hb
    omega
  · rw [take_snoc s k hk, h3 _ hc, List.map_append, h4]
    congr 1
    rw [List.map_cons, List.map_nil]
    congr 1
    rw [← h6]
    show (pl ++ s.extract k (k + 1)).data.toList = _
    rw [ByteArray.data_append, Array.toList_append, Lib.extract_data]
    congr 1
    rw [List.drop_eq_getElem_cons (by rw [len_data]; exact hk), show k + 1 - k = 1 by omega]
    rfl

set_option maxRecDepth 100000 in
set_option maxHeartbeats 4000000 in
theorem rSplit_any (s : ByteArray) (hs : s.size ≤ 2000000) (c : UInt8) (w : World) :
    Calls Tryd.prog 57 #[.string s, .int .u8 c.toNat] w (SplitPost w c s.data.toList) := by
  obtain ⟨i0, hi, hz0, hz1, hz2⟩ := info_parts info_str
  go_enter Tryd.func57, Tryd.ntmps57
  go_wp2
  go_loopw [5, 6] (fun v a wr => ∃ (g cap k : Nat) (ps : List ByteArray), v = .slice (some ⟨g, 0, none⟩) ps.length cap ∧ a = .int .i64 k ∧ k ≤ s.size ∧ ps.length ≤ k + 1 ∧ Hid (ps.map (·.data.toList) = spl c (s.data.toList.take k)) ∧
      wr.ownsRow w.heap.size 9 1 (.slice (some ⟨g, 0, none⟩) ps.length cap) ps.length (strs ps) ∧ Below w.heap.size w wr)
    (fun _ a _ => s.size - (intOf a).toNat)
  case atStart => exact ⟨w.heap.size, 1, 0, [⟨#[]⟩], rfl, rfl, by omega, by simp, rfl, World.ownsRow_lit w #[.string ⟨#[]⟩] 1 (Nat.le_refl _) (by unfold maxLen; omega) rfl, (Below.refl _ _).alloc (Nat.le_refl _) _⟩
  case round =>
    obtain ⟨g, cap, k, ps, rfl, rfl, hk, hpl, Hps, hrow, hB⟩ := hrel
    by_cases hlt : k < s.size
    · by_cases hc : s[k] = c
      · have e0 : ((s[k].toNat : Int) == (c.toNat : Int)) = true := beq_iff_eq.2 (by rw [hc])
        have Hn := Lib.hid (split_same Hps.out hlt hc)
        clear hc
        have hB5 := fun o => hB.alloc hB.size o
        have hge := fun g' (e : some g = some g') => (hrow.lt g' e).1
        have Hc1 := Lib.hid (show ∀ j u, [Value.string ⟨#[]⟩][j]? = some u → (wr.alloc (.cells #[.string ⟨#[]⟩] 9)).cell? ((⟨wr.heap.size, 0, none⟩ : Addr).add j) = some u from cell_one_new wr (.string ⟨#[]⟩) 9)
        go_wp2_with (at_builtin; refine wpList_append_own _ rfl _ _ 22 rfl w.heap.size 9 i0 (.string ByteArray.empty) 1 16 Tryd.underlying22 hi hz0 hz1 hz2 rfl (by decide) _ _ _ rfl (hrow.alloc _) ⟨wr.heap.size, 0, none⟩ 1 1 [.string ⟨#[]⟩] rfl rfl Hc1.out (by simp [Value.oneCell']) (by unfold maxLen; omega) (by omega) (by have := hB.size; simp; omega) ?_; intro v' w4 hown' hgrow _)
        obtain ⟨g', cap', rfl, _, _⟩ := hown'.form (by omega)
        have hgr : Below w.heap.size w w4 := (hB5 _).grown hgrow (by have := hB.size; simp; omega) (fun k' e => (hrow.lt k' e).1)
        go_roundw
        case rel => exact ⟨g', cap', k + 1, ps ++ [⟨#[]⟩], by simp, by go_num, by omega, by simp; omega, Hn, by simpa [strs] using hown', hgr⟩
        case measure => simp [intOf]; omega
      · have e0 : ((s[k].toNat : Int) == (c.toNat : Int)) = false := beq_eq_false_iff_ne.2 (fun e => hc (UInt8.toNat_inj.1 (by omega)))
        obtain ⟨pi, pl, rfl, hpk, hn⟩ := split_other Hps.out hlt hc
        have Hn := Lib.hid hn
        clear hc hn
        generalize hm : (pi ++ [pl]).length = n at *
        have hm1 : n = pi.length + 1 := by rw [← hm]; simp
        have hcell : wr.cell? ⟨g, n - 1, none⟩ = some (.string pl) := by
          rw [hrow.cellAt (n - 1) (by omega)]; unfold strs; rw [hm1]; simp
        have hfr := hrow.frozenAt (n - 1)
        have hn1 : (1 : Int) ≤ n := by omega
        have ht : ((n : Int) - 1).toNat = n - 1 := by omega
        have w1 : IntKind.i64.wrap ((n : Int) - 1) = (n : Int) - 1 := IntWalk.i64_in _ (by omega)
        have w2 : IntKind.i64.wrap ((k : Int) + 1) = (k : Int) + 1 := IntWalk.i64_in _ (by omega)
        have w3 : ((k : Int) + 1).toNat = k + 1 := by omega
        have w4 : (k : Int) + 1 ≤ s.size := by omega
        have w5 : (0 : Int) ≤ (n : Int) - 1 := by omega
        have w6 : (n : Int) - 1 < n := by omega
        have w7 : (0 : Int) ≤ (k : Int) + 1 := by omega
        have w8 : (k : Int) ≤ (k : Int) + 1 := by omega
        have Hm1 := Lib.hid hm1
        have hst := hrow.stored (n - 1) (.string (pl ++ s.extract k (k + 1)))
        have hlen2 : (pi ++ [pl ++ s.extract k (k + 1)]).length = n := by rw [hm1]; simp
        have hset : (strs (pi ++ [pl])).set (n - 1) (.string (pl ++ s.extract k (k + 1))) = strs (pi ++ [pl ++ s.extract k (k + 1)]) := by
          unfold strs; rw [hm1]; simp
        rw [hset] at hst
        have Hst := Lib.hid hst
        have Hlen := Lib.hid hlen2
        have hBs := hB.setCell (p := ⟨g, n - 1, none⟩) (hrow.lt g rfl).1 (.string (pl ++ s.extract k (k + 1)))
        clear hm1 hm hst hlen2 hset
        go_wp2_with fail
        go_region
        clear w1 w2 w3 w4 w5 w6 w7 w8 ht
        go_wp2
        go_roundw
        case rel => exact ⟨g, cap, k + 1, pi ++ [pl ++ s.extract k (k + 1)], by rw [Hlen.out], by go_num, by omega, by rw [Hlen.out]; omega, Hn, by rw [Hlen.out]; exact Hst.out.1, hBs.drew⟩
        case measure => simp [intOf]; omega
    · obtain rfl : k = s.size := by omega
      have Hn := Lib.hid (show ps.map (·.data.toList) = spl c s.data.toList by rw [Hps.out, List.take_of_length_le (by rw [len_data]; exact Nat.le_refl _)])
      go_wp2
      go_ret
      exact ⟨g, cap, ps, rfl, Hn.out, hrow, hB⟩
end Go.Proofs.YthflpgeonllgdaaDoor.nam

/- Layer 8: of the laws: few and small. -/
import Derived.Test.YthflpgeonllgdaaDoorRulAny
import Derived.Test.YthflpgeonllgdaaDoorRepA
namespace Go.Proofs.YthflpgeonllgdaaDoor.rul
open Go.RowKit Go.Proofs.YthflpgeonllgdaaDoor.rep Go.Proofs.YthflpgeonllgdaaDoor.lab

theorem few_any (a : Option Addr) (c : Nat) (l : List ByteArray) (hl : l.length ≤ c) (hc : c ≤ 9223372036854775807) (m : Nat) (hm : m = (l.take 18).length) (w : World) :
    Calls Tryd.prog 25 #[.slice a l.length c] w fun e w' => e = .returned (.slice a m c) ∧ w = w' := by
  by_cases h : 18 < l.length
  · have H : Hid (m = 18) := by rw [hm, List.length_take]; exact Nat.min_eq_left (by omega)
    have h2 : (18 : Int) < (l.length : Int) := by omega
    clear hm
    go_enter Tryd.func25, Tryd.ntmps25
    go_wp2
    go_ret
    exact ⟨by rw [H.out]; rfl, rfl⟩
  · have H : Hid (m = l.length) := by rw [hm, List.length_take]; exact Nat.min_eq_right (by omega)
    have h2 : ¬ (18 : Int) < (l.length : Int) := by omega
    clear h hm
    go_enter Tryd.func25, Tryd.ntmps25
    go_wp2
    go_ret
    exact ⟨by rw [H.out]; rfl, rfl⟩
def smallR (r : Ru) : Ru := ⟨r.verbs.take 18, r.groups.take 18, r.resources.take 18, r.names.take 18, r.paths.take 18⟩
theorem rule_size : (Tryd.prog.info? 24).map (·.size) = some 5 := by kernel_rfl
theorem take_at {B : Nat} {W : World} {a : Option Addr} {c : Nat} {l : List ByteArray} (h1 : l.length ≤ c) (h2 : c ≤ 9223372036854775807) (h3 : l.length ≤ B) (h : RowIn (text B) W a l) : RowAt B (text B) W (.slice a (l.take 18).length c) (l.take 18) := by
  have : (l.take 18).length ≤ l.length := by simp; omega
  exact ⟨a, c, rfl, by omega, h2, by omega, h.take 18⟩
set_option maxRecDepth 100000 in
set_option maxHeartbeats 1000000 in
theorem small_val (r : Ru) (va ga sa na pa : Option Addr) (vc gc sc nc pc : Nat) (w : World) (v1 : r.verbs.length ≤ vc) (v2 : vc ≤ 9223372036854775807) (g1 : r.groups.length ≤ gc) (g2 : gc ≤ 9223372036854775807) (s1 : r.resources.length ≤ sc) (s2 : sc ≤ 9223372036854775807) (n1 : r.names.length ≤ nc) (n2 : nc ≤ 9223372036854775807) (p1 : r.paths.length ≤ pc) (p2 : pc ≤ 9223372036854775807) :
    Calls Tryd.prog 11 #[.agg #[.slice va r.verbs.length vc, .slice ga r.groups.length gc, .slice sa r.resources.length sc, .slice na r.names.length nc, .slice pa r.paths.length pc]] w fun e w' =>
      e = .returned (.agg #[.slice va (smallR r).verbs.length vc, .slice ga (smallR r).groups.length gc, .slice sa (smallR r).resources.length sc, .slice na (smallR r).names.length nc, .slice pa (smallR r).paths.length pc]) ∧ Below w.heap.size w w' := by
  have c1 := fun w => few_any va vc r.verbs v1 v2 (smallR r).verbs.length rfl w
  have c2 := fun w => few_any ga gc r.groups g1 g2 (smallR r).groups.length rfl w
  have c3 := fun w => few_any sa sc r.resources s1 s2 (smallR r).resources.length rfl w
  have c4 := fun w => few_any na nc r.names n1 n2 (smallR r).names.length rfl w
  have c5 := fun w => few_any pa pc r.paths p1 p2 (smallR r).paths.length rfl w
  generalize (smallR r).verbs.length = m1 at *
  generalize (smallR r).groups.length = m2 at *
  generalize (smallR r).resources.length = m3 at *
  generalize (smallR r).names.length = m4 at *
  generalize (smallR r).paths.length = m5 at *
  go_enter Tryd.func11, Tryd.ntmps11
  go_wp2_with fail
  refine (c1 _).mono ?_
  rintro e w1 ⟨rfl, rfl⟩
  go_wp2_with fail
  refine (c2 _).mono ?_
  rintro e w1 ⟨rfl, rfl⟩
  go_wp2_with fail
  refine (c3 _).mono ?_
  rintro e w1 ⟨rfl, rfl⟩
  go_wp2_with fail
  refine (c4 _).mono ?_
  rintro e w1 ⟨rfl, rfl⟩
  go_wp2_with fail
  refine (c5 _).mono ?_
  rintro e w1 ⟨rfl, rfl⟩
  go_wp2
  have hblk : ((w.alloc (.cells #[.slice va m1 vc, .slice ga m2 gc, .slice sa m3 sc, .slice na m4 nc, .slice pa m5 pc] 24)).alloc (.cells #[.slice va m1 vc, .slice ga m2 gc, .slice sa m3 sc, .slice na m4 nc, .slice pa m5 pc] 24)).heap[w.heap.size + 1]? = some (.cells #[.slice va m1 vc, .slice ga m2 gc, .slice sa m3 sc, .slice na m4 nc, .slice pa m5 pc] 24) := by
    have := heap_alloc_new (w.alloc (.cells #[.slice va m1 vc, .slice ga m2 gc, .slice sa m3 sc, .slice na m4 nc, .slice pa m5 pc] 24)) (.cells #[.slice va m1 vc, .slice ga m2 gc, .slice sa m3 sc, .slice na m4 nc, .slice pa m5 pc] 24)
    rwa [World.size_alloc] at this
  refine bodyPost_ret (results_cell_row rfl _ _ (w.heap.size + 1) 24 _ (0, 0) _ rfl hblk Tryd.underlying24 rfl rule_size) rfl ⟨rfl, chain (below_new _ _) (below_new _ _)⟩
/-- The same, the rows told of an older world. -/
theorem small_any' (B : Nat) (r : Ru) (v g s n p : Value) (w0 w : World) (hr : ruAt B w0 v g s n p r) :
    Calls Tryd.prog 11 #[.agg #[v, g, s, n, p]] w (fun e w' => ∃ va vc ga gc sa sc na nc pa pc,
      e = .returned (.agg #[.slice va (smallR r).verbs.length vc, .slice ga (smallR r).groups.length gc, .slice sa (smallR r).resources.length sc, .slice na (smallR r).names.length nc, .slice pa (smallR r).paths.length pc]) ∧
      ruAt B w0 (.slice va (smallR r).verbs.length vc) (.slice ga (smallR r).groups.length gc) (.slice sa (smallR r).resources.length sc) (.slice na (smallR r).names.length nc) (.slice pa (smallR r).paths.length pc) (smallR r) ∧ Below w.heap.size w w') := by
  obtain ⟨⟨va, vc, rfl, v1, v2, v3, hv⟩, ⟨ga, gc, rfl, g1, g2, g3, hg⟩, ⟨sa, sc, rfl, s1, s2, s3, hs⟩, ⟨na, nc, rfl, n1, n2, n3, hn⟩, ⟨pa, pc, rfl, p1, p2, p3, hp⟩⟩ := hr
  refine (small_val r va ga sa na pa vc gc sc nc pc w v1 v2 g1 g2 s1 s2 n1 n2 p1 p2).mono ?_
  rintro e w' ⟨rfl, hb'⟩
  exact ⟨va, vc, ga, gc, sa, sc, na, nc, pa, pc, rfl, ⟨take_at v1 v2 v3 hv, take_at g1 g2 g3 hg, take_at s1 s2 s3 hs, take_at n1 n2 n3 hn, take_at p1 p2 p3 hp⟩, hb'⟩
end Go.Proofs.YthflpgeonllgdaaDoor.rul

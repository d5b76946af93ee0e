/- Layer 4: the chapter's example. -/
import Derived.Test.YtkecimhohmkkkaaDoorTreMakeW
namespace Go.Proofs.YtkecimhohmkkkaaDoor.tre
open Go.RowKit Go.Shelf

def leafA : V := .mk 2 5 ⟨#[]⟩ [] []
def exA : V := .mk 5 0 ⟨#[]⟩ [] [(⟨#[97]⟩, leafA)]
def it0 : It := ⟨0, 5, 0, ⟨#[]⟩, ⟨#[]⟩⟩
def it1 : It := ⟨1, 2, 5, ⟨#[97]⟩, ⟨#[]⟩⟩
theorem read_ex : readV it0 [it1] = (exA, 2) := rfl
theorem check_ex : checkW exA = true := by decide +kernel
theorem make_ex : makeT [it0, it1] = (exA, true) := by
  unfold makeT
  simp only
  rw [read_ex]
  show (if _ then _ else if _ ∨ checkW exA = false then _ else _) = _
  rw [check_ex, if_neg (by decide +kernel), if_neg (by decide +kernel)]
theorem get_ex : getR exA [⟨#[97]⟩] = (leafA, true) := by
  unfold getR
  have hp : placeV exA ⟨#[97]⟩ = 0 := by decide +kernel
  have : getV exA [⟨#[97]⟩] = some leafA := by
    unfold getV
    rw [dif_pos (by rw [hp]; exact ⟨by decide, by decide⟩)]
    simp only [hp]
    rfl
  rw [this]

/-- Items that a block holds from its beginning on. -/
theorem itAt_block {w : World} {bl : Nat} {cs : Array Value} {T : TypeId} {l : List It} (h : w.heap[bl]? = some (.cells cs T (0, 0))) (hc : cs.toList = flatI l) : ItAt w bl 0 l := by
  intro i hi j u hu
  have hl : (cellsI l[i]).length = 5 := rfl
  have hj : j < 5 := by have := (List.getElem?_eq_some_iff.1 hu).1; omega
  have h2 := flatten_at (l.map cellsI) 5 (fun xs hx => by obtain ⟨y, _, rfl⟩ := List.mem_map.1 hx; rfl) i (cellsI l[i]) (by rw [List.getElem?_map, List.getElem?_eq_getElem hi]; rfl) j hj
  rw [blk_cell h, Nat.zero_mul, Nat.zero_add, ← Array.getElem?_toList, hc]
  exact h2.trans hu
set_option maxRecDepth 100000 in
set_option maxHeartbeats 4000000 in
theorem awake_any (W : World) (hT : utf.Tab W) :
    Calls Tryd.prog 10 #[] W fun e w' => e = .returned (.bool true) ∧ Below W.heap.size W w' := by
  have hb1 : ∀ o, Below W.heap.size W (W.alloc o) := fun o => (Below.refl _ _).alloc (Nat.le_refl _) o
  have hmk := Make_any it0 [it1] (by decide) (by decide) W.heap.size 2 (W.alloc (.cells #[.int .i64 0, .int .i64 5, .int .i64 0, .string ⟨#[]⟩, .string ⟨#[]⟩, .int .i64 1, .int .i64 2, .int .i64 5, .string ⟨#[97]⟩, .string ⟨#[]⟩] 58)) (by rw [size_alloc]; omega) (itAt_block (block_new W _) rfl) (hT.self (hb1 _))
  rw [make_ex] at hmk
  have hgt := fun W1 r t (S : Nat → Prop) (hS : ∀ g, S g → g < W1.heap.size) hh bk (hbk : bk < W1.heap.size) (h : W1.cell? ⟨bk, 0, none⟩ = some (.string ⟨#[97]⟩)) => Get_any exA (by decide +kernel) [⟨#[97]⟩] (by decide) bk 1 S W1 r t hS hh hbk (fun j hj => by
    obtain rfl : j = 0 := by simpa using hj
    exact h)
  rw [get_ex] at hgt
  have hck := fun W1 r t (S : Nat → Prop) (hS : ∀ g, S g → g < W1.heap.size) hh (hb : Below W.heap.size W W1) => Check_any exA (by decide +kernel) (by decide +kernel) S W1 r t hS hh (hT.self hb)
  rw [check_ex] at hck
  have H := Lib.hid (And.intro hb1 (And.intro hgt hck))
  clear hb1 hgt hck hT
  go_enter Tryd.func10, Tryd.ntmps10
  go_wp2_with fail
  refine hmk.mono ?_
  rintro e w1 ⟨px, qx, rfl, hvx, hb1⟩
  have hs1 := hb1.size
  rw [size_alloc] at hs1 hvx
  have hb01 := (H.out.1 _).trans (hb1.mono (by rw [size_alloc]; omega))
  have H1 := Lib.hid (And.intro hvx (And.intro hb01 hs1))
  clear hvx hb1 hb01 hs1
  go_wp2_with fail
  have hb12 : Below w1.heap.size w1 ((w1.alloc (.cells #[.int .i64 exA.kind, .int .i64 exA.int, .string exA.text, .slice px.a px.n px.c, .slice qx.a qx.n qx.c] 28)).alloc (.cells #[.string ⟨#[97]⟩] 9)) := ((Below.refl _ _).alloc (Nat.le_refl _) _).alloc (by rw [size_alloc]; omega) _
  have hS2 : HV (fun g => W.heap.size + 1 ≤ g ∧ g < w1.heap.size) ((w1.alloc (.cells #[.int .i64 exA.kind, .int .i64 exA.int, .string exA.text, .slice px.a px.n px.c, .slice qx.a qx.n qx.c] 28)).alloc (.cells #[.string ⟨#[97]⟩] 9)) exA px qx := H1.out.1.map (fun j hj hl => ⟨⟨hj, hl⟩, hb12.block j hl⟩)
  refine (H.out.2.1 _ px qx (fun g => W.heap.size + 1 ≤ g ∧ g < w1.heap.size) (fun g hg => by rw [size_alloc, size_alloc]; omega) hS2 (w1.heap.size + 1) (by rw [size_alloc, size_alloc]; omega) ?_).mono ?_
  · have := block_new (w1.alloc (.cells #[.int .i64 exA.kind, .int .i64 exA.int, .string exA.text, .slice px.a px.n px.c, .slice qx.a qx.n qx.c] 28)) (.cells #[.string ⟨#[97]⟩] 9)
    rw [size_alloc] at this
    rw [blk_cell this]; rfl
  rintro e w2 ⟨py, qy, rfl, _, hb2⟩
  have v2 := (hb2.block w1.heap.size (by rw [size_alloc, size_alloc]; omega)).trans ((block_old (by rw [size_alloc]; omega)).trans (block_new w1 _))
  have l2 := (Array.getElem?_eq_some_iff.1 v2).1
  have q0 : w2.cell? ⟨w1.heap.size, 0, none⟩ = some (.int .i64 exA.kind) := by rw [blk_cell v2]; rfl
  have q1 : w2.cell? ⟨w1.heap.size, 1, none⟩ = some (.int .i64 exA.int) := by rw [blk_cell v2]; rfl
  have q2 : w2.cell? ⟨w1.heap.size, 2, none⟩ = some (.string exA.text) := by rw [blk_cell v2]; rfl
  have q3 : w2.cell? ⟨w1.heap.size, 3, none⟩ = some (.slice px.a px.n px.c) := by rw [blk_cell v2]; rfl
  have q4 : w2.cell? ⟨w1.heap.size, 4, none⟩ = some (.slice qx.a qx.n qx.c) := by rw [blk_cell v2]; rfl
  have t0 : (leafA.kind == 2) = true := rfl
  have t1 : (leafA.int == 5) = true := rfl
  have hs1 := H1.out.2.2
  have hb02 := (H1.out.2.1.trans (hb12.mono H1.out.2.1.size)).trans (hb2.mono (by rw [size_alloc, size_alloc]; omega))
  have hv2 : HV (fun g => W.heap.size + 1 ≤ g ∧ g < w1.heap.size) w2 exA px qx := hS2.map (fun j hj hl => ⟨hj, hb2.block j hl⟩)
  have H2 := Lib.hid (And.intro hv2 hb02)
  have hl2 : W.heap.size ≤ w2.heap.size := by omega
  clear hb12 hS2 hb2 v2 hv2 hb02
  go_wp2_with fail
  refine (H.out.2.2 _ px qx (fun g => W.heap.size + 1 ≤ g ∧ g < w1.heap.size) (fun g hg => by rw [size_alloc]; omega) (H2.out.1.map (fun j hj hl => ⟨hj, block_old hl⟩)) (H2.out.2.alloc (by omega) _)).mono ?_
  rintro e w3 ⟨rfl, hb3⟩
  go_wp2_with fail
  go_ret
  exact ⟨rfl, (H2.out.2.alloc (by omega) _).trans (hb3.mono (by rw [size_alloc]; omega))⟩
end Go.Proofs.YtkecimhohmkkkaaDoor.tre

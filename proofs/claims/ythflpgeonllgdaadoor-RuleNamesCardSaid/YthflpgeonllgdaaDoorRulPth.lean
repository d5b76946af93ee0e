/- Layer 8: rule's Path. -/
import Derived.Test.YthflpgeonllgdaaDoorRulAmo
import Derived.Test.YthflpgeonllgdaaDoorRulShelf
import Derived.Deep.RegionWith
namespace Go.Proofs.YthflpgeonllgdaaDoor.rul
open Go.RowKit Go.Proofs.YthflpgeonllgdaaDoor.rep Go.Proofs.YthflpgeonllgdaaDoor.lab

/-- A path begins with what stands ahead of an entry's star. -/
def beginsB (p s : ByteArray) : Bool := Lib.hasSuffix s.data.toList [42] && Lib.hasPrefix p.data.toList (trimL s.data.toList)
theorem pathC_any (p s : ByteArray) (hs : s.size ≤ 9223372036854775807) (g : Nat) (w : World) (hg : w.cell? ⟨g, 0, none⟩ = some (.string p)) :
    Calls Tryd.prog 48 #[.string s, .pointer (some ⟨g, 0, none⟩)] w fun e w' => e = .returned (.bool (beginsB p s)) ∧ Below w.heap.size w w' := by
  have hlt := cell_lt hg
  have ct := fun w => cutSuf_any s hs w
  have cp : ∀ w, Calls Tryd.prog 50 #[.string p, .string ⟨(trimL s.data.toList).toArray⟩] w fun e w' => e = .returned (.bool (Lib.hasPrefix p.data.toList (trimL s.data.toList))) ∧ w = w' := fun w => prefix_any p ⟨(trimL s.data.toList).toArray⟩ w
  have H := Lib.hid (show beginsB p s = (Lib.hasSuffix s.data.toList [42] && Lib.hasPrefix p.data.toList (trimL s.data.toList)) from rfl)
  generalize Lib.hasSuffix s.data.toList [42] = b1 at *
  generalize Lib.hasPrefix p.data.toList (trimL s.data.toList) = b2 at *
  cases b1 with
  | false =>
    go_enter Tryd.func48, Tryd.ntmps48
    go_wp2_with fail
    refine (ct _).mono ?_
    rintro e w1 ⟨rfl, rfl⟩
    go_wp2
    go_ret
    exact ⟨ret_bool H.out.symm, Below.refl _ _⟩
  | true =>
    go_enter Tryd.func48, Tryd.ntmps48
    go_wp2_with fail
    refine (ct _).mono ?_
    rintro e w1 ⟨rfl, rfl⟩
    go_wp2_with fail
    refine (cp _).mono ?_
    rintro e w1 ⟨rfl, rfl⟩
    go_wp2
    go_ret
    exact ⟨ret_bool H.out.symm, Below.refl _ _⟩
theorem path_ask (B : Nat) (hB : B ≤ 140737488355328) (p : ByteArray) (g : Nat) (w : World) (hg : w.cell? ⟨g, 0, none⟩ = some (.string p)) :
    AskR (TxV B) 48 #[.pointer (some ⟨g, 0, none⟩)] (beginsB p) w :=
  ⟨enters_of Tryd.func48 (by kernel_rfl) rfl, fun W v x hx hb => by
    obtain ⟨rfl, hx⟩ := hx
    exact pathC_any p x (by omega) g W ((hb.cell (cell_lt hg)).trans hg)⟩
set_option maxHeartbeats 1000000 in
set_option maxRecDepth 100000 in
theorem Path_any' (B : Nat) (hB : B ≤ 140737488355328) (a : Option Addr) (c : Nat) (l : List ByteArray) (hl : l.length ≤ 140737488355328) (p : ByteArray) (w : World) (hr : RowIn (text B) w a l) :
    Calls Tryd.prog 20 #[.slice a l.length c, .string p] w fun e w' => e = .returned (.bool (among l p || l.any (beginsB p))) ∧ Below w.heap.size w w' := by
  have ca := fun w hr => among_any B a c l (by omega) w hr
  have hb0 := below_new w (.cells #[.string p] 9)
  have d0 : (w.alloc (.cells #[.string p] 9)).cell? ⟨w.heap.size, 0, none⟩ = some (.string p) := cell_new _ _ _ _
  have HA := Lib.hid (path_ask B hB p _ _ d0)
  have HR := Lib.hid (hr.later hb0)
  have cc := fun W hr hp => conT_any B a c l (by omega) 48 #[.pointer (some ⟨w.heap.size, 0, none⟩)] (beginsB p) W hr hp
  have H := Lib.hid (some_one l p)
  have h1 : [p].length ≤ 9223372036854775807 := by show 1 ≤ _; omega
  clear hr
  cases hz : someB l [p] with
  | true =>
    have HZ := Lib.hid hz
    clear hz
    go_enter Tryd.func20, Tryd.ntmps20
    go_wp2
    have hlt := cell_lt d0
    have Hn := Lib.hid (fun W : World => row_new W [p] 9 (B := p.size) (by simp))
    generalize w.alloc (.cells #[.string p] 9) = w1 at *
    first | fail_if_success skip | go_region_with
      (first
        | (go_at_call 44
           first
             | (have hbA := drew_below w1
                refine (ca _ (HR.out.later hbA)).mono ?_
                rintro e w2 ⟨k, cap, rfl, hk, hb1⟩
                have hq := Below.refl w2.heap.size w2)
             | (have hbA := (below_new w1 (.cells #[.string p] 9)).drew
                refine (ca _ (HR.out.later hbA)).mono ?_
                rintro e w2 ⟨k, cap, rfl, hk, hb1⟩
                have hq := (Hn.out w1).later (chain (drew_below _) hb1))
           have ek := hk.1
           have hb2 := chain hbA hb1
           have e2 := (hb2.cell (p := ⟨w.heap.size, 0, none⟩) hlt).trans d0)
        | (with_reducible show Calls _ k _ (World.alloc w2 _) _
           have ck := hk.2 (w2.alloc (.cells #[.string p] 9)) p.size _ 1 [p] h1 (below_new _ _) (Hn.out w2)
           rw [HZ.out] at ck
           refine ck.mono ?_
           rintro e w3 ⟨rfl, hb3⟩
           have hb4 := chain hb2 (chain (below_new w2 (.cells #[.string p] 9)) hb3)
           have e3 := (hb4.cell (p := ⟨w.heap.size, 0, none⟩) hlt).trans d0)
        | (with_reducible show Calls _ k _ w2 _
           have ck := hk.2 w2 p.size _ 1 [p] h1 (Below.refl _ _) hq
           rw [HZ.out] at ck
           refine ck.mono ?_
           rintro e w3 ⟨rfl, hb3⟩
           have hb4 := chain hb2 hb3
           have e3 := (hb4.cell (p := ⟨w.heap.size, 0, none⟩) hlt).trans d0)
        | fail) | fail
    all_goals go_wp2
    all_goals go_ret
    all_goals exact ⟨ret_bool (by rw [← H.out, HZ.out]; first | rfl | rw [Bool.false_or]), chain hb0 hb4⟩
  | false =>
    have HZ := Lib.hid hz
    clear hz
    go_enter Tryd.func20, Tryd.ntmps20
    go_wp2
    have hlt := cell_lt d0
    have Hn := Lib.hid (fun W : World => row_new W [p] 9 (B := p.size) (by simp))
    generalize w.alloc (.cells #[.string p] 9) = w1 at *
    go_region_held3 (fun w' => w'.cell? ⟨w.heap.size, 0, none⟩ = some (.string p))
      (first | go_keep)
      (first
        | (go_at_call 44
           first
             | (have hbA := drew_below w1
                refine (ca _ (HR.out.later hbA)).mono ?_
                rintro e w2 ⟨k, cap, rfl, hk, hb1⟩
                have hq := Below.refl w2.heap.size w2)
             | (have hbA := (below_new w1 (.cells #[.string p] 9)).drew
                refine (ca _ (HR.out.later hbA)).mono ?_
                rintro e w2 ⟨k, cap, rfl, hk, hb1⟩
                have hq := (Hn.out w1).later (chain (drew_below _) hb1))
           have ek := hk.1
           have hb2 := chain hbA hb1
           have e2 := (hb2.cell (p := ⟨w.heap.size, 0, none⟩) hlt).trans d0)
        | (go_at_call 51
           refine (cc _ (HR.out.later hb4) (HA.out.later hb4)).mono ?_
           rintro e w4 ⟨rfl, hb5⟩
           have hb6 := chain hb4 hb5
           have e4 := (hb6.cell (p := ⟨w.heap.size, 0, none⟩) hlt).trans d0)
        | (with_reducible show Calls _ k _ (World.alloc w2 _) _
           have ck := hk.2 (w2.alloc (.cells #[.string p] 9)) p.size _ 1 [p] h1 (below_new _ _) (Hn.out w2)
           rw [HZ.out] at ck
           refine ck.mono ?_
           rintro e w3 ⟨rfl, hb3⟩
           have hb4 := chain hb2 (chain (below_new w2 (.cells #[.string p] 9)) hb3)
           have e3 := (hb4.cell (p := ⟨w.heap.size, 0, none⟩) hlt).trans d0)
        | (with_reducible show Calls _ k _ w2 _
           have ck := hk.2 w2 p.size _ 1 [p] h1 (Below.refl _ _) hq
           rw [HZ.out] at ck
           refine ck.mono ?_
           rintro e w3 ⟨rfl, hb3⟩
           have hb4 := chain hb2 hb3
           have e3 := (hb4.cell (p := ⟨w.heap.size, 0, none⟩) hlt).trans d0)
        | fail)
    all_goals go_wp2
    all_goals go_ret
    all_goals exact ⟨ret_bool (by rw [← H.out, HZ.out]; first | rfl | rw [Bool.false_or]), chain hb0 hb6⟩
end Go.Proofs.YthflpgeonllgdaaDoor.rul

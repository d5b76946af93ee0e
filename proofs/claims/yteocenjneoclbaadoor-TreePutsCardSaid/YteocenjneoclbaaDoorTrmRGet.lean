/- Layer 4: the document's Get. -/
import Derived.BigQuiet
import Derived.BigRegion
import Derived.Deep.QuietTactic
import Derived.Test.YteocenjneoclbaaDoorTrmDel
import Derived.Test.YteocenjneoclbaaDoorTrmShaped
namespace Go.Proofs.YteocenjneoclbaaDoor.tre
open Go.RowKit Go.Shelf

theorem place_hit {u : V} {key : ByteArray} {k : Nat} (h5 : u.kind = 5) (hk : k < u.fields.length) (hm : (u.fields[k].1.toList == key.toList) = true) (hn : ∀ j (h : j < u.fields.length), j < k → (u.fields[j].1.toList == key.toList) = false) : placeV u key = (k : Int) := by
  unfold placeV
  rw [if_pos h5]
  rcases idx_first key u.fields () 0 with ⟨_, h2⟩ | ⟨k', hk', h1, h2, h3⟩
  · rw [h2 _ (List.getElem_mem hk)] at hm; cases hm
  · rw [h1]
    rcases Nat.lt_trichotomy k k' with h | h | h
    · rw [h3 u.fields[k] (by rw [List.mem_take_iff_getElem]; exact ⟨k, by omega, rfl⟩)] at hm; cases hm
    · subst h; congr 1; omega
    · rw [hn k' hk' h] at h2; cases h2
theorem place_miss {u : V} {key : ByteArray} (hn : u.kind = 5 → ∀ j (h : j < u.fields.length), (u.fields[j].1.toList == key.toList) = false) : placeV u key = -1 := by
  unfold placeV
  split
  · rename_i h5
    rcases idx_first key u.fields () 0 with ⟨h1, _⟩ | ⟨k', hk', _, h2, _⟩
    · exact h1
    · rw [hn h5 k' hk'] at h2; cases h2
  · rfl
theorem get_hit {u : V} {key : ByteArray} {ks : List ByteArray} {k : Nat} (hk : k < u.fields.length) (h : placeV u key = (k : Int)) : getV u (key :: ks) = getV u.fields[k].2 ks := by
  rw [getV, dif_pos (by rw [h]; exact ⟨by omega, by simpa using hk⟩)]
  congr 2
  simp [h]
theorem get_miss {u : V} {key : ByteArray} {ks : List ByteArray} (h : placeV u key = -1) : getV u (key :: ks) = none := by
  rw [getV, dif_neg (by rw [h]; omega)]
theorem Below.drewN {B : Nat} {w w' : World} (h : Below B w w') (n : Nat) : Below B w (w'.drewN n) := ⟨h.os, h.tape, h.output, h.size, h.block⟩
set_option maxRecDepth 100000 in
set_option maxHeartbeats 2000000 in
theorem rGet_any (v : V) (ks : List ByteArray) (hks : ks.length ≤ 100) (bk kc : Nat) (S : Nat → Prop) (W : World) (r t : Sl) (hS : ∀ g, S g → g < W.heap.size) (hh : HV S W v r t)
    (hbk : bk < W.heap.size) (hkc : ∀ j (h : j < ks.length), W.cell? ⟨bk, j, none⟩ = some (.string ks[j])) :
    Calls Tryd.prog 22 #[.agg #[.int .i64 v.kind, .int .i64 v.int, .string v.text, .slice r.a r.n r.c, .slice t.a t.n t.c], .slice (some ⟨bk, 0, none⟩) ks.length kc] W
      fun e w' => ∃ p q : Sl, e = .returned (.tuple #[.agg #[.int .i64 (getR v ks).1.kind, .int .i64 (getR v ks).1.int, .string (getR v ks).1.text, .slice p.a p.n p.c, .slice q.a q.n q.c], .bool (getR v ks).2]) ∧
        HV S w' (getR v ks).1 p q ∧ Below W.heap.size W w' := by
  have H := Lib.hid (And.intro hS (And.intro hh hkc))
  clear hS hh hkc
  go_enter Tryd.func22, Tryd.ntmps22
  go_wp2_with fail
  go_loopg [6, 7, 8] ks.length (fun gg s6 _ _ wr => ∃ (i : Nat) (u : V) (ru tu : Sl), i ≤ ks.length ∧ ks.length - i ≤ gg ∧ s6 = .int .i64 i ∧
    Hid (wr.heap[W.heap.size]? = some (.cells #[.int .i64 u.kind, .int .i64 u.int, .string u.text, .slice ru.a ru.n ru.c, .slice tu.a tu.n tu.c] 27 (0, 0)) ∧ wr.heap[W.heap.size + 1]? = some (.cells #[.int .i64 0, .int .i64 0, .string ⟨#[]⟩, .slice none 0 0, .slice none 0 0] 27 (0, 0)) ∧ HV S wr u ru tu ∧ getV u (ks.drop i) = getV v ks ∧ Below W.heap.size W wr))
  case atStart =>
    have h0 := block_new2 W (.cells #[.int .i64 v.kind, .int .i64 v.int, .string v.text, .slice r.a r.n r.c, .slice t.a t.n t.c] 27) (.cells #[.int .i64 0, .int .i64 0, .string ⟨#[]⟩, .slice none 0 0, .slice none 0 0] 27)
    have hb := ((Below.refl W.heap.size W).alloc (Nat.le_refl _) (.cells #[.int .i64 v.kind, .int .i64 v.int, .string v.text, .slice r.a r.n r.c, .slice t.a t.n t.c] 27)).alloc (by rw [size_alloc]; omega) (.cells #[.int .i64 0, .int .i64 0, .string ⟨#[]⟩, .slice none 0 0, .slice none 0 0] 27)
    exact ⟨0, v, r, t, Nat.zero_le _, by omega, rfl, h0.1, h0.2, H.out.2.1.later hb, rfl, hb⟩
  case round =>
    obtain ⟨i, u, ⟨ra, rn, rc⟩, ⟨ta, tn, tc⟩, hik, hgg, rfl, HH⟩ := hrel
    simp only at HH
    obtain ⟨wo, rfl⟩ : ∃ w', w' = wr := ⟨wr, rfl⟩
    have l0 := (Array.getElem?_eq_some_iff.1 HH.out.1).1
    have l1 := (Array.getElem?_eq_some_iff.1 HH.out.2.1).1
    have htn : tn = u.fields.length := HH.out.2.2.1.2.len
    subst htn
    by_cases hlt : i < ks.length
    · have hltz : (i : Int) < (ks.length : Int) := by omega
      have hfm := HH.out.2.2.1.2.max
      obtain ⟨key, hkey⟩ : ∃ key, ks[i] = key := ⟨_, rfl⟩
      have hdrop : ks.drop i = key :: ks.drop (i + 1) := by rw [← hkey]; exact List.drop_eq_getElem_cons hlt
      have hck := H.out.2.2 i hlt
      rw [hkey] at hck
      have Hd := Lib.hid hdrop
      clear hkey hdrop
      go_wp2_with fail
      go_loopg [7, 8] (u.fields.length + 1) (fun g2 s7 s8 wr => ∃ (k : Nat) (fd : Bool), k ≤ u.fields.length ∧ u.fields.length + (if fd then 0 else 1) - k ≤ g2 ∧ s7 = .bool fd ∧ s8 = .int .i64 k ∧
        Hid ((fd = false → (∀ j (h : j < u.fields.length), j < k → u.kind = 5 → (u.fields[j].1.toList == key.toList) = false) ∧ Below wo.heap.size wo wr) ∧
          (fd = true → ∃ (x : V) (p q : Sl), wr.heap[W.heap.size]? = some (.cells #[.int .i64 x.kind, .int .i64 x.int, .string x.text, .slice p.a p.n p.c, .slice q.a q.n q.c] 27 (0, 0)) ∧ wr.heap[W.heap.size + 1]? = some (.cells #[.int .i64 0, .int .i64 0, .string ⟨#[]⟩, .slice none 0 0, .slice none 0 0] 27 (0, 0)) ∧ HV S wr x p q ∧ getV x (ks.drop (i + 1)) = getV v ks ∧ Below W.heap.size W wr)))
      case atStart => exact ⟨0, false, Nat.zero_le _, by simp, rfl, rfl, fun _ => ⟨fun _ _ h => by omega, Below.refl _ _⟩, (fun h => by cases h)⟩
      case round =>
        obtain ⟨k, fd, hkn, hkg, rfl, rfl, HK⟩ := hrel
        cases fd with
        | true =>
          obtain ⟨x, ⟨pa, pn, pc⟩, ⟨qa, qn, qc⟩, hx0, hx1, hxv, hxg, hxb⟩ := HK.out.2 rfl
          simp only at hx0
          have k0 : wr.cell? ⟨W.heap.size, 0, none⟩ = some (.int .i64 x.kind) := by rw [blk_cell hx0]; rfl
          have k1 : wr.cell? ⟨W.heap.size, 1, none⟩ = some (.int .i64 x.int) := by rw [blk_cell hx0]; rfl
          have k2 : wr.cell? ⟨W.heap.size, 2, none⟩ = some (.string x.text) := by rw [blk_cell hx0]; rfl
          have k3 : wr.cell? ⟨W.heap.size, 3, none⟩ = some (.slice pa pn pc) := by rw [blk_cell hx0]; rfl
          have k4 : wr.cell? ⟨W.heap.size, 4, none⟩ = some (.slice qa qn qc) := by rw [blk_cell hx0]; rfl
          have HX := Lib.hid (And.intro hx0 (And.intro hx1 (And.intro hxv (And.intro hxg hxb))))
          have lx := (Array.getElem?_eq_some_iff.1 hx0).1
          clear hx0 hx1 hxv hxg hxb
          by_cases hkq : (k : Int) < (qn : Int)
          all_goals
            go_wp2_with fail
            go_roundg (ks.length - (i + 1))
            case measure => omega
            case rel => exact ⟨i + 1, x, ⟨pa, pn, pc⟩, ⟨qa, qn, qc⟩, by omega, Nat.le_refl _, by go_num, HX.out⟩
        | false =>
          obtain ⟨hnone, hbw⟩ := HK.out.1 rfl
          have hbW : Below W.heap.size W wr := HH.out.2.2.2.2.trans (hbw.mono HH.out.2.2.2.2.size)
          have e0 := (hbw.block _ l0).trans HH.out.1
          have e1 := (hbw.block _ l1).trans HH.out.2.1
          have k0 : wr.cell? ⟨W.heap.size, 0, none⟩ = some (.int .i64 u.kind) := by rw [blk_cell e0]; rfl
          have k1 : wr.cell? ⟨W.heap.size, 1, none⟩ = some (.int .i64 u.int) := by rw [blk_cell e0]; rfl
          have k2 : wr.cell? ⟨W.heap.size, 2, none⟩ = some (.string u.text) := by rw [blk_cell e0]; rfl
          have k3 : wr.cell? ⟨W.heap.size, 3, none⟩ = some (.slice ra rn rc) := by rw [blk_cell e0]; rfl
          have k4 : wr.cell? ⟨W.heap.size, 4, none⟩ = some (.slice ta u.fields.length tc) := by rw [blk_cell e0]; rfl
          have fk0 := blk_frozen e0 0
          have fk1 := blk_frozen e0 1
          have fk2 := blk_frozen e0 2
          have fk3 := blk_frozen e0 3
          have fk4 := blk_frozen e0 4
          have ck := (hbW.cell (p := ⟨bk, i, none⟩) (by exact hbk)).trans hck
          have lbk := Nat.lt_of_lt_of_le hbk hbW.size
          have l0r := (Array.getElem?_eq_some_iff.1 e0).1
          by_cases hkl : k < u.fields.length
          · have hklz : (k : Int) < (u.fields.length : Int) := by omega
            obtain ⟨g1, r', t', hra, hg1, hSg, hc, hhx⟩ := (HH.out.2.2.1.later hbw).2.at hkl
            simp only at hra
            subst hra
            have hhit := fun (h5 : u.kind = 5) (hm : (u.fields[k].1.toList == key.toList) = true) => get_hit (ks := ks.drop (i + 1)) hkl (place_hit h5 hkl hm (fun j h hj => hnone j h hj h5))
            have hnext : (u.kind = 5 → (u.fields[k].1.toList == key.toList) = false) → ∀ j (h : j < u.fields.length), j < k + 1 → u.kind = 5 → (u.fields[j].1.toList == key.toList) = false := fun hq j h hj h5 => by
              by_cases e : j = k
              · subst e; exact hq h5
              · exact hnone j h (by omega) h5
            have hx0 := hc 0 _ rfl
            have hx1 := hc 1 _ rfl
            have hx2 := hc 2 _ rfl
            have hx3 := hc 3 _ rfl
            have hx4 := hc 4 _ rfl
            have hx5 := hc 5 _ rfl
            simp only [Nat.add_zero] at hx0
            have HN := Lib.hid (And.intro hbw (And.intro hbW (And.intro e0 (And.intro e1 hnone))))
            generalize u.fields[k] = f at hhit hnext hx0 hx1 hx2 hx3 hx4 hx5 hhx
            have HF := Lib.hid (And.intro hhit (And.intro hnext hhx))
            have hgS := H.out.1 g1 hSg
            have hne : ¬ g1 = W.heap.size := by omega
            clear hc hhx hhit hnext hbw hbW e0 e1 hnone hck
            by_cases h5 : u.kind = 5
            · have h5b : (u.kind == 5) = true := by simp [h5]
              have H5 := Lib.hid h5
              clear h5
              cases hm : (f.1.toList == key.toList) with
              | true =>
                have Hm := Lib.hid (HF.out.1 H5.out hm)
                go_wp2_with fail
                go_quiet (fail)
                go_wp2_with fail
                go_roundg (u.fields.length - (k + 1))
                case measure => simp at hkg; omega
                case rel =>
                  have hb5 := below5 (Below.drewN HN.out.2.1 nq) (Nat.le_refl W.heap.size) 0 1 2 3 4 (.int .i64 f.2.kind) (.int .i64 f.2.int) (.string f.2.text) (.slice r'.a r'.n r'.c) (.slice t'.a t'.n t'.c)
                  refine ⟨k + 1, true, by omega, by simp, rfl, by go_num, (fun h => by cases h), fun _ => ⟨f.2, r', t', set5 _ _ _ _ _ HN.out.2.2.1, (far5 (show W.heap.size + 1 ≠ W.heap.size by omega)).trans HN.out.2.2.2.1, HF.out.2.2.map (fun j hj hl => ⟨hj, far5 (show j ≠ W.heap.size by have := H.out.1 j hj; omega)⟩), ?_, hb5⟩⟩
                  rw [← HH.out.2.2.2.1, Hd.out]
                  exact Hm.out.symm
              | false =>
                have Hm := Lib.hid (HF.out.2.1 (fun _ => hm))
                go_wp2_with fail
                go_quiet (fail)
                go_wp2_with fail
                go_roundg (u.fields.length - k)
                case measure => simp at hkg; omega
                case rel => exact ⟨k + 1, false, by omega, by simp, rfl, by go_num, fun _ => ⟨Hm.out, Below.drewN HN.out.1 nq⟩, (fun h => by cases h)⟩
            · have h5b : (u.kind == 5) = false := by simpa using h5
              have Hm := Lib.hid (HF.out.2.1 (fun h => absurd h h5))
              clear h5
              go_wp2_with fail
              go_quiet (fail)
              go_wp2_with fail
              go_roundg (u.fields.length - k)
              case measure => simp at hkg; omega
              case rel => exact ⟨k + 1, false, by omega, by simp, rfl, by go_num, fun _ => ⟨Hm.out, Below.drewN HN.out.1 nq⟩, (fun h => by cases h)⟩
          · obtain rfl : k = u.fields.length := by omega
            have hltk : ¬ (u.fields.length : Int) < (u.fields.length : Int) := by omega
            have hnn : getR v ks = (nilV, false) := by
              unfold getR
              rw [← HH.out.2.2.2.1, Hd.out, get_miss (place_miss (fun h5 j h => hnone j h h h5))]
            have Hn := Lib.hid (And.intro hnn (And.intro hbW e1))
            have y0 : wr.cell? ⟨W.heap.size + 1, 0, none⟩ = some (.int .i64 0) := by rw [blk_cell e1]; rfl
            have y1 : wr.cell? ⟨W.heap.size + 1, 1, none⟩ = some (.int .i64 0) := by rw [blk_cell e1]; rfl
            have y2 : wr.cell? ⟨W.heap.size + 1, 2, none⟩ = some (.string ⟨#[]⟩) := by rw [blk_cell e1]; rfl
            have y3 : wr.cell? ⟨W.heap.size + 1, 3, none⟩ = some (.slice none 0 0) := by rw [blk_cell e1]; rfl
            have y4 : wr.cell? ⟨W.heap.size + 1, 4, none⟩ = some (.slice none 0 0) := by rw [blk_cell e1]; rfl
            have fy0 := blk_frozen e1 0
            have fy1 := blk_frozen e1 1
            have fy2 := blk_frozen e1 2
            have fy3 := blk_frozen e1 3
            have fy4 := blk_frozen e1 4
            have l1r := (Array.getElem?_eq_some_iff.1 e1).1
            clear hnn hnone hbw hbW e0 e1
            go_wp2_with fail
            refine bodyPost_ret (results_pair rfl _ _ (W.heap.size + 1) 27 _ (0, 0) _ rfl (set5 _ _ _ _ _ Hn.out.2.2) Tryd.underlying27 rfl size_V) rfl ?_
            rw [Hn.out.1]
            exact ⟨⟨none, 0, 0⟩, ⟨none, 0, 0⟩, rfl, nilV_lies _ _, below5 Hn.out.2.1 (Nat.le_succ _) _ _ _ _ _ _ _ _ _ _⟩
    · obtain rfl : i = ks.length := by omega
      have hltz : ¬ (ks.length : Int) < (ks.length : Int) := by omega
      have hg := HH.out.2.2.2.1
      rw [List.drop_length] at hg
      have hgr : getR v ks = (u, true) := by
        unfold getR
        rw [← hg]; rfl
      have Hg := Lib.hid hgr
      clear hg hgr
      have k0 : wo.cell? ⟨W.heap.size, 0, none⟩ = some (.int .i64 u.kind) := by rw [blk_cell HH.out.1]; rfl
      have k1 : wo.cell? ⟨W.heap.size, 1, none⟩ = some (.int .i64 u.int) := by rw [blk_cell HH.out.1]; rfl
      have k2 : wo.cell? ⟨W.heap.size, 2, none⟩ = some (.string u.text) := by rw [blk_cell HH.out.1]; rfl
      have k3 : wo.cell? ⟨W.heap.size, 3, none⟩ = some (.slice ra rn rc) := by rw [blk_cell HH.out.1]; rfl
      have k4 : wo.cell? ⟨W.heap.size, 4, none⟩ = some (.slice ta u.fields.length tc) := by rw [blk_cell HH.out.1]; rfl
      have y0 : wo.cell? ⟨W.heap.size + 1, 0, none⟩ = some (.int .i64 0) := by rw [blk_cell HH.out.2.1]; rfl
      have y1 : wo.cell? ⟨W.heap.size + 1, 1, none⟩ = some (.int .i64 0) := by rw [blk_cell HH.out.2.1]; rfl
      have y2 : wo.cell? ⟨W.heap.size + 1, 2, none⟩ = some (.string ⟨#[]⟩) := by rw [blk_cell HH.out.2.1]; rfl
      have y3 : wo.cell? ⟨W.heap.size + 1, 3, none⟩ = some (.slice none 0 0) := by rw [blk_cell HH.out.2.1]; rfl
      have y4 : wo.cell? ⟨W.heap.size + 1, 4, none⟩ = some (.slice none 0 0) := by rw [blk_cell HH.out.2.1]; rfl
      have fy0 := blk_frozen HH.out.2.1 0
      have fy1 := blk_frozen HH.out.2.1 1
      have fy2 := blk_frozen HH.out.2.1 2
      have fy3 := blk_frozen HH.out.2.1 3
      have fy4 := blk_frozen HH.out.2.1 4
      go_wp2_with fail
      refine bodyPost_ret (results_pair rfl _ _ (W.heap.size + 1) 27 _ (0, 0) _ rfl (set5 _ _ _ _ _ HH.out.2.1) Tryd.underlying27 rfl size_V) rfl ?_
      rw [Hg.out]
      exact ⟨⟨ra, rn, rc⟩, ⟨ta, u.fields.length, tc⟩, rfl, HH.out.2.2.1.map (fun j hj hl => ⟨hj, far5 (show j ≠ W.heap.size + 1 by have := H.out.1 j hj; omega)⟩), below5 HH.out.2.2.2.2 (Nat.le_succ _) _ _ _ _ _ _ _ _ _ _⟩
end Go.Proofs.YteocenjneoclbaaDoor.tre

/- Layer 4: symMerge, whole. Layer 4: SortStableFunc, of rows of fields whose keys are distinct. Layer 4: Canon. Layer 4: a field put into a row of fields in order, plain. -/
import Derived.Test.YteocenjneoclbaaDoorTrmCopy
import Derived.Test.YteocenjneoclbaaDoorTrmInsert
import Derived.Test.YteocenjneoclbaaDoorTrmMade
namespace Go.Proofs.YteocenjneoclbaaDoor.tre
open Go.RowKit Go.Shelf Go.Sort

def SymAt (g c N : Nat) : Prop := ∀ (l : List El) (a m b : Nat) (W : World), b - a ≤ N → a < m → m < b → b ≤ l.length → l.length ≤ 100000 → Dist l → Srt l a m → Srt l m b → RowE g c W l →
    Calls Tryd.prog 81 #[.slice (some ⟨g, 0, none⟩) l.length c, .int .i64 a, .int .i64 m, .int .i64 b, cmpV] W fun e w' => e = .returned (.tuple #[]) ∧ ∃ l', Mix a b l l' ∧ Srt l' a b ∧ RowE g c w' l' ∧ Keeps (fun k => k = g) W w'
set_option maxRecDepth 100000 in
set_option maxHeartbeats 16000000 in
theorem symG_any (g c N : Nat) (ih : SymAt g c N) (l : List El) (a m b : Nat) (W : World) (hN : b - a ≤ N + 1) (ham : a + 1 < m) (hmb : m + 1 < b) (hbl : b ≤ l.length) (hl : l.length ≤ 100000) (hd : Dist l) (h1 : Srt l a m) (h2 : Srt l m b) (h : RowE g c W l) :
    Calls Tryd.prog 81 #[.slice (some ⟨g, 0, none⟩) l.length c, .int .i64 a, .int .i64 m, .int .i64 b, cmpV] W fun e w' => e = .returned (.tuple #[]) ∧ ∃ l', Mix a b l l' ∧ Srt l' a b ∧ RowE g c w' l' ∧ Keeps (fun k => k = g) W w' := by
  have H := Lib.hid (And.intro h (And.intro hd (And.intro h1 (And.intro h2 ih))))
  have eg := cmp_enters
  have mixed := mixed
  unfold cmpV
  clear h hd h1 h2 ih
  obtain ⟨mid, hmid⟩ : ∃ mid : Nat, ((a : Int) + (b : Int)) / 2 = (mid : Int) := ⟨(a + b) / 2, by omega⟩
  have hmd1 : a < mid := by omega
  have hmd2 : mid < b := by omega
  have hmd3 : mid + mid ≤ a + b := by omega
  have hmd4 : a + b ≤ mid + mid + 1 := by omega
  obtain ⟨n, hn⟩ : ∃ n : Nat, (mid : Int) + (m : Int) = (n : Int) := ⟨mid + m, by omega⟩
  obtain ⟨p, hp⟩ : ∃ p : Nat, (n : Int) - 1 = (p : Int) := ⟨n - 1, by omega⟩
  have e1 : ((m : Int) - (a : Int) == 1) = false := beq_eq_false_iff_ne.2 (by omega)
  have e2 : ((b : Int) - (m : Int) == 1) = false := beq_eq_false_iff_ne.2 (by omega)
  have hN1 : n = mid + m := by omega
  have Hn := Lib.hid hN1
  have hnb : n ≤ 200000 := by omega
  have hpb : p + 1 = n := by omega
  have Hp := Lib.hid hpb
  have hp2 : p ≤ 200000 := by omega
  clear hN1 hpb
  go_enter Tryd.func81, Tryd.ntmps81
  go_upto_region 27 with fail
  clear e1 e2 hmid hn
  by_cases hmm : mid < m
  case' pos =>
    have hmz : (mid : Int) < (m : Int) := by omega
    obtain ⟨s0, hs0⟩ : ∃ s0 : Nat, (n : Int) - (b : Int) = (s0 : Int) := ⟨n - b, by have := Hn.out; omega⟩
    have Hs0 := Lib.hid (show n = b + s0 by omega)
    go_wp2_with fail
    clear hs0
  case' neg =>
    have hmz : ¬ (mid : Int) < (m : Int) := by omega
    go_wp2_with fail
  all_goals
    clear hp
    go_loopg [20, 21, 23] m (fun gg s20 s21 _ wr => ∃ (i j : Nat), a ≤ i ∧ i ≤ j ∧ j ≤ m ∧ j - i ≤ gg ∧ s20 = .int .i64 i ∧ s21 = .int .i64 j ∧ n ≤ b + i ∧ m + j ≤ n ∧
      Hid (RowE g c wr l ∧ Keeps (fun k => k = g) W wr ∧ (∀ x y, a < i → n - i < b → l[i - 1]? = some x → l[n - i]? = some y → ltB x.k y.k) ∧ (∀ x y, j < m → m < n - j → l[n - j - 1]? = some x → l[j]? = some y → ltB x.k y.k)))
    case atStart =>
      have hnn := Hn.out
      first
        | exact ⟨s0, mid, by have := Hs0.out; omega, by have := Hs0.out; omega, by omega, by omega, rfl, rfl, by have := Hs0.out; omega, by omega, H.out.1, Keeps.of_below (Below.refl _ _), fun _ _ _ h => by have := Hs0.out; omega, fun _ _ _ h => by omega⟩
        | exact ⟨a, m, Nat.le_refl _, by omega, Nat.le_refl _, by omega, rfl, rfl, by omega, by omega, H.out.1, Keeps.of_below (Below.refl _ _), fun _ _ h => by omega, fun _ _ h => by omega⟩
    case round =>
      obtain ⟨i, j, hai, hij, hjm, hgg, rfl, rfl, hnb1, hnb2, HH⟩ := hrel
      by_cases hlt : i < j
      · have hltz : (i : Int) < (j : Int) := by omega
        go_upto_region 35 with fail
        obtain ⟨h, hh⟩ : ∃ h : Nat, ((i : Int) + (j : Int)) / 2 = (h : Int) := ⟨(i + j) / 2, by omega⟩
        rw [hh]
        have hh1 : i ≤ h := by omega
        have hh2 : h < j := by omega
        clear hh
        obtain ⟨P, hP⟩ : ∃ P, p - h = P := ⟨_, rfl⟩
        have hpn := Hp.out
        have hPb : P + h + 1 = n := by omega
        have hPm : m ≤ P := by omega
        have hPb2 : P < b := by omega
        have hPw : IntKind.i64.wrap ((p : Int) - (h : Int)) = (P : Int) := by rw [IntWalk.i64_in _ (by omega)]; omega
        obtain ⟨x, hx⟩ : ∃ x, l[P]? = some x := ⟨_, List.getElem?_eq_getElem (by omega)⟩
        obtain ⟨y, hy⟩ : ∃ y, l[h]? = some y := ⟨_, List.getElem?_eq_getElem (by omega)⟩
        have lg := HH.out.1.lt
        have hgr := fun n os => (HH.out.1).grown n os
        have hxg := fun n os => ((hgr n os).cell hx).1
        have gx0 := fun n os => (hxg n os).1
        have gx1 := fun n os => (hxg n os).2.1
        have gx2 := fun n os => (hxg n os).2.2.1
        have gx3 := fun n os => (hxg n os).2.2.2.1
        have gx4 := fun n os => (hxg n os).2.2.2.2.1
        have gx5 := fun n os => (hxg n os).2.2.2.2.2
        have hyg := fun n os => ((hgr n os).cell hy).1
        have gy0 := fun n os => (hyg n os).1
        have gy1 := fun n os => (hyg n os).2.1
        have gy2 := fun n os => (hyg n os).2.2.1
        have gy3 := fun n os => (hyg n os).2.2.2.1
        have gy4 := fun n os => (hyg n os).2.2.2.2.1
        have gy5 := fun n os => (hyg n os).2.2.2.2.2
        clear hgr hxg hyg
        have z1 : (P : Int) < (l.length : Int) := by omega
        have z2 : (h : Int) < (l.length : Int) := by omega
        have Hxy := Lib.hid (And.intro hx (And.intro hy hPb))
        have Hne := Lib.hid (H.out.2.1.ne (show P ≠ h by omega) hx hy)
        clear hx hy hP hPb hpn
        by_cases hc : cmpB x.k y.k < 0
        · have hcb : decide (cmpB x.k y.k < 0) = true := decide_eq_true hc
          go_wp2_with fail
          go_quiet_grown (first | (go_at_call 41; exact cmpF_grown x y _ _ _))
          go_wp2_with fail
          go_roundg (h - i)
          case measure => omega
          case rel =>
            have hPe := Hxy.out.2.2
            refine ⟨i, h, hai, by omega, by omega, Nat.le_refl _, rfl, rfl, hnb1, by omega, HH.out.1.grown nq osq, HH.out.2.1.grown nq osq, HH.out.2.2.1, fun u v _ _ hu hv => ?_⟩
            rw [show n - h - 1 = P by omega, Hxy.out.1] at hu
            rw [Hxy.out.2.1] at hv
            cases hu; cases hv; exact hc
        · have hcb : decide (cmpB x.k y.k < 0) = false := decide_eq_false hc
          have Hc := Lib.hid ((ltB_total Hne.out).resolve_left hc)
          go_wp2_with fail
          go_quiet_grown (first | (go_at_call 41; exact cmpF_grown x y _ _ _))
          go_wp2_with fail
          go_roundg (j - (h + 1))
          case measure => omega
          case rel =>
            have hPe := Hxy.out.2.2
            refine ⟨h + 1, j, by omega, by omega, hjm, Nat.le_refl _, by go_num, rfl, by omega, hnb2, HH.out.1.grown nq osq, HH.out.2.1.grown nq osq, fun u v _ _ hu hv => ?_, HH.out.2.2.2⟩
            rw [Nat.add_sub_cancel, Hxy.out.2.1] at hu
            rw [show n - (h + 1) = P by omega, Hxy.out.1] at hv
            cases hu; cases hv; exact Hc.out
      · obtain rfl : i = j := by omega
        clear hlt hij hgg
        obtain ⟨e, he⟩ : ∃ e : Nat, (n : Int) - (i : Int) = (e : Int) := ⟨n - i, by omega⟩
        have hen : n = i + e := by omega
        have hme : m ≤ e := by omega
        have heb : e ≤ b := by omega
        have hmi : mid + m = i + e := by have := Hn.out; omega
        have c1 : ∀ x y, a < i → e < b → l[i - 1]? = some x → l[e]? = some y → ltB x.k y.k := fun x y q1 q2 q3 q4 => HH.out.2.2.1 x y q1 (by omega) q3 (by rw [show n - i = e by omega]; exact q4)
        have c2 : ∀ x y, i < m → m < e → l[e - 1]? = some x → l[i]? = some y → ltB x.k y.k := fun x y q1 q2 q3 q4 => HH.out.2.2.2 x y q1 (by omega) (by rw [show n - i - 1 = e - 1 by omega]; exact q3) q4
        have HC := Lib.hid (And.intro c1 (And.intro c2 (And.intro hmi hen)))
        clear c1 c2 hen
        go_upto_region 39 with fail
        clear he
        by_cases hro : i < m ∧ m < e
        case' pos =>
          obtain ⟨hr1, hr2⟩ := hro
          have hq1 : (i : Int) < (m : Int) := by omega
          have hq2 : (m : Int) < (e : Int) := by omega
          have hrot := rotate_any l g c i m e wr hr1 hr2 (by omega) hl HH.out.1
          go_wp2_with fail
          refine hrot.mono ?_
          rintro e1 w1 ⟨rfl, l1, hrt, hrow1, hk1⟩
          have H1 := Lib.hid (And.intro hrow1 (And.intro (HH.out.2.1.trans hk1 (fun k hk => .inl hk)) hrt))
          clear hrot hrow1 hk1 hrt hq1 hq2 hr1 hr2
          go_upto_region 41 with fail
        case' neg =>
          by_cases hr1 : i < m
          case' pos =>
            have hq1 : (i : Int) < (m : Int) := by omega
            have hq2 : ¬ (m : Int) < (e : Int) := by omega
          case' neg => have hq1 : ¬ (i : Int) < (m : Int) := by omega
          all_goals
            go_upto_region 41 with fail
            obtain ⟨w1, l1, hw1, H1⟩ : ∃ (w1 : World) (l1 : List El), w1 = wr ∧ Hid (RowE g c w1 l1 ∧ Keeps (fun k => k = g) W w1 ∧ Rot i m e l l1) := ⟨wr, l, rfl, HH.out.1, HH.out.2.1, Rot.same l i m e (by omega)⟩
            rw [← hw1]
            clear hw1 hq1 hro hr1
            try clear hq2
        all_goals
          have hl1 := H1.out.2.2.mix.len
          have hsp := sym_split (mid := mid) H.out.2.2.1 H.out.2.2.2.1 hai hjm hme heb (by have := HC.out.2.2.1; omega) H1.out.2.2 HC.out.1 HC.out.2.1 hbl
          have hM1 : Mix a b l l1 := H1.out.2.2.mix.mono hai heb
          have hD1 : Dist l1 := H.out.2.1.perm hM1.perm
          have hem := HC.out.2.2.1
          have HS := Lib.hid (And.intro hsp (And.intro hM1 (And.intro hD1 (And.intro hl1 hem))))
          clear hsp hM1 hD1 hl1 hem
          by_cases hlf : a < i ∧ i < mid
          case' pos =>
            obtain ⟨hf1, hf2⟩ := hlf
            have hq1 : (a : Int) < (i : Int) := by omega
            have hq2 : (i : Int) < (mid : Int) := by omega
            have hcall := H.out.2.2.2.2 l1 a i mid w1 (by omega) hf1 hf2 (by rw [HS.out.2.2.2.1]; omega) (by rw [HS.out.2.2.2.1]; exact hl) HS.out.2.2.1 HS.out.1.1 HS.out.1.2.1 H1.out.1
            rw [HS.out.2.2.2.1] at hcall
            go_wp2_with fail
            refine hcall.mono ?_
            rintro e1 w2 ⟨rfl, l2, hm2, hs2, hrow2, hk2⟩
            have H2 := Lib.hid (And.intro hm2 (And.intro hs2 (And.intro hrow2 (H1.out.2.1.trans hk2 (fun k hk => .inl hk)))))
            clear hcall hrow2 hk2 hm2 hs2 hq1 hq2 hf1 hf2
            go_upto_region 43 with fail
          case' neg =>
            by_cases hf1 : a < i
            case' pos =>
              have hq1 : (a : Int) < (i : Int) := by omega
              have hq2 : ¬ (i : Int) < (mid : Int) := by omega
            case' neg => have hq1 : ¬ (a : Int) < (i : Int) := by omega
            all_goals
              go_upto_region 43 with fail
              have hs2 : Srt l1 a mid := by
                have := HS.out.2.2.2.2
                by_cases hai2 : a = i
                · subst hai2; exact HS.out.1.2.1
                · obtain rfl : i = mid := by omega
                  exact HS.out.1.1
              obtain ⟨w2, l2, hw2, H2⟩ : ∃ (w2 : World) (l2 : List El), w2 = w1 ∧ Hid (Mix a mid l1 l2 ∧ Srt l2 a mid ∧ RowE g c w2 l2 ∧ Keeps (fun k => k = g) W w2) := ⟨w1, l1, rfl, Mix.refl _ _ _, hs2, H1.out.1, H1.out.2.1⟩
              rw [← hw2]
              clear hw2 hq1 hlf hf1 hs2
              try clear hq2
          all_goals
            have hl2 := H2.out.1.len.trans HS.out.2.2.2.1
            have hD2 := HS.out.2.2.1.perm H2.out.1.perm
            have s3 : Srt l2 mid e := HS.out.1.2.2.1.same (fun q hq _ => H2.out.1.out q (.inr hq))
            have s4 : Srt l2 e b := HS.out.1.2.2.2.1.same (fun q hq _ => H2.out.1.out q (.inr (by have := HS.out.2.2.2.2; omega)))
            have hx2 : Cross l2 a mid b := HS.out.1.2.2.2.2.left H2.out.1
            have HT := Lib.hid (And.intro hl2 (And.intro hD2 (And.intro s3 (And.intro s4 hx2))))
            clear hl2 hD2 s3 s4 hx2
            by_cases hrg : mid < e ∧ e < b
            · obtain ⟨hf1, hf2⟩ := hrg
              have hq1 : (mid : Int) < (e : Int) := by omega
              have hq2 : (e : Int) < (b : Int) := by omega
              have hcall := H.out.2.2.2.2 l2 mid e b w2 (by omega) hf1 hf2 (by rw [HT.out.1]; omega) (by rw [HT.out.1]; exact hl) HT.out.2.1 HT.out.2.2.1 HT.out.2.2.2.1 H2.out.2.2.1
              rw [HT.out.1] at hcall
              go_wp2_with fail
              refine hcall.mono ?_
              rintro e1 w3 ⟨rfl, l3, hm3, hs3, hrow3, hk3⟩
              have H3 := Lib.hid (And.intro hm3 (And.intro hs3 (And.intro hrow3 (H2.out.2.2.2.trans hk3 (fun k hk => .inl hk)))))
              clear hcall hrow3 hk3 hm3 hs3 hq1 hq2
              go_wp2_with fail
              go_end0
              exact ⟨rfl, l3, (HS.out.2.1.trans (H2.out.1.mono (Nat.le_refl _) (by omega))).trans (H3.out.1.mono (by omega) (Nat.le_refl _)), srt_cat (H2.out.2.1.same (fun q _ hq => H3.out.1.out q (.inl hq))) H3.out.2.1 (HT.out.2.2.2.2.right H3.out.1), H3.out.2.2⟩
            · have hs3 : Srt l2 mid b := by
                have := HS.out.2.2.2.2
                by_cases hem2 : mid = e
                · subst hem2; exact HT.out.2.2.2.1
                · obtain rfl : e = b := by omega
                  exact HT.out.2.2.1
              have HF := Lib.hid (And.intro (HS.out.2.1.trans (H2.out.1.mono (Nat.le_refl _) (show mid ≤ b by omega))) (srt_cat H2.out.2.1 hs3 HT.out.2.2.2.2))
              clear hs3
              by_cases hf1 : mid < e
              · have hq1 : (mid : Int) < (e : Int) := by omega
                have hq2 : ¬ (e : Int) < (b : Int) := by omega
                go_wp2_with fail
                go_end0
                exact ⟨rfl, l2, HF.out.1, HF.out.2, H2.out.2.2⟩
              · have hq1 : ¬ (mid : Int) < (e : Int) := by omega
                go_wp2_with fail
                go_end0
                exact ⟨rfl, l2, HF.out.1, HF.out.2, H2.out.2.2⟩
theorem sym_any (g c : Nat) : ∀ N, SymAt g c N := by
  intro N
  induction N with
  | zero => intro l a m b W hN; omega
  | succ N ih =>
    intro l a m b W hN ham hmb hbl hl hd h1 h2 h
    by_cases e1 : a + 1 = m
    · subst e1
      exact symA_any l g c a b W hmb hbl hl hd h2 h
    · by_cases e2 : m + 1 = b
      · subst e2
        exact symB_any l g c a m W (by omega) hbl hl hd h1 h
      · exact symG_any g c N ih l a m b W hN (by omega) (by omega) hbl hl hd h1 h2 h
end Go.Proofs.YteocenjneoclbaaDoor.tre
namespace Go.Proofs.YteocenjneoclbaaDoor.tre
open Go.RowKit Go.Shelf Go.Sort

theorem Srt.none (l : List El) {a b : Nat} (h : b ≤ a) : Srt l a b := fun p q _ _ _ _ _ _ _ => by omega
/-- In order, block by block. -/
def Blk (l : List El) (B n : Nat) : Prop := ∀ j, Srt l (j * B) (min (j * B + B) n)
set_option maxRecDepth 100000 in
set_option maxHeartbeats 8000000 in
theorem stable_any (l : List El) (g c : Nat) (W : World) (hl : l.length ≤ 100000) (hd : Dist l) (h : RowE g c W l) :
    Calls Tryd.prog 67 #[.slice (some ⟨g, 0, none⟩) l.length c, .int .i64 l.length, cmpV] W fun e w' => e = .returned (.tuple #[]) ∧ ∃ l', Mix 0 l.length l l' ∧ Srt l' 0 l.length ∧ RowE g c w' l' ∧ Keeps (fun k => k = g) W w' := by
  have H := Lib.hid (And.intro h hd)
  clear h hd
  obtain ⟨n, hn⟩ : ∃ n, l.length = n := ⟨_, rfl⟩
  rw [hn] at hl ⊢
  have Hn := Lib.hid hn
  clear hn
  go_enter Tryd.func67, Tryd.ntmps67
  go_wp2
  go_loopg [7, 8] n (fun gg s7 s8 wr => ∃ (a b : Nat) (lt : List El), b = a + 20 ∧ a ≤ n ∧ n - a ≤ gg ∧ s7 = .int .i64 a ∧ s8 = .int .i64 b ∧
    Hid (lt.length = n ∧ Mix 0 n l lt ∧ (∃ k, a = k * 20) ∧ (∀ j, (j + 1) * 20 ≤ a → Srt lt (j * 20) (j * 20 + 20)) ∧ RowE g c wr lt ∧ Keeps (fun k => k = g) W wr))
  case atStart => exact ⟨0, 20, l, rfl, Nat.zero_le _, by omega, rfl, rfl, Hn.out, Mix.refl _ _ _, ⟨0, rfl⟩, fun j h => by omega, H.out.1, Keeps.of_below (Below.refl _ _)⟩
  case round =>
    obtain ⟨a, b, lt, hba, han, hgg, rfl, rfl, HH⟩ := hrel
    have Hba := Lib.hid hba
    by_cases hbn : b ≤ n
    · have hbz : (b : Int) ≤ (n : Int) := by omega
      have hab : a ≤ b := by omega
      have hcall := insertion_any lt g c a b wr hab (by rw [HH.out.1]; exact hbn) (by rw [HH.out.1]; exact hl) (H.out.2.perm HH.out.2.1.perm) HH.out.2.2.2.2.1
      rw [HH.out.1] at hcall
      clear hba
      go_wp2_with fail
      refine hcall.mono ?_
      rintro e w1 ⟨rfl, l1, hm1, hs1, hrow1, hk1⟩
      have H1 := Lib.hid (And.intro hm1 (And.intro hs1 (And.intro hrow1 (HH.out.2.2.2.2.2.trans hk1 (fun k hk => .inl hk)))))
      clear hcall hm1 hs1 hrow1 hk1
      go_wp2_with fail
      go_roundg (n - b)
      case measure => have := Hba.out; omega
      case rel =>
        have hb := Hba.out
        refine ⟨b, b + 20, l1, rfl, hbn, Nat.le_refl _, rfl, by go_num, H1.out.1.len.trans HH.out.1, HH.out.2.1.trans (H1.out.1.mono (Nat.zero_le _) hbn), ?_, fun j hj => ?_, H1.out.2.2⟩
        · obtain ⟨k, hk⟩ := HH.out.2.2.1
          exact ⟨k + 1, by omega⟩
        · obtain ⟨k, hk⟩ := HH.out.2.2.1
          by_cases e : (j + 1) * 20 ≤ a
          · exact (HH.out.2.2.2.1 j e).same (fun p _ hp => H1.out.1.out p (.inl (by omega)))
          · have e1 : j * 20 = a := by omega
            rw [e1, ← hb]
            exact H1.out.2.1
    · have hbz : ¬ (b : Int) ≤ (n : Int) := by omega
      have hcall := insertion_any lt g c a n wr han (by rw [HH.out.1]; exact Nat.le_refl _) (by rw [HH.out.1]; exact hl) (H.out.2.perm HH.out.2.1.perm) HH.out.2.2.2.2.1
      rw [HH.out.1] at hcall
      clear hba
      go_wp2_with fail
      refine hcall.mono ?_
      rintro e w1 ⟨rfl, l1, hm1, hs1, hrow1, hk1⟩
      have hblk : Blk l1 20 n := fun j => by
        obtain ⟨k, hk⟩ := HH.out.2.2.1
        have hb := Hba.out
        by_cases e1 : (j + 1) * 20 ≤ a
        · exact ((HH.out.2.2.2.1 j e1).same (fun p _ hp => hm1.out p (.inl (by omega)))).mono (Nat.le_refl _) (Nat.min_le_left _ _)
        · by_cases e2 : j * 20 = a
          · rw [e2]; exact hs1.mono (Nat.le_refl _) (Nat.min_le_right _ _)
          · exact Srt.none l1 (by omega)
      have H1 := Lib.hid (And.intro (hm1.len.trans HH.out.1) (And.intro (HH.out.2.1.trans (hm1.mono (Nat.zero_le _) (Nat.le_refl _))) (And.intro hblk (And.intro hrow1 (HH.out.2.2.2.2.2.trans hk1 (fun k hk => .inl hk))))))
      clear hcall hm1 hs1 hrow1 hk1 hblk hbz hbn hgg han
      go_wp2_with fail
      obtain ⟨wo, rfl⟩ : ∃ w', w' = wr := ⟨wr, rfl⟩
      go_loopg [6, 7, 8, 9] n (fun gg s6 _ _ _ wr => ∃ (B : Nat) (lt : List El), 0 < B ∧ B ≤ 200000 ∧ n - B ≤ gg ∧ s6 = .int .i64 B ∧ Hid (lt.length = n ∧ Mix 0 n l lt ∧ Blk lt B n ∧ RowE g c wr lt ∧ Keeps (fun k => k = g) W wr))
      case atStart => exact ⟨20, l1, by omega, by omega, by omega, rfl, H1.out⟩
      case round =>
        obtain ⟨B, lb, hB0, hB2, hgb, rfl, HB⟩ := hrel
        by_cases hBn : B < n
        · have hBz : (B : Int) < (n : Int) := by omega
          go_wp2_with fail
          obtain ⟨wi, hwi⟩ : ∃ w', w' = wr := ⟨wr, rfl⟩
          go_loopg [7, 8] n (fun g2 s7 s8 wr => ∃ (a b : Nat) (lt : List El), b = a + 2 * B ∧ a ≤ n ∧ n - a ≤ g2 ∧ s7 = .int .i64 a ∧ s8 = .int .i64 b ∧
            Hid (lt.length = n ∧ Mix 0 n l lt ∧ (∃ k, a = k * (2 * B)) ∧ (∀ j, (j + 1) * (2 * B) ≤ a → Srt lt (j * (2 * B)) (j * (2 * B) + 2 * B)) ∧ (∀ j, Srt lt (a + j * B) (min (a + j * B + B) n)) ∧ RowE g c wr lt ∧ Keeps (fun k => k = g) W wr))
          case atStart => exact ⟨0, 2 * B, lb, by omega, Nat.zero_le _, by omega, rfl, by go_num, HB.out.1, HB.out.2.1, ⟨0, by omega⟩, fun j h => Srt.none lb (by have : 0 < (j + 1) * (2 * B) := Nat.mul_pos (by omega) (by omega); omega), fun j => by rw [Nat.zero_add]; exact HB.out.2.2.1 j, HB.out.2.2.2⟩
          case round =>
            obtain ⟨a2, b2, l2, hba2, han2, hg2, rfl, rfl, HI⟩ := hrel
            have Hb2 := Lib.hid hba2
            have Hsz := Lib.hid HI.out.1
            have hj0 := HI.out.2.2.2.2.1 0
            have hj1 := HI.out.2.2.2.2.1 1
            rw [Nat.zero_mul, Nat.add_zero] at hj0
            rw [Nat.one_mul] at hj1
            by_cases hbn2 : b2 ≤ n
            · have hbz : (b2 : Int) ≤ (n : Int) := by omega
              have hcall := sym_any g c n l2 a2 (a2 + B) b2 wr (by omega) (by omega) (by omega) (by rw [HI.out.1]; exact hbn2) (by rw [HI.out.1]; exact hl) (H.out.2.perm HI.out.2.1.perm) (hj0.mono (Nat.le_refl _) (by omega)) (hj1.mono (Nat.le_refl _) (by omega)) HI.out.2.2.2.2.2.1
              rw [HI.out.1] at hcall
              have ham : ((a2 : Int) + (B : Int)) = ((a2 + B : Nat) : Int) := rfl
              have haB : a2 + B ≤ 300000 := by omega
              clear hj0 hj1 hba2 ham
              go_wp2_with fail
              refine hcall.mono ?_
              rintro e w3 ⟨rfl, l3, hm3, hs3, hrow3, hk3⟩
              have H3 := Lib.hid (And.intro hm3 (And.intro hs3 (And.intro hrow3 (HI.out.2.2.2.2.2.2.trans hk3 (fun k hk => .inl hk)))))
              clear hcall hm3 hs3 hrow3 hk3
              go_wp2_with fail
              go_roundg (n - b2)
              case measure => have := Hb2.out; omega
              case rel =>
                have hb := Hb2.out
                refine ⟨b2, b2 + 2 * B, l3, rfl, hbn2, Nat.le_refl _, rfl, by go_num, H3.out.1.len.trans HI.out.1, HI.out.2.1.trans (H3.out.1.mono (Nat.zero_le _) hbn2), ?_, fun j hj => ?_, fun j => ?_, H3.out.2.2⟩
                · obtain ⟨k, hk⟩ := HI.out.2.2.1
                  exact ⟨k + 1, by rw [Nat.add_mul, Nat.one_mul]; omega⟩
                · obtain ⟨k, hk⟩ := HI.out.2.2.1
                  have e0 : (j + 1) * (2 * B) = j * (2 * B) + 2 * B := by rw [Nat.add_mul, Nat.one_mul]
                  by_cases e1 : (j + 1) * (2 * B) ≤ a2
                  · exact (HI.out.2.2.2.1 j e1).same (fun p _ hp => H3.out.1.out p (.inl (by omega)))
                  · have hjk : j = k := by
                      have h1 : j + 1 ≤ k + 1 := by
                        refine Nat.le_of_mul_le_mul_right (c := 2 * B) ?_ (by omega)
                        rw [Nat.add_mul k, Nat.one_mul]; omega
                      have h2 : ¬ j + 1 ≤ k := fun h => e1 (by rw [hk]; exact Nat.mul_le_mul_right _ h)
                      omega
                    subst hjk
                    rw [← hk, ← hb]
                    exact H3.out.2.1
                · have := HI.out.2.2.2.2.1 (j + 2)
                  rw [Nat.add_mul, ← Nat.add_assoc, Nat.add_right_comm, ← hb] at this
                  exact this.same (fun p hp _ => H3.out.1.out p (.inr (by omega)))
            · have hbz : ¬ (b2 : Int) ≤ (n : Int) := by omega
              obtain ⟨m, hm⟩ : ∃ m, a2 + B = m := ⟨_, rfl⟩
              rw [hm] at hj1
              have hmz : ((a2 : Int) + (B : Int)) = (m : Int) := by omega
              have hend : ∀ l3, Mix a2 n l2 l3 → Srt l3 a2 n → Blk l3 (2 * B) n := fun l3 hm3 hs3 j => by
                obtain ⟨k, hk⟩ := HI.out.2.2.1
                have e0 : (j + 1) * (2 * B) = j * (2 * B) + 2 * B := by rw [Nat.add_mul, Nat.one_mul]
                by_cases e1 : (j + 1) * (2 * B) ≤ a2
                · exact ((HI.out.2.2.2.1 j e1).same (fun p _ hp => hm3.out p (.inl (by omega)))).mono (Nat.le_refl _) (Nat.min_le_left _ _)
                · by_cases e2 : j = k
                  · subst e2
                    rw [← hk]
                    exact hs3.mono (Nat.le_refl _) (Nat.min_le_right _ _)
                  · have h3 : k + 1 ≤ j := by
                      have h2 : ¬ j + 1 ≤ k := fun h => e1 (by rw [hk]; exact Nat.mul_le_mul_right _ h)
                      omega
                    have h4 := Nat.mul_le_mul_right (2 * B) h3
                    rw [Nat.add_mul, Nat.one_mul] at h4
                    exact Srt.none l3 (by omega)
              have He := Lib.hid hend
              clear hend
              by_cases hmn : m < n
              · have hmnz : (m : Int) < (n : Int) := by omega
                have hcall := sym_any g c n l2 a2 m n wr (by omega) (by omega) hmn (by rw [HI.out.1]; exact Nat.le_refl _) (by rw [HI.out.1]; exact hl) (H.out.2.perm HI.out.2.1.perm) (hj0.mono (Nat.le_refl _) (by omega)) (hj1.mono (Nat.le_refl _) (by omega)) HI.out.2.2.2.2.2.1
                rw [HI.out.1] at hcall
                clear hj0 hj1 hba2 hm
                go_wp2_with fail
                refine hcall.mono ?_
                rintro e w3 ⟨rfl, l3, hm3, hs3, hrow3, hk3⟩
                have H3 := Lib.hid (And.intro (He.out l3 hm3 hs3) (And.intro hm3 (And.intro hrow3 (HI.out.2.2.2.2.2.2.trans hk3 (fun k hk => .inl hk)))))
                clear hcall hm3 hs3 hrow3 hk3 hmz
                go_wp2_with fail
                go_roundg (n - 2 * B)
                case measure => omega
                case rel => exact ⟨2 * B, l3, by omega, by omega, Nat.le_refl _, by go_num, H3.out.2.1.len.trans HI.out.1, HI.out.2.1.trans (H3.out.2.1.mono (Nat.zero_le _) (Nat.le_refl _)), H3.out.1, H3.out.2.2⟩
              · have hmnz : ¬ (m : Int) < (n : Int) := by omega
                have HF := Lib.hid (He.out l2 (Mix.refl _ _ _) (hj0.mono (Nat.le_refl _) (by omega)))
                clear hj0 hj1 hba2 hm
                go_wp2_with fail
                go_roundg (n - 2 * B)
                case measure => omega
                case rel => exact ⟨2 * B, l2, by omega, by omega, Nat.le_refl _, by go_num, HI.out.1, HI.out.2.1, HF.out, HI.out.2.2.2.2.2⟩
        · have hBz : ¬ (B : Int) < (n : Int) := by omega
          go_wp2_with fail
          go_end0
          have hfin := HB.out.2.2.1 0
          rw [Nat.zero_mul, Nat.zero_add] at hfin
          exact ⟨rfl, lb, HB.out.2.1, hfin.mono (Nat.le_refl _) (by omega), HB.out.2.2.2⟩
end Go.Proofs.YteocenjneoclbaaDoor.tre
namespace Go.Proofs.YteocenjneoclbaaDoor.tre
open Go.RowKit Go.Shelf

/-- Fields in the order of their keys. -/
def insF (x : ByteArray × V) : List (ByteArray × V) → List (ByteArray × V)
  | [] => [x]
  | y :: l => if cmpB x.1 y.1 < 0 then x :: y :: l else y :: insF x l
def sortF : List (ByteArray × V) → List (ByteArray × V)
  | [] => []
  | x :: l => insF x (sortF l)
theorem insF_perm (x : ByteArray × V) : ∀ l, List.Perm (insF x l) (x :: l)
  | [] => List.Perm.refl _
  | y :: l => by
    unfold insF
    split
    · exact List.Perm.refl _
    · exact ((insF_perm x l).cons y).trans (List.Perm.swap x y l)
theorem sortF_perm : ∀ l, List.Perm (sortF l) l
  | [] => List.Perm.refl _
  | x :: l => (insF_perm x (sortF l)).trans ((sortF_perm l).cons x)
/-- Each key is less than all behind it. -/
def Inc (l : List (ByteArray × V)) : Prop := l.Pairwise fun x y => ltB x.1 y.1
theorem insF_inc (x : ByteArray × V) : ∀ l, Inc l → (∀ y ∈ l, y.1 ≠ x.1) → Inc (insF x l)
  | [], _, _ => List.pairwise_singleton _ _
  | y :: l, h, hn => by
    have h' := List.pairwise_cons.1 h
    unfold insF
    by_cases c : cmpB x.1 y.1 < 0
    · rw [if_pos c]
      refine List.pairwise_cons.2 ⟨fun z hz => ?_, h⟩
      rcases List.mem_cons.1 hz with rfl | hz
      · exact c
      · exact ltB_trans c (h'.1 z hz)
    · rw [if_neg c]
      have hyx : ltB y.1 x.1 := (ltB_total (hn y (List.mem_cons_self ..))).resolve_right c
      refine List.pairwise_cons.2 ⟨fun z hz => ?_, insF_inc x l h'.2 (fun z hz => hn z (List.mem_cons_of_mem _ hz))⟩
      rcases List.mem_cons.1 ((insF_perm x l).mem_iff.1 hz) with rfl | hz
      · exact hyx
      · exact h'.1 z hz
theorem sortF_inc : ∀ l, (l.map (·.1)).Nodup → Inc (sortF l)
  | [], _ => List.Pairwise.nil
  | x :: l, h => by
    rw [List.map_cons, List.nodup_cons] at h
    exact insF_inc x _ (sortF_inc l h.2) (fun y hy e => h.1 (by rw [← e]; exact List.mem_map_of_mem (f := (·.1)) ((sortF_perm l).mem_iff.1 hy)))
theorem inc_eq : ∀ (l m : List (ByteArray × V)), Inc l → Inc m → List.Perm l m → l = m
  | [], m, _, _, h => (List.nil_perm.1 h).symm
  | x :: l, [], _, _, h => absurd h.length_eq (by simp)
  | x :: l, y :: m, h1, h2, h => by
    have h1' := List.pairwise_cons.1 h1
    have h2' := List.pairwise_cons.1 h2
    have hxy : x = y := by
      have hx : x ∈ y :: m := h.mem_iff.1 (List.mem_cons_self ..)
      have hy : y ∈ x :: l := h.mem_iff.2 (List.mem_cons_self ..)
      rcases List.mem_cons.1 hx with e | hx
      · exact e
      · rcases List.mem_cons.1 hy with e | hy
        · exact e.symm
        · exact absurd (h1'.1 y hy) (ltB_asymm (h2'.1 x hx))
    subst hxy
    rw [inc_eq l m h1'.2 h2'.2 (List.Perm.cons_inv h)]
theorem perm_lift {α β : Type _} (f : α → β) : ∀ {l' l : List β}, List.Perm l' l → ∀ Z : List α, Z.map f = l → ∃ Z' : List α, List.Perm Z' Z ∧ Z'.map f = l' := by
  intro l' l h
  induction h with
  | nil => intro Z hZ; exact ⟨Z, List.Perm.refl _, hZ⟩
  | cons x _ ih =>
    intro Z hZ
    match Z, hZ with
    | z :: Z, hZ =>
      rw [List.map_cons] at hZ
      injection hZ with h1 h2
      obtain ⟨Z', h3, h4⟩ := ih Z h2
      exact ⟨z :: Z', h3.cons z, by rw [List.map_cons, h1, h4]⟩
  | swap x y l =>
    intro Z hZ
    match Z, hZ with
    | z1 :: z2 :: Z, hZ =>
      simp only [List.map_cons] at hZ
      injection hZ with h1 h2
      injection h2 with h2 h3
      exact ⟨z2 :: z1 :: Z, List.Perm.swap z1 z2 Z, by simp only [List.map_cons, h1, h2, h3]⟩
  | trans _ _ ih1 ih2 =>
    intro Z hZ
    obtain ⟨Z1, h1, h2⟩ := ih2 Z hZ
    obtain ⟨Z2, h3, h4⟩ := ih1 Z1 h2
    exact ⟨Z2, h3.trans h1, h4⟩
theorem sortStable_any (l : List El) (g c : Nat) (W : World) (hl : l.length ≤ 100000) (hd : Dist l) (h : RowE g c W l) :
    Calls Tryd.prog 40 #[.slice (some ⟨g, 0, none⟩) l.length c, cmpV] W fun e w' => e = .returned (.tuple #[]) ∧ ∃ l', Mix 0 l.length l l' ∧ Srt l' 0 l.length ∧ RowE g c w' l' ∧ Keeps (fun k => k = g) W w' := by
  have hcall := stable_any l g c W hl hd h
  clear h hd
  go_enter Tryd.func40, Tryd.ntmps40
  go_wp2_with fail
  refine hcall.mono ?_
  rintro e w1 ⟨rfl, h1⟩
  have H1 := Lib.hid h1
  clear h1
  go_wp2_with fail
  go_end0
  exact ⟨rfl, H1.out⟩
theorem insertion_nil (a : Option Addr) (c : Nat) (W : World) : Calls Tryd.prog 80 #[.slice a 0 c, .int .i64 0, .int .i64 0, cmpV] W fun e w' => e = .returned (.tuple #[]) ∧ W = w' := by
  go_enter Tryd.func80, Tryd.ntmps80
  go_wp2
  go_loopg [8, 9] 0 (fun _ s8 _ wr => s8 = .int .i64 1 ∧ Hid (W = wr))
  case atStart => exact ⟨rfl, rfl⟩
  case round =>
    obtain ⟨rfl, HH⟩ := hrel
    go_wp2
    go_end0
    exact ⟨rfl, HH.out⟩
theorem sortStable_nil (a : Option Addr) (c : Nat) (W : World) : Calls Tryd.prog 40 #[.slice a 0 c, cmpV] W fun e w' => e = .returned (.tuple #[]) ∧ W = w' := by
  have hst : Calls Tryd.prog 67 #[.slice a 0 c, .int .i64 0, cmpV] W fun e w' => e = .returned (.tuple #[]) ∧ W = w' := by
    go_enter Tryd.func67, Tryd.ntmps67
    go_wp2
    go_loopg [7, 8] 0 (fun _ s7 s8 wr => s7 = .int .i64 0 ∧ s8 = .int .i64 20 ∧ Hid (W = wr))
    case atStart => exact ⟨rfl, rfl, rfl⟩
    case round =>
      obtain ⟨rfl, rfl, HH⟩ := hrel
      go_wp2_with fail
      refine (insertion_nil a c wr).mono ?_
      rintro e w1 ⟨rfl, h1⟩
      have H1 := Lib.hid (HH.out.trans h1)
      clear h1
      go_wp2_with fail
      go_loopg [6, 7, 8, 9] 0 (fun _ s6 _ _ _ wr => s6 = .int .i64 20 ∧ Hid (W = wr))
      case atStart => exact ⟨rfl, H1.out⟩
      case round =>
        obtain ⟨rfl, HJ⟩ := hrel
        go_wp2
        go_end0
        exact ⟨rfl, HJ.out⟩
  go_enter Tryd.func40, Tryd.ntmps40
  go_wp2_with fail
  refine hst.mono ?_
  rintro e w1 ⟨rfl, rfl⟩
  go_wp2_with fail
  go_end0
  exact ⟨rfl, rfl⟩
theorem srt_inc : ∀ (l : List El), Srt l 0 l.length → l.Pairwise fun x y => ltB x.k y.k := fun l h => by
  rw [List.pairwise_iff_getElem]
  intro i j hi hj hij
  exact h i j _ _ (Nat.zero_le _) hij hj (List.getElem?_eq_getElem hi) (List.getElem?_eq_getElem hj)
theorem arr_canon : Arr (fun l => (l.map (·.1)).Nodup) 39 #[] sortF := by
  refine ⟨enters_of Tryd.func39 (by kernel_rfl) rfl, fun Z S w q hok hn hz hrow => ?_⟩
  obtain ⟨f, hf⟩ : ∃ f : (ByteArray × V) × List Value → El, ∀ z ∈ Z, cellsE (f z) = z.2 ∧ (f z).k = z.1.1 := by
    classical
    refine ⟨fun z => if h : ∃ r t, z.2 = cellsF z.1 r t then ⟨z.1.1, z.1.2.kind, z.1.2.int, z.1.2.text, h.choose, h.choose_spec.choose⟩ else ⟨z.1.1, 0, 0, z.1.1, ⟨none, 0, 0⟩, ⟨none, 0, 0⟩⟩, fun z hzm => ?_⟩
    have h := hz z hzm
    simp only [dif_pos h]
    exact ⟨h.choose_spec.choose_spec.symm, trivial⟩
  have hm : (Z.map f).map cellsE = Z.map (·.2) := by rw [List.map_map]; exact List.map_congr_left (fun z hzm => (hf z hzm).1)
  have hk : (Z.map f).map El.k = (Z.map (·.1)).map (·.1) := by rw [List.map_map, List.map_map]; exact List.map_congr_left (fun z hzm => (hf z hzm).2)
  have hd : Dist (Z.map f) := by unfold Dist; rw [hk]; exact hok
  obtain ⟨qa, qn, qc⟩ := q
  obtain ⟨hqn, hqa⟩ := hrow.form
  simp only at hqn hqa
  subst hqn
  by_cases h0 : Z.length = 0
  · have hZ : Z = [] := List.eq_nil_of_length_eq_zero h0
    subst hZ
    have hs := sortStable_nil qa qc w
    go_enter Tryd.func39, Tryd.ntmps39
    go_wp2_with fail
    refine hs.mono ?_
    rintro e w1 ⟨rfl, rfl⟩
    go_wp2_with fail
    go_end0
    exact ⟨rfl, ⟨[], List.Perm.refl _, rfl, hrow⟩, Keeps.of_below (Below.refl _ _)⟩
  · obtain ⟨g, rfl⟩ := hqa.resolve_left h0
    have hrE : RowE g qc w (Z.map f) := by
      unfold RowE
      rw [hm, List.length_map]
      exact ⟨hrow.1, hrow.2.1, hrow.2.2.1, fun k hk => by cases hk; rfl⟩
    have hs := sortStable_any (Z.map f) g qc w (by rw [List.length_map]; exact hn) hd hrE
    rw [List.length_map] at hs
    have Hz := Lib.hid (And.intro hf (And.intro hok hrow))
    clear hm hk hd hrE hf hok hrow
    go_enter Tryd.func39, Tryd.ntmps39
    go_wp2_with fail
    refine hs.mono ?_
    rintro e w1 ⟨rfl, l', hmx, hsr, hrow1, hk1⟩
    have H1 := Lib.hid (And.intro hmx (And.intro hsr (And.intro hrow1 hk1)))
    clear hs hmx hsr hrow1 hk1
    go_wp2_with fail
    go_end0
    obtain ⟨Z', hp, hZ'⟩ := perm_lift f H1.out.1.perm Z rfl
    have hmem : ∀ z ∈ Z', z ∈ Z := fun z hz' => hp.mem_iff.1 hz'
    have hm' : l'.map cellsE = Z'.map (·.2) := by rw [← hZ', List.map_map]; exact List.map_congr_left (fun z hzm => (Hz.out.1 z (hmem z hzm)).1)
    refine ⟨rfl, ⟨Z', hp, ?_, ?_⟩, ?_⟩
    · refine inc_eq _ _ ?_ (sortF_inc _ Hz.out.2.1) ((hp.map (·.1)).trans (sortF_perm _).symm)
      have hsi := srt_inc l' (by rw [H1.out.1.len, List.length_map]; exact H1.out.2.1)
      rw [← hZ'] at hsi
      unfold Inc
      rw [List.pairwise_map] at hsi ⊢
      exact hsi.imp_of_mem (fun {x y} hx hy hxy => by rw [(Hz.out.1 x (hmem x hx)).2, (Hz.out.1 y (hmem y hy)).2] at hxy; exact hxy)
    · have hr := H1.out.2.2.1
      have hll : l'.length = Z.length := by rw [H1.out.1.len, List.length_map]
      unfold RowE at hr
      rw [hm', hll] at hr
      exact ⟨hr.1, hr.2.1, hr.2.2.1, fun k hk => Hz.out.2.2.2.2.2 k hk⟩
    · have hk := H1.out.2.2.2
      exact ⟨hk.os, hk.tape, hk.output, hk.size, fun k hl hne => hk.block k hl (fun e => hne (by rw [e]; rfl))⟩
/-- A value of which no list is too great, and no key there twice in a map. -/
def okB : V → Bool := V.fold fun v a b => decide (v.list.length ≤ 100000) && decide (v.fields.length ≤ 100000) && decide (v.fields.map (·.1)).Nodup && a.all id && b.all fun g => g.2
def okC (v : V) : Prop := okB v = true
theorem okC_eq (v : V) : okC v ↔ v.list.length ≤ 100000 ∧ v.fields.length ≤ 100000 ∧ (v.fields.map (·.1)).Nodup ∧ (∀ x ∈ v.list, okC x) ∧ ∀ g ∈ v.fields, okC g.2 := by
  unfold okC
  conv => lhs; unfold okB
  rw [V.fold_eq]
  simp [and_assoc, okB]
def canonV (v : V) : V := rebV sortF v
theorem canonV_eq (v : V) : canonV v = .mk v.kind v.int v.text (v.list.map canonV) (sortF (v.fields.map fun g => (g.1, canonV g.2))) := rebV_eq sortF v
theorem Canon_any (v : V) (hok : okC v) (S : Nat → Prop) (W : World) (r t : Sl) (hS : ∀ g, S g → g < W.heap.size) (hh : HV S W v r t) :
    Calls Tryd.prog 12 #[.agg #[.int .i64 v.kind, .int .i64 v.int, .string v.text, .slice r.a r.n r.c, .slice t.a t.n t.c]] W
      fun e w' => ∃ p q : Sl, e = .returned (.agg #[.int .i64 v.kind, .int .i64 v.int, .string v.text, .slice p.a p.n p.c, .slice q.a q.n q.c]) ∧ Built S W.heap.size w' (canonV v) p q ∧ Below W.heap.size W w' := by
  have hb2 : ∀ o1 o2, Below W.heap.size W ((W.alloc o1).alloc o2) := fun o1 o2 => ((Below.refl _ _).alloc (Nat.le_refl _) o1).alloc (by rw [size_alloc]; omega) o2
  have hcall := fun o1 o2 => rebuild_any arr_canon okC (fun v h => by obtain ⟨h1, h2, h3, h4, h5⟩ := (okC_eq v).1 h; exact ⟨h4, h5, h1, h2, by rw [List.map_map]; exact h3⟩) v hok S ((W.alloc o1).alloc o2) r t (fun g hg => Nat.lt_of_lt_of_le (hS g hg) (hb2 _ _).size) (hh.later (hb2 _ _))
  have Hb := Lib.hid (And.intro hb2 hS)
  have Hn := Lib.hid (fun o1 o2 => (show ((W.alloc o1).alloc o2).heap[W.heap.size + 1]? = some o2 by have := block_new (W.alloc o1) o2; rwa [size_alloc] at this))
  clear hb2 hS hh hok
  go_enter Tryd.func12, Tryd.ntmps12
  go_wp2_with (go_at_call 38; refine (hcall _ _).mono ?_; rintro e w7 ⟨p, q, rfl, hB, hb7⟩; have q6 := (hb7.block (W.heap.size + 1) (by rw [size_alloc, size_alloc]; omega)).trans (Hn.out _ _); have r0 : w7.cell? ⟨W.heap.size + 1, 0, none⟩ = some (.int .i64 0) := (by rw [blk_cell q6]; rfl); have r1 : w7.cell? ⟨W.heap.size + 1, 1, none⟩ = some (.int .i64 0) := (by rw [blk_cell q6]; rfl); have r2 : w7.cell? ⟨W.heap.size + 1, 2, none⟩ = some (.string ⟨#[]⟩) := (by rw [blk_cell q6]; rfl); have r3 : w7.cell? ⟨W.heap.size + 1, 3, none⟩ = some (.slice none 0 0) := (by rw [blk_cell q6]; rfl); have r4 : w7.cell? ⟨W.heap.size + 1, 4, none⟩ = some (.slice none 0 0) := (by rw [blk_cell q6]; rfl); have f0 := blk_frozen q6 0; have f1 := blk_frozen q6 1; have f2 := blk_frozen q6 2; have f3 := blk_frozen q6 3; have f4 := blk_frozen q6 4; have H7 := Lib.hid (And.intro q6 (And.intro hB hb7)); clear q6 hB hb7)
  refine bodyPost_ret (results_cell_row rfl _ _ (W.heap.size + 1) 27 _ (0, 0) _ rfl (set5 _ _ _ _ _ H7.out.1) Tryd.underlying27 rfl size_V) rfl ?_
  refine ⟨p, q, rfl, H7.out.2.1.map (by rw [size_alloc, size_alloc]; omega) (fun k hk _ => far5 ?_), ?_⟩
  · rw [size_alloc, size_alloc] at hk
    rcases hk with hk | hk
    · have := Hb.out.2 k hk; omega
    · omega
  · have hb := (Hb.out.1 _ _).trans (H7.out.2.2.mono (by rw [size_alloc, size_alloc]; omega))
    exact ((((hb.setCell (p := ⟨W.heap.size + 1, 0, none⟩) (Nat.le_succ _) _).setCell (p := ⟨W.heap.size + 1, 1, none⟩) (Nat.le_succ _) _).setCell (p := ⟨W.heap.size + 1, 2, none⟩) (Nat.le_succ _) _).setCell (p := ⟨W.heap.size + 1, 3, none⟩) (Nat.le_succ _) _).setCell (p := ⟨W.heap.size + 1, 4, none⟩) (Nat.le_succ _) _
end Go.Proofs.YteocenjneoclbaaDoor.tre
namespace Go.Proofs.YteocenjneoclbaaDoor.tre
open Go.RowKit Go.Shelf

theorem flatten_take_drop (zss : List (List Value)) (n : Nat) : (zss.take n).flatten ++ (zss.drop n).flatten = zss.flatten := by
  rw [← List.flatten_append, List.take_append_drop]
theorem flat_len {zss : List (List Value)} {k : Nat} (h : ∀ xs ∈ zss, xs.length = k) : zss.flatten.length = zss.length * k := by
  induction zss with
  | nil => simp
  | cons x l ih =>
    rw [List.flatten_cons, List.length_append, h x (List.mem_cons_self ..), ih (fun y hy => h y (List.mem_cons_of_mem _ hy)), List.length_cons, Nat.add_mul, Nat.one_mul]
    omega
theorem allZ_take {α β : Type _} {R : α → β → Prop} {l : List α} {m : List β} (h : AllZ R l m) (n : Nat) : AllZ R (l.take n) (m.take n) := by
  intro i x y hx hy
  rw [List.getElem?_take] at hx hy
  by_cases c : i < n
  · rw [if_pos c] at hx hy; exact h i x y hx hy
  · rw [if_neg c] at hx; cases hx
theorem allZ_drop {α β : Type _} {R : α → β → Prop} {l : List α} {m : List β} (h : AllZ R l m) (n : Nat) : AllZ R (l.drop n) (m.drop n) := by
  intro i x y hx hy
  rw [List.getElem?_drop] at hx hy
  exact h _ x y hx hy
theorem allZ_append {α β : Type _} {R : α → β → Prop} {l l' : List α} {m m' : List β} (hl : m.length = l.length) (h : AllZ R l m) (h' : AllZ R l' m') : AllZ R (l ++ l') (m ++ m') := by
  intro i x y hx hy
  by_cases c : i < l.length
  · rw [List.getElem?_append_left c] at hx
    rw [List.getElem?_append_left (by omega)] at hy
    exact h i x y hx hy
  · rw [List.getElem?_append_right (by omega)] at hx
    rw [List.getElem?_append_right (by omega), hl] at hy
    exact h' _ x y hx hy
/-- A field among the others. -/
def putAt (m : V) (n : Nat) (k : ByteArray) (x : V) : V := .mk m.kind m.int m.text m.list (m.fields.take n ++ [(k, x)] ++ m.fields.drop n)
/-- One more field, in a new row. -/
theorem MV.insert {B : Nat} {w w5 w6 : World} {m x : V} {n : Nat} {ky : ByteArray} {p q q' px qx : Sl} {xss zss : List (List Value)} (h : MV B w m p q xss zss) (hBw : B ≤ w.heap.size) (hb : Below w.heap.size w w5) (hx : HV (fun g => w.heap.size ≤ g ∧ g < w5.heap.size) w5 x px qx)
    (hn : n ≤ m.fields.length) (hown : w6.ownsRow w5.heap.size 31 6 q'.val (m.fields.length + 1) ((zss.take n).flatten ++ cellsF (ky, x) px qx ++ (zss.drop n).flatten)) (hg : ∀ k, B ≤ k → k < w5.heap.size → w6.heap[k]? = w5.heap[k]?) :
    MV B w6 (putAt m n ky x) p q' xss (zss.take n ++ [cellsF (ky, x) px qx] ++ zss.drop n) := by
  obtain ⟨h1, h2, h3, h4, h5⟩ := h
  have hsz := hb.size
  have hpl : ∀ k, p.val.ownBlock = some k → k < w.heap.size := fun k e => (h1.2.2.1.lt k e).2
  have hql : ∀ k, q'.val.ownBlock = some k → w5.heap.size ≤ k := fun k e => (hown.lt k e).1
  have keep : ∀ k, B ≤ k → k < w.heap.size → w6.heap[k]? = w.heap[k]? := fun k hk hl => (hg k hk (by omega)).trans (hb.block k hl)
  have hmap : ∀ k, (B ≤ k ∧ p.val.ownBlock ≠ some k ∧ q.val.ownBlock ≠ some k) → k < w.heap.size → (B ≤ k ∧ p.val.ownBlock ≠ some k ∧ q'.val.ownBlock ≠ some k) ∧ w6.heap[k]? = w.heap[k]? := fun k hk hl =>
    ⟨⟨hk.1, hk.2.1, fun e => by have := hql k e; omega⟩, keep k hk.1 hl⟩
  have hnl : (zss.take n).length = (m.fields.take n).length := by rw [List.length_take, List.length_take, h2.1]
  have hlen : (putAt m n ky x).fields.length = m.fields.length + 1 := by
    show (m.fields.take n ++ [(ky, x)] ++ m.fields.drop n).length = _
    simp; omega
  refine ⟨h1.map (fun k hk hl => ⟨hk, keep k hk hl⟩), ⟨?_, ?_, ?_, ?_⟩, ?_, fun i y cs hy hc => Lies.map hmap y cs (h4 i y cs hy hc), ?_⟩
  · rw [hlen]
    simp only [List.length_append, List.length_take, List.length_drop, List.length_singleton, h2.1]
    omega
  · intro xs hxs
    rcases List.mem_append.1 hxs with hxs | hxs
    · rcases List.mem_append.1 hxs with hxs | hxs
      · exact h2.2.1 xs (List.mem_of_mem_take hxs)
      · rw [List.mem_singleton] at hxs; rw [hxs]; rfl
    · exact h2.2.1 xs (List.mem_of_mem_drop hxs)
  · rw [hlen, List.flatten_append, List.flatten_append, List.flatten_singleton]
    exact own_zero hown
  · exact fun k e => Nat.le_trans hBw (Nat.le_trans hsz (hql k e))
  · intro k e e2
    have := hpl k e; have := hql k e2; omega
  · have hz : AllZ (fun (g : ByteArray × V) xs => ∃ ys, xs = .string g.1 :: ys ∧ Lies (fun k => B ≤ k ∧ p.val.ownBlock ≠ some k ∧ q'.val.ownBlock ≠ some k) w6 g.2 ys) m.fields zss := fun i y cs hy hc => by
      obtain ⟨ys, e, hl⟩ := h5 i y cs hy hc
      exact ⟨ys, e, Lies.map hmap _ _ hl⟩
    have h1z : AllZ (fun (g : ByteArray × V) xs => ∃ ys, xs = .string g.1 :: ys ∧ Lies (fun k => B ≤ k ∧ p.val.ownBlock ≠ some k ∧ q'.val.ownBlock ≠ some k) w6 g.2 ys) [(ky, x)] [cellsF (ky, x) px qx] := fun i y cs hy hc => by
      cases i with
      | zero =>
        simp only [List.getElem?_cons_zero, Option.some.injEq] at hy hc
        subst hy hc
        exact ⟨cellsV x px qx, rfl, Lies.map (fun k hk hl => ⟨⟨by omega, fun e => by have := hpl k e; omega, fun e => by have := hql k e; omega⟩, hg k (by omega) hl⟩) x _ hx.lies⟩
      | succ i => simp at hy
    exact allZ_append (by simp [hnl]) (allZ_append hnl (allZ_take hz n) h1z) (allZ_drop hz n)
/-- Fields so far, in order. -/
theorem sort_snoc {l z : List (ByteArray × V)} {k : ByteArray} {x : V} {n : Nat} (hz : z = sortF l) (hd : ((l ++ [(k, x)]).map (·.1)).Nodup) (hlt : ∀ y ∈ z.take n, ltB y.1 k) (hge : ∀ y ∈ z.drop n, ltB k y.1) : z.take n ++ [(k, x)] ++ z.drop n = sortF (l ++ [(k, x)]) := by
  have hdl : (l.map (·.1)).Nodup := by
    rw [List.map_append] at hd
    exact (List.nodup_append.1 hd).1
  have hinc : Inc z := by rw [hz]; exact sortF_inc l hdl
  have hp : List.Perm z l := by rw [hz]; exact sortF_perm l
  refine inc_eq _ _ ?_ (sortF_inc _ hd) ?_
  · unfold Inc at hinc ⊢
    rw [← List.take_append_drop n z, List.pairwise_append] at hinc
    rw [List.append_assoc, List.pairwise_append]
    refine ⟨hinc.1, ?_, ?_⟩
    · exact List.pairwise_cons.2 ⟨hge, hinc.2.1⟩
    · intro a ha b hb
      rcases List.mem_cons.1 hb with rfl | hb
      · exact hlt a ha
      · exact hinc.2.2 a ha b hb
  · refine List.Perm.trans ?_ ((sortF_perm _).symm)
    have h1 : List.Perm (z.take n ++ [(k, x)] ++ z.drop n) (z ++ [(k, x)]) := by
      conv => rhs; rw [← List.take_append_drop n z]
      rw [List.append_assoc, List.append_assoc]
      exact List.Perm.append_left _ List.perm_append_comm
    exact h1.trans (hp.append_right _)
theorem inc_drop {z : List (ByteArray × V)} (h : Inc z) {n : Nat} (hn : n < z.length) {k : ByteArray} (hk : ltB k z[n].1) : ∀ y ∈ z.drop n, ltB k y.1 := by
  intro y hy
  rw [List.drop_eq_getElem_cons hn] at hy
  rcases List.mem_cons.1 hy with rfl | hy
  · exact hk
  · have h2 : (z.drop n).Pairwise fun x y => ltB x.1 y.1 := h.sublist (List.drop_sublist _ _)
    rw [List.drop_eq_getElem_cons hn] at h2
    exact ltB_trans hk ((List.pairwise_cons.1 h2).1 y hy)
end Go.Proofs.YteocenjneoclbaaDoor.tre

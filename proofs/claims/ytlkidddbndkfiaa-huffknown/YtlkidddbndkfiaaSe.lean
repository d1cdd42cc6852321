/-
  Contracts of sorting: the whole sort.
-/
import Derived.Test.YtlkidddbndkfiaaSd
namespace Go.Proofs.Ytlkidddbndkfiaa
open Go.RowKit
open Go.Sort (swp PermIn SortedIn SWO swp_get swp_size swp_permIn permIn_refl permIn_trans permIn_mono permIn_all Ins)

theorem dvd_gap {k s a : Nat} (h1 : k ∣ s) (h2 : k ∣ a) (h : s < a + k) : s ≤ a := by
  obtain ⟨x, rfl⟩ := h1
  obtain ⟨y, rfl⟩ := h2
  have : k * x < k * (y + 1) := by rw [Nat.mul_add]; omega
  have h3 := Nat.lt_of_mul_lt_mul_left this
  exact Nat.mul_le_mul_left k (by omega)

/-- Blocks of k places, from a on, are sorted. -/
def Blk (fq : List Int) (k n : Nat) (d : Array Nat) (p : Nat → Prop) : Prop := ∀ s, k ∣ s → p s → SortedIn (ltF fq) s (min (s + k) n) d

theorem Blk.keep {fq : List Int} {k n a b : Nat} {d d' : Array Nat} {p : Nat → Prop} (h : Blk fq k n d p) (hP : PermIn a b d d') (hp : ∀ s, k ∣ s → p s → s + k ≤ a ∨ b ≤ s) : Blk fq k n d' p := fun s h1 h2 =>
  SortedIn.same (h s h1 h2) fun x y z => hP.2.1 x (by have := hp s h1 h2; omega)

set_option maxHeartbeats 3200000 in
set_option maxRecDepth 100000 in
theorem stable_c (g P c : Nat) (fq : List Int) (d : Array Nat) (w : World) (h : St w w g P fq d) :
    Calls Try.prog 55 #[.slice (some ⟨g, 0, none⟩) d.size c, .int .i64 (d.size : Nat), .func (.func 50) #[] #[.pointer (some ⟨P, 0, none⟩)]] w fun e w' => e = .returned (.tuple #[]) ∧ ∃ d', St w w' g P fq d' ∧ PermIn 0 d.size d d' ∧ SortedIn (ltF fq) 0 d.size d' := by
  have hsm := h.dt.small
  have H := hide h
  obtain ⟨n, hn⟩ : ∃ n, n = d.size := ⟨_, rfl⟩
  rw [← hn]
  have Hn := hide hn
  rw [← hn] at hsm
  clear h hn
  go_enter Try.func55, Try.ntmps55
  go_wp2
  go_loopw [7, 8] (fun av bv wr => ∃ (a b : Nat) (d' : Array Nat), b = a + 20 ∧ a ≤ n ∧ av = .int .i64 (a : Int) ∧ bv = .int .i64 (b : Int) ∧ St w wr g P fq d' ∧ Hid (20 ∣ a) ∧ Hid (PermIn 0 n d d') ∧ Hid (Blk fq 20 n d' (fun s => s < a))) (fun av _ _ => n - (intOf av).toNat)
  case atStart => exact ⟨0, 20, d, rfl, Nat.zero_le _, rfl, rfl, H.out, ⟨0, rfl⟩, permIn_refl _ _ _, fun s _ h => absurd h (Nat.not_lt_zero _)⟩
  case round =>
    obtain ⟨a, b, d', hab, han, rfl, rfl, hS, Hdv, HP, HB⟩ := hrel
    have hsz : d'.size = n := HP.out.1.trans Hn.out.symm
    have HS := hide hS
    have Hsz := hide hsz
    have Hab := hide hab
    by_cases hlt : b ≤ n
    · have CI := hide (insertion_c g P n c a b fq d' wr HS.out.start Hsz.out.symm (by omega) (by omega))
      have hbb : b ≤ 1000 := by omega
      clear hS hsz hab
      go_wp2_with fail
      refine CI.out.mono ?_
      rintro e w2 ⟨rfl, d2, t1, t2, t3⟩
      have HS2 := hide (HS.out.trans t1)
      have HP2 := hide (permIn_trans _ _ _ _ _ HP.out (permIn_mono _ _ a b 0 n (Nat.zero_le _) hlt (by rw [Hsz.out]; exact Nat.le_refl _) t2))
      have HB2 : Hid (Blk fq 20 n d2 (fun s => s < b)) := by
        intro s h1 h2
        have e := Hab.out
        by_cases hs : s < a
        · have h20 : s + 20 ≤ a := by
            obtain ⟨x, hx⟩ := h1
            obtain ⟨y, hy⟩ := Hdv.out
            omega
          exact SortedIn.same (HB.out s h1 hs) fun x y z => t2.2.1 x (Or.inl (by omega))
        · have : s = a := by have := dvd_gap h1 Hdv.out (by omega); omega
          subst this
          rw [show min (s + 20) n = b by omega]
          exact t3
      clear t1 t2 t3
      go_wp2
      go_roundw
      case rel => exact ⟨b, b + 20, d2, rfl, hlt, rfl, by go_num, HS2.out, by show 20 ∣ b; rw [Hab.out]; exact Nat.dvd_add Hdv.out (Nat.dvd_refl _), HP2, HB2⟩
      case measure => simp [intOf]; have := Hab.out; omega
    · have CI := hide (insertion_c g P n c a n fq d' wr HS.out.start Hsz.out.symm han (by omega))
      have hbn : n < b := by omega
      have hbb : b ≤ 1000 := by omega
      clear hS hsz hab hlt
      go_wp2_with fail
      refine CI.out.mono ?_
      rintro e w2 ⟨rfl, d2, t1, t2, t3⟩
      have HS2 := hide (HS.out.trans t1)
      have HP2 := hide (permIn_trans _ _ _ _ _ HP.out (permIn_mono _ _ a n 0 n (Nat.zero_le _) (Nat.le_refl _) (by rw [Hsz.out]; exact Nat.le_refl _) t2))
      have HB2 : Hid (Blk fq 20 n d2 (fun _ => True)) := by
        intro s h1 _
        have e := Hab.out
        by_cases hs : s < a
        · have h20 : s + 20 ≤ a := by
            obtain ⟨x, hx⟩ := h1
            obtain ⟨y, hy⟩ := Hdv.out
            omega
          exact SortedIn.same (HB.out s h1 hs) fun x y z => t2.2.1 x (Or.inl (by omega))
        · by_cases hs2 : s = a
          · subst hs2
            rw [show min (s + 20) n = n by omega]
            exact t3
          · have h20 : a + 20 ≤ s := by
              obtain ⟨x, hx⟩ := h1
              obtain ⟨y, hy⟩ := Hdv.out
              omega
            intro x y p q r
            omega
      clear t1 t2 t3 HS HP HB Hdv Hab Hsz CI hbn hbb han
      go_wp2
      go_loopw [6, 7, 8, 9] (fun kv _ _ _ wr => ∃ (k : Nat) (d' : Array Nat), 0 < k ∧ k ≤ 1000 ∧ kv = .int .i64 (k : Int) ∧ St w wr g P fq d' ∧ Hid (PermIn 0 n d d') ∧ Hid (Blk fq k n d' (fun _ => True))) (fun kv _ _ _ _ => n - (intOf kv).toNat)
      case atStart => exact ⟨20, d2, by omega, by omega, rfl, HS2.out, HP2, HB2⟩
      case round =>
        obtain ⟨k, d3, hk0, hk1, rfl, hS3, HP3, HB3⟩ := hrel
        have HS3 := hide hS3
        by_cases hkn : k < n
        · obtain ⟨k2, hk2⟩ : ∃ k2, k2 = 2 * k := ⟨_, rfl⟩
          have hk3 : 2 * (k : Int) = (k2 : Int) := by omega
          have hk4 : (k : Int) * 2 = (k2 : Int) := by omega
          have hk2b : k2 ≤ 640 := by omega
          have Hk2 := hide hk2
          clear hS3 hk2
          go_wp2
          go_loopw [7, 8] (fun av bv wr => ∃ (a b : Nat) (d' : Array Nat), Hid (b = a + k2) ∧ b ≤ 2000 ∧ a ≤ n ∧ av = .int .i64 (a : Int) ∧ bv = .int .i64 (b : Int) ∧ St w wr g P fq d' ∧ Hid (k2 ∣ a) ∧ Hid (PermIn 0 n d d') ∧ Hid (Blk fq k2 n d' (fun s => s < a)) ∧ Hid (Blk fq k n d' (fun s => a ≤ s))) (fun av _ _ => n - (intOf av).toNat)
          case atStart => exact ⟨0, k2, d3, by show k2 = 0 + k2; omega, by omega, Nat.zero_le _, rfl, rfl, HS3.out, ⟨0, rfl⟩, HP3, fun s _ h => absurd h (Nat.not_lt_zero _), fun s h1 _ => HB3.out s h1 trivial⟩
          case round =>
            obtain ⟨a, b, d4, Hab, hb2, han, rfl, rfl, hS4, Hdv, HP4, HB4, HC4⟩ := hrel
            have hsz : d4.size = n := HP4.out.1.trans Hn.out.symm
            have HS4 := hide hS4
            have Hsz := hide hsz
            have hdk : k ∣ a := Nat.dvd_trans ⟨2, by have := Hk2.out; omega⟩ Hdv.out
            have Hdk := hide hdk
            obtain ⟨m, hm⟩ : ∃ m, m = a + k := ⟨_, rfl⟩
            have hm1 : (a : Int) + (k : Int) = (m : Int) := by omega
            have Hm := hide hm
            have hmb : m ≤ 2000 := by omega
            clear hS4 hsz hdk hm
            by_cases hlt : b ≤ n
            · have hbe := Hab.out
              have hke := Hk2.out
              have hme := Hm.out
              have CM : Merges g P c fq a m b d4 wr := merge_c g P c fq (b - a) a m b d4 wr (Nat.le_refl _) (by omega) (by omega) (by rw [Hsz.out]; exact hlt) HS4.out.start
                (by have := HC4.out a Hdk.out (Nat.le_refl _); rw [show min (a + k) n = m by omega] at this; exact this)
                (by have := HC4.out m (by rw [hme]; exact Nat.dvd_add Hdk.out (Nat.dvd_refl _)) (by omega); rw [show min (m + k) n = b by omega] at this; exact this)
              unfold Merges at CM
              rw [Hsz.out] at CM
              have CM2 := hide CM
              clear CM hbe hke hme
              go_wp2_with fail
              refine CM2.out.mono ?_
              rintro e w5 ⟨rfl, d5, t1, t2, t3⟩
              have HS5 := hide (HS4.out.trans t1)
              have HP5 := hide (permIn_trans _ _ _ _ _ HP4.out (permIn_mono _ _ a b 0 n (Nat.zero_le _) hlt (by rw [Hsz.out]; exact Nat.le_refl _) t2))
              have HB5 : Hid (Blk fq k2 n d5 (fun s => s < b)) := by
                intro s h1 h2
                have e := Hab.out
                by_cases hs : s < a
                · have h20 : s + k2 ≤ a := by
                    rcases Nat.lt_or_ge a (s + k2) with h | h
                    · have := dvd_gap Hdv.out h1 h; omega
                    · exact h
                  exact SortedIn.same (HB4.out s h1 hs) fun x y z => t2.2.1 x (Or.inl (by omega))
                · have : s = a := by have := dvd_gap h1 Hdv.out (by omega); omega
                  subst this
                  rw [show min (s + k2) n = b by omega]
                  exact t3
              have HC5 : Hid (Blk fq k n d5 (fun s => b ≤ s)) := by
                intro s h1 h2
                have e := Hab.out
                exact SortedIn.same (HC4.out s h1 (by omega)) fun x y z => t2.2.1 x (Or.inr (by omega))
              have Hdb : Hid (k2 ∣ b) := by show k2 ∣ b; rw [Hab.out]; exact Nat.dvd_add Hdv.out (Nat.dvd_refl _)
              clear t1 t2 t3
              go_wp2
              go_roundw
              case rel => exact ⟨b, b + k2, d5, rfl, by omega, hlt, rfl, by go_num, HS5.out, Hdb, HP5, HB5, HC5⟩
              case measure => simp [intOf]; have := Hab.out; have := Hk2.out; omega
            · have hbn : ¬ (b : Int) ≤ (n : Int) := by omega
              by_cases hmn : m < n
              · have hbe := Hab.out
                have hke := Hk2.out
                have hme := Hm.out
                have CM : Merges g P c fq a m n d4 wr := merge_c g P c fq (n - a) a m n d4 wr (Nat.le_refl _) (by omega) hmn (by rw [Hsz.out]; exact Nat.le_refl _) HS4.out.start
                  (by have := HC4.out a Hdk.out (Nat.le_refl _); rw [show min (a + k) n = m by omega] at this; exact this)
                  (by have := HC4.out m (by rw [hme]; exact Nat.dvd_add Hdk.out (Nat.dvd_refl _)) (by omega); rw [show min (m + k) n = n by omega] at this; exact this)
                unfold Merges at CM
                rw [Hsz.out] at CM
                have CM2 := hide CM
                clear CM hbe hke hme
                go_wp2_with fail
                refine CM2.out.mono ?_
                rintro e w5 ⟨rfl, d5, t1, t2, t3⟩
                have HS5 := hide (HS4.out.trans t1)
                have HP5 := hide (permIn_trans _ _ _ _ _ HP4.out (permIn_mono _ _ a n 0 n (Nat.zero_le _) (Nat.le_refl _) (by rw [Hsz.out]; exact Nat.le_refl _) t2))
                have HB5 : Hid (Blk fq k2 n d5 (fun _ => True)) := by
                  intro s h1 h2
                  have e := Hab.out
                  by_cases hs : s < a
                  · have h20 : s + k2 ≤ a := by
                      rcases Nat.lt_or_ge a (s + k2) with h | h
                      · have := dvd_gap Hdv.out h1 h; omega
                      · exact h
                    exact SortedIn.same (HB4.out s h1 hs) fun x y z => t2.2.1 x (Or.inl (by omega))
                  · by_cases hs2 : s = a
                    · subst hs2
                      rw [show min (s + k2) n = n by omega]
                      exact t3
                    · have h20 : a + k2 ≤ s := by
                        rcases Nat.lt_or_ge s (a + k2) with h | h
                        · have := dvd_gap h1 Hdv.out h; omega
                        · exact h
                      intro x y p q r
                      omega
                clear t1 t2 t3
                go_wp2
                go_roundw
                case rel => exact ⟨k2, d5, by have := Hk2.out; omega, by omega, rfl, HS5.out, HP5, HB5⟩
                case measure => simp [intOf]; have := Hk2.out; omega
              · have HB5 : Hid (Blk fq k2 n d4 (fun _ => True)) := by
                  intro s h1 h2
                  have e := Hab.out
                  have e2 := Hm.out
                  by_cases hs : s < a
                  · exact HB4.out s h1 hs
                  · by_cases hs2 : s = a
                    · subst hs2
                      have := HC4.out s Hdk.out (Nat.le_refl _)
                      rw [show min (s + k) n = n by omega] at this
                      rw [show min (s + k2) n = n by omega]
                      exact this
                    · have h20 : a + k2 ≤ s := by
                        rcases Nat.lt_or_ge s (a + k2) with h | h
                        · have := dvd_gap h1 Hdv.out h; omega
                        · exact h
                      intro x y p q r
                      omega
                go_wp2
                go_roundw
                case rel => exact ⟨k2, d4, by have := Hk2.out; omega, by omega, rfl, HS4.out, HP4, HB5⟩
                case measure => simp [intOf]; have := Hk2.out; omega
        · clear hS3
          go_wp2
          go_end0
          refine ⟨rfl, d3, HS3.out, HP3.out, ?_⟩
          have := HB3.out 0 ⟨0, rfl⟩ trivial
          rw [show min (0 + k) n = n by omega] at this
          exact this

set_option maxHeartbeats 800000 in
theorem sort_c (g P c : Nat) (fq : List Int) (d : Array Nat) (w : World) (h : St w w g P fq d) :
    Calls Try.prog 49 #[.slice (some ⟨g, 0, none⟩) d.size c, .func (.func 50) #[] #[.pointer (some ⟨P, 0, none⟩)]] w fun e w' => e = .returned (.tuple #[]) ∧ ∃ d', St w w' g P fq d' ∧ PermIn 0 d.size d d' ∧ SortedIn (ltF fq) 0 d.size d' := by
  have CS := hide (stable_c g P c fq d w h)
  clear h
  go_enter Try.func49, Try.ntmps49
  go_wp2_with fail
  refine CS.out.mono ?_
  rintro e w2 ⟨rfl, d2, t1, t2, t3⟩
  go_wp2
  go_end0
  exact ⟨rfl, d2, t1, t2, t3⟩
end Go.Proofs.Ytlkidddbndkfiaa

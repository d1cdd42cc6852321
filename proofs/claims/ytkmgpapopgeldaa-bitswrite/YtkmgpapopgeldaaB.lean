import Derived.Test.YtkmgpapopgeldaaA
namespace Go.Proofs.Ytkmgpapopgeldaa
open Go.RowKit

theorem byte_lt {l : List Nat} (h : ∀ b ∈ l, b < 256) (k : Nat) : l.getD k 0 < 256 := by
  rw [List.getD_eq_getElem?_getD]
  cases e : l[k]? with
  | none => simp
  | some b => simpa using h b (List.mem_of_getElem? e)

/-- One round of Low.Take in numbers. -/
theorem low_step (l : List Nat) (h : ∀ b ∈ l, b < 256) (p g s n b : Nat) (hb : b = l.getD ((p + g) / 8) 0) (hg : g + s ≤ n) (hn : n ≤ 24) (hs : (p + g) % 8 + s ≤ 8) :
    bits .or .i64 ((lowBits (leNum l) p g : Nat) : Int) (wrap64 (wrap64 (b : Int) / 2 ^ ((p + g) % 8) % 2 ^ s * 2 ^ g)) = ((lowBits (leNum l) p (g + s) : Nat) : Int) := by
  have hb2 := byte_lt h ((p + g) / 8)
  subst hb
  have e1 : (((l.getD ((p + g) / 8) 0 : Nat) : Int) / 2 ^ ((p + g) % 8) % 2 ^ s * 2 ^ g) = ((lowBits (leNum l) (p + g) s * 2 ^ g : Nat) : Int) := by
    rw [← piece_low l h (p + g) s hs]; simp
  have h1 := lowBits_lt (leNum l) p g
  have h2 := lowBits_lt (leNum l) p (g + s)
  have h3 := lowBits_add (leNum l) p g s
  have h4 : (2:Nat) ^ (g + s) ≤ 2 ^ 24 := Nat.pow_le_pow_right (by decide) (by omega)
  have h5 : (2:Nat) ^ 24 = 16777216 := by decide
  have h6 : lowBits (leNum l) (p + g) s * 2 ^ g = 2 ^ g * lowBits (leNum l) (p + g) s := Nat.mul_comm _ _
  rw [wrap64_id ((l.getD ((p + g) / 8) 0 : Nat) : Int) (by omega) (by omega), e1, wrap64_id _ (by omega) (by omega), or_i64 g _ _ h1 (by simp) (by omega)]
  omega

/-- One round of High.Take in numbers. -/
theorem high_step (l : List Nat) (h : ∀ b ∈ l, b < 256) (p g s n b : Nat) (hb : b = l.getD ((p + g) / 8) 0) (hg : g + s ≤ n) (hn : n ≤ 24) (hs : (p + g) % 8 + s ≤ 8) (hp : p + n ≤ 8 * l.length) (hs0 : 0 < s) :
    bits .or .i64 (wrap64 (((lowBits (beNum l) (8 * l.length - p - g) g : Nat) : Int) * 2 ^ s)) (wrap64 (b : Int) / 2 ^ (8 - (p + g) % 8 - s) % 2 ^ s) = ((lowBits (beNum l) (8 * l.length - p - (g + s)) (g + s) : Nat) : Int) := by
  have hb2 := byte_lt h ((p + g) / 8)
  subst hb
  have e1 : (((l.getD ((p + g) / 8) 0 : Nat) : Int) / 2 ^ (8 - (p + g) % 8 - s) % 2 ^ s) = ((lowBits (beNum l) (8 * l.length - (p + g) - s) s : Nat) : Int) := by
    rw [← piece_high l h (p + g) s hs (by omega)]; simp
  have e0 : ((lowBits (beNum l) (8 * l.length - p - g) g : Nat) : Int) * 2 ^ s = ((lowBits (beNum l) (8 * l.length - p - g) g * 2 ^ s : Nat) : Int) := by simp
  have h1 := lowBits_lt (beNum l) (8 * l.length - (p + g) - s) s
  have h2 := lowBits_lt (beNum l) (8 * l.length - p - (g + s)) (g + s)
  have h3 := lowBits_add (beNum l) (8 * l.length - p - (g + s)) s g
  rw [show 8 * l.length - p - (g + s) + s = 8 * l.length - p - g by omega, Nat.add_comm s g] at h3
  have h4 : (2:Nat) ^ (g + s) ≤ 2 ^ 24 := Nat.pow_le_pow_right (by decide) (by omega)
  have h5 : (2:Nat) ^ 24 = 16777216 := by decide
  have h6 : lowBits (beNum l) (8 * l.length - p - g) g * 2 ^ s = 2 ^ s * lowBits (beNum l) (8 * l.length - p - g) g := Nat.mul_comm _ _
  have h7 : 8 * l.length - (p + g) - s = 8 * l.length - p - (g + s) := by omega
  rw [h7] at h1 e1
  rw [wrap64_id ((l.getD ((p + g) / 8) 0 : Nat) : Int) (by omega) (by omega), e1, e0, wrap64_id _ (by omega) (by omega), or_i64' s _ _ h1 (by simp) (by omega)]
  omega

set_option maxHeartbeats 800000 in
theorem low_take_ok (B c : Nat) (a : Option Addr) (bs : List Nat) (pos n : Nat) (w : World) (h0 : w.cell? ⟨B, 0, none⟩ = some (.slice a bs.length c)) (h1 : w.cell? ⟨B, 1, none⟩ = some (.int .i64 pos))
    (hf : w.frozen? ⟨B, 1, none⟩ = false) (hb : Bytes w B a bs) (hlt : ∀ b ∈ bs, b < 256) (hlen : bs.length ≤ 2147483648) (hn : n ≤ 24) (hle : pos + n ≤ 8 * bs.length) :
    Calls Try.prog 13 #[.pointer (some ⟨B, 0, none⟩), .int .i64 n] w fun e w' => e = .returned (.int .i64 (lowBits (leNum bs) pos n : Nat)) ∧ Moved B (pos + n) w w' := by
  go_enter Try.func13, Try.ntmps13
  go_wp2_with (first | (go_at_call 43; refine (width_ok _ (by omega) (by omega) _).mono ?_; rintro e w' ⟨rfl, rfl⟩) | (go_at_call 19; refine (low_left_c B bs.length c a pos _ h0 h1 (by omega) (by omega) (by omega)).mono ?_; rintro e w' ⟨rfl, k, rfl⟩) | (go_at_call 44; refine (left_ok _ _ (by omega) _).mono ?_; rintro e w' ⟨rfl, rfl⟩))
  go_loopw [5, 6, 7, 8, 9] (fun x g _ _ _ wr => ∃ got P : Nat, got ≤ n ∧ P = pos + got ∧ g = .int .i64 got ∧ x = .int .i64 (lowBits (leNum bs) pos got : Nat) ∧ Moved B P w wr) (fun _ g _ _ _ _ => n - (intOf g).toNat)
  case atStart => exact ⟨0, pos, Nat.zero_le _, rfl, rfl, by simp [lowBits_zero], Moved.start h1 _⟩
  case round =>
    obtain ⟨got, P, hgot, hP, rfl, rfl, hm⟩ := hrel
    by_cases hlt2 : got < n
    · obtain ⟨D, o, rfl, hDB, hcell⟩ : ∃ D o, a = some ⟨D, o, none⟩ ∧ D ≠ B ∧ ∀ i, i < bs.length → wr.cell? ⟨D, o + i, none⟩ = some (.int .u8 ((bs.getD i 0 : Nat) : Int)) := by
        rcases hm.bytes hb with h | h
        · subst h; simp at hle; omega
        · exact h
      have hby := hcell (P / 8) (by omega)
      obtain ⟨b, hbv⟩ : ∃ b, b = bs.getD (P / 8) 0 := ⟨_, rfl⟩
      obtain ⟨s, hs⟩ : ∃ s : Nat, s = min (n - got) (8 - P % 8) := ⟨_, rfl⟩
      have hs1 : s ≤ n - got := by omega
      have hs2 : P % 8 + s ≤ 8 := by omega
      have hs3 : s = n - got ∨ P % 8 + s = 8 := by omega
      have hs4 : 0 < s := by omega
      have f0 := (hm.cell (a := ⟨B, 0, none⟩) (by simp)).trans h0
      have f1 := hm.own h1
      have f2 := (hm.frozen ⟨B, 1, none⟩).trans hf
      have HS := hide (low_step bs hlt pos got s n b (by rw [← hP]; exact hbv) (by omega) hn (by rw [← hP]; exact hs2))
      rw [← hbv] at hby
      rw [← hP] at HS
      have HP := hide hP
      have Hm := hide hm
      have hP8 : P < 8 * bs.length := by omega
      clear hs hcell hb hP hm h0 h1 hf hbv
      go_wp2_with (first | (go_at_call 45; refine (piece_c B D o bs.length c P _ s b _ f0 f1 f2 hby (by omega) (by omega) (by omega) (by omega) (by omega) hs2 (by omega)).mono ?_; rintro e w1 ⟨rfl, hm1⟩) | (go_at_call 46; refine (lowest_c _ s (by omega) _).mono ?_; rintro e w' ⟨rfl, rfl⟩))
      refine ⟨⟨got + s, P + s, by omega, by rw [HP.out]; omega, by simp, by rw [HS.out], Hm.out.trans hm1⟩, by simp [intOf]; omega⟩
    · go_wp2
      go_ret
      have e : got = n := by omega
      subst e
      exact ⟨rfl, hP ▸ hm⟩
end Go.Proofs.Ytkmgpapopgeldaa

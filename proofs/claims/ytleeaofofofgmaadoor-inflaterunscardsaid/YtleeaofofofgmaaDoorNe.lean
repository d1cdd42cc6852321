/-
  Room: the law InflateRoom.
-/
import Derived.Test.YtleeaofofofgmaaDoorNk
namespace Go.Proofs.YtleeaofofofgmaaDoor
open Go.RowKit

/-- A reading's errors have numbers. -/
structure Ne0 {α : Type} (x : Rdr α) : Prop where
  ne : ∀ {V L p er : Nat}, x V L p = .error er → er ≠ 0

theorem Ne0.ret {α : Type} (a : α) : Ne0 (ret a) := ⟨fun h => by cases h⟩
theorem Ne0.bad {α : Type} {er : Nat} (he : er ≠ 0) : Ne0 (bad er : Rdr α) := ⟨fun h => by cases h; exact he⟩
theorem Ne0.algn : Ne0 algn := ⟨fun h => by cases h⟩
theorem Ne0.tkn (n : Nat) : Ne0 (tkn n) := ⟨fun h => by
  unfold Go.Proofs.YtleeaofofofgmaaDoor.tkn at h
  split at h
  · cases h
  · cases h; omega⟩
theorem Ne0.andThen {α β : Type} {x : Rdr α} {f : α → Rdr β} (hx : Ne0 x) (hf : ∀ a, Ne0 (f a)) : Ne0 (andThen x f) := ⟨fun {V L p er} h => by
  unfold Go.Proofs.YtleeaofofofgmaaDoor.andThen at h
  split at h
  · next a q _ => exact (hf a).ne h
  · next e he => cases h; exact hx.ne he⟩
theorem Ne0.ite {α : Type} {c : Prop} [Decidable c] {x y : Rdr α} (hx : Ne0 x) (hy : Ne0 y) : Ne0 (if c then x else y) := by
  split <;> assumption
theorem Ne0.tk (ls : List Int) : Ne0 (tk ls) := ⟨fun {V L p er} h => by
  have key : ∀ f m, tkFrom ls V L p f m = .error er → er ≠ 0 := by
    intro f
    induction f with
    | zero => intro m h; cases h; omega
    | succ f ih =>
      intro m h
      simp only [tkFrom] at h
      split at h
      · cases h; omega
      split at h
      · cases h; omega
      split at h
      · cases h
      · exact ih _ h
  exact key 15 0 h⟩
theorem Ne0.rung (i lot : Nat) : Ne0 (rung i lot) := .ite (.ret _) (.andThen (.tkn _) fun _ => .ret _)
theorem Ne0.word (ll dl : List Int) (o : Nat) : Ne0 (word ll dl o) :=
  .andThen (.tk _) fun _ => .ite (.ret _) (.ite (.ret _) (.andThen (.ite (.bad (by omega)) (.ite (.ret _) (.andThen (.rung _ _) fun _ => .ret _))) fun _ =>
    .andThen (.andThen (.tk _) fun _ => .ite (.bad (by omega)) (.andThen (.rung _ _) fun _ => .ite (.bad (by omega)) (.ret _))) fun _ => .ret _))
theorem Ne0.rep (s : Nat) (acc : List Int) : Ne0 (rep s acc) :=
  .ite (.andThen (.tkn _) fun _ => .ite (.bad (by omega)) (.ret _)) (.ite (.andThen (.tkn _) fun _ => .ret _) (.ite (.andThen (.tkn _) fun _ => .ret _) (.ret _)))
theorem Ne0.lens (cl : List Int) (n : Nat) : ∀ f acc, Ne0 (lens cl n f acc) := by
  intro f
  induction f with
  | zero => intro acc; exact .bad (by omega)
  | succ f ih => intro acc; exact .ite (.ret _) (.andThen (.tk _) fun _ => .andThen (.rep _ _) fun _ => .ite (.bad (by omega)) (ih _))
theorem Ne0.told : ∀ k i cl, Ne0 (told k i cl) := by
  intro k
  induction k with
  | zero => intro i cl; exact .ret _
  | succ k ih => intro i cl; exact .andThen (.tkn _) fun _ => ih _ _
theorem Ne0.own : Ne0 own := .andThen (.tkn _) fun _ => .andThen (.tkn _) fun _ => .andThen (.tkn _) fun _ =>
  .ite (.bad (by omega)) (.andThen (.told _ _ _) fun _ => .ite (.andThen (.lens _ _ _ _) fun _ => .ite (.ret _) (.bad (by omega))) (.bad (by omega)))
theorem Ne0.head : Ne0 head := .andThen (.tkn _) fun _ => .andThen (.tkn _) fun _ => .andThen
  (.ite (.andThen (.andThen .algn fun _ => .andThen (.tkn _) fun _ => .andThen (.tkn _) fun _ => .ite (.ret _) (.bad (by omega))) fun _ => .ret _) (.ite (.ret _) (.ite (.andThen .own fun _ => .ret _) (.bad (by omega))))) fun _ => .ret _

theorem adv_err {V L er : Nat} {s : St} (h : adv V L s = .fail er) : er ≠ 0 := by
  obtain ⟨p, last, out, pl⟩ := s
  cases pl with
  | ahead =>
    simp only [adv] at h
    split at h
    · cases h
    · cases hh : head V L p with
      | error e => simp only [hh] at h; cases h; exact Ne0.head.ne hh
      | ok aq => simp only [hh] at h; cases h
  | stored n =>
    simp only [adv] at h
    split at h
    · cases h
    · cases hh : tkn 8 V L p with
      | error e => simp only [hh] at h; cases h; exact (Ne0.tkn 8).ne hh
      | ok aq => simp only [hh] at h; cases h
  | coded ll dl =>
    simp only [adv] at h
    cases hh : word ll dl out.length V L p with
    | error e => simp only [hh] at h; cases h; exact (Ne0.word _ _ _).ne hh
    | ok aq =>
      obtain ⟨y, q⟩ := aq
      simp only [hh] at h
      cases y <;> cases h
  | row n d ll dl => cases h

theorem Runs.err {V L most : Nat} {s : St} {r : Except Nat (List Nat × Nat)} (h : Runs V L most s r) (h0 : errOf r = 0) : ∃ x p, r = .ok (x, p) := by
  induction h with
  | fail h1 => exact absurd h0 (adv_err h1)
  | done _ => exact ⟨_, _, rfl⟩
  | go _ _ ih => exact ih h0
  | put _ _ _ ih => exact ih h0
  | full _ _ => cases h0

theorem AllOk.ok {bs : List Nat} {most : Int} {r : Except Nat (List Nat × Nat)} (h : AllOk bs most r) (h0 : errOf r = 0) : ∃ x p, r = .ok (x, p) ∧ Runs (leNum bs) (8 * bs.length) most.toNat init (.ok (x, p)) := by
  rcases h with ⟨_, rfl⟩ | ⟨_, h2⟩
  · cases h0
  · obtain ⟨x, p, rfl⟩ := h2.err h0
    exact ⟨x, p, rfl, h2⟩

set_option maxHeartbeats 1600000 in
set_option maxRecDepth 100000 in
theorem room_c (a : Option Addr) (n c : Nat) (bs : List Nat) (w : World) (hn : n = bs.length) (h : Lies w (.slice a n c) bs) (hlt : ∀ b ∈ bs, b < 256) (hg : Gw w) :
    Calls Tryd.prog 8 #[.slice a n c] w fun e w' => e = .returned (.bool true) ∧ Fr (fun _ => False) w w' := by
  have HG := hide hg
  have HL := hide h
  have Hlt := hide hlt
  have Hn := hide hn
  clear hg h hlt hn
  go_enter Tryd.func8, Tryd.ntmps8
  go_wp2_with fail
  refine (awake_c w HG.out).mono ?_
  rintro e w0 ⟨rfl, hF0⟩
  have HG0 := hide (HG.out.fr hF0)
  have HF0 := hide hF0
  clear hF0
  by_cases hbig : 2000 < n
  · have hbi : (2000 : Int) < n := by omega
    go_wp2
    go_ret
    exact ⟨rfl, HF0.out⟩
  · have hbi : ¬ (2000 : Int) < n := by omega
    have hln : bs.length ≤ 2000 := by have := Hn.out; omega
    go_wp2_with fail
    refine (calls_args (all_at (.slice a n c) bs 65536 w0 (lies_fr HL.out HF0.out) Hlt.out (by omega) (by omega) HG0.out) (by rfl)).mono ?_
    rintro e w1 ⟨r1, a1, c1, hA1, rfl, hL1, hF1⟩
    have HG1 := hide (HG0.out.fr hF1)
    have HF1 := hide (HF0.out.join hF1)
    have HL1 := hide hL1
    have HA1 := hide hA1
    clear hF1 hL1 hA1
    by_cases he : errOf r1 = 0
    · obtain ⟨x, p, rfl, hR⟩ := HA1.out.ok he
      have hxl : x.length ≤ 65536 := hR.out_most (Nat.zero_le _)
      have hx256 : ∀ b ∈ x, b < 256 := HA1.out.bytes
      have HR := hide hR
      simp only [outOf, usedOf, errOf]
      simp only [outOf] at HL1
      obtain ⟨X, hX⟩ : ∃ X, X = x.length := ⟨_, rfl⟩
      rw [← hX] at HL1 hxl ⊢
      have HX := hide hX
      clear he hR hX
      go_wp2_with fail
      refine (calls_args (all_at (.slice a n c) bs (X : Int) w1 (lies_fr HL.out HF1.out) Hlt.out (by omega) (by omega) HG1.out) (by rfl)).mono ?_
      rintro e w2 ⟨r2, a2, c2, hA2, rfl, hL2, hF2⟩
      have k2 : AllOk bs (X : Int) (.ok (x, p)) := Or.inr ⟨by omega, HR.out.room (by rw [HX.out]; exact Nat.le_of_eq (by simp))⟩
      obtain rfl := hA2.det k2
      simp only [outOf, usedOf, errOf] at hL2 ⊢
      rw [← HX.out] at hL2 ⊢
      have HG2 := hide (HG1.out.fr hF2)
      have HF2 := hide (HF1.out.join hF2)
      have HL1' := hide (lies_fr HL1.out hF2)
      have HL2 := hide hL2
      clear hF2 hL2 hA2 k2
      go_wp2_with fail
      refine (calls_args (all_at (.slice a n c) bs ((X : Int) - 1) w2 (lies_fr HL.out HF2.out) Hlt.out (by omega) (by omega) HG2.out) (by rfl)).mono ?_
      rintro e w3 ⟨r3, a3, c3, hA3, rfl, _, hF3⟩
      have HF3 := hide (HF2.out.join hF3)
      have s1 := str_lies (lies_fr HL1'.out hF3) hx256
      have s2 := str_lies (lies_fr HL2.out hF3) hx256
      clear hF3
      by_cases hX0 : X = 0
      · subst hX0
        have k3 : AllOk bs ((0 : Nat) - 1 : Int) (.error 1) := Or.inl ⟨by omega, rfl⟩
        obtain rfl := hA3.det k3
        simp only [outOf, usedOf, errOf, List.length_nil]
        clear hA3 k3
        go_wp2
        go_ret
        exact ⟨rfl, HF3.out⟩
      · have k3 : AllOk bs ((X : Int) - 1) (.error 6) := Or.inr ⟨by omega, HR.out.less (by have := HX.out; omega) (Nat.zero_le _)⟩
        obtain rfl := hA3.det k3
        have hX1 : ((X : Int) == 0) = false := beq_false_of_ne (by omega)
        simp only [outOf, usedOf, errOf, List.length_nil]
        clear hA3 k3
        go_wp2
        go_ret
        exact ⟨rfl, HF3.out⟩
    · have hei : ((errOf r1 : Int) == 0) = false := beq_false_of_ne (by omega)
      have hej : ¬ (errOf r1 : Int) = 0 := by omega
      go_wp2
      go_ret
      exact ⟨rfl, HF1.out⟩
end Go.Proofs.YtleeaofofofgmaaDoor

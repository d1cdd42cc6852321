/-
  Streams that everybody knows: what they come to.
-/
import Derived.Test.YtleeaofofofgmaaDoorNb
import Derived.Laws.IdiomStrings
import Derived.KernelRfl
namespace Go.Proofs.YtleeaofofofgmaaDoor
open Go.RowKit

/-- A text of bytes. -/
def strOf (bs : List Nat) : ByteArray := ⟨(bs.map UInt8.ofNat).toArray⟩

theorem str_lies {w : World} {sv : Value} {bs : List Nat} (h : Lies w sv bs) (hlt : ∀ b ∈ bs, b < 256) : (convert 22 9 sv).run Tryd.prog w = .ok (.string (strOf bs)) w := by
  rcases h with ⟨rfl, rfl⟩ | ⟨ad, c, rfl, hc⟩
  · rw [run_convert_bytes_string w 22 9 5 none 0 0 Tryd.underlying22 Tryd.underlying5 Tryd.underlying9]
    rfl
  · have := run_convert_bytes_back (P := Tryd.prog) w 22 9 5 ad c (bs.map UInt8.ofNat) Tryd.underlying22 Tryd.underlying5 Tryd.underlying9 (fun j hj => by
      have hj' : j < bs.length := by simpa using hj
      have hb := hlt bs[j] (List.getElem_mem hj')
      rw [hc j (.int .u8 ((bs[j] : Nat) : Int)) (by simp [cellsOf, List.getElem?_eq_getElem hj'])]
      simp
      omega)
    rw [List.length_map] at this
    exact this

theorem adv_bytes {V L : Nat} {s s' : St} (h : adv V L s = .put s') (hs : ∀ x ∈ s.out, x < 256) : ∀ x ∈ s'.out, x < 256 := by
  obtain ⟨p, last, out, pl⟩ := s
  simp only at hs
  cases pl with
  | ahead =>
    simp only [adv] at h
    split at h
    · cases h
    · split at h <;> cases h
  | stored n =>
    simp only [adv] at h
    split at h
    · cases h
    · split at h
      · cases h
      · next b q hh =>
        cases h
        exact out_snoc hs (tkn_lt hh)
  | coded ll dl =>
    simp only [adv] at h
    cases hh : word ll dl out.length V L p with
    | error er => simp only [hh] at h; cases h
    | ok aq =>
      obtain ⟨y, q⟩ := aq
      simp only [hh] at h
      cases y with
      | lit b =>
        cases h
        refine out_snoc hs ?_
        obtain ⟨c, m, h1, h2⟩ := then_inv hh
        by_cases hc : c < 256
        · rw [if_pos hc] at h2; cases h2; exact hc
        · rw [if_neg hc] at h2
          by_cases hc2 : c = 256
          · rw [if_pos hc2] at h2; cases h2
          · rw [if_neg hc2] at h2
            obtain ⟨_, _, _, h4⟩ := then_inv h2
            obtain ⟨_, _, _, h6⟩ := then_inv h4
            cases h6
      | fin => cases h
      | row n d => cases h
  | row n d ll dl =>
    simp only [adv] at h
    cases h
    refine out_snoc hs ?_
    rw [List.getD_eq_getElem?_getD]
    cases hk : out[out.length - d]? with
    | none => simp
    | some x => exact hs x (List.mem_of_getElem? hk)

theorem Runs.bytes {V L most : Nat} {s : St} {r : Except Nat (List Nat × Nat)} (h : Runs V L most s r) (hs : ∀ x ∈ s.out, x < 256) : ∀ x ∈ outOf r, x < 256 := by
  induction h with
  | fail _ => intro x hx; cases hx
  | done _ => exact hs
  | go h1 _ ih => exact ih (by rw [adv_go_out h1]; exact hs)
  | put h1 _ _ ih => exact ih (adv_bytes h1 hs)
  | full _ _ => intro x hx; cases hx

theorem AllOk.bytes {bs : List Nat} {most : Int} {r : Except Nat (List Nat × Nat)} (h : AllOk bs most r) : ∀ x ∈ outOf r, x < 256 := by
  rcases h with ⟨_, rfl⟩ | ⟨_, h2⟩
  · intro x hx; cases hx
  · exact h2.bytes (fun x hx => by cases hx)

theorem AllOk.det {bs : List Nat} {most : Int} {r r' : Except Nat (List Nat × Nat)} (h : AllOk bs most r) (h' : AllOk bs most r') : r = r' := by
  rcases h with ⟨h1, rfl⟩ | ⟨h1, h2⟩
  · rcases h' with ⟨_, rfl⟩ | ⟨h3, _⟩
    · rfl
    · omega
  · rcases h' with ⟨h3, _⟩ | ⟨_, h4⟩
    · omega
    · exact h2.det h4

theorem fixL_nx : nx fixL 6 = 0 ∧ nx fixL 7 = 24 ∧ nx fixL 8 = 200 := by
  have h (n c : Nat) (hc : cnt fixL (n + 1) = c) : nx fixL (n + 1) = 2 * nx fixL n + c := by rw [nx_succ, hc]
  have e0 : nx fixL 0 = 0 := nx_zero _
  have e1 := h 0 0 (by rw [fixL_cnt]; rfl)
  have e2 := h 1 0 (by rw [fixL_cnt]; rfl)
  have e3 := h 2 0 (by rw [fixL_cnt]; rfl)
  have e4 := h 3 0 (by rw [fixL_cnt]; rfl)
  have e5 := h 4 0 (by rw [fixL_cnt]; rfl)
  have e6 := h 5 0 (by rw [fixL_cnt]; rfl)
  have e7 := h 6 24 (by rw [fixL_cnt]; rfl)
  have e8 := h 7 152 (by rw [fixL_cnt]; rfl)
  simp only [Nat.reduceAdd] at *
  omega

/-- How many bits a symbol of the fixed code has, and its word. -/
def fixN (i : Nat) : Nat := if i < 144 then 8 else if i < 256 then 9 else if i < 280 then 7 else 8
def fixW (i : Nat) : Nat := if i < 144 then 48 + i else if i < 256 then 400 + (i - 144) else if i < 280 then i - 256 else 192 + (i - 280)

theorem fixL_n (i : Nat) (hi : i < 288) : at0 fixL i = (fixN i : Nat) := by
  rw [fixL_at]
  unfold fixN
  repeat' split
  all_goals omega

theorem fixL_wd (i : Nat) (hi : i < 288) : wd fixL i = fixW i := by
  obtain ⟨h6, h7, h8⟩ := fixL_nx
  unfold wd
  rw [fixL_n i hi, Int.toNat_natCast, fixL_rank _ _ (by omega)]
  unfold fixN fixW
  rw [ite_self, Nat.add_zero]
  by_cases a1 : i < 144
  · rw [if_pos a1, if_pos a1, if_pos rfl, show 8 - 1 = 7 from rfl, h7]
    simp only [Nat.min_def]
    split <;> omega
  by_cases a2 : i < 256
  · rw [if_neg a1, if_pos a2, if_neg a1, if_pos a2, if_neg (by omega), if_pos rfl, show 9 - 1 = 8 from rfl, h8]
    simp only [Nat.min_def]
    repeat' split
    all_goals omega
  by_cases a3 : i < 280
  · rw [if_neg a1, if_neg a2, if_pos a3, if_neg a1, if_neg a2, if_pos a3, if_neg (by omega), if_neg (by omega), if_pos rfl, show 7 - 1 = 6 from rfl, h6]
    simp only [Nat.min_def]
    repeat' split
    all_goals omega
  · rw [if_neg a1, if_neg a2, if_neg a3, if_neg a1, if_neg a2, if_neg a3, if_pos rfl, show 8 - 1 = 7 from rfl, h7]
    simp only [Nat.min_def]
    split <;> omega

/-- A word of the fixed code is taken. -/
theorem tk_fix {V L p : Nat} (i : Nat) (hi : i < 288) (hf : p + fixN i ≤ L) (hr : rd V p (fixN i) = fixW i) : tk fixL V L p = .ok (i, p + fixN i) := by
  have e := fixL_n i hi
  have et : (at0 fixL i).toNat = fixN i := by rw [e]; rfl
  have h1 : 1 ≤ fixN i := by unfold fixN; repeat' split
                             all_goals omega
  obtain ⟨h2, h3⟩ := hit_word fixL_good (V := V) (L := L) (p := p) (i := i) (by rw [fixL_len]; exact hi) (by omega) (by rw [et]; exact hf) (by rw [et, fixL_wd i hi]; exact hr)
  rw [et] at h2 h3
  exact h2.tk h3

theorem word_lit {V L p o : Nat} (i : Nat) (hi : i < 256) (hf : p + fixN i ≤ L) (hr : rd V p (fixN i) = fixW i) : word fixL fixD o V L p = .ok (.lit i, p + fixN i) := by
  unfold word
  rw [then_ok (tk_fix i (by omega) hf hr), if_pos hi]
  rfl

theorem word_fin {V L p o : Nat} (hf : p + 7 ≤ L) (hr : rd V p 7 = 0) : word fixL fixD o V L p = .ok (.fin, p + 7) := by
  unfold word
  rw [then_ok (tk_fix 256 (by omega) hf hr)]
  rfl

theorem adv_lit {V L p : Nat} {last : Bool} {out : List Nat} (i : Nat) (hi : i < 256) (hf : p + fixN i ≤ L) (hr : rd V p (fixN i) = fixW i) : adv V L ⟨p, last, out, .coded fixL fixD⟩ = .put ⟨p + fixN i, last, out ++ [i], .coded fixL fixD⟩ := by
  simp only [adv, word_lit i hi hf hr]

theorem adv_fin {V L p : Nat} {last : Bool} {out : List Nat} (hf : p + 7 ≤ L) (hr : rd V p 7 = 0) : adv V L ⟨p, last, out, .coded fixL fixD⟩ = .go ⟨p + 7, last, out, .ahead⟩ := by
  simp only [adv, word_fin hf hr]

theorem known0 : AllOk [3, 0] 9 (.ok ([], 10)) := by
  refine Or.inr ⟨by decide, ?_⟩
  refine .go (s' := ⟨3, true, [], .coded fixL fixD⟩) (by kernel_rfl) ?_
  refine .go (adv_fin (by decide) (by decide)) ?_
  exact .done (s := ⟨10, true, [], .ahead⟩) rfl

theorem known1 : AllOk [1, 2, 0, 253, 255, 7, 8, 9] 9 (.ok ([7, 8], 56)) := by
  refine Or.inr ⟨by decide, ?_⟩
  refine .go (s' := ⟨40, true, [], .stored 2⟩) (by kernel_rfl) ?_
  refine .put (s' := ⟨48, true, [7], .stored 1⟩) (by kernel_rfl) (by decide) ?_
  refine .put (s' := ⟨56, true, [7, 8], .stored 0⟩) (by kernel_rfl) (by decide) ?_
  refine .go (s' := ⟨56, true, [7, 8], .ahead⟩) (by kernel_rfl) ?_
  exact .done (s := ⟨56, true, [7, 8], .ahead⟩) rfl

theorem known2 : AllOk [203, 72, 205, 201, 201, 7, 0] 99 (.ok ([104, 101, 108, 108, 111], 50)) := by
  refine Or.inr ⟨by decide, ?_⟩
  refine .go (s' := ⟨3, true, [], .coded fixL fixD⟩) (by kernel_rfl) ?_
  refine .put (adv_lit 104 (by decide) (by decide) (by decide)) (by decide) ?_
  refine .put (adv_lit 101 (by decide) (by decide) (by decide)) (by decide) ?_
  refine .put (adv_lit 108 (by decide) (by decide) (by decide)) (by decide) ?_
  refine .put (adv_lit 108 (by decide) (by decide) (by decide)) (by decide) ?_
  refine .put (adv_lit 111 (by decide) (by decide) (by decide)) (by decide) ?_
  refine .go (adv_fin (by decide) (by decide)) ?_
  exact .done (s := ⟨50, true, [104, 101, 108, 108, 111], .ahead⟩) rfl

theorem known3 : AllOk [7, 0] 99 (.error 4) := Or.inr ⟨by decide, .fail (by kernel_rfl)⟩
theorem known4 : AllOk [1, 2, 0, 253, 254, 1, 2] 99 (.error 4) := Or.inr ⟨by decide, .fail (by kernel_rfl)⟩
theorem known5 : AllOk [] 99 (.error 2) := Or.inr ⟨by decide, .fail (by kernel_rfl)⟩
theorem known6 : AllOk [3, 0] (-1) (.error 1) := Or.inl ⟨by decide, rfl⟩
theorem known7 : AllOk [5, 255, 255] 99 (.error 4) := Or.inr ⟨by decide, .fail (by kernel_rfl)⟩
end Go.Proofs.YtleeaofofofgmaaDoor

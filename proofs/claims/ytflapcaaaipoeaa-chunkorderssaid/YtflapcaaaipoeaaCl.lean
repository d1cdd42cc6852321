/-
  chunk: strings out of bytes; a file's beginning; a chunk's words.
-/
import Derived.Test.YtflapcaaaipoeaaCk
import Derived.Laws.BytesString
namespace Go.Proofs.Ytflapcaaaipoeaa
open Go.RowKit Go.Lib
set_option linter.unusedVariables false

/-- Bytes as a string. -/
def strOf (bs : List Nat) : ByteArray := ⟨(bs.map UInt8.ofNat).toArray⟩

theorem conv_none (c : Nat) (w : World) : (convert 22 9 (.slice none 0 c)).run Try.prog w = .ok (.string ⟨#[]⟩) w := by kernel_rfl

theorem conv_str {w : World} {a : Option Addr} {bs : List Nat} (c : Nat) (h : Lies w a bs) : (convert 22 9 (.slice a bs.length c)).run Try.prog w = .ok (.string (strOf bs)) w := by
  cases a with
  | none =>
    have : bs = [] := by
      cases bs with
      | nil => rfl
      | cons x xs => obtain ⟨ad, e, _⟩ := h.2 0 (by simp); cases e
    subst this
    exact conv_none c w
  | some ad =>
    have := run_convert_bytes_back (P := Try.prog) w 22 9 5 ad c (bs.map UInt8.ofNat) Try.underlying22 Try.underlying5 Try.underlying9 (fun j hj => by
      have hj' : j < bs.length := by simpa using hj
      have hb := h.1 bs[j] (List.getElem_mem hj')
      obtain ⟨ad', e, h2⟩ := h.2 j hj'
      cases e
      rw [List.getD_eq_getElem?_getD, List.getElem?_eq_getElem hj'] at h2
      rw [h2]
      simp
      omega)
    rw [List.length_map] at this
    exact this

theorem strBytes_of {bs : List Nat} (h : ∀ b ∈ bs, b < 256) : strBytes (strOf bs) = bs := by
  unfold strBytes strOf
  simp only [List.map_map]
  conv => rhs; rw [← List.map_id bs]
  apply List.map_congr_left
  intro b hb
  have := h b hb
  simp
  omega
theorem strOf_bytes (s : ByteArray) : strOf (strBytes s) = s := by
  unfold strOf strBytes
  rw [List.map_map]
  have : (UInt8.ofNat ∘ UInt8.toNat) = id := by funext x; simp
  rw [this, List.map_id]
theorem strOf_inj {a b : List Nat} (ha : ∀ x ∈ a, x < 256) (hb : ∀ x ∈ b, x < 256) (h : strOf a = strOf b) : a = b := by
  rw [← strBytes_of ha, ← strBytes_of hb, h]
theorem strOf_size (bs : List Nat) : (strOf bs).size = bs.length := by
  show (bs.map UInt8.ofNat).toArray.size = _
  simp

def sigL : List Nat := [137, 80, 78, 71, 13, 10, 26, 10]
theorem sig_iff {bs : List Nat} (h : ∀ b ∈ bs, b < 256) : (strOf bs = ⟨#[137, 80, 78, 71, 13, 10, 26, 10]⟩) ↔ bs = sigL := by
  have e : (⟨#[137, 80, 78, 71, 13, 10, 26, 10]⟩ : ByteArray) = strOf sigL := rfl
  rw [e]
  exact ⟨fun hh => strOf_inj h (by decide) hh, fun hh => by rw [hh]⟩

/-- What is wrong with a file as far as its first chunk. -/
def startE (bs : List Nat) : Int := if 262144 < bs.length then 3 else if bs.length < 8 then 2 else if bs.take 8 = sigL then 0 else 4

set_option maxHeartbeats 400000 in
theorem checkStart_c (a : Option Addr) (c : Nat) (bs : List Nat) (w : World) (hl : Lies w a bs) (hc : bs.length ≤ c) (hcm : c ≤ maxLen) :
    Calls Try.prog 20 #[.slice a bs.length c] w fun e w' => e = .returned (.int .i64 (startE bs)) ∧ w = w' := by
  unfold maxLen at hcm
  have HG : Hid (startE bs = if 262144 < bs.length then 3 else if bs.length < 8 then 2 else if bs.take 8 = sigL then 0 else 4) := rfl
  by_cases h1 : 262144 < bs.length
  · have d1 : decide ((262144 : Int) < (bs.length : Int)) = true := by simp; omega
    have HN : Hid (startE bs = 3) := by show _ = _; rw [HG.out, if_pos h1]
    clear HG hl h1
    generalize bs.length = n at *
    go_enter Try.func20, Try.ntmps20
    go_wp2
    go_ret
    exact ⟨by rw [HN.out]; rfl, rfl⟩
  · by_cases h2 : bs.length < 8
    · have d1 : decide ((262144 : Int) < (bs.length : Int)) = false := by simp; omega
      have d2 : decide ((bs.length : Int) < 8) = true := by simp; omega
      have HN : Hid (startE bs = 2) := by show _ = _; rw [HG.out, if_neg h1, if_pos h2]
      clear HG hl h1 h2
      generalize bs.length = n at *
      go_enter Try.func20, Try.ntmps20
      go_wp2
      go_ret
      exact ⟨by rw [HN.out]; rfl, rfl⟩
    · have d1 : decide ((262144 : Int) < (bs.length : Int)) = false := by simp; omega
      have d2 : decide ((bs.length : Int) < 8) = false := by simp; omega
      have hcv := fun c => conv_str c (hl.take 8)
      have e8 : (bs.take 8).length = 8 := by rw [List.length_take]; omega
      rw [e8] at hcv
      have hs8 : ∀ b ∈ bs.take 8, b < 256 := (hl.take 8).1
      have h3 := eqL (strOf (bs.take 8)) [137, 80, 78, 71, 13, 10, 26, 10]
      have hsg := sig_iff hs8
      have g8 : (8 : Int) ≤ (c : Int) := by omega
      have hnn : 8 ≤ bs.length := by omega
      by_cases he : bs.take 8 = sigL
      · have HN : Hid (startE bs = 0) := by show _ = _; rw [HG.out, if_neg h1, if_neg h2, if_pos he]
        rw [decide_eq_true (hsg.2 he)] at h3
        clear HG hl h1 h2 hsg he hs8 e8
        generalize strOf (bs.take 8) = st at *
        generalize bs.length = n at *
        go_enter Try.func20, Try.ntmps20
        go_wp2
        go_ret
        exact ⟨by rw [HN.out]; rfl, rfl⟩
      · have HN : Hid (startE bs = 4) := by show _ = _; rw [HG.out, if_neg h1, if_neg h2, if_neg he]
        rw [decide_eq_false (fun h => he (hsg.1 h))] at h3
        clear HG hl h1 h2 hsg he hs8 e8
        generalize strOf (bs.take 8) = st at *
        generalize bs.length = n at *
        go_enter Try.func20, Try.ntmps20
        go_wp2
        go_ret
        exact ⟨by rw [HN.out]; rfl, rfl⟩
end Go.Proofs.Ytflapcaaaipoeaa

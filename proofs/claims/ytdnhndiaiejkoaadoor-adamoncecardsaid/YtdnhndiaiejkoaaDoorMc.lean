/-
  adam: each pixel is in just one pass: the mathematics.
-/
import Derived.Test.YtdnhndiaiejkoaaDoorMa
namespace Go.Proofs.YtdnhndiaiejkoaaDoor
open Go.RowKit
set_option linter.unusedVariables false

/-- Is a pixel one of a pass's? -/
def hit (q : Pz) (px py : Int) : Int := if px % q.dx = q.x ∧ py % q.dy = q.y then 1 else 0
def hits (l : List Pz) (px py : Int) : Int := sumF (fun q => hit q px py) l

theorem eight : ∀ u v : Fin 8, ((0 : Int) + (if u.1 % 8 = 0 ∧ v.1 % 8 = 0 then 1 else 0) + (if u.1 % 8 = 4 ∧ v.1 % 8 = 0 then 1 else 0) + (if u.1 % 4 = 0 ∧ v.1 % 8 = 4 then 1 else 0) + (if u.1 % 4 = 2 ∧ v.1 % 4 = 0 then 1 else 0) + (if u.1 % 2 = 0 ∧ v.1 % 4 = 2 then 1 else 0) + (if u.1 % 2 = 1 ∧ v.1 % 2 = 0 then 1 else 0) + (if u.1 % 1 = 0 ∧ v.1 % 2 = 1 then 1 else 0)) = 1 := by decide

theorem once {A B : Int} (h : sizeE A B = 0) {px py : Int} (x0 : 0 ≤ px) (x1 : px < A) (y0 : 0 ≤ py) (y1 : py < B) : hits (pas A B 7) px py = 1 := by
  have hz : ∀ i, ¬ (0 < (psn A B i).w ∧ 0 < (psn A B i).h) → hit (psn A B i) px py = 0 := fun i hi => by
    unfold hit
    rw [if_neg]
    rintro ⟨h1, h2⟩
    obtain ⟨f1, f2, f3, f4, f5, f6, f7, f8⟩ := gr_facts i
    apply hi
    have e1 : (gr i).x ≤ px := by
      rw [← show px % (gr i).dx = (gr i).x from h1]
      have h3 := Int.mul_ediv_add_emod px (gr i).dx
      have h4 : 0 ≤ (gr i).dx * (px / (gr i).dx) := Int.mul_nonneg (by omega) (Int.ediv_nonneg x0 (by omega))
      omega
    have e2 : (gr i).y ≤ py := by
      rw [← show py % (gr i).dy = (gr i).y from h2]
      have h3 := Int.mul_ediv_add_emod py (gr i).dy
      have h4 : 0 ≤ (gr i).dy * (py / (gr i).dy) := Int.mul_nonneg (by omega) (Int.ediv_nonneg y0 (by omega))
      omega
    exact ⟨(cnt_lt (s := A) (x := (gr i).x) (d := (gr i).dx) (j := 0) (by omega)).1 (by omega), (cnt_lt (s := B) (x := (gr i).y) (d := (gr i).dy) (j := 0) (by omega)).1 (by omega)⟩
  unfold hits
  rw [sumF_pas hz]
  obtain ⟨u, hu⟩ := Int.eq_ofNat_of_zero_le x0
  obtain ⟨v, hv⟩ := Int.eq_ofNat_of_zero_le y0
  have h8 := eight ⟨u % 8, by omega⟩ ⟨v % 8, by omega⟩
  simp only [] at h8
  rw [← h8]
  show 0 + hit (psn A B 0) px py + hit (psn A B 1) px py + hit (psn A B 2) px py + hit (psn A B 3) px py + hit (psn A B 4) px py + hit (psn A B 5) px py + hit (psn A B 6) px py = _
  have conv : ∀ (d x e y : Int) (d' x' e' y' : Nat), (px % d = x ↔ u % 8 % d' = x') → (py % e = y ↔ v % 8 % e' = y') → (if px % d = x ∧ py % e = y then (1 : Int) else 0) = if u % 8 % d' = x' ∧ v % 8 % e' = y' then 1 else 0 := fun d x e y d' x' e' y' h1 h2 => by
    by_cases h3 : px % d = x ∧ py % e = y
    · rw [if_pos h3, if_pos ⟨h1.1 h3.1, h2.1 h3.2⟩]
    · rw [if_neg h3, if_neg fun h => h3 ⟨h1.2 h.1, h2.2 h.2⟩]
  have c0 : hit (psn A B 0) px py = _ := conv 8 0 8 0 8 0 8 0 (by omega) (by omega)
  have c1 : hit (psn A B 1) px py = _ := conv 8 4 8 0 8 4 8 0 (by omega) (by omega)
  have c2 : hit (psn A B 2) px py = _ := conv 4 0 8 4 4 0 8 4 (by omega) (by omega)
  have c3 : hit (psn A B 3) px py = _ := conv 4 2 4 0 4 2 4 0 (by omega) (by omega)
  have c4 : hit (psn A B 4) px py = _ := conv 2 0 4 2 2 0 4 2 (by omega) (by omega)
  have c5 : hit (psn A B 5) px py = _ := conv 2 1 2 0 2 1 2 0 (by omega) (by omega)
  have c6 : hit (psn A B 6) px py = _ := conv 1 0 2 1 1 0 2 1 (by omega) (by omega)
  rw [c0, c1, c2, c3, c4, c5, c6]

/-- What is known of each pass of a picture. -/
structure PassIn (A B : Int) (q : Pz) : Prop where
  ok : PassOk A B q
  x0 : 0 ≤ q.x
  x1 : q.x < q.dx
  x2 : q.dx ≤ 8
  y0 : 0 ≤ q.y
  y1 : q.y < q.dy
  y2 : q.dy ≤ 8
  w : q.w = cnt A q.x q.dx
  h : q.h = cnt B q.y q.dy
theorem pas_in {A B : Int} (h : sizeE A B = 0) {q : Pz} {n : Nat} (hq : q ∈ pas A B n) : PassIn A B q := by
  have hk := pas_ok h hq
  obtain ⟨i, _, rfl, h1, h2⟩ := pas_mem n hq
  obtain ⟨f1, f2, f3, f4, f5, f6, f7, f8⟩ := gr_facts i
  exact ⟨hk, f1, f2, f4, f5, f6, f8, rfl, rfl⟩

/-- How often a pixel was seen when y rows and x pixels of a pass have been gone over. -/
def gone (q : Pz) (y x : Int) (f : Int → Int → Int) (px py : Int) : Int := f px py + if (px % q.dx = q.x ∧ py % q.dy = q.y) ∧ (py / q.dy < y ∨ (py / q.dy = y ∧ px / q.dx < x)) then 1 else 0
theorem gone_zero {q : Pz} {f : Int → Int → Int} {px py : Int} (hd : 0 < q.dx) (he : 0 < q.dy) (x0 : 0 ≤ px) (y0 : 0 ≤ py) : gone q 0 0 f px py = f px py := by
  unfold gone
  have h1 : 0 ≤ px / q.dx := Int.ediv_nonneg x0 (by omega)
  have h2 : 0 ≤ py / q.dy := Int.ediv_nonneg y0 (by omega)
  rw [if_neg (by omega), Int.add_zero]
theorem place_iff {d x j p : Int} (hx : 0 ≤ x) (hd : x < d) : p = x + j * d ↔ p % d = x ∧ p / d = j := by
  constructor
  · rintro rfl
    exact ⟨by rw [Int.add_mul_emod_self_right, Int.emod_eq_of_lt hx hd], by rw [Int.add_mul_ediv_right _ _ (by omega), Int.ediv_eq_zero_of_lt hx hd, Int.zero_add]⟩
  · rintro ⟨h1, h2⟩
    have := Int.mul_ediv_add_emod p d
    rw [h1, h2, Int.mul_comm] at this
    omega
theorem gone_x {A B : Int} {q : Pz} (hq : PassIn A B q) {y x : Int} {f : Int → Int → Int} {px py : Int} : gone q y (x + 1) f px py = gone q y x f px py + if px = q.x + x * q.dx ∧ py = q.y + y * q.dy then 1 else 0 := by
  unfold gone
  have e1 := place_iff (p := px) (j := x) hq.x0 hq.x1
  have e2 := place_iff (p := py) (j := y) hq.y0 hq.y1
  generalize q.x + x * q.dx = X at *
  generalize q.y + y * q.dy = Y at *
  generalize px % q.dx = r at *
  generalize py % q.dy = s at *
  generalize px / q.dx = u at *
  generalize py / q.dy = v at *
  split <;> split <;> split <;> omega
theorem gone_y {A B : Int} {q : Pz} (hq : PassIn A B q) {y : Int} {f : Int → Int → Int} {px py : Int} (x0 : 0 ≤ px) (x1 : px < A) : gone q y q.w f px py = gone q (y + 1) 0 f px py := by
  unfold gone
  have h1 : px % q.dx = q.x → px / q.dx < q.w := fun h => by
    rw [hq.w]
    refine (cnt_lt (by have := hq.x0; have := hq.x1; omega)).1 ?_
    rw [← (place_iff hq.x0 hq.x1).2 ⟨h, rfl⟩]
    exact x1
  have h2 : 0 ≤ px / q.dx := Int.ediv_nonneg x0 (by have := hq.x0; have := hq.x1; omega)
  generalize px % q.dx = r at *
  generalize py % q.dy = s at *
  generalize px / q.dx = u at *
  generalize py / q.dy = v at *
  split <;> split <;> omega
theorem gone_h {A B : Int} {q : Pz} (hq : PassIn A B q) {f : Int → Int → Int} {px py : Int} (x0 : 0 ≤ px) (y0 : 0 ≤ py) (y1 : py < B) : gone q q.h 0 f px py = f px py + hit q px py := by
  unfold gone hit
  have h1 : py % q.dy = q.y → py / q.dy < q.h := fun h => by
    rw [hq.h]
    refine (cnt_lt (by have := hq.y0; have := hq.y1; omega)).1 ?_
    rw [← (place_iff hq.y0 hq.y1).2 ⟨h, rfl⟩]
    exact y1
  have h2 : 0 ≤ px / q.dx := Int.ediv_nonneg x0 (by have := hq.x0; have := hq.x1; omega)
  generalize px % q.dx = r at *
  generalize py % q.dy = s at *
  generalize px / q.dx = u at *
  generalize py / q.dy = v at *
  split <;> split <;> omega

/-- What stands in the row of how often each pixel was seen. -/
structure Seen (a b : Nat) (zs : List Int) (f : Int → Int → Int) : Prop where
  len : zs.length = a * b
  val : ∀ p, p < a * b → zs.getD p 0 = f ((p % a : Nat) : Int) ((p / a : Nat) : Int)
theorem Seen.congr {a b : Nat} {zs : List Int} {f g : Int → Int → Int} (h : Seen a b zs f) (ha : 0 < a) (hfg : ∀ px py : Int, 0 ≤ px → px < a → 0 ≤ py → py < b → f px py = g px py) : Seen a b zs g := by
  refine ⟨h.len, fun p hp => ?_⟩
  rw [h.val p hp]
  have h1 := Nat.mod_lt p ha
  have h2 : p / a < b := Nat.div_lt_of_lt_mul hp
  exact hfg _ _ (Int.natCast_nonneg _) (Int.ofNat_lt.2 h1) (Int.natCast_nonneg _) (Int.ofNat_lt.2 h2)
theorem place_lt {a b X Y : Nat} (hX : X < a) (hY : Y < b) : Y * a + X < a * b := by
  have : (Y + 1) * a ≤ b * a := Nat.mul_le_mul_right a (by omega)
  rw [Nat.add_mul, Nat.one_mul, Nat.mul_comm b a] at this
  omega
theorem place_mod {a X Y : Nat} (hX : X < a) : (Y * a + X) % a = X ∧ (Y * a + X) / a = Y := by
  constructor
  · rw [Nat.mul_comm, Nat.mul_add_mod, Nat.mod_eq_of_lt hX]
  · rw [Nat.mul_comm, Nat.mul_add_div (by omega), Nat.div_eq_of_lt hX, Nat.add_zero]
theorem Seen.at {a b : Nat} {zs : List Int} {f : Int → Int → Int} (h : Seen a b zs f) {X Y : Nat} (hX : X < a) (hY : Y < b) : zs.getD (Y * a + X) 0 = f (X : Int) (Y : Int) := by
  rw [h.val _ (place_lt hX hY), (place_mod hX).1, (place_mod hX).2]
theorem Seen.step {a b : Nat} {zs : List Int} {f : Int → Int → Int} (h : Seen a b zs f) {X Y : Nat} (hX : X < a) (hY : Y < b) : Seen a b (zs.set (Y * a + X) (f (X : Int) (Y : Int) + 1)) (fun px py => f px py + if px = (X : Int) ∧ py = (Y : Int) then 1 else 0) := by
  refine ⟨by rw [List.length_set]; exact h.len, fun p hp => ?_⟩
  have hpl := place_lt (b := b) hX hY
  by_cases e : p = Y * a + X
  · subst e
    rw [(place_mod hX).1, (place_mod hX).2, if_pos ⟨rfl, rfl⟩]
    have hl : Y * a + X < zs.length := by rw [h.len]; exact hpl
    simp [List.getD_eq_getElem?_getD, hl]
  · have hne : ¬ (((p % a : Nat) : Int) = (X : Int) ∧ ((p / a : Nat) : Int) = (Y : Int)) := fun hh => by
      have h1 : p % a = X := by omega
      have h2 : p / a = Y := by omega
      apply e
      have := Nat.div_add_mod p a
      rw [h1, h2, Nat.mul_comm] at this
      omega
    rw [if_neg hne, Int.add_zero, ← h.val p hp]
    simp [List.getD_eq_getElem?_getD, show ¬ Y * a + X = p from fun h => e h.symm]
theorem hits_snoc (l : List Pz) (k : Nat) (h : k < l.length) (px py : Int) : hits (l.take (k + 1)) px py = hits (l.take k) px py + hit (l.getD k default) px py := sumF_snoc _ l k h
theorem hits_le {l : List Pz} (h7 : l.length ≤ 7) (k : Nat) (px py : Int) : 0 ≤ hits (l.take k) px py ∧ hits (l.take k) px py ≤ 7 := by
  have := sumF_take_le (f := fun q => hit q px py) (B := 1) (l := l) (by omega) h7 (fun q _ => by unfold hit; split <;> omega) k
  simpa [hits] using this
theorem gone_le {q : Pz} {y x : Int} {f : Int → Int → Int} {px py : Int} (h : 0 ≤ f px py ∧ f px py ≤ 7) : 0 ≤ gone q y x f px py ∧ gone q y x f px py ≤ 8 := by
  unfold gone
  split <;> omega
end Go.Proofs.YtdnhndiaiejkoaaDoor

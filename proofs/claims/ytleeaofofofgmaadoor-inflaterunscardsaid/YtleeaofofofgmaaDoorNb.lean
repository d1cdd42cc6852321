/-
  Contracts of New, Step, Done, Out, Used, Err, All.
-/
import Derived.Test.YtleeaofofofgmaaDoorNa
namespace Go.Proofs.YtleeaofofofgmaaDoor
open Go.RowKit

def outOf : Except Nat (List Nat × Nat) → List Nat
  | .ok (out, _) => out
  | .error _ => []
def usedOf : Except Nat (List Nat × Nat) → Nat
  | .ok (_, p) => (p + 7) / 8
  | .error _ => 0
def errOf : Except Nat (List Nat × Nat) → Nat
  | .ok _ => 0
  | .error er => er

theorem Mr.mf {w : World} {M : Nat} {r : Except Nat (List Nat × Nat)} (h : Mr w M r) : Mf w M (outOf r) (usedOf r) (errOf r) := by
  cases r with
  | ok x => exact h
  | error e => exact h

theorem Mf.keep {w w' : World} {M : Nat} {out : List Nat} {u er : Nat} (h : Mf w M out u er) (hF : Fr (fun _ => False) w w') : Mf w' M out u er := by
  obtain ⟨ov, h1, ⟨R, h2⟩, h3⟩ := h.obj
  exact ⟨ov, by rw [hF.block M (lt_of h1) (fun h => h)]; exact h1, ⟨R, ownsRow_fr h2 fun k hk => hF.block k (h2.lt k hk).2 (fun h => h)⟩, h3⟩

theorem lies_own {w : World} {lo : Nat} {v : Value} {bs : List Nat} (h : w.ownsRow lo 5 1 v bs.length (cellsOf bs)) : Lies w v bs := by
  rcases h.2 with ⟨rfl, hn⟩ | ⟨g, cap, cur, hv, hg⟩
  · exact Or.inl ⟨rfl, List.eq_nil_of_length_eq_zero hn⟩
  · exact Or.inr ⟨_, _, hv, fun j u hu => h.cells (g := g) (by rw [hv]; rfl) j u hu⟩

set_option maxHeartbeats 400000 in
theorem done_c (b : Bool) (M : Nat) (w : World) (h : w.cell? ⟨M, 14, none⟩ = some (.bool b)) : Calls Tryd.prog 14 #[.pointer (some ⟨M, 0, none⟩)] w fun e w' => e = .returned (.bool b) ∧ w = w' := by
  go_enter Tryd.func14, Tryd.ntmps14
  go_wp2
  go_ret
  exact ⟨rfl, rfl⟩

set_option maxHeartbeats 400000 in
theorem used_c (u : Int) (M : Nat) (w : World) (h : w.cell? ⟨M, 12, none⟩ = some (.int .i64 u)) : Calls Tryd.prog 18 #[.pointer (some ⟨M, 0, none⟩)] w fun e w' => e = .returned (.int .i64 u) ∧ w = w' := by
  go_enter Tryd.func18, Tryd.ntmps18
  go_wp2
  go_ret
  exact ⟨rfl, rfl⟩

set_option maxHeartbeats 400000 in
theorem err_c (u : Int) (M : Nat) (w : World) (h : w.cell? ⟨M, 13, none⟩ = some (.int .i64 u)) : Calls Tryd.prog 17 #[.pointer (some ⟨M, 0, none⟩)] w fun e w' => e = .returned (.int .i64 u) ∧ w = w' := by
  go_enter Tryd.func17, Tryd.ntmps17
  go_wp2
  go_ret
  exact ⟨rfl, rfl⟩

set_option maxHeartbeats 400000 in
theorem out_no (M : Nat) (w : World) (h : w.cell? ⟨M, 14, none⟩ = some (.bool false)) : Calls Tryd.prog 16 #[.pointer (some ⟨M, 0, none⟩)] w fun e w' => e = .returned (.slice none 0 0) ∧ w = w' := by
  go_enter Tryd.func16, Tryd.ntmps16
  go_wp2_with fail
  refine (done_c false M w h).mono ?_
  rintro e w1 ⟨rfl, rfl⟩
  go_wp2
  go_ret
  exact ⟨rfl, rfl⟩

set_option maxHeartbeats 400000 in
theorem out_c (M : Nat) (out : List Nat) (u er : Nat) (w : World) (h : Mf w M out u er) (hl : out.length ≤ 2147483648) :
    Calls Tryd.prog 16 #[.pointer (some ⟨M, 0, none⟩)] w fun e w' => ∃ a c, e = .returned (.slice a out.length c) ∧ w'.ownsRow w.heap.size 5 1 (.slice a out.length c) out.length (cellsOf out) ∧ Fr (fun _ => False) w w' := by
  obtain ⟨ov, h1, ⟨R, h2⟩, h3⟩ := h.obj
  obtain ⟨oa, oc, rfl⟩ := ownsRow_shape h2
  have q14 := h.cell14
  have q11 : w.cell? ⟨M, 11, none⟩ = some (.slice oa out.length oc) := cell_of h1 rfl
  have HL := hide (lies_own h2)
  clear h h1 h2 h3
  go_enter Tryd.func16, Tryd.ntmps16
  go_wp2_with fail
  refine (done_c true M w q14).mono ?_
  rintro e w1 ⟨rfl, rfl⟩
  go_wp2_with fail
  refine (clone_c _ out w HL.out hl).mono ?_
  rintro e w1 ⟨a, c, rfl, hown, hbel⟩
  have Hown := hide hown
  have Hbel := hide hbel
  clear hown hbel
  go_wp2
  go_ret
  exact ⟨a, c, rfl, Hown.out, (Fr.of_below Hbel.out).mono fun k hk h => by omega⟩

theorem Mf.cells {w : World} {M : Nat} {out : List Nat} {u er : Nat} (h : Mf w M out u er) : w.cell? ⟨M, 12, none⟩ = some (.int .i64 (u : Int)) ∧ w.cell? ⟨M, 13, none⟩ = some (.int .i64 (er : Int)) := by
  obtain ⟨ov, h1, _⟩ := h.obj
  exact ⟨cell_of h1 rfl, cell_of h1 rfl⟩

set_option maxHeartbeats 400000 in
theorem step_on (w : World) (lo R M B : Nat) (bs : List Nat) (most : Nat) (hmost : most ≤ 2147483648) (hg : Gl w) (hlo : 0 < lo) (s0 : St) (h : Mx w lo R M B bs most s0) (n0 : Int) (hn0 : n0 ≤ 9223372036854775807) (hn1 : -9223372036854775808 ≤ n0) :
    Calls Tryd.prog 15 #[.pointer (some ⟨M, 0, none⟩), .int .i64 n0] w fun e w' => ∃ b, e = .returned (.bool b) ∧ w'.cell? ⟨M, 14, none⟩ = some (.bool b) ∧ Fl lo w w' ∧ Sl lo R M B bs most s0 n0 w' := by
  have q14 := h.md.2.2.2
  have H := hide (slice_c w lo R M B bs most hmost hg hlo s0 h n0 hn0 hn1)
  clear h hg
  go_enter Tryd.func15, Tryd.ntmps15
  go_wp2_with fail
  refine H.out.mono ?_
  rintro e w1 ⟨rfl, hF, hS⟩
  have hb : ∃ b, w1.cell? ⟨M, 14, none⟩ = some (.bool b) := by
    cases hS with
    | on s h _ _ _ => exact ⟨false, h.md.2.2.2⟩
    | fin r _ h _ => exact ⟨true, h.mf.cell14⟩
  obtain ⟨b, hb⟩ := hb
  have HF := hide hF
  have HS := hide hS
  clear hF hS
  go_wp2
  go_ret
  exact ⟨b, rfl, hb, HF.out, HS.out⟩

set_option maxHeartbeats 400000 in
theorem step_done (w : World) (M : Nat) (n0 : Int) (q14 : w.cell? ⟨M, 14, none⟩ = some (.bool true)) :
    Calls Tryd.prog 15 #[.pointer (some ⟨M, 0, none⟩), .int .i64 n0] w fun e w' => e = .returned (.bool true) ∧ w = w' := by
  go_enter Tryd.func15, Tryd.ntmps15
  go_wp2
  go_ret
  exact ⟨rfl, rfl⟩

set_option maxHeartbeats 800000 in
set_option maxRecDepth 100000 in
theorem new_neg (sv : Value) (n : Nat) (c : Nat) (a : Option Addr) (_hs : sv = .slice a n c) (most : Int) (hm : most < 0) (w : World) :
    Calls Tryd.prog 13 #[sv, .int .i64 most] w fun e w' => ∃ M, e = .returned (.pointer (some ⟨M, 0, none⟩)) ∧ Mf w' M [] 0 1 ∧ M < w'.heap.size ∧ Fr (fun _ => False) w w' := by
  go_enter Tryd.func13, Tryd.ntmps13
  go_wp2
  go_ret
  exact ⟨_, rfl, ⟨_, heap_alloc_new _ _, ⟨0, World.ownsRow_nil _ _ _ _⟩, fun g hg => by cases hg⟩, by simp, Fr.of_alloc _ _⟩

set_option maxHeartbeats 800000 in
set_option maxRecDepth 100000 in
theorem new_pos (sv : Value) (bs : List Nat) (most : Nat) (w : World) (h : Lies w sv bs) (hlt : ∀ b ∈ bs, b < 256) (hlen : bs.length ≤ 2147483648) :
    Calls Tryd.prog 13 #[sv, .int .i64 (most : Int)] w fun e w' => ∃ M B R, e = .returned (.pointer (some ⟨M, 0, none⟩)) ∧ Mx w' w.heap.size R M B bs most init ∧ Fr (fun _ => False) w w' := by
  obtain ⟨a, n, c, rfl, hn⟩ : ∃ a n c, sv = .slice a n c ∧ n = bs.length := by
    rcases h with ⟨rfl, rfl⟩ | ⟨ad, c, rfl, _⟩
    · exact ⟨none, 0, 0, rfl, rfl⟩
    · exact ⟨some ad, bs.length, c, rfl, rfl⟩
  have HN := hide (newLow_c (.slice a n c) bs w h hlt hlen)
  have Hn := hide hn
  clear h hlt hn hlen
  go_enter Tryd.func13, Tryd.ntmps13
  go_wp2_with fail
  refine HN.out.mono ?_
  rintro e w1 ⟨B, rfl, hR, hF⟩
  have HR := hide hR
  have HF := hide hF
  clear hR hF
  go_wp2
  go_ret
  obtain ⟨M, hM⟩ : ∃ M, M = w1.heap.size := ⟨_, rfl⟩
  rw [← hM]
  have fr := Fr.of_alloc w1 (.cells (mcells B n most 0 false 0 0 (.pointer none) (.pointer none) (.pointer none) (.pointer none) (.slice none 0 0)) 68)
  refine ⟨M, B, w1.heap.size, rfl, ⟨0, 0, .pointer none, .pointer none, .pointer none, .pointer none, .slice none 0 0, ⟨HR.out.keep fr (fun _ _ _ h => h), by omega, ?_, World.ownsRow_nil _ _ _ _, fun g hg => by cases hg⟩, trivial, Or.inl rfl, (fun x hx => by cases hx), Nat.zero_le _⟩, HF.out.join fr⟩
  rw [← Hn.out]
  exact heap_alloc_at hM

theorem own_mono {w : World} {lo lo' : Nat} {e : TypeId} {size : Nat} {v : Value} {n : Nat} {xs : List Value} (h : w.ownsRow lo e size v n xs) (hl : lo' ≤ lo) : w.ownsRow lo' e size v n xs :=
  ⟨h.1, h.2.imp id fun ⟨g, cap, cur, hv, hg, r⟩ => ⟨g, cap, cur, hv, Nat.le_trans hl hg, r⟩⟩

/-- What All comes to. -/
def AllOk (bs : List Nat) (most : Int) (r : Except Nat (List Nat × Nat)) : Prop :=
  (most < 0 ∧ r = .error 1) ∨ (0 ≤ most ∧ Runs (leNum bs) (8 * bs.length) most.toNat init r)

theorem Runs.out_most {V L most : Nat} {s : St} {r : Except Nat (List Nat × Nat)} (h : Runs V L most s r) (hs : s.out.length ≤ most) : (outOf r).length ≤ most := by
  induction h with
  | fail _ => exact Nat.zero_le _
  | done _ => exact hs
  | go h1 _ ih => exact ih (by rw [adv_go_out h1]; exact hs)
  | put h1 h2 _ ih => exact ih (by rw [adv_put_out h1]; omega)
  | full _ _ => exact Nat.zero_le _

theorem AllOk.len {bs : List Nat} {most : Int} {r : Except Nat (List Nat × Nat)} (h : AllOk bs most r) (hm : most ≤ 2147483647) : (outOf r).length ≤ 2147483647 := by
  rcases h with ⟨_, rfl⟩ | ⟨h1, h2⟩
  · exact Nat.zero_le _
  · have := h2.out_most (Nat.zero_le _)
    omega

set_option maxHeartbeats 1600000 in
set_option maxRecDepth 100000 in
theorem all_c (sv : Value) (bs : List Nat) (most : Int) (w : World) (h : Lies w sv bs) (hlt : ∀ b ∈ bs, b < 256) (hlen : bs.length ≤ 2147483648) (hm : most ≤ 2147483647) (hg : Gl w) (h0 : 0 < w.heap.size) :
    Calls Tryd.prog 11 #[sv, .int .i64 most] w fun e w' => ∃ r a c, AllOk bs most r ∧ e = .returned (.tuple #[.slice a (outOf r).length c, .int .i64 (usedOf r : Int), .int .i64 (errOf r : Int)]) ∧
      w'.ownsRow w.heap.size 5 1 (.slice a (outOf r).length c) (outOf r).length (cellsOf (outOf r)) ∧ Fr (fun _ => False) w w' := by
  -- what New and the first Step come to
  have key : Calls Tryd.prog 13 #[sv, .int .i64 most] w fun e w1 => ∃ M, e = .returned (.pointer (some ⟨M, 0, none⟩)) ∧ Fr (fun _ => False) w w1 ∧
      Calls Tryd.prog 15 #[.pointer (some ⟨M, 0, none⟩), .int .i64 9223372036854775807] w1 fun e w2 => e = .returned (.bool true) ∧ Fr (fun _ => False) w w2 ∧ ∃ r, AllOk bs most r ∧ Mf w2 M (outOf r) (usedOf r) (errOf r) := by
    by_cases hneg : most < 0
    · obtain ⟨a, n, c, hs⟩ : ∃ a n c, sv = .slice a n c := by
        rcases h with ⟨rfl, _⟩ | ⟨ad, c, rfl, _⟩
        · exact ⟨none, 0, 0, rfl⟩
        · exact ⟨some ad, _, c, rfl⟩
      refine (new_neg sv n c a hs most hneg w).mono ?_
      rintro e w1 ⟨M, rfl, hM, _, hF⟩
      refine ⟨M, rfl, hF, (step_done w1 M _ hM.cell14).mono ?_⟩
      rintro e w2 ⟨rfl, rfl⟩
      exact ⟨rfl, hF, .error 1, Or.inl ⟨hneg, rfl⟩, hM⟩
    · obtain ⟨m, rfl⟩ : ∃ m : Nat, most = (m : Int) := ⟨most.toNat, by omega⟩
      refine (new_pos sv bs m w h hlt hlen).mono ?_
      rintro e w1 ⟨M, B, R, rfl, hX, hF⟩
      refine ⟨M, rfl, hF, (step_on w1 w.heap.size R M B bs m (by omega) (hg.keep hF (fun h => h)) h0 init hX 9223372036854775807 (by omega) (by omega)).mono ?_⟩
      rintro e w2 ⟨b, rfl, hb, hF2, hS⟩
      have fr : Fr (fun _ => False) w w2 := (hF.trans hF2).mono fun k hk h => h.elim id (fun e => by omega)
      cases hS with
      | on s hX2 _ _ h1 =>
        exfalso
        have h2 := h1 (by omega)
        obtain ⟨_, _, _, _, _, _, _, _, _, _, _, ho⟩ := hX2
        have e0 : (init.out.length : Int) = 0 := rfl
        omega
      | fin r hr hM _ =>
        have hM' := hM.mf
        have := hM'.cell14
        rw [hb] at this
        cases this
        exact ⟨rfl, fr, r, Or.inr ⟨by omega, hr⟩, hM'⟩
  have Hkey := hide key
  clear key h hlt hg
  go_enter Tryd.func11, Tryd.ntmps11
  go_wp2_with fail
  refine Hkey.out.mono ?_
  rintro e w1 ⟨M, rfl, hF1, hst⟩
  have HF1 := hide hF1
  have Hst := hide hst
  clear hF1 hst
  go_wp2
  go_loopw [] (fun wr => Hid (w1 = wr)) (fun _ => 0)
  case atStart => exact rfl
  case round =>
    obtain rfl := hrel.out
    clear hrel
    go_wp2_with fail
    refine Hst.out.mono ?_
    rintro e w2 ⟨rfl, hF2, r, hA, hM⟩
    have HF2 := hide hF2
    have HA := hide hA
    have HM := hide hM
    obtain ⟨q12, q13⟩ := hM.cells
    clear hF2 hA hM
    go_wp2_with fail
    refine (out_c M (outOf r) _ _ w2 HM.out (by have := HA.out.len hm; omega)).mono ?_
    rintro e w3 ⟨a, c, rfl, hown, hF3⟩
    have hM3 := HM.out.keep hF3
    obtain ⟨q12, q13⟩ := hM3.cells
    have Hown := hide hown
    have HF3 := hide (HF2.out.join hF3)
    have Hs2 := HF2.out.size
    clear hown hF3 hM3
    go_wp2_with fail
    refine (used_c _ M w3 q12).mono ?_
    rintro e w4 ⟨rfl, rfl⟩
    go_wp2_with fail
    refine (err_c _ M w3 q13).mono ?_
    rintro e w4 ⟨rfl, rfl⟩
    go_wp2
    go_ret3
    exact ⟨r, a, c, HA.out, rfl, own_mono Hown.out Hs2, HF3.out⟩
end Go.Proofs.YtleeaofofofgmaaDoor

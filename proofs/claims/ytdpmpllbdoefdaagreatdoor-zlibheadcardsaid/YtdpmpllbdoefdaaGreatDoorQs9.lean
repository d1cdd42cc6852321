/-
  Texts of the seat, put together: Mh Mj Mk Mr Ms Mt Mu Mv Mw Mz Na Nb Nc Nd Zd Ze Zf Nk.
-/
import Derived.Test.YtdpmpllbdoefdaaGreatDoorQz6
import Derived.Test.YtdpmpllbdoefdaaGreatDoorQz2
import Derived.Test.YtdpmpllbdoefdaaGreatDoorQs8
import Derived.Test.YtdpmpllbdoefdaaGreatDoorQz4
import Derived.Laws.CopyOwn
import Derived.Lib.AppendZerosOnto
import Derived.Laws.IdiomStrings
import Derived.KernelRfl
import Derived.Lib.SlBytesConst
import Derived.Lib.SmallJoins
import Derived.Test.YtdpmpllbdoefdaaGreatDoorTie
import Derived.ProofKit
import Derived.LaidMore
import Derived.OpenShut
import Derived.Stop.Joined
namespace Go.Proofs.YtdpmpllbdoefdaaGreatDoor
open Go.RowKit
theorem rep_fine {s V L p q t : Nat} {acc : List Int} {v : Int} (h : rep s acc V L p = .ok ((v, t), q)) (hs : s < 19) (hf : fine acc) : (1 ≤ t ∧ t ≤ 200) ∧ 0 ≤ v ∧ v ≤ 15 := by
  unfold rep at h
  split at h
  · obtain ⟨x, m, h1, h2⟩ := then_inv h
    have := tkn_lt h1
    split at h2
    · cases h2
    · cases h2
      have := hf (acc.length - 1) (by omega)
      omega
  split at h
  · obtain ⟨x, m, h1, h2⟩ := then_inv h
    have := tkn_lt h1
    cases h2
    omega
  split at h
  · obtain ⟨x, m, h1, h2⟩ := then_inv h
    have := tkn_lt h1
    cases h2
    omega
  · cases h
    omega
structure Ac (w wr : World) (lo R M B : Nat) (bs : List Nat) (X : Except Nat (List Int × Nat)) (cl : List Int) (n : Nat) (acc : List Int) (q : Nat) (v : Value) : Prop where
  mi : Mi wr lo R M B bs q
  fr : Fr (fun k => k = B) w wr
  own : wr.ownsRow w.heap.size 3 1 v acc.length (cellsZ acc)
  le : acc.length ≤ n
  eq : ∃ f, n < acc.length + f ∧ X = lens cl n f acc (leNum bs) (8 * bs.length) q
  good : fine acc
set_option maxHeartbeats 3200000 in
set_option maxRecDepth 100000 in
theorem codeLengths_c (w : World) (lo R M B : Nat) (bs : List Nat) (p : Nat) (h : Mi w lo R M B bs p) (C clo chi : Nat) (cl : List Int) (hC : Cd w clo chi C cl) (hRc : R ≤ clo) (h19 : cl.length = 19)
    (n : Nat) (hn : n ≤ 400) (Q : Ending → World → Prop)
    (hok : ∀ l q w' a c, lens cl n (n + 1) [] (leNum bs) (8 * bs.length) p = .ok (l, q) → l.length = n → fine l → w'.ownsRow w.heap.size 3 1 (.slice a n c) n (cellsZ l) → Rm w' lo R B bs q → Fr (fun k => k = B) w w' → Q (.returned (.slice a n c)) w')
    (hno : ∀ (er : Nat) w', lens cl n (n + 1) [] (leNum bs) (8 * bs.length) p = .error er → Fr (fun k => k = B) w w' → Q (errPanic er) w') :
    Calls Tryz.prog 94 #[.pointer (some ⟨M, 0, none⟩), .pointer (some ⟨C, 0, none⟩), .int .i64 n] w Q := by
  obtain ⟨i0, hi, hz0, hz1, hz2⟩ := info_parts Tryz.info3
  obtain ⟨X, hX⟩ : ∃ X, X = lens cl n (n + 1) [] (leNum bs) (8 * bs.length) p := ⟨_, rfl⟩
  rw [← hX] at hok hno
  have hBw : B < w.heap.size := by have := h.rd.ehi; have := h.rd.esz; omega
  have hst : Ac w w lo R M B bs X cl n [] p (.slice none 0 0) := ⟨h, Fr.refl _ _, World.ownsRow_nil _ _ _ _, Nat.zero_le _, ⟨n + 1, by simp, hX⟩, fun i hi => absurd hi (Nat.not_lt_zero _)⟩
  have Hhr : Hid (M ≤ w.heap.size) := Nat.le_of_lt (cell_lt h.ptr)
  have Hhm : Hid (M < w.heap.size) := cell_lt h.ptr
  have Hst := hide hst
  have HC := hide hC
  have Hok := hide hok
  have Hno := hide hno
  have Hap : Hid (chi ≤ B ∨ B < clo) := Or.inr (by have := h.rd.ehi; omega)
  clear h hC hok hno hX hst
  go_enter Tryz.func94, Tryz.ntmps94
  go_wp2
  go_loopw [7, 8, 9] (fun v _ _ wr => ∃ acc q, Ac w wr lo R M B bs X cl n acc q v) (fun v _ _ _ => n - lenOf v)
  case atStart => exact ⟨[], p, Hst.out⟩
  case round =>
    obtain ⟨acc, q, hA⟩ := hrel
    obtain ⟨a0, c0, rfl⟩ := ownsRow_shape hA.own
    have HA := hide hA
    obtain ⟨k, hk⟩ : ∃ k, k = acc.length := ⟨_, rfl⟩
    have Hk : Hid (k = acc.length) := hk
    have hkn : k ≤ n := by rw [hk]; exact hA.le
    obtain ⟨f, hf, hXf⟩ := hA.eq
    rw [← hk]
    clear hA hk
    by_cases hlt : k < n
    · have hlti : (k : Int) < (n : Int) := by omega
      obtain ⟨f', rfl⟩ : ∃ f', f = f' + 1 := ⟨f - 1, by have := Hk.out; omega⟩
      have E0 : Hid (X = andThen (andThen (tk cl) fun s => rep s acc) (fun vt => if n < acc.length + vt.2 then bad 4 else lens cl n f' (acc ++ List.replicate vt.2 vt.1)) (leNum bs) (8 * bs.length) q) := by
        show X = _
        rw [hXf]
        simp only [lens]
        rw [if_neg (by have := Hk.out; omega)]
        simp only [andThen]
        cases tk cl (leNum bs) (8 * bs.length) q <;> rfl
      have Hf : Hid (n < acc.length + (f' + 1)) := hf
      clear hf hXf
      go_wp2_with fail
      refine calls_args (codeLength_c wr lo R M B bs q HA.out.mi C clo chi cl (HC.out.keep HA.out.fr (fun j h1 h2 e => by have := Hap.out; omega)) (by have := HC.out.elo; omega) a0 k c0 acc Hk.out (by have := HA.out.own; rw [← Hk.out] at this; exact own_lies this) ?hab (by have := Hk.out; omega) _ ⟨?ok1, ?no1⟩) rfl
      case hab =>
        intro ad e
        subst e
        have hv := HA.out.own
        rcases hv.2 with ⟨h1, h2⟩ | ⟨g, cap, cur, h1, h2, h3⟩
        · cases h1
        · cases h1
          have := (hv.lt g rfl).1
          show g ≠ B
          omega
      case no1 => (intro er w2 hx hF; exact ⟨rfl, Hno.out er w2 (E0.out.trans (then_err hx)) (HA.out.fr.join hF)⟩)
      intro vl t q2 w2 hx hR hF
      obtain ⟨s, qs, hs1, hs2⟩ := then_inv hx
      have hsb := tk_lt hs1 (by omega)
      obtain ⟨⟨ht1, ht2⟩, hv0, hv1⟩ := rep_fine hs2 (by omega) HA.out.good
      have E1 := E0.out.trans (then_ok hx)
      simp only at E1
      have HF2 := hide (HA.out.fr.join hF)
      have HM2 := hide (HA.out.mi.next hR hF)
      have hown2 : w2.ownsRow w.heap.size 3 1 (.slice a0 k c0) k (cellsZ acc) := by
        have := HA.out.own
        rw [← Hk.out] at this
        refine ownsRow_fr this fun j hj => hF.block j (this.lt j hj).2 (fun e => ?_)
        have := (this.lt j hj).1
        omega
      have Hown2 := hide hown2
      clear hx hR hF hs1 hs2 hown2
      by_cases htn : n < k + t
      · have hti : (n : Int) - (k : Int) < (t : Int) := by omega
        rw [if_pos (by rw [← Hk.out]; exact htn)] at E1
        have HE1 := hide E1
        clear E1
        go_wp2
        exact ⟨rfl, Hno.out 4 _ HE1.out HF2.out⟩
      · have hti : ¬ (n : Int) - (k : Int) < (t : Int) := by omega
        rw [if_neg (by rw [← Hk.out]; exact htn)] at E1
        have HE1 := hide E1
        clear E1
        go_wp2
        go_loopw [7, 29] (fun v iv wq => ∃ i : Nat, i ≤ t ∧ iv = .int .i64 (i : Int) ∧ ∃ a c, v = .slice a (k + i) c ∧ wq.ownsRow w.heap.size 3 1 (.slice a (k + i) c) (k + i) (cellsZ (acc ++ List.replicate i vl)) ∧ Mi wq lo R M B bs q2 ∧ Fr (fun k => k = B) w wq) (fun _ iv _ => t - (intOf iv).toNat)
        case atStart => exact ⟨0, Nat.zero_le _, rfl, a0, c0, rfl, by simpa using Hown2.out, HM2.out, HF2.out⟩
        case round =>
          obtain ⟨i, hi1, rfl, a1, c1, rfl, hown, hMi, hFr⟩ := hrel
          have Hown := hide hown
          have HMi := hide hMi
          have HFr := hide hFr
          obtain ⟨N, hN⟩ : ∃ N, N = k + i := ⟨_, rfl⟩
          have hNb : N ≤ 800 := by omega
          rw [← hN] at Hown ⊢
          have HN := hide hN
          clear hown hMi hFr hN
          by_cases hit : i < t
          · have hiti : (i : Int) < (t : Int) := by omega
            have hsz := HFr.out.size
            go_wp2_with (at_builtin; go_must (refine wpList_append_lies _ rfl _ _ 81 rfl w.heap.size 3 i0 (.int .i64 0) 1 8 Tryz.underlying81 hi hz0 hz1 hz2 rfl (by decide) (.slice a1 N c1) N (cellsZ (acc ++ List.replicate i vl)) rfl (Hown.out.alloc _) ⟨wr.heap.size, 0, none⟩ 1 1 [.int .i64 vl] rfl rfl (cell_one_new _ _ _) (fun x hx => by simp at hx; subst hx; rfl) (by decide) (by unfold maxLen; omega) (by omega) (by simp; omega) (wr.heap.size + 1) (by simp) ?_); intro g cap w3 hown3 hgrow hat hlt3)
            have f1 : Fr (fun k => (Value.slice a1 N c1).ownBlock = some k) (wr.alloc (.cells #[.int .i64 vl] 3)) w3 := ⟨hgrow.os, hgrow.tape, hgrow.output, hgrow.size, fun k hk hn => hgrow.block k hk (fun e => hn e.symm)⟩
            have f2 : Fr (fun k => (Value.slice a1 N c1).ownBlock = some k) wr w3 := ((Fr.of_alloc wr _).trans f1).mono fun k _ h => h.elim (fun x => x.elim) id
            have f3 : Fr (fun k => k = B) w w3 := (HFr.out.trans f2).mono fun j hj h => by
              rcases h with h | h
              · exact h
              · have := (Hown.out.lt j h).1; omega
            have HM3 : Mi w3 lo R M B bs q2 := by
              have hRl := HMi.out.rd.esz
              have hM2 := HMi.out.hM
              have hRw : R ≤ w.heap.size := Nat.le_trans HM2.out.hM Hhr.out
              refine ⟨HMi.out.rd.keep f2 (fun j _ h2 e => ?_), hM2, ?_⟩
              · have := (Hown.out.lt j e).1; omega
              · have hn : ¬ (Value.slice a1 N c1).ownBlock = some M := fun e => by
                  have := (Hown.out.lt M e).1
                  have := Hhm.out
                  omega
                rw [cell_blk (f2.block M (cell_lt HMi.out.ptr) hn)]
                exact HMi.out.ptr
            have HO3 : w3.ownsRow w.heap.size 3 1 (.slice (some ⟨g, 0, none⟩) (N + 1) cap) (N + 1) (cellsZ (acc ++ List.replicate (i + 1) vl)) := by
              rw [← rep_snoc, ← cellsZ_snoc]
              exact hown3
            have G1 := hide f3
            have G2 := hide HM3
            have G3 := hide HO3
            clear hown3 hgrow hat hlt3 f1 f2 f3 HM3 HO3
            go_roundw
            case rel => exact ⟨i + 1, by omega, by go_num, _, _, by rw [HN.out]; rfl, by have := HN.out; rw [show k + (i + 1) = N + 1 by omega]; exact G3.out, G2.out, G1.out⟩
            case measure => simp [intOf]; omega
          · have hiti : ¬ (i : Int) < (t : Int) := by omega
            have hie : i = t := by omega
            subst hie
            go_wp2
            go_roundw
            case rel =>
              refine ⟨acc ++ List.replicate i vl, q2, HMi.out, HFr.out, ?_, ?_, ⟨f', ?_, HE1.out⟩, fine_rep i HA.out.good ⟨hv0, hv1⟩⟩
              · rw [show (acc ++ List.replicate i vl).length = N by have := HN.out; have := Hk.out; simp; omega]; exact Hown.out
              · have := Hk.out; simp; omega
              · have := Hf.out; simp; omega
            case measure => have := HN.out; simp [lenOf]; omega
    · have hlti : ¬ (k : Int) < (n : Int) := by omega
      have hke : k = n := by omega
      subst hke
      obtain ⟨f', rfl⟩ : ∃ f', f = f' + 1 := ⟨f - 1, by have := Hk.out; omega⟩
      have E0 : Hid (X = .ok (acc, q)) := by
        show X = _
        rw [hXf]
        simp only [lens]
        rw [if_pos (by have := Hk.out; omega)]
        rfl
      clear hf hXf
      go_wp2
      exact Hok.out acc q _ a0 c0 E0.out Hk.out.symm HA.out.good (by have := HA.out.own; rw [← Hk.out] at this; exact this) HA.out.mi.rd HA.out.fr
end Go.Proofs.YtdpmpllbdoefdaaGreatDoor
namespace Go.Proofs.YtdpmpllbdoefdaaGreatDoor
open Go.RowKit
structure TlI (w wr : World) (lo R M B G : Nat) (bs : List Nat) (X : Except Nat (List Int × Nat)) (N i : Nat) (cl : List Int) (q : Nat) : Prop where
  mi : Mi wr lo R M B bs q
  fr : Fr (fun k => k = B) w wr
  obj : wr.heap[G]? = some (.cells (cellsZ cl).toArray 156 (0, 0))
  len : cl.length = 19
  eq : X = told (N - i) i cl (leNum bs) (8 * bs.length) q
  good : fine cl
set_option maxHeartbeats 3200000 in
set_option maxRecDepth 100000 in
theorem codeOf_c (w : World) (lo R M B : Nat) (bs : List Nat) (p : Nat) (h : Mi w lo R M B bs p) (hg : Gi w) (hlo : 0 < lo) (N : Nat) (hN : N ≤ 19) (Q : Ending → World → Prop)
    (hok : ∀ cl q w' C clo, told N 0 zero19 (leNum bs) (8 * bs.length) p = .ok (cl, q) → cl.length = 19 → codeOk cl → w.heap.size ≤ clo → Cd w' clo w'.heap.size C cl → Rm w' lo R B bs q → Fr (fun k => k = B) w w' → Q (.returned (.pointer (some ⟨C, 0, none⟩))) w')
    (hbad : ∀ cl q w', told N 0 zero19 (leNum bs) (8 * bs.length) p = .ok (cl, q) → ¬ codeOk cl → Fr (fun k => k = B) w w' → Q (errPanic 4) w')
    (hno : ∀ (er : Nat) w', told N 0 zero19 (leNum bs) (8 * bs.length) p = .error er → Fr (fun k => k = B) w w' → Q (errPanic er) w') :
    Calls Tryz.prog 95 #[.pointer (some ⟨M, 0, none⟩), .int .i64 N] w Q := by
  obtain ⟨X, hX⟩ : ∃ X, X = told N 0 zero19 (leNum bs) (8 * bs.length) p := ⟨_, rfl⟩
  rw [← hX] at hok hno hbad
  have hBw : B < w.heap.size := by have := h.rd.ehi; have := h.rd.esz; omega
  have hB0 : 0 < B := by have := h.rd.elo; omega
  have HG := hide hg
  have H := hide h
  have Hok := hide hok
  have Hno := hide hno
  have Hbad := hide hbad
  have HX := hide hX
  clear h hok hno hX hbad hg
  go_enter Tryz.func95, Tryz.ntmps95
  go_wp2
  obtain ⟨G, hG⟩ : ∃ G, G = w.heap.size := ⟨_, rfl⟩
  have Hst : Hid (TlI w (w.alloc (.cells #[.int .i64 0, .int .i64 0, .int .i64 0, .int .i64 0, .int .i64 0, .int .i64 0, .int .i64 0, .int .i64 0, .int .i64 0, .int .i64 0, .int .i64 0, .int .i64 0, .int .i64 0, .int .i64 0, .int .i64 0, .int .i64 0, .int .i64 0, .int .i64 0, .int .i64 0] 156)) lo R M B G bs X N 0 zero19 p) := by
    have fr := Fr.of_alloc w (.cells #[.int .i64 0, .int .i64 0, .int .i64 0, .int .i64 0, .int .i64 0, .int .i64 0, .int .i64 0, .int .i64 0, .int .i64 0, .int .i64 0, .int .i64 0, .int .i64 0, .int .i64 0, .int .i64 0, .int .i64 0, .int .i64 0, .int .i64 0, .int .i64 0, .int .i64 0] 156)
    exact ⟨⟨H.out.rd.keep fr (fun _ _ _ h => h), H.out.hM, by rw [cell_blk (fr.block M (cell_lt H.out.ptr) (fun h => h))]; exact H.out.ptr⟩, fr.mono (fun _ _ h => h.elim), heap_alloc_at hG, rfl, HX.out, fine_zero⟩
  rw [← hG]
  have hMG : M < G := by rw [hG]; exact cell_lt H.out.ptr
  have hBG : B < G := by omega
  have HGs : Hid (G = w.heap.size) := hG
  clear hG
  go_loopw [6, 8] (fun _ iv wr => ∃ i cl q, i ≤ N ∧ iv = .int .i64 ((i : Nat) : Int) ∧ TlI w wr lo R M B G bs X N i cl q) (fun _ iv _ => N - (intOf iv).toNat)
  case atStart => exact ⟨0, zero19, p, Nat.zero_le _, rfl, Hst.out⟩
  case round =>
    obtain ⟨i, cl, q, hi, rfl, hT⟩ := hrel
    have HT := hide hT
    clear hT
    by_cases hlt : i < N
    · have hlti : (i : Int) < (N : Int) := by omega
      have E0 : Hid (X = andThen (tkn 3) (fun x => told (N - (i + 1)) (i + 1) (cl.set (order.getD i 0) (x : Int))) (leNum bs) (8 * bs.length) q) := by
        show X = _
        rw [HT.out.eq, show N - i = (N - (i + 1)) + 1 by omega]
        rfl
      obtain ⟨j, hj⟩ : ∃ j, j = order.getD i 0 := ⟨_, rfl⟩
      have hj19 : j < 19 := by rw [hj]; exact order_lt i
      rw [← hj] at E0
      have q0 := HT.out.mi.ptr
      have hi19 : (i : Int) < 19 := by omega
      have qg : wr.cell? ⟨0, i, none⟩ = some (.int .i64 (j : Int)) := by
        have := (HG.out.keep HT.out.fr (by omega)) i (by omega)
        rw [hj]; exact this
      have Hp : Hid (∀ w', Fr (fun k => k = B) wr w' → w'.cell? ⟨0, i, none⟩ = some (.int .i64 (j : Int)) ∧ w'.cell? ⟨M, 0, none⟩ = some (.pointer (some ⟨B, 0, none⟩))) := by
        intro w' hF
        rw [cell_blk (a := ⟨M, 0, none⟩) (hF.block M (cell_lt q0) HT.out.mi.ne), cell_blk (a := ⟨0, i, none⟩) (hF.block 0 (cell_lt qg) (by omega))]
        exact ⟨qg, q0⟩
      have hji : (j : Int) < 19 := by omega
      clear hj
      go_wp2_with fail
      refine wp_region_held_drew (S := fun w' => w'.cell? ⟨0, i, none⟩ = some (.int .i64 (j : Int)) ∧ w'.cell? ⟨M, 0, none⟩ = some (.pointer (some ⟨B, 0, none⟩))) (by kernel_rfl) (by exact Hp.out _ (Fr.none _)) (fun hHeld => ?_)
      refine wpAnyH_take (i := 0) (v := ?v0) rfl (by kernel_rfl) (by kernel_rfl) (by kernel_rfl) (fun _ _ _ h => h) (Or.inl ⟨by rfl, ?hy0⟩) hHeld ?rest0
      case hy0 => (intro W hSw; (try dsimp only at hSw); obtain ⟨s1, s2⟩ := hSw; go_simp; all_goals (with_reducible rfl))
      change wpAnyH _ _ _ _ _ _ _ (Act.put _ (some 11) _) _
      simp only [Act.put, List.setIfInBounds_toArray, List.set_cons_zero, List.set_cons_succ]
      refine wpAnyH_take (i := 3) (v := ?v3) rfl (by kernel_rfl) (by kernel_rfl) (by kernel_rfl) (fun _ _ _ h => h) (Or.inl ⟨by rfl, ?hy3⟩) hHeld ?rest3
      case hy3 => (intro W hSw; (try dsimp only at hSw); obtain ⟨s1, s2⟩ := hSw; go_simp; all_goals (with_reducible rfl))
      change wpAnyH _ _ _ _ _ _ _ (Act.put _ (some 14) _) _
      simp only [Act.put, List.setIfInBounds_toArray, List.set_cons_zero, List.set_cons_succ]
      refine wpAnyH_take (i := 1) (v := ?v1) rfl (by kernel_rfl) (by kernel_rfl) (by kernel_rfl) (fun _ _ _ h => h) (Or.inl ⟨by rfl, ?hy1⟩) hHeld ?rest1
      case hy1 => (intro W hSw; (try dsimp only at hSw); obtain ⟨s1, s2⟩ := hSw; go_simp; all_goals (with_reducible rfl))
      change wpAnyH _ _ _ _ _ _ _ (Act.put _ (some 12) _) _
      simp only [Act.put, List.setIfInBounds_toArray, List.set_cons_zero, List.set_cons_succ]
      refine wpAnyH_take (i := 4) (v := ?v4) rfl (by kernel_rfl) (by kernel_rfl) (by kernel_rfl) (fun _ _ _ h => h) (Or.inl ⟨by rfl, ?hy4⟩) hHeld ?rest4
      case hy4 => (intro W hSw; (try dsimp only at hSw); obtain ⟨s1, s2⟩ := hSw; go_simp; all_goals (with_reducible rfl))
      change wpAnyH _ _ _ _ _ _ _ (Act.put _ (some 15) _) _
      simp only [Act.put, List.setIfInBounds_toArray, List.set_cons_zero, List.set_cons_succ]
      refine wpAnyH_take (i := 2) (v := ?v2) rfl (by kernel_rfl) (by kernel_rfl) (by kernel_rfl) (fun _ _ _ h => h) (Or.inl ⟨by rfl, ?hy2⟩) hHeld ?rest2
      case hy2 => (intro W hSw; (try dsimp only at hSw); obtain ⟨s1, s2⟩ := hSw; go_simp; all_goals (with_reducible rfl))
      change wpAnyH _ _ _ _ _ _ _ (Act.put _ (some 13) _) _
      simp only [Act.put, List.setIfInBounds_toArray, List.set_cons_zero, List.set_cons_succ]
      refine wpAnyH_take (i := 5) (v := ?v5) rfl (by kernel_rfl) (by kernel_rfl) (by kernel_rfl) (fun _ _ _ h => h) (Or.inl ⟨by rfl, ?hy5⟩) hHeld ?rest5
      case hy5 => (intro W hSw; (try dsimp only at hSw); obtain ⟨s1, s2⟩ := hSw; go_simp; all_goals (with_reducible rfl))
      change wpAnyH _ _ _ _ _ _ _ (Act.put _ (some 16) _) _
      simp only [Act.put, List.setIfInBounds_toArray, List.set_cons_zero, List.set_cons_succ]
      refine wpAnyH_take (i := 6) (v := ?v6) rfl (by kernel_rfl) (by kernel_rfl) (by kernel_rfl) (fun _ _ _ h => h) (Or.inl ⟨by rfl, ?hy6⟩) hHeld ?rest6
      case hy6 => (intro W hSw; (try dsimp only at hSw); obtain ⟨s1, s2⟩ := hSw; go_simp; all_goals (with_reducible rfl))
      change wpAnyH _ _ _ _ _ _ _ (Act.put _ (some 17) _) _
      simp only [Act.put, List.setIfInBounds_toArray, List.set_cons_zero, List.set_cons_succ]
      refine wpAnyH_ready (rs := [7]) (by kernel_rfl) (by simp) ?_
      refine AllReadyH.cons rfl (fun K hK => ?_) AllReadyH.nil
      try simp only [List.getElem_toArray, List.getElem_cons_succ, List.getElem_cons_zero]
      go_simp
      refine calls_args (low_reads _ lo R B bs q 3 (HT.out.mi.call ⟨_, rfl⟩).rd (by omega) _ ⟨?ok1, ?no1⟩) rfl
      case no1 => (intro er w1 hx hF; exact ⟨rfl, Hno.out er w1 (E0.out.trans (then_err hx)) (HT.out.fr.join ((Fr.none _).join hF))⟩)
      intro x q2 w1 hx hR hF
      have hxb : x < 8 := tkn_lt hx
      have HFB := hide ((Fr.none (S := fun k => k = B) _).join hF)
      have E1 := hide (E0.out.trans (then_ok hx))
      have HM1 := hide (HT.out.mi.next hR HFB.out)
      have hob : w1.heap[G]? = some (.cells (cellsZ cl).toArray 156 (0, 0)) := by rw [HFB.out.block G (lt_of HT.out.obj) (by omega)]; exact HT.out.obj
      have cG : w1.cell? ⟨G, j, none⟩ = some (.int .i64 (at0 cl j)) := cell_of hob (by have := HT.out.len; simp [cellsZ, at0, List.getElem?_eq_getElem (show j < cl.length by omega)])
      have zG := frozen_of (o := j) hob
      have Hob := hide hob
      clear hx hR hF hob
      refine hK.out _ _ (Hp.out _ HFB.out) (fun hHeld => ?_)
      clear hK K
      refine wpAnyH_take (i := 8) (v := ?v8) rfl (by kernel_rfl) (by kernel_rfl) (by kernel_rfl) (fun _ _ _ h => h) (Or.inl ⟨by rfl, ?hy8⟩) hHeld ?rest8
      case hy8 => (intro W hSw; (try dsimp only at hSw); obtain ⟨s1, s2⟩ := hSw; go_simp; all_goals (with_reducible rfl))
      change wpAnyH _ _ _ _ _ _ _ (Act.put _ (some 19) _) _
      simp only [Act.put, List.setIfInBounds_toArray, List.set_cons_zero, List.set_cons_succ]
      refine wpAnyH_ready (rs := [9]) (by kernel_rfl) (by simp) ?_
      refine AllReadyH.cons rfl (fun K hK => ?_) AllReadyH.nil
      try simp only [List.getElem_toArray, List.getElem_cons_succ, List.getElem_cons_zero]
      go_simp
      refine hK.out _ _ ⟨(World.cell?_setCell_far _ _ _ _ (by show G ≠ 0; omega)).trans hHeld.1, (World.cell?_setCell_far _ _ _ _ (by show G ≠ M; omega)).trans hHeld.2⟩ (fun hHeld => ?_)
      clear hK K
      refine wpAnyH_done (by kernel_rfl) ?_ _
      go_wp2
      go_roundw
      case rel =>
        have hl := HT.out.len
        refine ⟨i + 1, cl.set j (x : Int), q2, by omega, by go_num, ⟨⟨HM1.out.rd.keep (fr_set w1 G j _) (fun k _ h2 e => ?_), HM1.out.hM, ?_⟩, ((HT.out.fr.join HFB.out).trans (fr_set w1 G j _)).mono (fun k hk e => ?_), ?_, by simp [hl], E1.out, fine_set HT.out.good (by omega)⟩⟩
        · have := HM1.out.rd.esz; have := HM1.out.hM; omega
        · exact hHeld.2
        · have := HGs.out
          rcases e with e | e
          · exact e
          · omega
        · rw [heap_set _ Hob.out]
          simp [cellsZ, List.map_set]
      case measure => simp [intOf]; omega
    · have hlti : ¬ (i : Int) < (N : Int) := by omega
      have hie : i = N := by omega
      subst hie
      have E0 : Hid (X = .ok (cl, q)) := by
        show X = _
        rw [HT.out.eq, Nat.sub_self]
        rfl
      have hl := HT.out.len
      have hL : LiesI wr (some ⟨G, 0, none⟩) cl := fun j hj => ⟨_, rfl, by
        rw [add_none, Nat.zero_add]
        exact cell_of HT.out.obj (by simp [cellsZ, at0, List.getElem?_eq_getElem hj])⟩
      have HL := hide hL
      have hgood : good cl := ⟨by omega, HT.out.good⟩
      have Hgood := hide hgood
      have Hl : Hid (cl.length = 19) := hl
      clear hL hl hgood
      go_wp2_with fail
      refine calls_args (mustBe_c (some ⟨G, 0, none⟩) 19 cl wr HL.out Hgood.out _ ?yes ?nope) (by rw [Hl.out])
      case nope => (intro hn w2 hF; exact ⟨rfl, Hbad.out cl q w2 E0.out hn (HT.out.fr.join (hF.mono fun _ _ h => h.elim))⟩)
      intro hok C w2 hC hF
      have HC := hide hC
      have HF := hide hF
      clear hC hF
      go_wp2
      exact Hok.out cl q _ C wr.heap.size E0.out Hl.out hok HT.out.fr.size HC.out (HT.out.mi.rd.keep HF.out (fun _ _ _ h => h)) (HT.out.fr.join (HF.out.mono fun _ _ h => h.elim))
end Go.Proofs.YtdpmpllbdoefdaaGreatDoor
namespace Go.Proofs.YtdpmpllbdoefdaaGreatDoor
open Go.RowKit
theorem len_drop {l : List Int} {n m : Nat} (h : l.length = n + m) : (l.drop n).length = m := by simp; omega
structure Own7 (w5 wx : World) (O C1 C2 lo1 hi1 lo2 hi2 : Nat) (ll dl : List Int) : Prop where
  obj : wx.heap[O]? = some (.cells #[.pointer (some ⟨C1, 0, none⟩), .pointer (some ⟨C2, 0, none⟩)] 76 (0, 0))
  fr : Fr (fun _ => False) w5 wx
  hO : w5.heap.size ≤ O
  c1 : Cd wx lo1 hi1 C1 ll
  c2 : Cd wx lo2 hi2 C2 dl
  k1 : codeOk ll
  k2 : codeOk dl
  l1 : w5.heap.size ≤ lo1
  l2 : w5.heap.size ≤ lo2
theorem set_own {w5 W : World} {O C1 C2 lo1 hi1 lo2 hi2 : Nat} {ll dl : List Int} (hN : W.heap[O]? = some (.cells #[.pointer none, .pointer none] 76 (0, 0))) (hF : Fr (fun _ => False) w5 W) (hO : w5.heap.size ≤ O)
    (c1 : Cd W lo1 hi1 C1 ll) (c2 : Cd W lo2 hi2 C2 dl) (a1 : O < lo1 ∨ hi1 ≤ O) (a2 : O < lo2 ∨ hi2 ≤ O) (l1 : w5.heap.size ≤ lo1) (l2 : w5.heap.size ≤ lo2) (k1 : codeOk ll) (k2 : codeOk dl) :
    Own7 w5 (W.setRow O #[.pointer (some ⟨C1, 0, none⟩), .pointer (some ⟨C2, 0, none⟩)]) O C1 C2 lo1 hi1 lo2 hi2 ll dl := by
  have fr : Fr (fun k => k = O) W (W.setRow O #[.pointer (some ⟨C1, 0, none⟩), .pointer (some ⟨C2, 0, none⟩)]) := ⟨rfl, rfl, rfl, by simp, fun j _ hj => setRow_other _ _ _ _ hj⟩
  refine ⟨setRow_heap _ _ _ _ _ _ hN, (hF.trans fr).mono fun k hk h => ?_, hO, c1.keep fr (fun k h1 h2 e => by omega), c2.keep fr (fun k h1 h2 e => by omega), k1, k2, l1, l2⟩
  rcases h with h | h
  · exact h
  · omega
set_option maxHeartbeats 3200000 in
set_option maxRecDepth 100000 in
theorem own_c (w : World) (lo R M B : Nat) (bs : List Nat) (p : Nat) (h : Mi w lo R M B bs p) (hg : Gi w) (hlo : 0 < lo) (Q : Ending → World → Prop)
    (hok : ∀ ll dl q w' C1 C2 lo1 hi1 lo2 hi2, own (leNum bs) (8 * bs.length) p = .ok ((ll, dl), q) → w.heap.size ≤ lo1 → w.heap.size ≤ lo2 → Cd w' lo1 hi1 C1 ll → Cd w' lo2 hi2 C2 dl → Rm w' lo R B bs q → Fr (fun k => k = B) w w' → Q (.returned (.agg #[.pointer (some ⟨C1, 0, none⟩), .pointer (some ⟨C2, 0, none⟩)])) w')
    (hno : ∀ (er : Nat) w', own (leNum bs) (8 * bs.length) p = .error er → Fr (fun k => k = B) w w' → Q (errPanic er) w') :
    Calls Tryz.prog 72 #[.pointer (some ⟨M, 0, none⟩)] w Q := by
  have hBw : B < w.heap.size := by have := h.rd.ehi; have := h.rd.esz; omega
  have hMw : M < w.heap.size := cell_lt h.ptr
  have hB0 : 0 < B := by have := h.rd.elo; omega
  have E : Hid (own (leNum bs) (8 * bs.length) p = andThen (tkn 5) (fun a => andThen (tkn 5) fun b => andThen (tkn 4) fun c => ownB a b c) (leNum bs) (8 * bs.length) p) := rfl
  have fr0 := Fr.of_alloc w (.cells #[.pointer none, .pointer none] 76)
  have H0 : Hid (Mi (w.alloc (.cells #[.pointer none, .pointer none] 76)) lo R M B bs p) := ⟨h.rd.keep fr0 (fun _ _ _ h => h), h.hM, by rw [cell_blk (fr0.block M hMw (fun h => h))]; exact h.ptr⟩
  have HG0 : Hid (Gi (w.alloc (.cells #[.pointer none, .pointer none] 76))) := hg.keep fr0 (fun h => h)
  obtain ⟨A, hA⟩ : ∃ A, A = w.heap.size := ⟨_, rfl⟩
  have HA0 : Hid ((w.alloc (.cells #[.pointer none, .pointer none] 76)).heap[A]? = some (.cells #[.pointer none, .pointer none] 76 (0, 0))) := heap_alloc_at hA
  have HF0 : Hid (Fr (fun k => k = B) w (w.alloc (.cells #[.pointer none, .pointer none] 76))) := fr0.mono (fun _ _ h => h.elim)
  have HAs := hide hA
  have HGw := hide hg
  have Hok := hide hok
  have Hno := hide hno
  have q0 := H0.out.ptr
  clear h hg hok hno fr0
  go_enter Tryz.func72, Tryz.ntmps72
  go_wp2_with fail
  rw [← hA]
  clear hA
  generalize w.alloc (.cells #[.pointer none, .pointer none] 76) = w0 at *
  refine calls_args (low_reads _ lo R B bs p 5 H0.out.rd (by omega) _ ⟨?ok1, ?no1⟩) rfl
  case no1 => (intro er w1 hx hF; exact ⟨rfl, Hno.out er w1 (E.out.trans (then_err hx)) (HF0.out.join hF)⟩)
  intro a p1 w1 hx hR hF
  have hab : a < 32 := tkn_lt hx
  have E1 := hide (E.out.trans (then_ok hx))
  have H1 := hide (H0.out.next hR hF)
  have HF1 := hide hF
  have q1 := H1.out.ptr
  clear hx hR hF q0
  go_wp2_with fail
  refine calls_args (low_reads _ lo R B bs p1 5 H1.out.rd (by omega) _ ⟨?ok2, ?no2⟩) rfl
  case no2 => (intro er w2 hx hF; exact ⟨rfl, Hno.out er w2 (E1.out.trans (then_err hx)) (HF0.out.join (HF1.out.join hF))⟩)
  intro b p2 w2 hx hR hF
  have hbb : b < 32 := tkn_lt hx
  have E2 := hide (E1.out.trans (then_ok hx))
  have H2 := hide (H1.out.next hR hF)
  have HF2 := hide (HF1.out.join hF)
  have q2 := H2.out.ptr
  clear hx hR hF q1
  go_wp2_with fail
  refine calls_args (low_reads _ lo R B bs p2 4 H2.out.rd (by omega) _ ⟨?ok3, ?no3⟩) rfl
  case no3 => (intro er w3 hx hF; exact ⟨rfl, Hno.out er w3 (E2.out.trans (then_err hx)) (HF0.out.join (HF2.out.join hF))⟩)
  intro c p3 w3 hx hR hF
  have hcb : c < 16 := tkn_lt hx
  have E3 := hide (E2.out.trans (then_ok hx))
  have H3 := hide (H2.out.next hR hF)
  have HF3 := hide (HF2.out.join hF)
  clear hx hR hF q2
  obtain ⟨n1, hn1⟩ : ∃ n1, n1 = 257 + a := ⟨_, rfl⟩
  obtain ⟨n2, hn2⟩ : ∃ n2, n2 = 1 + b := ⟨_, rfl⟩
  obtain ⟨N, hN⟩ : ∃ N, N = 4 + c := ⟨_, rfl⟩
  have e1 : (257 : Int) + (a : Int) = (n1 : Int) := by omega
  have e2 : (1 : Int) + (b : Int) = (n2 : Int) := by omega
  have e3 : (4 : Int) + (c : Int) = (N : Int) := by omega
  have E4 := E3.out
  unfold ownB at E4
  rw [← hn1, ← hn2, ← hN] at E4
  by_cases hbad : 286 < n1 ∨ 30 < n2
  · rw [if_pos hbad] at E4
    have HE4 := hide E4
    clear E4 hn1 hn2 hN
    have hb1 : (decide ((286 : Int) < n1) || decide ((30 : Int) < n2)) = true := by
      rcases hbad with h | h
      · simp; omega
      · simp; omega
    rcases (show 286 < n1 ∨ (n1 ≤ 286 ∧ 30 < n2) by omega) with hc | ⟨hc1, hc2⟩
    · have k1 : (286 : Int) < n1 := by omega
      go_wp2
      exact ⟨rfl, Hno.out 4 _ HE4.out (HF0.out.join HF3.out)⟩
    · have k1 : ¬ (286 : Int) < n1 := by omega
      have k2 : (30 : Int) < n2 := by omega
      go_wp2
      exact ⟨rfl, Hno.out 4 _ HE4.out (HF0.out.join HF3.out)⟩
  · rw [if_neg hbad] at E4
    have HE4 := hide E4
    have k1 : ¬ (286 : Int) < n1 := by omega
    have k2 : ¬ (30 : Int) < n2 := by omega
    have hn1b : 257 ≤ n1 ∧ n1 ≤ 286 := by omega
    have hn2b : 1 ≤ n2 ∧ n2 ≤ 30 := by omega
    have hNb : N ≤ 19 := by omega
    clear E4 hn1 hn2 hN hbad
    go_wp2_with fail
    refine calls_args (codeOf_c w3 lo R M B bs p3 H3.out (HGw.out.keep (HF0.out.join HF3.out) (by omega)) hlo N hNb _ ?cok ?cbad ?cno) rfl
    case cno => (intro er w4 hx hF; exact ⟨rfl, Hno.out er w4 (HE4.out.trans (then_err hx)) (HF0.out.join (HF3.out.join hF))⟩)
    case cbad => (intro cl q w4 hx hn hF; exact ⟨rfl, Hno.out 4 w4 (HE4.out.trans ((then_ok hx).trans (by rw [if_neg hn]; rfl))) (HF0.out.join (HF3.out.join hF))⟩)
    intro cl p4 w4 C clo hx h19 hcok hclo hC hR hF
    have E5 := HE4.out.trans (then_ok hx)
    rw [if_pos hcok] at E5
    have HE5 := hide E5
    have H4 := hide (H3.out.next hR hF)
    have HF4 := hide (HF3.out.join hF)
    have HC4 := hide hC
    have HRc : Hid (R ≤ clo) := by
      have := H3.out.hM; have := cell_lt H3.out.ptr
      show R ≤ clo
      simp only at this
      omega
    clear E5 hx hR hF hC hcok hclo
    go_wp2_with fail
    refine calls_args (codeLengths_c w4 lo R M B bs p4 H4.out C clo _ cl HC4.out HRc.out h19 (n1 + n2) (by omega) _ ?lok ?lno) (by simp)
    case lno => (intro er w5 hx hF; exact ⟨rfl, Hno.out er w5 (HE5.out.trans (then_err hx)) (HF0.out.join (HF4.out.join hF))⟩)
    intro l p5 w5 la lc hx hll hfine hown hR hF
    have E6 := hide (HE5.out.trans (then_ok hx))
    have H5 := hide (H4.out.next hR hF)
    have HF5 := hide (HF4.out.join hF)
    have HL5 := hide (own_lies hown)
    have Hfine := hide hfine
    have Hll := hide hll
    obtain ⟨g, rfl, hcap⟩ : ∃ g, la = some ⟨g, 0, none⟩ ∧ n1 + n2 ≤ lc := by
      rcases hown.2 with ⟨h1, h2⟩ | ⟨g, cap, cur, h1, h2, h3, h4, h5⟩
      · omega
      · cases h1; exact ⟨g, rfl, h4⟩
    obtain ⟨nn, hnn⟩ : ∃ nn, nn = n1 + n2 := ⟨_, rfl⟩
    rw [← hnn]
    have k3 : (n1 : Int) ≤ (nn : Int) := by omega
    have k4 : (n1 : Int) ≤ (lc : Int) := by omega
    have k5 : nn ≤ lc := by omega
    have k6 : ¬ lc = n1 := by omega
    have k7 : nn - n1 = n2 := by omega
    have k8 : (nn : Int) ≤ (lc : Int) := by omega
    have Hnn := hide hnn
    clear hx hR hF hown hll hfine hcap hnn
    have HFw5 := hide (HF0.out.join HF5.out)
    go_upto_region 7 with fail
    go_cut [7] from 41 to 55 (fun ov wx => ∃ O C1 C2 lo1 hi1 lo2 hi2, ov = .pointer (some ⟨O, 0, none⟩) ∧ Own7 w5 wx O C1 C2 lo1 hi1 lo2 hi2 (l.take n1) (l.drop n1))
    case first =>
      go_wp2_with fail
      refine wp_region_held_drew (S := fun _ => True) (by kernel_rfl) trivial (fun hHeld => ?_)
      refine wpAnyH_take (i := 0) (v := ?v0) rfl (by kernel_rfl) (by kernel_rfl) (by kernel_rfl) (fun _ _ _ h => h) (Or.inl ⟨by rfl, ?hy0⟩) hHeld ?rest0
      case hy0 => (intro W hSw; (try dsimp only at hSw); go_simp; all_goals (with_reducible rfl))
      change wpAnyH _ _ _ _ _ _ _ (Act.put _ (some 41) _) _
      simp only [Act.put, List.setIfInBounds_toArray, List.set_cons_zero, List.set_cons_succ]
      refine wpAnyH_take (i := 1) (v := ?v1) rfl (by kernel_rfl) (by kernel_rfl) (by kernel_rfl) (fun _ _ _ h => h) (Or.inl ⟨by rfl, ?hy1⟩) hHeld ?rest1
      case hy1 => (intro W hSw; (try dsimp only at hSw); go_simp; all_goals (with_reducible rfl))
      change wpAnyH _ _ _ _ _ _ _ (Act.put _ (some 42) _) _
      simp only [Act.put, List.setIfInBounds_toArray, List.set_cons_zero, List.set_cons_succ]
      refine wpAnyH_take (i := 4) (v := ?v4) rfl (by kernel_rfl) (by kernel_rfl) (by kernel_rfl) (fun _ _ _ h => h) (Or.inl ⟨by rfl, ?hy4⟩) hHeld ?rest4
      case hy4 => (intro W hSw; (try dsimp only at hSw); go_simp; all_goals (with_reducible rfl))
      change wpAnyH _ _ _ _ _ _ _ (Act.put _ (some 45) _) _
      simp only [Act.put, List.setIfInBounds_toArray, List.set_cons_zero, List.set_cons_succ]
      refine wpAnyH_take (i := 5) (v := ?v5) rfl (by kernel_rfl) (by kernel_rfl) (by kernel_rfl) (fun _ _ _ h => h) (Or.inl ⟨by rfl, ?hy5⟩) hHeld ?rest5
      case hy5 => (intro W hSw; (try dsimp only at hSw); go_simp; all_goals (with_reducible rfl))
      change wpAnyH _ _ _ _ _ _ _ (Act.put _ (some 46) _) _
      simp only [Act.put, List.setIfInBounds_toArray, List.set_cons_zero, List.set_cons_succ]
      refine wpAnyH_take (i := 2) (v := ?v2) rfl (by kernel_rfl) (by kernel_rfl) (by kernel_rfl) (fun _ _ _ h => h) (Or.inl ⟨by rfl, ?hy2⟩) hHeld ?rest2
      case hy2 => (intro W hSw; (try dsimp only at hSw); go_simp; all_goals (with_reducible rfl))
      change wpAnyH _ _ _ _ _ _ _ (Act.put _ (some 43) _) _
      simp only [Act.put, List.setIfInBounds_toArray, List.set_cons_zero, List.set_cons_succ]
      refine wpAnyH_take (i := 6) (v := ?v6) rfl (by kernel_rfl) (by kernel_rfl) (by kernel_rfl) (fun _ _ _ h => h) (Or.inl ⟨by rfl, ?hy6⟩) hHeld ?rest6
      case hy6 => (intro W hSw; (try dsimp only at hSw); go_simp; all_goals (with_reducible rfl))
      change wpAnyH _ _ _ _ _ _ _ (Act.put _ (some 47) _) _
      simp only [Act.put, List.setIfInBounds_toArray, List.set_cons_zero, List.set_cons_succ]
      have HD : Hid (Fr (fun _ => False) w5 w5.drew) := Fr.of_drewN w5 1
      generalize w5.drew = v5 at *
      refine wpAnyH_ready (rs := [3, 9]) (by kernel_rfl) (by simp) ?_
      refine AllReadyH.cons rfl (fun K hK => ?_) (AllReadyH.cons rfl (fun K hK => ?_) AllReadyH.nil)
      · try simp only [List.getElem_toArray, List.getElem_cons_succ, List.getElem_cons_zero]
        go_simp
        refine calls_args (mustBe_c (some ⟨g, 0, none⟩) lc (l.take n1) _ (lies_take n1 (HL5.out.fr HD.out)) (good_take Hfine.out (by omega)) _ ?yesa ?nopea) (by rw [len_take (by have := Hll.out; omega)])
        case nopea => (intro hn w6 hF; exact ⟨rfl, Hno.out 4 w6 (E6.out.trans (by rw [if_neg (fun h => hn h.1)]; rfl)) (HF0.out.join (HF5.out.join ((Fl0 HD.out).join (Fl0 hF))))⟩)
        intro hok1 C1 w6 hC1 hF6
        have HC1 := hide hC1
        have HG6 := hide hF6
        have HF6 := hide (HD.out.join hF6)
        clear hC1 hF6
        refine hK.out _ _ trivial (fun hHeld => ?_)
        clear hK K
        refine wpAnyH_ready (rs := [7, 9]) (by kernel_rfl) (by simp) ?_
        refine AllReadyH.cons rfl (fun K hK => ?_) (AllReadyH.cons rfl (fun K hK => ?_) AllReadyH.nil)
        · try simp only [List.getElem_toArray, List.getElem_cons_succ, List.getElem_cons_zero]
          go_simp
          refine calls_args (mustBe_c (some ⟨g, n1, none⟩) (lc - n1) (l.drop n1) _ (lies_drop n1 (HL5.out.fr HF6.out)) (good_drop Hfine.out (by have := Hll.out; omega)) _ ?yesb ?nopeb) (by rw [len_drop (by have := Hll.out; omega)])
          case nopeb => (intro hn w7 hF; exact ⟨rfl, Hno.out 4 w7 (E6.out.trans (by rw [if_neg (fun h => hn h.2.1)]; rfl)) (HF0.out.join (HF5.out.join ((Fl0 HF6.out).join (Fl0 hF))))⟩)
          intro hok2 C2 w7 hC2 hF7
          have HC2 := hide hC2
          have HG7 := hide hF7
          have HF7 := hide (HF6.out.join hF7)
          clear hC2 hF7
          refine hK.out _ _ trivial (fun hHeld => ?_)
          clear hK K
          refine wpAnyH_take (i := 8) (v := ?v8A) rfl (by kernel_rfl) (by kernel_rfl) (by kernel_rfl) (fun _ _ _ h => h) (Or.inl ⟨by rfl, ?hy8A⟩) hHeld ?rest8A
          case hy8A => (intro W hSw; (try dsimp only at hSw); go_simp; all_goals (with_reducible rfl))
          change wpAnyH _ _ _ _ _ _ _ (Act.put _ (some 49) _) _
          simp only [Act.put, List.setIfInBounds_toArray, List.set_cons_zero, List.set_cons_succ]
          refine wpAnyH_ready (rs := [9]) (by kernel_rfl) (by simp) ?_
          refine AllReadyH.cons rfl (fun K hK => ?_) AllReadyH.nil
          try simp only [List.getElem_toArray, List.getElem_cons_succ, List.getElem_cons_zero]
          go_simp
          refine hK.out _ _ trivial (fun hHeld => ?_)
          clear hK K
          obtain ⟨O, hO⟩ : ∃ O, O = w7.heap.size := ⟨_, rfl⟩
          have HN1 : Hid ((w7.alloc (.cells #[.pointer none, .pointer none] 76)).heap[O]? = some (.cells #[.pointer none, .pointer none] 76 (0, 0))) := heap_alloc_at hO
          have HG8 : Hid (Fr (fun _ => False) w7 (w7.alloc (.cells #[.pointer none, .pointer none] 76))) := Fr.of_alloc _ _
          have HF8 : Hid (Fr (fun _ => False) w5 (w7.alloc (.cells #[.pointer none, .pointer none] 76))) := HF7.out.join (Fr.of_alloc _ _)
          have HOw : Hid (w5.heap.size ≤ O) := by have := HF7.out.size; show w5.heap.size ≤ O; rw [hO]; exact this
          have HOe : Hid (O = w7.heap.size) := hO
          try rw [← hO]
          clear hO
          generalize w7.alloc (.cells #[.pointer none, .pointer none] 76) = w8 at *
          refine wpAnyH_ready (rs := [10]) (by kernel_rfl) (by simp) ?_
          refine AllReadyH.cons rfl (fun K hK => ?_) AllReadyH.nil
          try simp only [List.getElem_toArray, List.getElem_cons_succ, List.getElem_cons_zero]
          rw [if_pos (by rfl)]
          refine wp_store_row 76 (.tmp 7) (.tmp 49) rfl O 76 _ _ rfl rfl HN1.out (by kernel_rfl) rfl (by simp [Value.oneCell']) ?_
          refine hK.out _ _ trivial (fun hHeld => ?_)
          clear hK K
          refine wpAnyH_done (by kernel_rfl) ?_ _
          go_wp2
          go_meet
          have s1 := HFw5.out.size
          have s2 := HD.out.size
          have s3 := HF6.out.size
          have s4 := HF7.out.size
          have s5 := HF8.out.size
          have s6 := HG6.out.size
          have s7 := HG7.out.size
          have s8 := HOe.out
          have s9 := lt_of HN1.out
          exact ⟨O, C1, C2, _, _, _, _, rfl, set_own HN1.out HF8.out HOw.out (HC1.out.keep (HG7.out.join HG8.out) (fun _ _ _ h => h)) (HC2.out.keep HG8.out (fun _ _ _ h => h)) (Or.inr (by omega)) (Or.inr (by omega)) (by omega) (by omega) hok1 hok2⟩
        · try simp only [List.getElem_toArray, List.getElem_cons_succ, List.getElem_cons_zero]
          go_simp
          refine hK.out _ _ trivial (fun hHeld => ?_)
          clear hK K
          obtain ⟨O, hO⟩ : ∃ O, O = w6.heap.size := ⟨_, rfl⟩
          have HN1 : Hid ((w6.alloc (.cells #[.pointer none, .pointer none] 76)).heap[O]? = some (.cells #[.pointer none, .pointer none] 76 (0, 0))) := heap_alloc_at hO
          have HG8 : Hid (Fr (fun _ => False) w6 (w6.alloc (.cells #[.pointer none, .pointer none] 76))) := Fr.of_alloc _ _
          have HF8 : Hid (Fr (fun _ => False) w5 (w6.alloc (.cells #[.pointer none, .pointer none] 76))) := HF6.out.join (Fr.of_alloc _ _)
          have HOw : Hid (w5.heap.size ≤ O) := by have := HF6.out.size; show w5.heap.size ≤ O; rw [hO]; exact this
          have HOe : Hid (O = w6.heap.size) := hO
          try rw [← hO]
          clear hO
          generalize w6.alloc (.cells #[.pointer none, .pointer none] 76) = w8 at *
          refine wpAnyH_ready (rs := [7]) (by kernel_rfl) (by simp) ?_
          refine AllReadyH.cons rfl (fun K hK => ?_) AllReadyH.nil
          try simp only [List.getElem_toArray, List.getElem_cons_succ, List.getElem_cons_zero]
          go_simp
          refine calls_args (mustBe_c (some ⟨g, n1, none⟩) (lc - n1) (l.drop n1) _ (lies_drop n1 (HL5.out.fr HF8.out)) (good_drop Hfine.out (by have := Hll.out; omega)) _ ?yesc ?nopec) (by rw [len_drop (by have := Hll.out; omega)])
          case nopec => (intro hn w7 hF; exact ⟨rfl, Hno.out 4 w7 (E6.out.trans (by rw [if_neg (fun h => hn h.2.1)]; rfl)) (HF0.out.join (HF5.out.join ((Fl0 HF8.out).join (Fl0 hF))))⟩)
          intro hok2 C2 w7 hC2 hF7
          have HC2 := hide hC2
          have HG7 := hide hF7
          have HF7 := hide (HF8.out.join hF7)
          clear hC2 hF7
          refine hK.out _ _ trivial (fun hHeld => ?_)
          clear hK K
          refine wpAnyH_take (i := 8) (v := ?v8B) rfl (by kernel_rfl) (by kernel_rfl) (by kernel_rfl) (fun _ _ _ h => h) (Or.inl ⟨by rfl, ?hy8B⟩) hHeld ?rest8B
          case hy8B => (intro W hSw; (try dsimp only at hSw); go_simp; all_goals (with_reducible rfl))
          change wpAnyH _ _ _ _ _ _ _ (Act.put _ (some 49) _) _
          simp only [Act.put, List.setIfInBounds_toArray, List.set_cons_zero, List.set_cons_succ]
          refine wpAnyH_ready (rs := [10]) (by kernel_rfl) (by simp) ?_
          refine AllReadyH.cons rfl (fun K hK => ?_) AllReadyH.nil
          try simp only [List.getElem_toArray, List.getElem_cons_succ, List.getElem_cons_zero]
          rw [if_pos (by rfl)]
          refine wp_store_row 76 (.tmp 7) (.tmp 49) rfl O 76 _ _ rfl rfl ((HG7.out.block O (lt_of HN1.out) (fun h => h)).trans HN1.out) (by kernel_rfl) rfl (by simp [Value.oneCell']) ?_
          refine hK.out _ _ trivial (fun hHeld => ?_)
          clear hK K
          refine wpAnyH_done (by kernel_rfl) ?_ _
          go_wp2
          go_meet
          have s1 := HFw5.out.size
          have s2 := HD.out.size
          have s3 := HF6.out.size
          have s4 := HF7.out.size
          have s5 := HF8.out.size
          have s6 := HG6.out.size
          have s7 := HG7.out.size
          have s8 := HOe.out
          have s9 := lt_of HN1.out
          exact ⟨O, C1, C2, _, _, _, _, rfl, set_own ((HG7.out.block O (lt_of HN1.out) (fun h => h)).trans HN1.out) HF7.out HOw.out (HC1.out.keep (HG8.out.join HG7.out) (fun _ _ _ h => h)) HC2.out (Or.inr (by omega)) (Or.inl (by omega)) (by omega) (by omega) hok1 hok2⟩
      · try simp only [List.getElem_toArray, List.getElem_cons_succ, List.getElem_cons_zero]
        go_simp
        refine hK.out _ _ trivial (fun hHeld => ?_)
        clear hK K
        obtain ⟨O, hO⟩ : ∃ O, O = v5.heap.size := ⟨_, rfl⟩
        have HN1 : Hid ((v5.alloc (.cells #[.pointer none, .pointer none] 76)).heap[O]? = some (.cells #[.pointer none, .pointer none] 76 (0, 0))) := heap_alloc_at hO
        have HG8 : Hid (Fr (fun _ => False) v5 (v5.alloc (.cells #[.pointer none, .pointer none] 76))) := Fr.of_alloc _ _
        have HF8 : Hid (Fr (fun _ => False) w5 (v5.alloc (.cells #[.pointer none, .pointer none] 76))) := HD.out.join (Fr.of_alloc _ _)
        have HOw : Hid (w5.heap.size ≤ O) := by have := HD.out.size; show w5.heap.size ≤ O; rw [hO]; exact this
        have HOe : Hid (O = v5.heap.size) := hO
        try rw [← hO]
        clear hO
        generalize v5.alloc (.cells #[.pointer none, .pointer none] 76) = w8 at *
        refine wpAnyH_ready (rs := [3]) (by kernel_rfl) (by simp) ?_
        refine AllReadyH.cons rfl (fun K hK => ?_) AllReadyH.nil
        try simp only [List.getElem_toArray, List.getElem_cons_succ, List.getElem_cons_zero]
        go_simp
        refine calls_args (mustBe_c (some ⟨g, 0, none⟩) lc (l.take n1) _ (lies_take n1 (HL5.out.fr HF8.out)) (good_take Hfine.out (by omega)) _ ?yesd ?noped) (by rw [len_take (by have := Hll.out; omega)])
        case noped => (intro hn w6 hF; exact ⟨rfl, Hno.out 4 w6 (E6.out.trans (by rw [if_neg (fun h => hn h.1)]; rfl)) (HF0.out.join (HF5.out.join ((Fl0 HF8.out).join (Fl0 hF))))⟩)
        intro hok1 C1 w6 hC1 hF6
        have HC1 := hide hC1
        have HG6 := hide hF6
        have HF6 := hide (HF8.out.join hF6)
        clear hC1 hF6
        refine hK.out _ _ trivial (fun hHeld => ?_)
        clear hK K
        refine wpAnyH_ready (rs := [7]) (by kernel_rfl) (by simp) ?_
        refine AllReadyH.cons rfl (fun K hK => ?_) AllReadyH.nil
        try simp only [List.getElem_toArray, List.getElem_cons_succ, List.getElem_cons_zero]
        go_simp
        refine calls_args (mustBe_c (some ⟨g, n1, none⟩) (lc - n1) (l.drop n1) _ (lies_drop n1 (HL5.out.fr HF6.out)) (good_drop Hfine.out (by have := Hll.out; omega)) _ ?yese ?nopee) (by rw [len_drop (by have := Hll.out; omega)])
        case nopee => (intro hn w7 hF; exact ⟨rfl, Hno.out 4 w7 (E6.out.trans (by rw [if_neg (fun h => hn h.2.1)]; rfl)) (HF0.out.join (HF5.out.join ((Fl0 HF6.out).join (Fl0 hF))))⟩)
        intro hok2 C2 w7 hC2 hF7
        have HC2 := hide hC2
        have HG7 := hide hF7
        have HF7 := hide (HF6.out.join hF7)
        clear hC2 hF7
        refine hK.out _ _ trivial (fun hHeld => ?_)
        clear hK K
        refine wpAnyH_take (i := 8) (v := ?v8C) rfl (by kernel_rfl) (by kernel_rfl) (by kernel_rfl) (fun _ _ _ h => h) (Or.inl ⟨by rfl, ?hy8C⟩) hHeld ?rest8C
        case hy8C => (intro W hSw; (try dsimp only at hSw); go_simp; all_goals (with_reducible rfl))
        change wpAnyH _ _ _ _ _ _ _ (Act.put _ (some 49) _) _
        simp only [Act.put, List.setIfInBounds_toArray, List.set_cons_zero, List.set_cons_succ]
        refine wpAnyH_ready (rs := [10]) (by kernel_rfl) (by simp) ?_
        refine AllReadyH.cons rfl (fun K hK => ?_) AllReadyH.nil
        try simp only [List.getElem_toArray, List.getElem_cons_succ, List.getElem_cons_zero]
        rw [if_pos (by rfl)]
        refine wp_store_row 76 (.tmp 7) (.tmp 49) rfl O 76 _ _ rfl rfl (((HG6.out.join HG7.out).block O (lt_of HN1.out) (fun h => h)).trans HN1.out) (by kernel_rfl) rfl (by simp [Value.oneCell']) ?_
        refine hK.out _ _ trivial (fun hHeld => ?_)
        clear hK K
        refine wpAnyH_done (by kernel_rfl) ?_ _
        go_wp2
        go_meet
        have s1 := HFw5.out.size
        have s2 := HD.out.size
        have s3 := HF6.out.size
        have s4 := HF7.out.size
        have s5 := HF8.out.size
        have s6 := HG6.out.size
        have s7 := HG7.out.size
        have s8 := HOe.out
        have s9 := lt_of HN1.out
        exact ⟨O, C1, C2, _, _, _, _, rfl, set_own (((HG6.out.join HG7.out).block O (lt_of HN1.out) (fun h => h)).trans HN1.out) HF7.out HOw.out (HC1.out.keep HG7.out (fun _ _ _ h => h)) HC2.out (Or.inl (by omega)) (Or.inl (by omega)) (by omega) (by omega) hok1 hok2⟩
    case rest =>
    obtain ⟨O, C1, C2, lo1, hi1, lo2, hi2, rfl, hOwn⟩ := hcut
    have HOwn := hide hOwn
    have HF8 := hide (HF5.out.join (Fl0 hOwn.fr))
    have hA8 : wc.heap[A]? = some (.cells #[.pointer none, .pointer none] 76 (0, 0)) := by
      have := HAs.out
      rw [HF8.out.block A (lt_of HA0.out) (by omega)]
      exact HA0.out
    have cO0 : wc.cell? ⟨O, 0, none⟩ = some (.pointer (some ⟨C1, 0, none⟩)) := cell_of hOwn.obj rfl
    have cO1 : wc.cell? ⟨O, 1, none⟩ = some (.pointer (some ⟨C2, 0, none⟩)) := cell_of hOwn.obj rfl
    have cA0 : wc.cell? ⟨A, 0, none⟩ = some (.pointer none) := cell_of hA8 rfl
    have cA1 : wc.cell? ⟨A, 1, none⟩ = some (.pointer none) := cell_of hA8 rfl
    have zA0 := frozen_of (o := 0) hA8
    have zA1 := frozen_of (o := 1) hA8
    have hl256 : wc.cell? ⟨g, 256, none⟩ = some (.int .i64 (at0 l 256)) := by
      obtain ⟨ad, e, hc⟩ := (HL5.out.fr hOwn.fr) 256 (by have := Hll.out; omega)
      cases e
      rw [add_none, Nat.zero_add] at hc
      exact hc
    have hnn256 : (256 : Int) < (nn : Int) := by omega
    have HA8 := hide hA8
    clear hA8 hOwn
    by_cases hz : at0 l 256 = 0
    · rw [hz] at hl256
      have HE7 := hide (E6.out.trans (by rw [if_neg (fun h => h.2.2 hz)]; rfl : _ = Except.error 4))
      clear hz
      go_wp2
      exact ⟨rfl, Hno.out 4 _ HE7.out (HF0.out.join HF8.out)⟩
    · obtain ⟨z, hzz⟩ : ∃ z, z = at0 l 256 := ⟨_, rfl⟩
      have HE7 := hide (E6.out.trans (by rw [if_pos ⟨HOwn.out.k1, HOwn.out.k2, hz⟩]; rfl : _ = Except.ok ((l.take n1, l.drop n1), p5)))
      rw [← hzz] at hl256 hz
      have hzi : (z == 0) = false := beq_false_of_ne hz
      clear hzz
      go_wp2
      have hA1 := heap_set (o := 0) (.pointer (some ⟨C1, 0, none⟩)) HA8.out
      have hA2 := heap_set (o := 1) (.pointer (some ⟨C2, 0, none⟩)) hA1
      have d0 := cell_of (o := 0) (v := .pointer (some ⟨C1, 0, none⟩)) hA2 rfl
      have d1 := cell_of (o := 1) (v := .pointer (some ⟨C2, 0, none⟩)) hA2 rfl
      have fr : Fr (fun k => k = A) wc ((wc.setCell ⟨A, 0, none⟩ (.pointer (some ⟨C1, 0, none⟩))).setCell ⟨A, 1, none⟩ (.pointer (some ⟨C2, 0, none⟩))) := (fr_set wc A 0 _).join (fr_set _ A 1 _)
      have hAR := H5.out.rd.esz
      have hAs := HAs.out
      have hRA : R ≤ A := by have := H5.out.hM; omega
      have e1 := HOwn.out.l1
      have e2 := HOwn.out.l2
      have hAz := HF0.out.size
      refine bodyPost_ret (v := .agg #[.pointer (some ⟨C1, 0, none⟩), .pointer (some ⟨C2, 0, none⟩)]) (by simp [results, Tryz.results72, go_sem, d0, d1]) rfl ?_
      have hA5 : A < w5.heap.size := Nat.lt_of_lt_of_le (lt_of HA0.out) HF5.out.size
      have hRw : R ≤ w.heap.size := Nat.le_trans H5.out.hM (Nat.le_of_lt hMw)
      have hs5 := HFw5.out.size
      refine Hok.out _ _ p5 _ C1 C2 _ _ _ _ HE7.out (by omega) (by omega) (HOwn.out.c1.keep fr (fun k h1 h2 e => by omega)) (HOwn.out.c2.keep fr (fun k h1 h2 e => by omega)) ((H5.out.rd.keep HOwn.out.fr (fun _ _ _ h => h)).keep fr (fun k h1 h2 e => by omega)) ?_
      exact ((HF0.out.join HF8.out).trans fr).mono fun k hk h => h.elim id (fun e => by omega)
end Go.Proofs.YtdpmpllbdoefdaaGreatDoor
namespace Go.Proofs.YtdpmpllbdoefdaaGreatDoor
open Go.RowKit
end Go.Proofs.YtdpmpllbdoefdaaGreatDoor
namespace Go.Proofs.YtdpmpllbdoefdaaGreatDoor
open Go.RowKit
end Go.Proofs.YtdpmpllbdoefdaaGreatDoor
namespace Go.Proofs.YtdpmpllbdoefdaaGreatDoor
open Go.RowKit
end Go.Proofs.YtdpmpllbdoefdaaGreatDoor
namespace Go.Proofs.YtdpmpllbdoefdaaGreatDoor
open Go.RowKit
set_option maxHeartbeats 600000 in
set_option maxRecDepth 100000 in
theorem fixed_c (w : World) (lo R M B : Nat) (bs : List Nat) (p : Nat) (mst plc : Int) (lst : Bool) (lf bk : Int) (b1 b2 f1 f2 ov : Value) (out : List Nat) (h : Mo w lo R M B bs p mst plc lst lf bk b1 b2 f1 f2 ov out) (hX : FixOk w R M ov f1 f2)
    (Q : Ending → World → Prop) (hQ : ∀ c1 c2 w', Mo w' lo R M B bs p mst plc lst lf bk b1 b2 c1 c2 ov out → CodeAt w' R M ov c1 fixL → CodeAt w' R M ov c2 fixD → Fr (fun k => k = M) w w' → Q (.returned (.agg #[c1, c2])) w') :
    Calls Tryz.prog 71 #[.pointer (some ⟨M, 0, none⟩)] w Q := by
  have fr0 := Fr.of_alloc w (.cells #[.pointer none, .pointer none] 76)
  have HF0 : Hid (Fr (fun _ => False) w (w.alloc (.cells #[.pointer none, .pointer none] 76))) := fr0
  obtain ⟨A, hA⟩ : ∃ A, A = w.heap.size := ⟨_, rfl⟩
  have HA0 : Hid ((w.alloc (.cells #[.pointer none, .pointer none] 76)).heap[A]? = some (.cells #[.pointer none, .pointer none] 76 (0, 0))) := heap_alloc_at hA
  have HO := hide (h.keep fr0 (fun _ _ h => h))
  have HX := hide (hX.keep fr0 (fun _ h => h.elim))
  have HQ := hide hQ
  have HAs := hide hA
  have Hw := hide h
  have q9 : (w.alloc (.cells #[.pointer none, .pointer none] 76)).cell? ⟨M, 9, none⟩ = some f1 := cell_of HO.out.obj rfl
  have q10 : (w.alloc (.cells #[.pointer none, .pointer none] 76)).cell? ⟨M, 10, none⟩ = some f2 := cell_of HO.out.obj rfl
  have hMA : M < A := by rw [hA]; exact h.ltM
  rcases hX with rfl | ⟨⟨C1, c1lo, c1hi, rfl, x1⟩, ⟨C2, c2lo, c2hi, rfl, x2⟩⟩
  · have hO := HO.out
    have fr0' := HF0.out
    clear h fr0 hQ HX q9 q10
    go_enter Tryz.func71, Tryz.ntmps71
    have q9 : (w.alloc (.cells #[.pointer none, .pointer none] 76)).cell? ⟨M, 9, none⟩ = some (.pointer none) := cell_of HO.out.obj rfl
    clear hO fr0'
    go_wp2_with fail
    clear q9
    have hA2 := HAs.out
    have Hs0 : Hid (A + 1 = (w.alloc (.cells #[.pointer none, .pointer none] 76)).heap.size) := by show A + 1 = _; rw [size_alloc, hA2]
    try rw [← hA2]
    clear hA2 hA
    generalize w.alloc (.cells #[.pointer none, .pointer none] 76) = w0 at *
    refine (calls_args (repeat_at 8 144 w0 (A + 1) Hs0.out (by omega)) (by rfl)).mono ?_
    rintro e w1 ⟨D0, rfl, r0, _, F1⟩
    have R0 := hide r0
    have HF1 := hide F1
    clear r0 F1
    go_wp2_with fail
    refine (calls_args (repeat_at 9 112 w1 w1.heap.size rfl (by omega)) (by rfl)).mono ?_
    rintro e w2 ⟨D1, rfl, r1, _, F2⟩
    have R1 := hide r1
    have HF2 := hide F2
    clear r1 F2
    go_wp2_with fail
    refine (calls_args (repeat_at 7 24 w2 w2.heap.size rfl (by omega)) (by rfl)).mono ?_
    rintro e w3 ⟨D2, rfl, r2, _, F3⟩
    have R2 := hide r2
    have HF3 := hide F3
    clear r2 F3
    go_wp2_with fail
    refine (calls_args (repeat_at 8 8 w3 w3.heap.size rfl (by omega)) (by rfl)).mono ?_
    rintro e w4 ⟨D3, rfl, r3, _, F4⟩
    have R3 := hide r3
    have HF4 := hide F4
    clear r3 F4
    go_wp2_with fail
    refine (concat_fix w4 D0 D1 D2 D3 (R0.out.fr (HF2.out.join (HF3.out.join HF4.out))) (R1.out.fr (HF3.out.join HF4.out)) (R2.out.fr HF4.out) R3.out).mono ?_
    rintro e w5 ⟨la, lc, rfl, l5, F5⟩
    have L5 := hide l5
    have HF5 := hide (HF1.out.join (HF2.out.join (HF3.out.join (HF4.out.join F5))))
    clear l5 F5
    go_wp2_with fail
    refine mustBe_c la lc fixL w5 L5.out fixL_good _ ?yes ?nope
    case nope => (intro hn; exact absurd fixL_ok hn)
    intro _ C1 w6 hC1 F6
    have HC1 := hide hC1
    have HF6 := hide F6
    clear hC1 F6
    go_wp2_with fail
    refine (calls_args (repeat_at 5 32 w6 w6.heap.size rfl (by omega)) (by rfl)).mono ?_
    rintro e w7 ⟨D5, rfl, r5, _, F7⟩
    have R5 := hide r5
    have HF7 := hide F7
    clear r5 F7
    go_wp2_with fail
    refine calls_args (mustBe_c (some ⟨D5, 0, none⟩) 32 fixD w7 R5.out.lies fixD_good _ ?yes2 ?nope2) (by rw [fixD_len])
    case nope2 => (intro hn; exact absurd fixD_ok hn)
    intro _ C2 w8 hC2 F8
    have HC2 := hide hC2
    have HF8 := hide F8
    clear hC2 F8
    have HG := hide (HF5.out.join (HF6.out.join (HF7.out.join HF8.out)))
    have H8 := hide (HO.out.keep HG.out (fun _ _ h => h))
    have hb8 := H8.out.obj
    have q9 : w8.cell? ⟨M, 9, none⟩ = some (.pointer none) := cell_of hb8 rfl
    have q10 : w8.cell? ⟨M, 10, none⟩ = some f2 := cell_of hb8 rfl
    have z9 := frozen_of (o := 9) hb8
    have z10 := frozen_of (o := 10) hb8
    have hA8 : w8.heap[A]? = some (.cells #[.pointer none, .pointer none] 76 (0, 0)) := (HG.out.block A (lt_of HA0.out) (fun h => h)).trans HA0.out
    have cA0 : w8.cell? ⟨A, 0, none⟩ = some (.pointer none) := cell_of hA8 rfl
    have cA1 : w8.cell? ⟨A, 1, none⟩ = some (.pointer none) := cell_of hA8 rfl
    have zA0 := frozen_of (o := 0) hA8
    have zA1 := frozen_of (o := 1) hA8
    have hAM : ¬ A = M := by omega
    have hMA2 : ¬ M = A := by omega
    have HA8 := hide hA8
    clear hb8 hA8
    go_wp2
    have f9 : Fr (fun k => k = M) w8 ((w8.setCell ⟨M, 9, none⟩ (.pointer (some ⟨C1, 0, none⟩))).setCell ⟨M, 10, none⟩ (.pointer (some ⟨C2, 0, none⟩))) := (fr_set w8 M 9 _).join (fr_set _ M 10 _)
    have H9 := H8.out.turn (f1' := .pointer (some ⟨C1, 0, none⟩)) (f2' := .pointer (some ⟨C2, 0, none⟩)) f9 (heap_set (o := 10) _ (heap_set (o := 9) _ H8.out.obj))
    have hA9 : ((w8.setCell ⟨M, 9, none⟩ (.pointer (some ⟨C1, 0, none⟩))).setCell ⟨M, 10, none⟩ (.pointer (some ⟨C2, 0, none⟩))).heap[A]? = some (.cells #[.pointer none, .pointer none] 76 (0, 0)) := (f9.block A (lt_of HA8.out) (by omega)).trans HA8.out
    clear q9 q10 z9 z10 cA0 cA1 zA0 zA1
    generalize (w8.setCell ⟨M, 9, none⟩ (.pointer (some ⟨C1, 0, none⟩))).setCell ⟨M, 10, none⟩ (.pointer (some ⟨C2, 0, none⟩)) = w9 at *
    have hA10 := heap_set (o := 1) (.pointer (some ⟨C2, 0, none⟩)) (heap_set (o := 0) (.pointer (some ⟨C1, 0, none⟩)) hA9)
    have fA : Fr (fun k => k = A) w9 ((w9.setCell ⟨A, 0, none⟩ (.pointer (some ⟨C1, 0, none⟩))).setCell ⟨A, 1, none⟩ (.pointer (some ⟨C2, 0, none⟩))) := (fr_set w9 A 0 _).join (fr_set _ A 1 _)
    have d0 := cell_of (o := 0) (v := .pointer (some ⟨C1, 0, none⟩)) hA10 rfl
    have d1 := cell_of (o := 1) (v := .pointer (some ⟨C2, 0, none⟩)) hA10 rfl
    have hA := HAs.out
    have hRM := Hw.out.hM
    have s0 := lt_of HA0.out
    have s1 := HF5.out.size
    have s6 := HF6.out.size
    have s7 := HF7.out.size
    have s8 := HF8.out.size
    refine bodyPost_ret (v := .agg #[.pointer (some ⟨C1, 0, none⟩), .pointer (some ⟨C2, 0, none⟩)]) (by simp [results, Tryz.results71, go_sem, d0, d1]) rfl ?_
    have hov : ∀ g, ov.ownBlock = some g → g < A := fun g hg => by rw [hA]; exact (Hw.out.own.lt g hg).2
    refine HQ.out _ _ _ (H9.keep fA (fun k hk e => ?_)) ⟨C1, w5.heap.size, w6.heap.size, rfl, by omega, ?_, Or.inl (by omega), fun g hg => Or.inl (by have := hov g hg; omega)⟩ ⟨C2, w7.heap.size, w8.heap.size, rfl, by omega, ?_, Or.inl (by omega), fun g hg => Or.inl (by have := hov g hg; omega)⟩ ?_
    · rcases hk with hk | hk | hk
      · omega
      · omega
      · have := hov k hk; omega
    · exact ((HC1.out.keep (HF7.out.join HF8.out) (fun _ _ _ h => h)).keep f9 (fun k h1 h2 e => by omega)).keep fA (fun k h1 h2 e => by omega)
    · exact (HC2.out.keep f9 (fun k h1 h2 e => by omega)).keep fA (fun k h1 h2 e => by omega)
    · refine (((HF0.out.join HG.out).trans f9).trans fA).mono fun k hk h => ?_
      rcases h with (h | h) | h
      · exact h.elim
      · exact h
      · omega
  · have Hx0 : Hid (CodeAt w R M ov (.pointer (some ⟨C1, 0, none⟩)) fixL ∧ CodeAt w R M ov (.pointer (some ⟨C2, 0, none⟩)) fixD) := ⟨⟨C1, c1lo, c1hi, rfl, x1⟩, ⟨C2, c2lo, c2hi, rfl, x2⟩⟩
    clear x1 x2
    have cA0 : (w.alloc (.cells #[.pointer none, .pointer none] 76)).cell? ⟨A, 0, none⟩ = some (.pointer none) := cell_of HA0.out rfl
    have cA1 : (w.alloc (.cells #[.pointer none, .pointer none] 76)).cell? ⟨A, 1, none⟩ = some (.pointer none) := cell_of HA0.out rfl
    have zA0 := frozen_of (o := 0) HA0.out
    have zA1 := frozen_of (o := 1) HA0.out
    clear h fr0 hQ
    go_enter Tryz.func71, Tryz.ntmps71
    go_wp2
    have d0 : (w.alloc (.cells #[.pointer (some ⟨C1, 0, none⟩), .pointer (some ⟨C2, 0, none⟩)] 76)).cell? ⟨w.heap.size, 0, none⟩ = some (.pointer (some ⟨C1, 0, none⟩)) := cell_of (heap_alloc_new _ _) rfl
    have d1 : (w.alloc (.cells #[.pointer (some ⟨C1, 0, none⟩), .pointer (some ⟨C2, 0, none⟩)] 76)).cell? ⟨w.heap.size, 1, none⟩ = some (.pointer (some ⟨C2, 0, none⟩)) := cell_of (heap_alloc_new _ _) rfl
    refine bodyPost_ret (v := .agg #[.pointer (some ⟨C1, 0, none⟩), .pointer (some ⟨C2, 0, none⟩)]) (by simp [results, Tryz.results71, go_sem, d0, d1]) rfl ?_
    have fr := Fr.of_alloc w (.cells #[.pointer (some ⟨C1, 0, none⟩), .pointer (some ⟨C2, 0, none⟩)] 76)
    rcases HX.out with e | ⟨k1, k2⟩
    · cases e
    · have HX2 := Hx0.out
      exact HQ.out _ _ _ (Hw.out.keep fr (fun _ _ h => h)) (HX2.1.keep fr (fun _ h => h.elim)) (HX2.2.keep fr (fun _ h => h.elim)) (Fl0 fr)
end Go.Proofs.YtdpmpllbdoefdaaGreatDoor
namespace Go.Proofs.YtdpmpllbdoefdaaGreatDoor
open Go.RowKit
theorem code_new {w w' : World} {R M C lo1 hi1 : Nat} {ov : Value} {ls : List Int} (hC : Cd w' lo1 hi1 C ls) (hl : w.heap.size ≤ lo1) (hR : R ≤ w.heap.size) (hM : M < w.heap.size) (ho : ∀ g, ov.ownBlock = some g → g < w.heap.size) : CodeAt w' R M ov (.pointer (some ⟨C, 0, none⟩)) ls :=
  ⟨C, lo1, hi1, rfl, by omega, hC, Or.inl (by omega), fun g hg => Or.inl (by have := ho g hg; omega)⟩
theorem not_low {w : World} {lo R M B : Nat} {bs : List Nat} {p : Nat} {mst plc : Int} {lst : Bool} {lf bk : Int} {b1 b2 f1 f2 ov : Value} {out : List Nat} (h : Mo w lo R M B bs p mst plc lst lf bk b1 b2 f1 f2 ov out) (hlo : 0 < lo) : ¬ Sm M B w 0 := fun e => by
  have := h.rd.elo; have := h.rd.ehi; have := h.hM
  have e0 : w.cell? ⟨M, 11, none⟩ = some ov := cell_of h.obj rfl
  rcases e with e | e | ⟨v, e1, e2⟩
  · omega
  · omega
  · rw [e0] at e1
    cases e1
    have := (h.own.lt 0 e2).1; omega
set_option maxHeartbeats 2000000 in
set_option maxRecDepth 100000 in
theorem begin_c (w : World) (lo R M B : Nat) (bs : List Nat) (most : Nat) (hg : Gi w) (hlo : 0 < lo) (p : Nat) (out : List Nat) (h : Mx w lo R M B bs most ⟨p, false, out, .ahead⟩) (u v : Value) (Q : Ending → World → Prop)
    (hQ : AdvQ lo R M B bs most ⟨p, false, out, .ahead⟩ w u (.tuple #[]) v Q) : Calls Tryz.prog 59 #[.pointer (some ⟨M, 0, none⟩)] w Q := by
  obtain ⟨lf, bk, b1, b2, f1, f2, ov, hO, _, hX, hb, ho⟩ := h
  have q0 : w.cell? ⟨M, 0, none⟩ = some (.pointer (some ⟨B, 0, none⟩)) := cell_of hO.obj rfl
  have HO := hide hO
  have HX := hide hX
  have Hb := hide hb
  have Ho : Hid (out.length ≤ most) := ho
  have HQ := hide hQ
  have HG := hide hg
  have hB0 : 0 < B := by have := hO.rd.elo; omega
  have hM0 : 0 < M := by have := hO.rd.elo; have := hO.rd.ehi; have := hO.hM; omega
  have A : Hid (∀ er, head (leNum bs) (8 * bs.length) p = .error er → adv (leNum bs) (8 * bs.length) ⟨p, false, out, .ahead⟩ = .fail er) := by
    intro er h
    simp [adv, h]
  have A2 : Hid (∀ y q, head (leNum bs) (8 * bs.length) p = .ok (y, q) → adv (leNum bs) (8 * bs.length) ⟨p, false, out, .ahead⟩ = .go ⟨q, y.1, out, y.2⟩) := by
    intro y q h
    simp [adv, h]
  have E : Hid (head (leNum bs) (8 * bs.length) p = andThen (tkn 1) (fun l => andThen (tkn 2) fun k => andThen (kindOf k) fun pl => ret (decide (l = 1), pl)) (leNum bs) (8 * bs.length) p) := rfl
  clear hO hX hb ho hQ hg
  go_enter Tryz.func59, Tryz.ntmps59
  go_wp2_with fail
  refine calls_args (low_reads _ lo R B bs p 1 HO.out.rd (by omega) _ ⟨?ok1, ?no1⟩) rfl
  case no1 => (intro er w1 hx hF; exact ⟨rfl, HQ.out.fail er w1 (A.out er (E.out.trans (then_err hx))) (HO.out.md.fr hF HO.out.mi.ne) (HO.out.frB hF)⟩)
  intro l p1 w1 hx hR hF
  have hl2 : l < 2 := tkn_lt hx
  have E1 := hide (E.out.trans (then_ok hx))
  have H1 := hide (HO.out.next hR hF)
  have HF1 := hide (HO.out.frB hF)
  have hBR := HO.out.rd.ehi
  have HX1 := hide (HX.out.keep hF (fun k e => Or.inl (by omega)))
  obtain ⟨lb, hlb⟩ : ∃ lb, lb = decide (l = 1) := ⟨_, rfl⟩
  have hlb1 : ((l : Int) == 1) = lb := by
    rw [hlb]
    rcases (by omega : l = 0 ∨ l = 1) with rfl | rfl <;> rfl
  have hlb2 : decide ((l : Int) = 1) = lb := by
    rw [hlb]
    rcases (by omega : l = 0 ∨ l = 1) with rfl | rfl <;> rfl
  have Hlb := hide hlb
  have q4 : w1.cell? ⟨M, 4, none⟩ = some (.bool false) := cell_of H1.out.obj rfl
  have z4 := frozen_of (o := 4) H1.out.obj
  have q0 : w1.cell? ⟨M, 0, none⟩ = some (.pointer (some ⟨B, 0, none⟩)) := cell_of H1.out.obj rfl
  clear hx hR hF hlb
  go_wp2_with fail
  have H2 := hide (H1.out.turn (lst' := lb) (fr_set w1 M 4 (.bool lb)) (heap_set (o := 4) _ H1.out.obj))
  have HF2 := hide (HF1.out.join (H1.out.frM (fr_set w1 M 4 (.bool lb))))
  have HX2 := hide (HX1.out.keep (fr_set w1 M 4 (.bool lb)) (fun k e => Or.inr (Or.inl e)))
  clear q4 z4 q0 HF1 HX1 H1
  generalize w1.setCell ⟨M, 4, none⟩ (.bool lb) = w2 at *
  refine calls_args (low_reads w2 lo R B bs p1 2 H2.out.rd (by omega) _ ⟨?ok2, ?no2⟩) rfl
  case no2 => (intro er w3 hx hF; exact ⟨rfl, HQ.out.fail er w3 (A.out er (E1.out.trans (then_err hx))) (H2.out.md.fr hF H2.out.mi.ne) (HF2.out.join (H2.out.frB hF))⟩)
  intro k p2 w3 hx hR hF
  have hk4 : k < 4 := tkn_lt hx
  have E2 := hide (E1.out.trans (then_ok hx))
  have H3 := hide (H2.out.next hR hF)
  have HF3 := hide (HF2.out.join (H2.out.frB hF))
  have HX3 := hide (HX2.out.keep hF (fun k e => Or.inl (by omega)))
  clear hx hR hF
  rcases (by omega : k = 0 ∨ k = 1 ∨ k = 2 ∨ k = 3) with rfl | rfl | rfl | rfl
  · have E3 : Hid (head (leNum bs) (8 * bs.length) p = andThen (andThen storedHead fun n => ret (.stored n)) (fun pl => ret (decide (l = 1), pl)) (leNum bs) (8 * bs.length) p2) := E2.out
    go_wp2_with fail
    refine calls_args (storedHead_c w3 lo R M B bs p2 H3.out.mi _ ⟨?ok3, ?no3⟩) rfl
    case no3 => (intro er w4 hx hF; exact ⟨rfl, HQ.out.fail er w4 (A.out er (E3.out.trans (then_err (then_err hx)))) (H3.out.md.fr hF H3.out.mi.ne) (HF3.out.join (H3.out.frB hF))⟩)
    intro n p3 w4 hx hR hF
    have hn : n ≤ 65535 := storedHead_le hx
    have A3 := hide (A2.out _ _ (E3.out.trans (then_ok (then_ok hx))))
    have H4 := hide (H3.out.next hR hF)
    have HF4 := hide (HF3.out.join (H3.out.frB hF))
    have HX4 := hide (HX3.out.keep hF (fun k e => Or.inl (by omega)))
    have q5 : w4.cell? ⟨M, 5, none⟩ = some (.int .i64 lf) := cell_of H4.out.obj rfl
    have z5 := frozen_of (o := 5) H4.out.obj
    have q3 : w4.cell? ⟨M, 3, none⟩ = some (.int .i64 0) := cell_of H4.out.obj rfl
    have z3 := frozen_of (o := 3) H4.out.obj
    clear hx hR hF
    go_wp2
    go_end0
    have f5 : Fr (fun k => k = M) w4 ((w4.setCell ⟨M, 5, none⟩ (.int .i64 (n : Int))).setCell ⟨M, 3, none⟩ (.int .i64 1)) := (fr_set w4 M 5 _).join (fr_set _ M 3 _)
    have H5 := H4.out.turn (plc' := 1) (lf' := (n : Int)) f5 (heap_set (o := 3) _ (heap_set (o := 5) _ H4.out.obj))
    rw [← Hlb.out] at A3
    exact HQ.out.go _ _ A3.out ⟨(n : Int), bk, b1, b2, f1, f2, ov, H5, ⟨rfl, hn⟩, HX4.out.keep f5 (fun k e => Or.inr (Or.inl e)), Hb.out, Ho.out⟩ (HF4.out.join (H4.out.frM f5))
  · have A3 := hide (A2.out _ _ (E2.out : head (leNum bs) (8 * bs.length) p = .ok ((decide (l = 1), .coded fixL fixD), p2)))
    go_wp2_with fail
    refine fixed_c w3 lo R M B bs p2 most _ lb lf bk b1 b2 f1 f2 ov out H3.out HX3.out _ ?_
    intro c1 c2 w4 hO4 hc1 hc2 hF
    have H4 := hide hO4
    have K1 := hide hc1
    have K2 := hide hc2
    have HF4 := hide (HF3.out.join (H3.out.frM hF ((cell_of (o := 11) hO4.obj rfl).trans (cell_of (o := 11) H3.out.obj rfl).symm)))
    have q7 : w4.cell? ⟨M, 7, none⟩ = some b1 := cell_of hO4.obj rfl
    have q8 : w4.cell? ⟨M, 8, none⟩ = some b2 := cell_of hO4.obj rfl
    have z7 := frozen_of (o := 7) hO4.obj
    have z8 := frozen_of (o := 8) hO4.obj
    have q3 : w4.cell? ⟨M, 3, none⟩ = some (.int .i64 0) := cell_of hO4.obj rfl
    have z3 := frozen_of (o := 3) hO4.obj
    obtain ⟨C1, _, _, rfl, _⟩ := hc1
    obtain ⟨C2, _, _, rfl, _⟩ := hc2
    clear hO4 hF
    go_wp2
    go_end0
    have f5 : Fr (fun k => k = M) w4 (((w4.setCell ⟨M, 7, none⟩ (.pointer (some ⟨C1, 0, none⟩))).setCell ⟨M, 8, none⟩ (.pointer (some ⟨C2, 0, none⟩))).setCell ⟨M, 3, none⟩ (.int .i64 2)) := ((fr_set w4 M 7 _).join (fr_set _ M 8 _)).join (fr_set _ M 3 _)
    have H5 := H4.out.turn (plc' := 2) (b1' := .pointer (some ⟨C1, 0, none⟩)) (b2' := .pointer (some ⟨C2, 0, none⟩)) f5 (heap_set (o := 3) _ (heap_set (o := 8) _ (heap_set (o := 7) _ H4.out.obj)))
    rw [← Hlb.out] at A3
    exact HQ.out.go _ _ A3.out ⟨lf, bk, _, _, _, _, ov, H5, ⟨K1.out.keep f5 (fun k e => Or.inr (Or.inl e)), K2.out.keep f5 (fun k e => Or.inr (Or.inl e))⟩, Or.inr ⟨K1.out.keep f5 (fun k e => Or.inr (Or.inl e)), K2.out.keep f5 (fun k e => Or.inr (Or.inl e))⟩, Hb.out, Ho.out⟩ (HF4.out.join (H4.out.frM f5))
  · have E3 : Hid (head (leNum bs) (8 * bs.length) p = andThen (andThen own fun c => ret (.coded c.1 c.2)) (fun pl => ret (decide (l = 1), pl)) (leNum bs) (8 * bs.length) p2) := E2.out
    go_wp2_with fail
    refine own_c w3 lo R M B bs p2 H3.out.mi (HG.out.keep HF3.out.fr (not_low HO.out hlo)) hlo _ ?okk ?noo
    case noo => (intro er w4 hx hF; exact ⟨rfl, HQ.out.fail er w4 (A.out er (E3.out.trans (then_err (then_err hx)))) (H3.out.md.fr hF H3.out.mi.ne) (HF3.out.join (H3.out.frB hF))⟩)
    intro ll dl p3 w4 C1 C2 lo1 hi1 lo2 hi2 hx hl1 hl2' hC1 hC2 hR hF
    have A3 := hide (A2.out _ _ (E3.out.trans (then_ok (then_ok hx))))
    have H4 := hide (H3.out.next hR hF)
    have HF4 := hide (HF3.out.join (H3.out.frB hF))
    have HX4 := hide (HX3.out.keep hF (fun k e => Or.inl (by omega)))
    have hRs : R ≤ w3.heap.size := Nat.le_trans H3.out.hM (Nat.le_of_lt H3.out.ltM)
    have K1 := hide (code_new (ov := ov) hC1 hl1 hRs H3.out.ltM (fun g hg => (H3.out.own.lt g hg).2))
    have K2 := hide (code_new (ov := ov) hC2 hl2' hRs H3.out.ltM (fun g hg => (H3.out.own.lt g hg).2))
    have q7 : w4.cell? ⟨M, 7, none⟩ = some b1 := cell_of H4.out.obj rfl
    have q8 : w4.cell? ⟨M, 8, none⟩ = some b2 := cell_of H4.out.obj rfl
    have z7 := frozen_of (o := 7) H4.out.obj
    have z8 := frozen_of (o := 8) H4.out.obj
    have q3 : w4.cell? ⟨M, 3, none⟩ = some (.int .i64 0) := cell_of H4.out.obj rfl
    have z3 := frozen_of (o := 3) H4.out.obj
    clear hx hR hF hC1 hC2 hl1 hl2'
    go_wp2
    go_end0
    have f5 : Fr (fun k => k = M) w4 (((w4.setCell ⟨M, 7, none⟩ (.pointer (some ⟨C1, 0, none⟩))).setCell ⟨M, 8, none⟩ (.pointer (some ⟨C2, 0, none⟩))).setCell ⟨M, 3, none⟩ (.int .i64 2)) := ((fr_set w4 M 7 _).join (fr_set _ M 8 _)).join (fr_set _ M 3 _)
    have H5 := H4.out.turn (plc' := 2) (b1' := .pointer (some ⟨C1, 0, none⟩)) (b2' := .pointer (some ⟨C2, 0, none⟩)) f5 (heap_set (o := 3) _ (heap_set (o := 8) _ (heap_set (o := 7) _ H4.out.obj)))
    rw [← Hlb.out] at A3
    exact HQ.out.go _ _ A3.out ⟨lf, bk, _, _, _, _, ov, H5, ⟨K1.out.keep f5 (fun k e => Or.inr (Or.inl e)), K2.out.keep f5 (fun k e => Or.inr (Or.inl e))⟩, HX4.out.keep f5 (fun k e => Or.inr (Or.inl e)), Hb.out, Ho.out⟩ (HF4.out.join (H4.out.frM f5))
  · have A3 := hide (A.out 4 (E2.out : head (leNum bs) (8 * bs.length) p = .error 4))
    go_wp2
    exact ⟨rfl, HQ.out.fail 4 _ A3.out H3.out.md HF3.out⟩
end Go.Proofs.YtdpmpllbdoefdaaGreatDoor
namespace Go.Proofs.YtdpmpllbdoefdaaGreatDoor
open Go.RowKit
theorem adv_done_inv {V L : Nat} {s : St} (h : adv V L s = .done) : s.pl = .ahead ∧ s.last = true := by
  obtain ⟨p, last, out, pl⟩ := s
  cases pl with
  | ahead =>
    simp only [adv] at h
    split at h
    · next h1 => exact ⟨rfl, h1⟩
    · split at h <;> cases h
  | stored n =>
    simp only [adv] at h
    split at h
    · cases h
    · split at h <;> cases h
  | coded ll dl =>
    simp only [adv] at h
    split at h <;> cases h
  | row n d ll dl => cases h
theorem ahead_put {V L p : Nat} {out : List Nat} {s' : St} (h : adv V L ⟨p, false, out, .ahead⟩ = .put s') : False := by
  simp only [adv] at h
  cases hh : head V L p with
  | error er => simp [hh] at h
  | ok aq => simp [hh] at h
set_option maxHeartbeats 2000000 in
set_option maxRecDepth 100000 in
theorem advance_cI (w : World) (lo R M B : Nat) (bs : List Nat) (most : Nat) (hmost : most ≤ 2147483648) (hg : Gi w) (hlo : 0 < lo) (s : St) (h : Mx w lo R M B bs most s) (Q : Ending → World → Prop)
    (hQ : AdvQ lo R M B bs most s w (.bool true) (.bool false) (.bool false) Q) : Calls Tryz.prog 51 #[.pointer (some ⟨M, 0, none⟩)] w Q := by
  obtain ⟨p, last, out, pl⟩ := s
  have H := hide h
  obtain ⟨lf, bk, b1, b2, f1, f2, ov, hO, hP, hX, hb, ho⟩ := h
  have q3 : w.cell? ⟨M, 3, none⟩ = some (.int .i64 (plv pl)) := cell_of hO.obj rfl
  have q4 : w.cell? ⟨M, 4, none⟩ = some (.bool last) := cell_of hO.obj rfl
  have HO := hide hO
  have HQ := hide hQ
  have HG := hide hg
  clear hO hP hX hb ho hQ hg
  cases pl with
  | stored n =>
    simp only [plv] at q3
    go_enter Tryz.func51, Tryz.ntmps51
    go_wp2_with fail
    refine storedByte_c w lo R M B bs most hmost p last out n H.out (.bool false) _ ⟨?f1, ?f2, ?f3, ?f4, ?f5⟩
    case f1 => (intro er w1 h1 h2 h3; exact ⟨rfl, HQ.out.fail er w1 h1 h2 h3⟩)
    case f2 => (intro s' w1 h1 h2 h3 h4; exact ⟨rfl, HQ.out.full s' w1 h1 h2 h3 h4⟩)
    case f3 => (intro s' w1 h1 h2 h3 h4; have X := hide (HQ.out.put s' w1 h1 h2 h3 h4); clear h1 h2 h3 h4; go_wp2; exact X.out)
    case f4 => (intro s' w1 h1 h2 h3; have X := hide (HQ.out.go s' w1 h1 h2 h3); clear h1 h2 h3; go_wp2; exact X.out)
    case f5 => (intro w1 h1; cases (adv_done_inv h1).1)
  | coded ll dl =>
    simp only [plv] at q3
    go_enter Tryz.func51, Tryz.ntmps51
    go_wp2_with fail
    refine takeSymbol_c w lo R M B bs most hmost p last out ll dl H.out (.bool false) _ ⟨?f1, ?f2, ?f3, ?f4, ?f5⟩
    case f1 => (intro er w1 h1 h2 h3; exact ⟨rfl, HQ.out.fail er w1 h1 h2 h3⟩)
    case f2 => (intro s' w1 h1 h2 h3 h4; exact ⟨rfl, HQ.out.full s' w1 h1 h2 h3 h4⟩)
    case f3 => (intro s' w1 h1 h2 h3 h4; have X := hide (HQ.out.put s' w1 h1 h2 h3 h4); clear h1 h2 h3 h4; go_wp2; exact X.out)
    case f4 => (intro s' w1 h1 h2 h3; have X := hide (HQ.out.go s' w1 h1 h2 h3); clear h1 h2 h3; go_wp2; exact X.out)
    case f5 => (intro w1 h1; cases (adv_done_inv h1).1)
  | row n d ll dl =>
    simp only [plv] at q3
    go_enter Tryz.func51, Tryz.ntmps51
    go_wp2_with fail
    refine rowByte_c w lo R M B bs most hmost p last out n d ll dl H.out (.bool false) _ ⟨?f1, ?f2, ?f3, ?f4, ?f5⟩
    case f1 => (intro er w1 h1 h2 h3; exact ⟨rfl, HQ.out.fail er w1 h1 h2 h3⟩)
    case f2 => (intro s' w1 h1 h2 h3 h4; exact ⟨rfl, HQ.out.full s' w1 h1 h2 h3 h4⟩)
    case f3 => (intro s' w1 h1 h2 h3 h4; have X := hide (HQ.out.put s' w1 h1 h2 h3 h4); clear h1 h2 h3 h4; go_wp2; exact X.out)
    case f4 => (intro s' w1 h1 h2 h3; have X := hide (HQ.out.go s' w1 h1 h2 h3); clear h1 h2 h3; go_wp2; exact X.out)
    case f5 => (intro w1 h1; cases (adv_done_inv h1).1)
  | ahead =>
    simp only [plv] at q3
    cases last with
    | true =>
      go_enter Tryz.func51, Tryz.ntmps51
      go_wp2_with fail
      refine (finish_c w lo R M B bs p _ _ _ lf bk b1 b2 f1 f2 ov out HO.out).mono ?_
      rintro e w1 ⟨rfl, h1, h2⟩
      have X := hide (HQ.out.done w1 rfl h1 h2)
      clear h1 h2
      go_wp2
      exact X.out
    | false =>
      go_enter Tryz.func51, Tryz.ntmps51
      go_wp2_with fail
      refine begin_c w lo R M B bs most HG.out hlo p out H.out (.bool true) (.bool true) _ ⟨?f1, ?f2, ?f3, ?f4, ?f5⟩
      case f1 => (intro er w1 h1 h2 h3; exact ⟨rfl, HQ.out.fail er w1 h1 h2 h3⟩)
      case f2 => (intro s' w1 h1 h2 h3 h4; exact ⟨rfl, HQ.out.full s' w1 h1 h2 h3 h4⟩)
      case f3 => (intro s' w1 h1; exact (ahead_put h1).elim)
      case f4 => (intro s' w1 h1 h2 h3; have X := hide (HQ.out.go s' w1 h1 h2 h3); clear h1 h2 h3; go_wp2; exact X.out)
      case f5 => (intro w1 h1; cases (adv_done_inv h1).2)
def wt : Pl → Nat
  | .stored _ => 1
  | .row n _ _ _ => n
  | _ => 0
def muS (L : Nat) (s : St) : Nat := 1 + 1000010 * (L - s.p) + wt s.pl
def rowOk : Pl → Prop
  | .row n _ _ _ => 1 ≤ n ∧ n ≤ 1000003
  | _ => True
theorem word_mono {ll dl : List Int} {o V L p q : Nat} {y : Sym} (h : word ll dl o V L p = .ok (y, q)) : p < q := by
  obtain ⟨s, m, h1, h2⟩ := then_inv h
  have := (tkFrom_good ll _ _ h1).1
  have h3 := (Gd.ite (c := s < 256) (.ret (Sym.lit s)) (.ite (c := s = 256) (.ret Sym.fin) (.andThen (.rlen s) fun n => .andThen (.rdist dl o) fun d => .ret (Sym.row n d)))).mono h2
  omega
theorem head_mono {V L p q : Nat} {a : Bool × Pl} (h : head V L p = .ok (a, q)) : p < q := by
  obtain ⟨l, m1, h1, h2⟩ := then_inv h
  have e1 := tkn_inv h1
  have := (Gd.andThen (.tkn 2) fun k => .andThen (.kindOf k) fun pl => .ret (decide (l = 1), pl)).mono h2
  omega
theorem adv_mu {V L : Nat} {s s' : St} (h : adv V L s = .go s' ∨ adv V L s = .put s') (hL : L % 8 = 0) (hp : s.p ≤ L) (hr : rowOk s.pl) (hr' : rowOk s'.pl) : muS L s' < muS L s := by
  have key : ∀ q (pl : Pl), s.p < q → q ≤ L → rowOk pl → 1 + 1000010 * (L - q) + wt pl < 1 + 1000010 * (L - s.p) := by
    intro q pl h1 h2 h3
    have hw : wt pl ≤ 1000003 := by
      cases pl with
      | row n d ll dl => exact h3.2
      | ahead => exact Nat.zero_le _
      | stored n => show 1 ≤ 1000003; omega
      | coded a b => exact Nat.zero_le _
    have : L - s.p = (L - q) + (q - s.p) := by omega
    rw [this, Nat.mul_add]
    have : 1000010 * 1 ≤ 1000010 * (q - s.p) := Nat.mul_le_mul_left _ (by omega)
    omega
  obtain ⟨p, last, out, pl⟩ := s
  simp only at hp hr key
  cases pl with
  | ahead =>
    simp only [adv] at h
    by_cases hl : last = true
    · rw [if_pos hl] at h; rcases h with h | h <;> cases h
    rw [if_neg hl] at h
    cases hh : head V L p with
    | error er => simp only [hh] at h; rcases h with h | h <;> cases h
    | ok aq =>
      simp only [hh] at h
      rcases h with h | h
      · cases h
        exact Nat.lt_of_lt_of_le (key aq.2 _ (head_mono (a := aq.1) (q := aq.2) hh) (Gd.head.fit (a := aq.1) (q := aq.2) hh hp hL) hr') (Nat.le_add_right _ _)
      · cases h
  | stored n =>
    simp only [adv] at h
    split at h
    · rcases h with h | h
      · cases h; simp only [muS, wt]; omega
      · cases h
    · cases hh : tkn 8 V L p with
      | error er => simp only [hh] at h; rcases h with h | h <;> cases h
      | ok aq =>
        simp only [hh] at h
        have := tkn_inv (a := aq.1) (q := aq.2) hh
        rcases h with h | h
        · cases h
        · cases h
          exact Nat.lt_of_lt_of_le (key aq.2 _ (by omega) (by omega) hr') (Nat.le_add_right _ _)
  | coded ll dl =>
    simp only [adv] at h
    cases hh : word ll dl out.length V L p with
    | error er => simp only [hh] at h; rcases h with h | h <;> cases h
    | ok aq =>
      obtain ⟨y, q⟩ := aq
      simp only [hh] at h
      have h1 := word_mono hh
      have h2 := (Gd.word ll dl out.length).fit hh hp hL
      cases y with
      | lit b =>
        rcases h with h | h
        · cases h
        · cases h; exact Nat.lt_of_lt_of_le (key q _ h1 h2 hr') (Nat.le_add_right _ _)
      | fin =>
        rcases h with h | h
        · cases h; exact Nat.lt_of_lt_of_le (key q _ h1 h2 hr') (Nat.le_add_right _ _)
        · cases h
      | row n d =>
        rcases h with h | h
        · cases h; exact Nat.lt_of_lt_of_le (key q _ h1 h2 hr') (Nat.le_add_right _ _)
        · cases h
  | row n d ll dl =>
    simp only [adv] at h
    rcases h with h | h
    · cases h
    · cases h
      simp only [muS]
      have h1 := hr.1
      split
      · simp only [wt]; omega
      · simp only [wt]; omega
def muW (L M B : Nat) (w : World) : Nat := match w.cell? ⟨M, 14, none⟩ with
  | some (.bool true) => 0
  | _ => 1 + 1000010 * (L - cellI w B 1) + (if cellI w M 3 = 1 then 1 else if cellI w M 3 = 3 then cellI w M 5 else 0)
theorem Mx.mu {w : World} {lo R M B : Nat} {bs : List Nat} {most : Nat} {s : St} (h : Mx w lo R M B bs most s) (L : Nat) : muW L M B w = muS L s := by
  obtain ⟨lf, bk, b1, b2, f1, f2, ov, hO, hP, hX, hb, ho⟩ := h
  have q14 : w.cell? ⟨M, 14, none⟩ = some (.bool false) := cell_of hO.obj rfl
  have q3 : w.cell? ⟨M, 3, none⟩ = some (.int .i64 (plv s.pl)) := cell_of hO.obj rfl
  have q5 : w.cell? ⟨M, 5, none⟩ = some (.int .i64 lf) := cell_of hO.obj rfl
  obtain ⟨a, c, _, f1, _, _⟩ := hO.rd.facts
  unfold muW muS
  simp only [q14, cellI, f1, q3, q5]
  have e : ((s.p : Int)).toNat = s.p := by omega
  rw [e]
  congr 1
  cases hpl : s.pl with
  | ahead => rfl
  | stored n => rfl
  | coded a b => rfl
  | row n d ll dl =>
    rw [hpl] at hP
    have : lf = (n : Int) := hP.1
    subst this
    simp [plv, wt]
theorem Mx.row {w : World} {lo R M B : Nat} {bs : List Nat} {most : Nat} {s : St} (h : Mx w lo R M B bs most s) : rowOk s.pl := by
  obtain ⟨lf, bk, b1, b2, f1, f2, ov, hO, hP, hX, hb, ho⟩ := h
  cases hpl : s.pl with
  | ahead => exact trivial
  | stored n => exact trivial
  | coded a b => exact trivial
  | row n d ll dl =>
    rw [hpl] at hP
    exact ⟨hP.2.2.1, hP.2.2.2.1⟩
theorem Mx.pos {w : World} {lo R M B : Nat} {bs : List Nat} {most : Nat} {s : St} (h : Mx w lo R M B bs most s) : s.p ≤ 8 * bs.length := by
  obtain ⟨lf, bk, b1, b2, f1, f2, ov, hO, _⟩ := h
  exact hO.rd.epos
end Go.Proofs.YtdpmpllbdoefdaaGreatDoor
namespace Go.Proofs.YtdpmpllbdoefdaaGreatDoor
open Go.RowKit
def Mr (w : World) (M : Nat) : Except Nat (List Nat × Nat) → Prop
  | .ok (out, p) => Mf w M out ((p + 7) / 8) 0
  | .error er => Mf w M [] 0 er
set_option maxHeartbeats 400000 in
set_option maxRecDepth 100000 in
theorem reason_c (er : Int) (w : World) : Calls Tryz.prog 50 #[.iface 24 (.int .i64 er)] w fun e w' => e = .returned (.int .i64 er) ∧ w = w' := by
  have ht : ∀ W : World, (Instr.typeAssert (.iface 24 (.int .i64 er)) 20 24 true).run Tryz.prog W = .ok (.tuple #[.int .i64 er, .bool true]) W := fun W => by kernel_rfl
  go_enter Tryz.func50, Tryz.ntmps50
  go_wp2
  go_ret
  exact ⟨rfl, rfl⟩
set_option maxHeartbeats 1000000 in
set_option maxRecDepth 100000 in
theorem catch_panicking (P M : Nat) (er : Nat) (older : List PanicEntry) (w : World) (hP : w.cell? ⟨P, 0, none⟩ = some (.pointer (some ⟨M, 0, none⟩))) (hPM : P ≠ M) (hM : MdI w M) :
    CallsD Tryz.prog 49 #[.pointer (some ⟨P, 0, none⟩)] (.panicking ({ v := .iface 24 (.int .i64 (er : Int)), recovered := false } :: older)) w fun e u' w' =>
      e = .returned (.tuple #[]) ∧ u' = .panicking ({ v := .iface 24 (.int .i64 (er : Int)), recovered := true } :: older) ∧ Mf w' M [] 0 er ∧ Fr (fun k => k = M) w w' := by
  obtain ⟨cs0, hobj, hsz⟩ := hM
  have Hobj := hide hobj
  refine callsD_of_wpS Tryz.func49 rfl fun c₀ cs hu => ?_
  apply wpS_seq
  apply wpS_region
  simp [wpOpsS, go_sem, recoverD, hu, Tryz.ntmps49, Exit.thenS]
  apply wpS_seq
  apply wpS_region
  simp [wpOpsS, go_sem, Exit.thenS]
  refine wpS_cond (t := true) (by simp [Act.eval, Array.replicate]) ?_
  simp only [if_true]
  refine wpS_of_wp ?_
  have et : (#[.pointer (some ⟨P, 0, none⟩)] ++ ((((Array.replicate 9 undef).setIfInBounds 1 (.iface 24 (.int .i64 (er : Int)))).setIfInBounds 0 (.iface 24 (.int .i64 (er : Int)))).setIfInBounds 2 (.iface 24 (.int .i64 (er : Int)))).setIfInBounds 3 (.bool true) : Array Value) = #[.pointer (some ⟨P, 0, none⟩), .iface 24 (.int .i64 (er : Int)), .iface 24 (.int .i64 (er : Int)), .iface 24 (.int .i64 (er : Int)), .bool true, undef, undef, undef, undef, undef] := rfl
  rw [et]
  clear et hobj
  refine wp_region_held_drew (S := fun w' => w'.cell? ⟨P, 0, none⟩ = some (.pointer (some ⟨M, 0, none⟩))) (by kernel_rfl) (by exact hP) (fun hHeld => ?_)
  refine wpAnyH_take (i := 0) (v := ?v0) rfl (by kernel_rfl) (by kernel_rfl) (by kernel_rfl) (fun _ _ _ h => h) (Or.inl ⟨by rfl, ?hy0⟩) hHeld ?rest0
  case hy0 => (intro W hSw; (try dsimp only at hSw); go_simp; all_goals (with_reducible rfl))
  change wpAnyH _ _ _ _ _ _ _ (Act.put _ (some 5) _) _
  simp only [Act.put, List.setIfInBounds_toArray, List.set_cons_zero, List.set_cons_succ]
  refine wpAnyH_take (i := 1) (v := ?v1) rfl (by kernel_rfl) (by kernel_rfl) (by kernel_rfl) (fun _ _ _ h => h) (Or.inl ⟨by rfl, ?hy1⟩) hHeld ?rest1
  case hy1 => (intro W hSw; (try dsimp only at hSw); go_simp; all_goals (with_reducible rfl))
  change wpAnyH _ _ _ _ _ _ _ (Act.put _ (some 6) _) _
  simp only [Act.put, List.setIfInBounds_toArray, List.set_cons_zero, List.set_cons_succ]
  refine wpAnyH_ready (rs := [2]) (by kernel_rfl) (by simp) ?_
  refine AllReadyH.cons rfl (fun K hK => ?_) AllReadyH.nil
  try simp only [List.getElem_toArray, List.getElem_cons_succ, List.getElem_cons_zero]
  go_simp
  refine (reason_c er _).mono ?_
  rintro e w1 ⟨rfl, rfl⟩
  refine hK.out _ _ hHeld (fun hHeld => ?_)
  clear hK K
  refine wpAnyH_take (i := 3) (v := ?v3) rfl (by kernel_rfl) (by kernel_rfl) (by kernel_rfl) (fun _ _ _ h => h) (Or.inl ⟨by rfl, ?hy3⟩) hHeld ?rest3
  case hy3 => (intro W hSw; (try dsimp only at hSw); go_simp; all_goals (with_reducible rfl))
  change wpAnyH _ _ _ _ _ _ _ (Act.put _ (some 8) _) _
  simp only [Act.put, List.setIfInBounds_toArray, List.set_cons_zero, List.set_cons_succ]
  refine wpAnyH_take (i := 4) (v := ?v4) rfl (by kernel_rfl) (by kernel_rfl) (by kernel_rfl) (fun _ _ _ h => h) (Or.inl ⟨by rfl, ?hy4⟩) hHeld ?rest4
  case hy4 => (intro W hSw; (try dsimp only at hSw); go_simp; all_goals (with_reducible rfl))
  change wpAnyH _ _ _ _ _ _ _ (Act.put _ (some 9) _) _
  simp only [Act.put, List.setIfInBounds_toArray, List.set_cons_zero, List.set_cons_succ]
  refine wpAnyH_ready (rs := [5]) (by kernel_rfl) (by simp) ?_
  refine AllReadyH.cons rfl (fun K hK => ?_) AllReadyH.nil
  try simp only [List.getElem_toArray, List.getElem_cons_succ, List.getElem_cons_zero]
  rw [if_pos (by rfl)]
  refine wp_store_row 78 (.tmp 9) (.tmp 8) rfl M 78 _ _ rfl rfl Hobj.out (by kernel_rfl) hsz (by simp [Value.oneCell']) ?_
  refine hK.out _ _ ((cell_setRow_other _ _ _ _ hPM).trans hHeld) (fun hHeld => ?_)
  clear hK K
  refine wpAnyH_done (by kernel_rfl) ?_ _
  have fr : Fr (fun k => k = M) w (w.drew.setRow M #[.pointer none, .int .i64 0, .int .i64 0, .int .i64 0, .bool false, .int .i64 0, .int .i64 0, .pointer none, .pointer none, .pointer none, .pointer none, .slice none 0 0, .int .i64 0, .int .i64 (er : Int), .bool true]) :=
    ⟨rfl, rfl, rfl, by simp, fun j _ hj => setRow_other _ _ _ _ hj⟩
  have hf : Mf (w.drew.setRow M #[.pointer none, .int .i64 0, .int .i64 0, .int .i64 0, .bool false, .int .i64 0, .int .i64 0, .pointer none, .pointer none, .pointer none, .pointer none, .slice none 0 0, .int .i64 0, .int .i64 (er : Int), .bool true]) M [] 0 er :=
    ⟨_, setRow_heap w.drew M _ _ 78 _ Hobj.out, ⟨0, World.ownsRow_nil _ _ _ _⟩, fun g hg => by cases hg⟩
  refine ⟨rfl, .panicking ({ v := .iface 24 (.int .i64 (er : Int)), recovered := true } :: older), by cases c₀; rfl, .tuple #[], by simp [results, Tryz.results49], rfl, rfl, hf, fr⟩
theorem catch_idle (P : Addr) (w : World) :
    CallsD Tryz.prog 49 #[.pointer (some P)] .returning w fun e u' w' => e = .returned (.tuple #[]) ∧ u' = .returning ∧ w' = w := by
  refine callsD_of_wpS Tryz.func49 rfl fun c₀ cs hu => ?_
  apply wpS_seq
  apply wpS_region
  simp [wpOpsS, go_sem, recoverD, hu, Tryz.ntmps49, Exit.thenS]
  apply wpS_seq
  apply wpS_region
  simp [wpOpsS, go_sem, Exit.thenS]
  refine wpS_cond (t := false) (by simp [Act.eval, Array.replicate]) ?_
  simp only [Bool.false_eq_true, if_false]
  refine wpS_of_wp (wp_skip ?_)
  cases c₀
  simp_all [bodyPostS, results, Tryz.results49]
end Go.Proofs.YtdpmpllbdoefdaaGreatDoor
namespace Go.Proofs.YtdpmpllbdoefdaaGreatDoor
open Go.RowKit
inductive Sl (lo R M B : Nat) (bs : List Nat) (most : Nat) (s0 : St) (n0 : Int) (w' : World) : Prop
  | on (s : St) (h : Mx w' lo R M B bs most s) (hr : ∀ r, Runs (leNum bs) (8 * bs.length) most s r → Runs (leNum bs) (8 * bs.length) most s0 r) (h0 : n0 ≤ 0 → s.out.length = s0.out.length) (h1 : 0 ≤ n0 → (s.out.length : Int) = s0.out.length + n0)
  | fin (r : Except Nat (List Nat × Nat)) (hr : Runs (leNum bs) (8 * bs.length) most s0 r) (h : Mr w' M r) (h0 : 0 < n0)
theorem Mx.fr {w w' : World} {lo R M B : Nat} {bs : List Nat} {most : Nat} {s : St} (h : Mx w lo R M B bs most s) (hF : Fr (fun _ => False) w w') : Mx w' lo R M B bs most s := by
  obtain ⟨lf, bk, b1, b2, f1, f2, ov, hO, hP, hX, hb, ho⟩ := h
  refine ⟨lf, bk, b1, b2, f1, f2, ov, hO.keep hF (fun _ _ h => h), ?_, hX.keep hF (fun _ h => h.elim), hb, ho⟩
  cases hpl : s.pl with
  | ahead => exact trivial
  | stored n => rw [hpl] at hP; exact hP
  | coded a b => rw [hpl] at hP; exact ⟨hP.1.keep hF (fun _ h => h.elim), hP.2.keep hF (fun _ h => h.elim)⟩
  | row n d a b =>
    rw [hpl] at hP
    exact ⟨hP.1, hP.2.1, hP.2.2.1, hP.2.2.2.1, hP.2.2.2.2.1, hP.2.2.2.2.2.1, hP.2.2.2.2.2.2.1.keep hF (fun _ h => h.elim), hP.2.2.2.2.2.2.2.keep hF (fun _ h => h.elim)⟩
theorem Mx.md {w : World} {lo R M B : Nat} {bs : List Nat} {most : Nat} {s : St} (h : Mx w lo R M B bs most s) : MdI w M ∧ lo ≤ M ∧ M < w.heap.size ∧ w.cell? ⟨M, 14, none⟩ = some (.bool false) := by
  obtain ⟨lf, bk, b1, b2, f1, f2, ov, hO, hP, hX, hb, ho⟩ := h
  exact ⟨hO.md, by have := hO.rd.elo; have := hO.rd.ehi; have := hO.hM; omega, hO.ltM, cell_of hO.obj rfl⟩
theorem Mx.notP {w w1 : World} {lo R M B : Nat} {bs : List Nat} {most : Nat} {s : St} (h : Mx w lo R M B bs most s) (hF : Fr (fun _ => False) w w1) {P : Nat} (hP : w.heap.size ≤ P) : ¬ Sm M B w1 P := by
  obtain ⟨lf, bk, b1, b2, f1, f2, ov, hO, _⟩ := h
  have h1 := hO.rd.ehi
  have h2 := hO.hM
  have h3 := hO.ltM
  have e0 : w1.cell? ⟨M, 11, none⟩ = some ov := by rw [cell_blk (a := ⟨M, 11, none⟩) (hF.block M h3 (fun h => h))]; exact cell_of hO.obj rfl
  rintro (e | e | ⟨v, e1, e2⟩)
  · omega
  · omega
  · rw [e0] at e1
    cases e1
    have := (hO.own.lt P e2).2
    omega
theorem Mx.low {w w' : World} {lo R M B : Nat} {bs : List Nat} {most : Nat} {s : St} (h : Mx w lo R M B bs most s) (hF : Fs M B w w') : Fl lo w w' := by
  obtain ⟨lf, bk, b1, b2, f1, f2, ov, hO, _⟩ := h
  exact hO.low hF
theorem Mx.notlow {w : World} {lo R M B : Nat} {bs : List Nat} {most : Nat} {s : St} (h : Mx w lo R M B bs most s) (hlo : 0 < lo) : ¬ Sm M B w 0 := by
  obtain ⟨lf, bk, b1, b2, f1, f2, ov, hO, _⟩ := h
  exact not_low hO hlo
theorem Mf.cell14 {w : World} {M : Nat} {out : List Nat} {u er : Nat} (h : Mf w M out u er) : w.cell? ⟨M, 14, none⟩ = some (.bool true) := by
  obtain ⟨ov, h1, _⟩ := h.obj
  exact cell_of h1 rfl
inductive Sq (lo R M B : Nat) (bs : List Nat) (most : Nat) (s0 : St) (n0 : Int) (w1 wr : World) (n : Int) : Prop
  | on (s : St) (h : Mx wr lo R M B bs most s) (hr : ∀ r, Runs (leNum bs) (8 * bs.length) most s r → Runs (leNum bs) (8 * bs.length) most s0 r) (hn : n = n0 ∨ (0 ≤ n ∧ 0 < n0)) (hle : n ≤ n0) (h1 : (s.out.length : Int) + n = s0.out.length + n0) (hF : Fs M B w1 wr)
  | fin (r : Except Nat (List Nat × Nat)) (hr : Runs (leNum bs) (8 * bs.length) most s0 r) (h : Mr wr M r) (h0 : 0 < n0) (hF : Fs M B w1 wr)
set_option maxHeartbeats 2000000 in
set_option maxRecDepth 100000 in
theorem slice_c (w : World) (lo R M B : Nat) (bs : List Nat) (most : Nat) (hmost : most ≤ 2147483648) (hg : Gi w) (hlo : 0 < lo) (s0 : St) (h : Mx w lo R M B bs most s0) (n0 : Int) (hn0 : n0 ≤ 9223372036854775807) (hn1 : -9223372036854775808 ≤ n0) :
    Calls Tryz.prog 37 #[.pointer (some ⟨M, 0, none⟩), .int .i64 n0] w fun e w' => e = .returned (.tuple #[]) ∧ Fl lo w w' ∧ Sl lo R M B bs most s0 n0 w' := by
  obtain ⟨P, hP⟩ : ∃ P, P = w.heap.size := ⟨_, rfl⟩
  have fr0 := Fr.of_alloc w (.cells #[.pointer (some ⟨M, 0, none⟩)] 52)
  have hMP : M < P := by rw [hP]; exact h.md.2.2.1
  have hloM := h.md.2.1
  have hPobj : (w.alloc (.cells #[.pointer (some ⟨M, 0, none⟩)] 52)).heap[P]? = some (.cells #[.pointer (some ⟨M, 0, none⟩)] 52 (0, 0)) := heap_alloc_at hP
  have H0 := hide (h.fr fr0)
  have HG := hide (hg.keep fr0 (fun h => h))
  have HPobj := hide hPobj
  have HP := hide hP
  have Hfr0 := hide fr0
  have HPS : Hid (¬ Sm M B (w.alloc (.cells #[.pointer (some ⟨M, 0, none⟩)] 52)) P) := h.notP fr0 (by omega)
  have hmf : ∀ (fn : Fn) (first cap : Array Value) (w : World), (Instr.makeFunc fn first cap).run Tryz.prog w = .ok (.func fn first cap) w := fun _ _ _ _ => rfl
  clear h hg fr0 hPobj
  go_enter_defers Tryz.func37, Tryz.ntmps37
  go_wp2
  rw [← hP]
  clear hP
  generalize w.alloc (.cells #[.pointer (some ⟨M, 0, none⟩)] 52) = w1 at *
  go_loopw [1] (fun nv wr => ∃ n : Int, nv = .int .i64 n ∧ Sq lo R M B bs most s0 n0 w1 wr n) (fun _ wr => muW (8 * bs.length) M B wr)
  case atStart => exact ⟨n0, rfl, .on s0 H0.out (fun _ h => h) (Or.inl rfl) (by omega) (by omega) (Fs.of (Fr.refl _ _) H0.out.md.2.2.1)⟩
  case round =>
    obtain ⟨n, rfl, hS⟩ := hrel
    have hPw : ∀ w', Fs M B w1 w' → w'.heap[P]? = some (.cells #[.pointer (some ⟨M, 0, none⟩)] 52 (0, 0)) := by
      intro w' hF
      rw [hF.fr.block P (lt_of HPobj.out) (HPS.out)]
      exact HPobj.out
    have HPw := hide hPw
    clear hPw
    cases hS with
    | fin r hr hM h0 hF =>
      have qP : wr.cell? ⟨P, 0, none⟩ = some (.pointer (some ⟨M, 0, none⟩)) := cell_of (HPw.out wr hF) rfl
      have q14 : wr.cell? ⟨M, 14, none⟩ = some (.bool true) := by
        cases r with
        | ok x => exact Mf.cell14 hM
        | error e => exact Mf.cell14 hM
      have HR := hide hr
      have HM := hide hM
      have HF := hide hF
      clear hr hM hF
      have HE := hide (Sl.fin (lo := lo) (R := R) (B := B) (bs := bs) (most := most) (s0 := s0) r HR.out HM.out h0)
      by_cases hn : 0 < n
      · go_wp2
        refine leaves_cons (f := 49) (args := #[.pointer (some ⟨P, 0, none⟩)]) (by simp) (by simp [go_sem]) ?_
        refine (catch_idle ⟨P, 0, none⟩ _).mono ?_
        rintro e u' w'' ⟨rfl, rfl, rfl⟩
        simp [Leaves, settle, results, Tryz.results37]
        exact ⟨(Fl0 Hfr0.out).join (H0.out.low HF.out), HE.out⟩
      · go_wp2
        refine leaves_cons (f := 49) (args := #[.pointer (some ⟨P, 0, none⟩)]) (by simp) (by simp [go_sem]) ?_
        refine (catch_idle ⟨P, 0, none⟩ _).mono ?_
        rintro e u' w'' ⟨rfl, rfl, rfl⟩
        simp [Leaves, settle, results, Tryz.results37]
        exact ⟨(Fl0 Hfr0.out).join (H0.out.low HF.out), HE.out⟩
    | on s h hr hn1' hle hn2' hF =>
      have qP : wr.cell? ⟨P, 0, none⟩ = some (.pointer (some ⟨M, 0, none⟩)) := cell_of (HPw.out wr hF) rfl
      have q14 := h.md.2.2.2
      have HX := hide h
      have HR := hide hr
      have HF := hide hF
      have HGr := hide (HG.out.keep hF.fr (H0.out.notlow hlo))
      clear h hr hF
      by_cases hn : 0 < n
      · have hn0p : 0 < n0 := by omega
        have hmu := hide (HX.out.mu (8 * bs.length))
        go_wp2_with fail
        refine advance_cI wr lo R M B bs most hmost HGr.out hlo s HX.out _ ⟨?f1, ?f2, ?f3, ?f4, ?f5⟩
        case f1 =>
          intro er w2 h1 h2 h3
          refine leaves_cons (f := 49) (args := #[.pointer (some ⟨P, 0, none⟩)]) (by simp) (by simp [go_sem]) ?_
          refine (catch_panicking P M er [] w2 (cell_of (HPw.out w2 (HF.out.join h3)) rfl) (by omega) h2).mono ?_
          rintro e u' w3 ⟨rfl, rfl, hM3, hF3⟩
          simp [Leaves, settle, results, Tryz.results37]
          exact ⟨((Fl0 Hfr0.out).join (H0.out.low (HF.out.join h3))).join (hF3.mono fun k _ e => by omega), .fin (.error er) (HR.out _ (.fail h1)) hM3 hn0p⟩
        case f2 =>
          intro s' w2 h1 hfull h2 h3
          refine leaves_cons (f := 49) (args := #[.pointer (some ⟨P, 0, none⟩)]) (by simp) (by simp [go_sem]) ?_
          refine (catch_panicking P M 6 [] w2 (cell_of (HPw.out w2 (HF.out.join h3)) rfl) (by omega) h2).mono ?_
          rintro e u' w3 ⟨rfl, rfl, hM3, hF3⟩
          simp [Leaves, settle, results, Tryz.results37]
          exact ⟨((Fl0 Hfr0.out).join (H0.out.low (HF.out.join h3))).join (hF3.mono fun k _ e => by omega), .fin (.error 6) (HR.out _ (.full h1 hfull)) hM3 hn0p⟩
        case f3 =>
          intro s' w2 h1 hfull h2 h3
          have hlen := adv_put_out h1
          have hdec := adv_mu (Or.inr h1) (by omega) HX.out.pos HX.out.row h2.row
          have HS : Hid (Sq lo R M B bs most s0 n0 w1 w2 (n - 1)) := .on s' h2 (fun r hr => HR.out r (.put h1 hfull hr)) (Or.inr ⟨by omega, hn0p⟩) (by omega) (by omega) (HF.out.join h3)
          have Hdec : Hid (muW (8 * bs.length) M B w2 < muW (8 * bs.length) M B wr) := by
            show _ < _
            rw [h2.mu, hmu.out]
            exact hdec
          clear h1 h2 h3 hlen hdec hfull
          go_wp2
          go_roundw
          case rel => exact ⟨n - 1, rfl, HS.out⟩
          case measure => exact Hdec.out
        case f4 =>
          intro s' w2 h1 h2 h3
          have hlen := adv_go_out h1
          have hdec := adv_mu (Or.inl h1) (by omega) HX.out.pos HX.out.row h2.row
          have HS : Hid (Sq lo R M B bs most s0 n0 w1 w2 n) := .on s' h2 (fun r hr => HR.out r (.go h1 hr)) (Or.inr ⟨by omega, hn0p⟩) (by omega) (by rw [hlen]; omega) (HF.out.join h3)
          have Hdec : Hid (muW (8 * bs.length) M B w2 < muW (8 * bs.length) M B wr) := by
            show _ < _
            rw [h2.mu, hmu.out]
            exact hdec
          clear h1 h2 h3 hlen hdec
          go_wp2
          go_roundw
          case rel => exact ⟨n, rfl, HS.out⟩
          case measure => exact Hdec.out
        case f5 =>
          intro w2 h1 h2 h3
          have HS : Hid (Sq lo R M B bs most s0 n0 w1 w2 n) := .fin (.ok (s.out, s.p)) (HR.out _ (.done h1)) h2 hn0p (HF.out.join h3)
          have Hdec : Hid (muW (8 * bs.length) M B w2 < muW (8 * bs.length) M B wr) := by
            show _ < _
            rw [hmu.out]
            have e : muW (8 * bs.length) M B w2 = 0 := by
              unfold muW
              rw [Mf.cell14 h2]
            rw [e]
            unfold muS
            omega
          clear h1 h2 h3
          go_wp2
          go_roundw
          case rel => exact ⟨n, rfl, HS.out⟩
          case measure => exact Hdec.out
      · have HE : Hid (Sl lo R M B bs most s0 n0 wr) := .on s HX.out HR.out (fun _ => by omega) (fun _ => by omega)
        go_wp2
        refine leaves_cons (f := 49) (args := #[.pointer (some ⟨P, 0, none⟩)]) (by simp) (by simp [go_sem]) ?_
        refine (catch_idle ⟨P, 0, none⟩ _).mono ?_
        rintro e u' w'' ⟨rfl, rfl, rfl⟩
        simp [Leaves, settle, results, Tryz.results37]
        exact ⟨(Fl0 Hfr0.out).join (H0.out.low HF.out), HE.out⟩
end Go.Proofs.YtdpmpllbdoefdaaGreatDoor
namespace Go.Proofs.YtdpmpllbdoefdaaGreatDoor
open Go.RowKit
theorem Mr.mf {w : World} {M : Nat} {r : Except Nat (List Nat × Nat)} (h : Mr w M r) : Mf w M (outOf r) (usedOf r) (errOf r) := by
  cases r with
  | ok x => exact h
  | error e => exact h
theorem Mf.keep {w w' : World} {M : Nat} {out : List Nat} {u er : Nat} (h : Mf w M out u er) (hF : Fr (fun _ => False) w w') : Mf w' M out u er := by
  obtain ⟨ov, h1, ⟨R, h2⟩, h3⟩ := h.obj
  exact ⟨ov, by rw [hF.block M (lt_of h1) (fun h => h)]; exact h1, ⟨R, ownsRow_fr h2 fun k hk => hF.block k (h2.lt k hk).2 (fun h => h)⟩, h3⟩
theorem lies_ownI {w : World} {lo : Nat} {v : Value} {bs : List Nat} (h : w.ownsRow lo 5 1 v bs.length (cellsOf bs)) : Lies w v bs := by
  rcases h.2 with ⟨rfl, hn⟩ | ⟨g, cap, cur, hv, hg⟩
  · exact Or.inl ⟨rfl, List.eq_nil_of_length_eq_zero hn⟩
  · exact Or.inr ⟨_, _, hv, fun j u hu => h.cells (g := g) (by rw [hv]; rfl) j u hu⟩
set_option maxHeartbeats 400000 in
set_option maxRecDepth 100000 in
theorem done_c (b : Bool) (M : Nat) (w : World) (h : w.cell? ⟨M, 14, none⟩ = some (.bool b)) : Calls Tryz.prog 38 #[.pointer (some ⟨M, 0, none⟩)] w fun e w' => e = .returned (.bool b) ∧ w = w' := by
  go_enter Tryz.func38, Tryz.ntmps38
  go_wp2
  go_ret
  exact ⟨rfl, rfl⟩
set_option maxHeartbeats 400000 in
set_option maxRecDepth 100000 in
theorem used_c (u : Int) (M : Nat) (w : World) (h : w.cell? ⟨M, 12, none⟩ = some (.int .i64 u)) : Calls Tryz.prog 24 #[.pointer (some ⟨M, 0, none⟩)] w fun e w' => e = .returned (.int .i64 u) ∧ w = w' := by
  go_enter Tryz.func24, Tryz.ntmps24
  go_wp2
  go_ret
  exact ⟨rfl, rfl⟩
set_option maxHeartbeats 400000 in
set_option maxRecDepth 100000 in
theorem err_c (u : Int) (M : Nat) (w : World) (h : w.cell? ⟨M, 13, none⟩ = some (.int .i64 u)) : Calls Tryz.prog 25 #[.pointer (some ⟨M, 0, none⟩)] w fun e w' => e = .returned (.int .i64 u) ∧ w = w' := by
  go_enter Tryz.func25, Tryz.ntmps25
  go_wp2
  go_ret
  exact ⟨rfl, rfl⟩
set_option maxHeartbeats 400000 in
set_option maxRecDepth 100000 in
theorem out_cI (M : Nat) (out : List Nat) (u er : Nat) (w : World) (h : Mf w M out u er) (hl : out.length ≤ 2147483648) :
    Calls Tryz.prog 23 #[.pointer (some ⟨M, 0, none⟩)] w fun e w' => ∃ a c, e = .returned (.slice a out.length c) ∧ w'.ownsRow w.heap.size 5 1 (.slice a out.length c) out.length (cellsOf out) ∧ Fr (fun _ => False) w w' := by
  obtain ⟨ov, h1, ⟨R, h2⟩, h3⟩ := h.obj
  obtain ⟨oa, oc, rfl⟩ := ownsRow_shape h2
  have q14 := h.cell14
  have q11 : w.cell? ⟨M, 11, none⟩ = some (.slice oa out.length oc) := cell_of h1 rfl
  have HL := hide (lies_ownI h2)
  clear h h1 h2 h3
  go_enter Tryz.func23, Tryz.ntmps23
  go_wp2_with fail
  refine (done_c true M w q14).mono ?_
  rintro e w1 ⟨rfl, rfl⟩
  go_wp2_with fail
  refine (clone_c _ out w HL.out hl).mono ?_
  rintro e w1 ⟨a, c, rfl, hown, hbel⟩
  have Hown := hide hown
  have Hbel := hide hbel
  clear hown hbel
  go_wp2
  go_ret
  exact ⟨a, c, rfl, Hown.out, (Fr.of_below Hbel.out).mono fun k hk h => by omega⟩
theorem Mf.cells {w : World} {M : Nat} {out : List Nat} {u er : Nat} (h : Mf w M out u er) : w.cell? ⟨M, 12, none⟩ = some (.int .i64 (u : Int)) ∧ w.cell? ⟨M, 13, none⟩ = some (.int .i64 (er : Int)) := by
  obtain ⟨ov, h1, _⟩ := h.obj
  exact ⟨cell_of h1 rfl, cell_of h1 rfl⟩
set_option maxHeartbeats 400000 in
set_option maxRecDepth 100000 in
theorem step_onI (w : World) (lo R M B : Nat) (bs : List Nat) (most : Nat) (hmost : most ≤ 2147483648) (hg : Gi w) (hlo : 0 < lo) (s0 : St) (h : Mx w lo R M B bs most s0) (n0 : Int) (hn0 : n0 ≤ 9223372036854775807) (hn1 : -9223372036854775808 ≤ n0) :
    Calls Tryz.prog 22 #[.pointer (some ⟨M, 0, none⟩), .int .i64 n0] w fun e w' => ∃ b, e = .returned (.bool b) ∧ w'.cell? ⟨M, 14, none⟩ = some (.bool b) ∧ Fl lo w w' ∧ Sl lo R M B bs most s0 n0 w' := by
  have q14 := h.md.2.2.2
  have H := hide (slice_c w lo R M B bs most hmost hg hlo s0 h n0 hn0 hn1)
  clear h hg
  go_enter Tryz.func22, Tryz.ntmps22
  go_wp2_with fail
  refine H.out.mono ?_
  rintro e w1 ⟨rfl, hF, hS⟩
  have hb : ∃ b, w1.cell? ⟨M, 14, none⟩ = some (.bool b) := by
    cases hS with
    | on s h _ _ _ => exact ⟨false, h.md.2.2.2⟩
    | fin r _ h _ => exact ⟨true, h.mf.cell14⟩
  obtain ⟨b, hb⟩ := hb
  have HF := hide hF
  have HS := hide hS
  clear hF hS
  go_wp2
  go_ret
  exact ⟨b, rfl, hb, HF.out, HS.out⟩
set_option maxHeartbeats 400000 in
set_option maxRecDepth 100000 in
theorem step_doneI (w : World) (M : Nat) (n0 : Int) (q14 : w.cell? ⟨M, 14, none⟩ = some (.bool true)) :
    Calls Tryz.prog 22 #[.pointer (some ⟨M, 0, none⟩), .int .i64 n0] w fun e w' => e = .returned (.bool true) ∧ w = w' := by
  go_enter Tryz.func22, Tryz.ntmps22
  go_wp2
  go_ret
  exact ⟨rfl, rfl⟩
set_option maxHeartbeats 800000 in
set_option maxRecDepth 100000 in
theorem new_neg (sv : Value) (n : Nat) (c : Nat) (a : Option Addr) (_hs : sv = .slice a n c) (most : Int) (hm : most < 0) (w : World) :
    Calls Tryz.prog 21 #[sv, .int .i64 most] w fun e w' => ∃ M, e = .returned (.pointer (some ⟨M, 0, none⟩)) ∧ Mf w' M [] 0 1 ∧ M < w'.heap.size ∧ Fr (fun _ => False) w w' := by
  go_enter Tryz.func21, Tryz.ntmps21
  go_wp2
  go_ret
  exact ⟨_, rfl, ⟨_, heap_alloc_new _ _, ⟨0, World.ownsRow_nil _ _ _ _⟩, fun g hg => by cases hg⟩, by simp, Fr.of_alloc _ _⟩
set_option maxHeartbeats 800000 in
set_option maxRecDepth 100000 in
theorem new_pos (sv : Value) (bs : List Nat) (most : Nat) (w : World) (h : Lies w sv bs) (hlt : ∀ b ∈ bs, b < 256) (hlen : bs.length ≤ 2147483648) :
    Calls Tryz.prog 21 #[sv, .int .i64 (most : Int)] w fun e w' => ∃ M B R, e = .returned (.pointer (some ⟨M, 0, none⟩)) ∧ Mx w' w.heap.size R M B bs most init ∧ Fr (fun _ => False) w w' := by
  obtain ⟨a, n, c, rfl, hn⟩ : ∃ a n c, sv = .slice a n c ∧ n = bs.length := by
    rcases h with ⟨rfl, rfl⟩ | ⟨ad, c, rfl, _⟩
    · exact ⟨none, 0, 0, rfl, rfl⟩
    · exact ⟨some ad, bs.length, c, rfl, rfl⟩
  have HN := hide (newLow_c (.slice a n c) bs w h hlt hlen)
  have Hn := hide hn
  clear h hlt hn hlen
  go_enter Tryz.func21, Tryz.ntmps21
  go_wp2_with fail
  refine HN.out.mono ?_
  rintro e w1 ⟨B, rfl, hR, hF⟩
  have HR := hide hR
  have HF := hide hF
  clear hR hF
  go_wp2
  go_ret
  obtain ⟨M, hM⟩ : ∃ M, M = w1.heap.size := ⟨_, rfl⟩
  rw [← hM]
  have fr := Fr.of_alloc w1 (.cells (mcells B n most 0 false 0 0 (.pointer none) (.pointer none) (.pointer none) (.pointer none) (.slice none 0 0)) 78)
  refine ⟨M, B, w1.heap.size, rfl, ⟨0, 0, .pointer none, .pointer none, .pointer none, .pointer none, .slice none 0 0, ⟨HR.out.keep fr (fun _ _ _ h => h), by omega, ?_, World.ownsRow_nil _ _ _ _, fun g hg => by cases hg⟩, trivial, Or.inl rfl, (fun x hx => by cases hx), Nat.zero_le _⟩, HF.out.join fr⟩
  rw [← Hn.out]
  exact heap_alloc_at hM
theorem own_mono {w : World} {lo lo' : Nat} {e : TypeId} {size : Nat} {v : Value} {n : Nat} {xs : List Value} (h : w.ownsRow lo e size v n xs) (hl : lo' ≤ lo) : w.ownsRow lo' e size v n xs :=
  ⟨h.1, h.2.imp id fun ⟨g, cap, cur, hv, hg, r⟩ => ⟨g, cap, cur, hv, Nat.le_trans hl hg, r⟩⟩
theorem AllOk.len {bs : List Nat} {most : Int} {r : Except Nat (List Nat × Nat)} (h : AllOk bs most r) (hm : most ≤ 2147483647) : (outOf r).length ≤ 2147483647 := by
  rcases h with ⟨_, rfl⟩ | ⟨h1, h2⟩
  · exact Nat.zero_le _
  · have := h2.out_most (Nat.zero_le _)
    omega
set_option maxHeartbeats 1600000 in
set_option maxRecDepth 100000 in
theorem all_cI (sv : Value) (bs : List Nat) (most : Int) (w : World) (h : Lies w sv bs) (hlt : ∀ b ∈ bs, b < 256) (hlen : bs.length ≤ 2147483648) (hm : most ≤ 2147483647) (hg : Gi w) (h0 : 0 < w.heap.size) :
    Calls Tryz.prog 14 #[sv, .int .i64 most] w fun e w' => ∃ r a c, AllOk bs most r ∧ e = .returned (.tuple #[.slice a (outOf r).length c, .int .i64 (usedOf r : Int), .int .i64 (errOf r : Int)]) ∧
      w'.ownsRow w.heap.size 5 1 (.slice a (outOf r).length c) (outOf r).length (cellsOf (outOf r)) ∧ Fr (fun _ => False) w w' := by
  -- what New and the first Step come to
  have key : Calls Tryz.prog 21 #[sv, .int .i64 most] w fun e w1 => ∃ M, e = .returned (.pointer (some ⟨M, 0, none⟩)) ∧ Fr (fun _ => False) w w1 ∧
      Calls Tryz.prog 22 #[.pointer (some ⟨M, 0, none⟩), .int .i64 9223372036854775807] w1 fun e w2 => e = .returned (.bool true) ∧ Fr (fun _ => False) w w2 ∧ ∃ r, AllOk bs most r ∧ Mf w2 M (outOf r) (usedOf r) (errOf r) := by
    by_cases hneg : most < 0
    · obtain ⟨a, n, c, hs⟩ : ∃ a n c, sv = .slice a n c := by
        rcases h with ⟨rfl, _⟩ | ⟨ad, c, rfl, _⟩
        · exact ⟨none, 0, 0, rfl⟩
        · exact ⟨some ad, _, c, rfl⟩
      refine (new_neg sv n c a hs most hneg w).mono ?_
      rintro e w1 ⟨M, rfl, hM, _, hF⟩
      refine ⟨M, rfl, hF, (step_doneI w1 M _ hM.cell14).mono ?_⟩
      rintro e w2 ⟨rfl, rfl⟩
      exact ⟨rfl, hF, .error 1, Or.inl ⟨hneg, rfl⟩, hM⟩
    · obtain ⟨m, rfl⟩ : ∃ m : Nat, most = (m : Int) := ⟨most.toNat, by omega⟩
      refine (new_pos sv bs m w h hlt hlen).mono ?_
      rintro e w1 ⟨M, B, R, rfl, hX, hF⟩
      refine ⟨M, rfl, hF, (step_onI w1 w.heap.size R M B bs m (by omega) (hg.keep hF (fun h => h)) h0 init hX 9223372036854775807 (by omega) (by omega)).mono ?_⟩
      rintro e w2 ⟨b, rfl, hb, hF2, hS⟩
      have fr : Fr (fun _ => False) w w2 := (hF.trans hF2).mono fun k hk h => h.elim id (fun e => by omega)
      cases hS with
      | on s hX2 _ _ h1 =>
        exfalso
        have h2 := h1 (by omega)
        obtain ⟨_, _, _, _, _, _, _, _, _, _, _, ho⟩ := hX2
        have e0 : (init.out.length : Int) = 0 := rfl
        omega
      | fin r hr hM _ =>
        have hM' := hM.mf
        have := hM'.cell14
        rw [hb] at this
        cases this
        exact ⟨rfl, fr, r, Or.inr ⟨by omega, hr⟩, hM'⟩
  have Hkey := hide key
  clear key h hlt hg
  go_enter Tryz.func14, Tryz.ntmps14
  go_wp2_with fail
  refine Hkey.out.mono ?_
  rintro e w1 ⟨M, rfl, hF1, hst⟩
  have HF1 := hide hF1
  have Hst := hide hst
  clear hF1 hst
  go_wp2
  go_loopw [] (fun wr => Hid (w1 = wr)) (fun _ => 0)
  case atStart => exact rfl
  case round =>
    obtain rfl := hrel.out
    clear hrel
    go_wp2_with fail
    refine Hst.out.mono ?_
    rintro e w2 ⟨rfl, hF2, r, hA, hM⟩
    have HF2 := hide hF2
    have HA := hide hA
    have HM := hide hM
    obtain ⟨q12, q13⟩ := hM.cells
    clear hF2 hA hM
    go_wp2_with fail
    refine (out_cI M (outOf r) _ _ w2 HM.out (by have := HA.out.len hm; omega)).mono ?_
    rintro e w3 ⟨a, c, rfl, hown, hF3⟩
    have hM3 := HM.out.keep hF3
    obtain ⟨q12, q13⟩ := hM3.cells
    have Hown := hide hown
    have HF3 := hide (HF2.out.join hF3)
    have Hs2 := HF2.out.size
    clear hown hF3 hM3
    go_wp2_with fail
    refine (used_c _ M w3 q12).mono ?_
    rintro e w4 ⟨rfl, rfl⟩
    go_wp2_with fail
    refine (err_c _ M w3 q13).mono ?_
    rintro e w4 ⟨rfl, rfl⟩
    go_wp2
    go_ret3
    exact ⟨r, a, c, HA.out, rfl, own_mono Hown.out Hs2, HF3.out⟩
end Go.Proofs.YtdpmpllbdoefdaaGreatDoor
namespace Go.Proofs.YtdpmpllbdoefdaaGreatDoor
open Go.RowKit
end Go.Proofs.YtdpmpllbdoefdaaGreatDoor
namespace Go.Proofs.YtdpmpllbdoefdaaGreatDoor
open Go.RowKit
theorem all_at (sv : Value) (bs : List Nat) (most : Int) (w : World) (h : Lies w sv bs) (hlt : ∀ b ∈ bs, b < 256) (hlen : bs.length ≤ 2147483648) (hm : most ≤ 2147483647) (hg : Gw w) :
    Calls Tryz.prog 14 #[sv, .int .i64 most] w fun e w' => ∃ r a c, AllOk bs most r ∧ e = .returned (.tuple #[.slice a (outOf r).length c, .int .i64 (usedOf r : Int), .int .i64 (errOf r : Int)]) ∧ Lies w' (.slice a (outOf r).length c) (outOf r) ∧ Fr (fun _ => False) w w' :=
  (all_cI sv bs most w h hlt hlen hm hg.gi (by have := hg.pos; omega)).mono fun _ _ ⟨r, a, c, h1, h2, h3, h4⟩ => ⟨r, a, c, h1, h2, lies_ownI h3, h4⟩
end Go.Proofs.YtdpmpllbdoefdaaGreatDoor
namespace Go.Proofs.YtdpmpllbdoefdaaGreatDoor
open Go.RowKit
def openOf (bs : List Nat) (r : Except Nat (List Nat × Nat)) : List Nat × Nat :=
  if errOf r ≠ 0 then ([], errOf r) else if sumErr (bs.drop (2 + usedOf r)) (outOf r) ≠ 0 then ([], sumErr (bs.drop (2 + usedOf r)) (outOf r)) else (outOf r, 0)
def OpenOk (bs : List Nat) (most : Int) (x : List Nat × Nat) : Prop :=
  (bs.length < 6 ∧ x = ([], 2)) ∨ (6 ≤ bs.length ∧ headOk (bs.getD 0 0) (bs.getD 1 0) = false ∧ x = ([], 4)) ∨ (6 ≤ bs.length ∧ headOk (bs.getD 0 0) (bs.getD 1 0) = true ∧ ∃ r, AllOk (bs.drop 2) most r ∧ x = openOf bs r)
theorem OpenOk.det {bs : List Nat} {most : Int} {x y : List Nat × Nat} (h : OpenOk bs most x) (k : OpenOk bs most y) : x = y := by
  rcases h with ⟨h1, rfl⟩ | ⟨h1, h2, rfl⟩ | ⟨h1, h2, r, h3, rfl⟩ <;> rcases k with ⟨k1, rfl⟩ | ⟨k1, k2, rfl⟩ | ⟨k1, k2, q, k3, rfl⟩
  · rfl
  · omega
  · omega
  · omega
  · rfl
  · rw [h2] at k2; cases k2
  · omega
  · rw [h2] at k2; cases k2
  · rw [h3.det k3]
theorem AllOk.used {bs : List Nat} {most : Int} {r : Except Nat (List Nat × Nat)} (h : AllOk bs most r) : usedOf r ≤ bs.length := by
  rcases h with ⟨_, rfl⟩ | ⟨_, h⟩
  · exact Nat.zero_le _
  · cases r with
    | error e => exact Nat.zero_le _
    | ok x =>
      obtain ⟨x, p⟩ := x
      have := h.end_le (by omega) (by show (0 : Nat) ≤ _; omega)
      show (p + 7) / 8 ≤ _
      omega
theorem sub_bytes {bs : List Nat} (h : ∀ b ∈ bs, b < 256) (n : Nat) : ∀ b ∈ bs.drop n, b < 256 := fun b hb => h b (List.mem_of_mem_drop hb)
theorem drop_lies {w : World} {ad : Addr} {m c : Nat} {bs : List Nat} (h : Lies w (.slice (some ad) m c) bs) (n c' : Nat) : Lies w (.slice (some (ad.add n)) (bs.drop n).length c') (bs.drop n) := by
  rcases h with ⟨e, _⟩ | ⟨ad', c2, e, hc⟩
  · cases e
  · cases e
    refine Or.inr ⟨ad.add n, c', rfl, fun j u hu => ?_⟩
    have e1 : (ad.add n).add j = ad.add (n + j) := by
      unfold Addr.add
      by_cases h1 : n = 0 <;> by_cases h2 : j = 0 <;> simp_all [Nat.add_assoc]
    rw [e1]
    refine hc (n + j) u ?_
    rw [← hu]
    simp [cellsOf]
def Opd (w : World) (bs : List Nat) (most : Int) (e : Ending) (w' : World) : Prop :=
  ∃ x a c, OpenOk bs most x ∧ e = .returned (.tuple #[.slice a x.1.length c, .int .i64 (x.2 : Int)]) ∧ Lies w' (.slice a x.1.length c) x.1 ∧ Fr (fun _ => False) w w'
set_option maxHeartbeats 1600000 in
set_option maxRecDepth 100000 in
theorem open_c (a : Option Addr) (c : Nat) (bs : List Nat) (most : Int) (w : World) (hl : Lies w (.slice a bs.length c) bs) (hb : ∀ b ∈ bs, b < 256) (hlen : bs.length ≤ 2147483648) (hc : bs.length ≤ c) (hm : most ≤ 2147480000) (hg : Gw w) :
    Calls Tryz.prog 8 #[.slice a bs.length c, .int .i64 most] w (Opd w bs most) := by
  by_cases h6 : bs.length < 6
  · have h6i : (bs.length : Int) < 6 := by omega
    go_enter Tryz.func8, Tryz.ntmps8
    go_wp2_with fail
    go_ret2
    exact ⟨([], 2), none, 0, Or.inl ⟨h6, rfl⟩, rfl, Or.inl ⟨rfl, rfl⟩, Fr.refl _ _⟩
  have h6i : ¬ (bs.length : Int) < 6 := by omega
  obtain ⟨ad, rfl, c0⟩ := (Lz.of hl hb).2 0 (by omega)
  obtain ⟨ad', e', c1⟩ := (Lz.of hl hb).2 1 (by omega)
  cases e'
  have b0 : bs.getD 0 0 < 256 := hb _ (getD_mem bs 0 (by omega))
  have b1 : bs.getD 1 0 < 256 := hb _ (getD_mem bs 1 (by omega))
  obtain ⟨x0, e0⟩ : ∃ x0, x0 = bs.getD 0 0 := ⟨_, rfl⟩
  obtain ⟨x1, e1⟩ : ∃ x1, x1 = bs.getD 1 0 := ⟨_, rfl⟩
  rw [← e0] at c0 b0
  rw [← e1] at c1 b1
  have c0' : w.cell? ad = some (.int .u8 (x0 : Int)) := c0
  have c1' : w.cell? ⟨ad.block, ad.off + 1, none⟩ = some (.int .u8 (x1 : Int)) := c1
  obtain ⟨n, hn⟩ : ∃ n, n = bs.length := ⟨_, rfl⟩
  have k0 : (0 : Int) < (n : Int) := by omega
  have k1 : (1 : Int) < (n : Int) := by omega
  have k0n : 0 < n := by omega
  have k1n : 1 < n := by omega
  have E0 := hide e0
  have E1 := hide e1
  have HL := hide hl
  have Hb := hide hb
  have Hg := hide hg
  rw [← hn] at h6i ⊢
  have Hn := hide hn
  have hn6 : 6 ≤ n := by omega
  have hn31 : n ≤ 2147483648 := by omega
  have hcn : n ≤ c := by omega
  clear hl hb hg e0 e1 hn h6 hc hlen
  obtain ⟨q, hq⟩ : ∃ q, q = headOk x0 x1 := ⟨_, rfl⟩
  have HH : Hid (∀ w', Calls Tryz.prog 13 #[.int .u8 (x0 : Int), .int .u8 (x1 : Int)] w' fun e w'' => e = .returned (.bool q) ∧ w' = w'') := fun w' => by rw [hq]; exact mayBeHead_c x0 x1 b0 b1 w'
  have Hq := hide hq
  have HC : Hid (∀ w', Fr (fun _ => False) w w' → w'.cell? ad = some (.int .u8 (x0 : Int)) ∧ w'.cell? ⟨ad.block, ad.off + 1, none⟩ = some (.int .u8 (x1 : Int))) := fun w' F => ⟨(cell_blk (F.block _ (cell_lt c0') (fun h => h))).trans c0', (cell_blk (F.block _ (cell_lt c1') (fun h => h))).trans c1'⟩
  clear hq c0 c1 c0' c1'
  go_enter Tryz.func8, Tryz.ntmps8
  go_upto_region 3 with fail
  refine wp_region_held_drew (S := fun W' => Fr (fun _ => False) w W') (by kernel_rfl) (Fr.of_drewN w 1) (fun hHeld => ?_)
  refine wpAnyH_take (i := 0) (v := ?v0) rfl (by kernel_rfl) (by kernel_rfl) (by kernel_rfl) (fun _ _ _ h => h) (Or.inl ⟨by rfl, ?hy0⟩) hHeld ?rest0
  case hy0 => (intro W hSw; (try dsimp only at hSw); obtain ⟨s0, s1⟩ := HC.out _ hSw; go_simp; all_goals (with_reducible rfl))
  change wpAnyH _ _ _ _ _ _ _ (Act.put _ (some 13) _) _
  simp only [Act.put, List.setIfInBounds_toArray, List.set_cons_zero, List.set_cons_succ]
  refine wpAnyH_take (i := 3) (v := ?v3) rfl (by kernel_rfl) (by kernel_rfl) (by kernel_rfl) (fun _ _ _ h => h) (Or.inl ⟨by rfl, ?hy3⟩) hHeld ?rest3
  case hy3 => (intro W hSw; (try dsimp only at hSw); obtain ⟨s0, s1⟩ := HC.out _ hSw; go_simp; all_goals (with_reducible rfl))
  change wpAnyH _ _ _ _ _ _ _ (Act.put _ (some 16) _) _
  simp only [Act.put, List.setIfInBounds_toArray, List.set_cons_zero, List.set_cons_succ]
  refine wpAnyH_take (i := 1) (v := ?v1) rfl (by kernel_rfl) (by kernel_rfl) (by kernel_rfl) (fun _ _ _ h => h) (Or.inl ⟨by rfl, ?hy1⟩) hHeld ?rest1
  case hy1 => (intro W hSw; (try dsimp only at hSw); obtain ⟨s0, s1⟩ := HC.out _ hSw; go_simp; all_goals (with_reducible rfl))
  change wpAnyH _ _ _ _ _ _ _ (Act.put _ (some 14) _) _
  simp only [Act.put, List.setIfInBounds_toArray, List.set_cons_zero, List.set_cons_succ]
  refine wpAnyH_take (i := 4) (v := ?v4) rfl (by kernel_rfl) (by kernel_rfl) (by kernel_rfl) (fun _ _ _ h => h) (Or.inl ⟨by rfl, ?hy4⟩) hHeld ?rest4
  case hy4 => (intro W hSw; (try dsimp only at hSw); obtain ⟨s0, s1⟩ := HC.out _ hSw; go_simp; all_goals (with_reducible rfl))
  change wpAnyH _ _ _ _ _ _ _ (Act.put _ (some 17) _) _
  simp only [Act.put, List.setIfInBounds_toArray, List.set_cons_zero, List.set_cons_succ]
  refine wpAnyH_take (i := 2) (v := ?v2) rfl (by kernel_rfl) (by kernel_rfl) (by kernel_rfl) (fun _ _ _ h => h) (Or.inl ⟨by rfl, ?hy2⟩) hHeld ?rest2
  case hy2 => (intro W hSw; (try dsimp only at hSw); obtain ⟨s0, s1⟩ := HC.out _ hSw; go_simp; all_goals (with_reducible rfl))
  change wpAnyH _ _ _ _ _ _ _ (Act.put _ (some 15) _) _
  simp only [Act.put, List.setIfInBounds_toArray, List.set_cons_zero, List.set_cons_succ]
  refine wpAnyH_take (i := 5) (v := ?v5) rfl (by kernel_rfl) (by kernel_rfl) (by kernel_rfl) (fun _ _ _ h => h) (Or.inl ⟨by rfl, ?hy5⟩) hHeld ?rest5
  case hy5 => (intro W hSw; (try dsimp only at hSw); obtain ⟨s0, s1⟩ := HC.out _ hSw; go_simp; all_goals (with_reducible rfl))
  change wpAnyH _ _ _ _ _ _ _ (Act.put _ (some 18) _) _
  simp only [Act.put, List.setIfInBounds_toArray, List.set_cons_zero, List.set_cons_succ]
  refine wpAnyH_ready (rs := [6]) (by kernel_rfl) (by simp) ?_
  refine AllReadyH.cons rfl (fun K hK => ?_) AllReadyH.nil
  try simp only [List.getElem_toArray, List.getElem_cons_succ, List.getElem_cons_zero]
  go_simp
  refine (HH.out _).mono ?_
  rintro e w1 ⟨rfl, rfl⟩
  refine hK.out _ _ hHeld (fun hHeld => ?_)
  clear hK K
  refine wpAnyH_take (i := 7) (v := ?v7) rfl (by kernel_rfl) (by kernel_rfl) (by kernel_rfl) (fun _ _ _ h => h) (Or.inl ⟨by rfl, ?hy7⟩) hHeld ?rest7
  case hy7 => (intro W hSw; (try dsimp only at hSw); obtain ⟨s0, s1⟩ := HC.out _ hSw; go_simp; all_goals (with_reducible rfl))
  change wpAnyH _ _ _ _ _ _ _ (Act.put _ (some 20) _) _
  simp only [Act.put, List.setIfInBounds_toArray, List.set_cons_zero, List.set_cons_succ]
  refine wpAnyH_done (by kernel_rfl) ?_ _
  have HF1 := hide hHeld
  generalize w.drew = w1 at HF1 ⊢
  clear hHeld
  cases q with
  | false =>
    go_wp2_with fail
    go_ret2
    exact ⟨([], 4), none, 0, Or.inr (Or.inl ⟨by rw [← Hn.out]; exact hn6, by rw [← E0.out, ← E1.out]; exact Hq.out.symm, rfl⟩), rfl, Or.inl ⟨rfl, rfl⟩, HF1.out⟩
  | true =>
    have hc2 : ¬ c = 2 := by omega
    have h2n : (2 : Int) ≤ (n : Int) := by omega
    have h2n' : 2 ≤ n := by omega
    go_upto_region 5 with fail
    go_wp2_with fail
    have HD : Hid (Lies w1 (.slice (some ⟨ad.block, ad.off + 2, none⟩) (n - 2) (c - 2)) (bs.drop 2)) := by
      have h1 := lies_false HL.out HF1.out
      have h2 := drop_lies h1 2 (c - 2)
      rw [List.length_drop, ← Hn.out] at h2
      exact h2
    refine (all_at _ (bs.drop 2) most w1 HD.out (sub_bytes Hb.out 2) (by rw [List.length_drop, ← Hn.out]; omega) (by omega) (Hg.out.fr HF1.out)).mono ?_
    rintro e w2 ⟨r, oa, oc, hr, rfl, hlo, hF2⟩
    have HF2 := hide (HF1.out.join hF2)
    have hU := hr.used
    have hbo := hr.bytes
    have hlen := hr.len (by omega)
    have HO : Hid (OpenOk bs most (openOf bs r)) := Or.inr (Or.inr ⟨by rw [← Hn.out]; exact hn6, by rw [← E0.out, ← E1.out]; exact Hq.out.symm, r, hr, rfl⟩)
    rw [List.length_drop, ← Hn.out] at hU
    obtain ⟨out, eo⟩ : ∃ out, out = outOf r := ⟨_, rfl⟩
    obtain ⟨U, eU⟩ : ∃ U, U = usedOf r := ⟨_, rfl⟩
    obtain ⟨er, ee⟩ : ∃ er, er = errOf r := ⟨_, rfl⟩
    rw [← eo] at hlo hbo hlen
    rw [← eU] at hU
    rw [← eo, ← eU, ← ee]
    have Hlo := hide hlo
    have Hz := hide (Lz.of hlo hbo)
    have Eo := hide eo
    have EU := hide eU
    have Ee := hide ee
    clear hF2 hr hlo hbo eo eU ee HD
    by_cases her : er = 0
    · have h1 : (er : Int) = 0 := by omega
      rw [h1]
      obtain ⟨er2, es⟩ : ∃ er2, er2 = sumErr (bs.drop (2 + U)) out := ⟨_, rfl⟩
      have hop : openOf bs r = if er2 ≠ 0 then ([], er2) else (out, 0) := by
        unfold openOf
        rw [← Ee.out, if_neg (by omega), ← EU.out, ← Eo.out, ← es]
      have Hop := hide hop
      have Es := hide es
      have HR : Hid (Lz w2 (if c = 2 + U then some ad else some (ad.add (2 + U))) (bs.drop (2 + U))) := by
        have h1 := lies_false HL.out HF2.out
        by_cases hcU : c = 2 + U
        · refine ⟨sub_bytes Hb.out _, fun j hj => ?_⟩
          rw [List.length_drop, ← Hn.out] at hj
          omega
        · rw [if_neg hcU]
          exact Lz.of (drop_lies h1 (2 + U) c) (sub_bytes Hb.out _)
      have hUi : (2 : Int) + (U : Int) ≤ (n : Int) := by omega
      have hUn : 2 + U ≤ n := by omega
      clear hop es h1 her
      by_cases hcU : c = 2 + U
      · go_upto_region 8 with fail
        go_wp2_with fail
        have hck := checkSum_c (some (ad)) oa (0) oc (bs.drop (2 + U)) out w2 (by have h := HR.out; rw [if_pos hcU] at h; exact h) Hz.out (by rw [List.length_drop, ← Hn.out]; omega) (by omega)
        rw [List.length_drop, ← Hn.out, ← Es.out] at hck
        refine hck.mono ?_
        clear hck
        rintro e w3 ⟨rfl, hF3⟩
        have HF3 := hide (HF2.out.join hF3)
        have Hl3 := hide (lies_false Hlo.out hF3)
        clear hF3
        by_cases her2 : er2 = 0
        · have h3 : (er2 : Int) = 0 := by omega
          rw [h3]
          go_wp2_with fail
          go_ret2
          refine ⟨_, oa, oc, HO.out, ?_, ?_, HF3.out⟩
          · rw [Hop.out, if_neg (by omega)]
            rfl
          · rw [Hop.out, if_neg (by omega)]
            exact Hl3.out
        · have h3 : ((er2 : Int) == 0) = false := by rw [beq_eq_false_iff_ne]; omega
          have h3' : ¬ (er2 : Int) = 0 := by omega
          go_wp2_with fail
          go_ret2
          refine ⟨_, none, 0, HO.out, ?_, ?_, HF3.out⟩
          · rw [Hop.out, if_pos her2]
            rfl
          · rw [Hop.out, if_pos her2]
            exact Or.inl ⟨rfl, rfl⟩
      · go_upto_region 8 with fail
        go_wp2_with fail
        have hck := checkSum_c (some (ad.add (2 + U))) oa (c - (2 + U)) oc (bs.drop (2 + U)) out w2 (by have h := HR.out; rw [if_neg hcU] at h; exact h) Hz.out (by rw [List.length_drop, ← Hn.out]; omega) (by omega)
        rw [List.length_drop, ← Hn.out, ← Es.out] at hck
        refine hck.mono ?_
        clear hck
        rintro e w3 ⟨rfl, hF3⟩
        have HF3 := hide (HF2.out.join hF3)
        have Hl3 := hide (lies_false Hlo.out hF3)
        clear hF3
        by_cases her2 : er2 = 0
        · have h3 : (er2 : Int) = 0 := by omega
          rw [h3]
          go_wp2_with fail
          go_ret2
          refine ⟨_, oa, oc, HO.out, ?_, ?_, HF3.out⟩
          · rw [Hop.out, if_neg (by omega)]
            rfl
          · rw [Hop.out, if_neg (by omega)]
            exact Hl3.out
        · have h3 : ((er2 : Int) == 0) = false := by rw [beq_eq_false_iff_ne]; omega
          have h3' : ¬ (er2 : Int) = 0 := by omega
          go_wp2_with fail
          go_ret2
          refine ⟨_, none, 0, HO.out, ?_, ?_, HF3.out⟩
          · rw [Hop.out, if_pos her2]
            rfl
          · rw [Hop.out, if_pos her2]
            exact Or.inl ⟨rfl, rfl⟩
    · have h1 : ((er : Int) == 0) = false := by rw [beq_eq_false_iff_ne]; omega
      have h1' : ¬ (er : Int) = 0 := by omega
      go_wp2_with fail
      go_ret2
      refine ⟨_, none, 0, HO.out, ?_, ?_, HF2.out⟩
      · unfold openOf
        rw [← Ee.out, if_pos her]
        rfl
      · unfold openOf
        rw [← Ee.out, if_pos her]
        exact Or.inl ⟨rfl, rfl⟩
end Go.Proofs.YtdpmpllbdoefdaaGreatDoor
namespace Go.Proofs.YtdpmpllbdoefdaaGreatDoor
open Go.RowKit
end Go.Proofs.YtdpmpllbdoefdaaGreatDoor
namespace Go.Proofs.YtdpmpllbdoefdaaGreatDoor
open Go.RowKit
theorem open_tail {bs os : List Nat} (a b : Nat) (t : List Nat) (hab : headOk a b = true) (hb : ∀ b ∈ bs, b < 256) (h : Stream bs os) (m : Nat) (hm : bs.length ≤ m) (h6 : 4 ≤ os.length + t.length) :
    OpenOk ([a, b] ++ os ++ t) (m : Int) (if sumErr t bs ≠ 0 then ([], sumErr t bs) else (bs, 0)) := by
  obtain ⟨r, r1, r2, r3, r4⟩ := inf_ok hb h t m hm
  refine Or.inr (Or.inr ⟨by simp; omega, hab, r, by simpa using r1, ?_⟩)
  unfold openOf
  have h4 : ¬ errOf r ≠ 0 := by omega
  rw [if_neg h4, r2, r3]
  have e : ([a, b] ++ os ++ t).drop (2 + os.length) = t := by
    rw [List.append_assoc, show ([a, b] ++ (os ++ t)) = [a, b] ++ os ++ t by simp, List.drop_append_of_le_length (by simp; omega)]
    simp [show 2 + os.length = os.length + 2 by omega]
  rw [e]
theorem sumErr_ok (bs : List Nat) : sumErr (sumB (adler 1 bs)) bs = 0 := by
  simp [sumErr, sumB]
theorem open_close {bs os : List Nat} (hb : ∀ b ∈ bs, b < 256) (h : Stream bs os) (m : Nat) (hm : bs.length ≤ m) : OpenOk (zl os bs) (m : Int) (bs, 0) := by
  have := open_tail 120 1 (sumB (adler 1 bs)) (by decide) hb h m hm (by simp [sumB])
  rw [sumErr_ok] at this
  exact this
theorem zl_bytes {os bs : List Nat} (h : ∀ b ∈ os, b < 256) : ∀ b ∈ zl os bs, b < 256 := by
  intro b hb
  simp only [zl, List.mem_append] at hb
  rcases hb with (hb | hb) | hb
  · simp at hb; omega
  · exact h b hb
  · exact sumB_lt _ b hb
theorem known_open : OpenOk [120, 1, 3, 0, 0, 0, 0, 1] 0 ([], 0) := by
  refine Or.inr (Or.inr ⟨by decide, by decide, .ok ([], 10), Or.inr ⟨by decide, ?_⟩, by decide +kernel⟩)
  exact .go (s' := ⟨3, true, [], .coded fixL fixD⟩) (by kernel_rfl) (.go (s' := ⟨10, true, [], .ahead⟩) (by kernel_rfl) (.done (by kernel_rfl)))
theorem own_capZ {w : World} {lo n c : Nat} {a : Option Addr} {xs : List Value} (h : w.ownsRow lo 5 1 (.slice a n c) n xs) : n ≤ c := by
  rcases h.2 with ⟨hv, e0⟩ | ⟨g, cap, cur, hv, _, _, hr, _⟩
  · omega
  · obtain ⟨_, _, e3⟩ := Value.slice.inj hv; omega
set_option maxHeartbeats 1600000 in
set_option maxRecDepth 100000 in
theorem awake_c (w : World) (hg : Gw w) : Calls Tryz.prog 7 #[] w fun e w' => e = .returned (.bool true) ∧ Fr (fun _ => False) w w' := by
  obtain ⟨w1, hw1⟩ : ∃ w1, w1 = w.alloc (.cells (cellsOf [120, 1, 3, 0, 0, 0, 0, 1]).toArray 5) := ⟨_, rfl⟩
  have hF1 : Fr (fun _ => False) w w1 := by rw [hw1]; exact Fr.of_alloc _ _
  have hl1 : Lies w1 (.slice (some ⟨w.heap.size, 0, none⟩) 8 8) [120, 1, 3, 0, 0, 0, 0, 1] := by rw [hw1]; exact lies_lit w _ 8
  have Ho := hide (open_c (some ⟨w.heap.size, 0, none⟩) 8 [120, 1, 3, 0, 0, 0, 0, 1] 0 w1 hl1 (by decide) (by decide) (by decide) (by decide) (hg.fr hF1))
  have HF1 := hide hF1
  have Hw1 := hide hw1
  have Hg := hide hg
  clear hw1 hF1 hl1 hg
  go_enter Tryz.func7, Tryz.ntmps7
  go_wp2_with fail
  have e1 : w.alloc (.cells #[.int .u8 120, .int .u8 1, .int .u8 3, .int .u8 0, .int .u8 0, .int .u8 0, .int .u8 0, .int .u8 1] 5) = w1 := Hw1.out.symm
  rw [e1]
  refine Ho.out.mono ?_
  rintro e w2 ⟨x, a2, c2, hx, rfl, hl2, hF2⟩
  obtain rfl := hx.det known_open
  have HF2 := hide (HF1.out.join hF2)
  clear hx hl2 hF2 e1
  obtain ⟨w3, hw3⟩ : ∃ w3, w3 = w2.alloc (.cells (cellsOf [97, 98, 99]).toArray 5 (3, 4)) := ⟨_, rfl⟩
  have kc : (convert 22 22 (.slice (some ⟨w2.heap.size, 0, none⟩) 3 3)).run Tryz.prog (w2.alloc (.cells #[.int .u8 97, .int .u8 98, .int .u8 99] 5)) = .ok (.slice (some ⟨w2.heap.size, 0, none⟩) 3 3) w3 := by
    rw [hw3]; exact Lib.run_convert_bytes_const (P := Tryz.prog) w2 22 5 (cellsOf [97, 98, 99]).toArray 3 3 Tryz.underlying22 Tryz.underlying5
  have hF3 : Fr (fun _ => False) w2 w3 := by rw [hw3]; exact Fr.of_alloc _ _
  have hl3 : Lies w3 (.slice (some ⟨w2.heap.size, 0, none⟩) 3 3) [97, 98, 99] := by
    rw [hw3]
    exact Or.inr ⟨⟨w2.heap.size, 0, none⟩, 3, rfl, fun j u hu => by
      rw [Addr.add_mid, Nat.zero_add, World.cell?_alloc_mark]
      simpa using hu⟩
  have Hc := hide (close_c (some ⟨w2.heap.size, 0, none⟩) 3 [97, 98, 99] w3 hl3 (by decide) (by decide) (Hg.out.fr (HF2.out.join hF3)).gl)
  have HF3 := hide (HF2.out.join hF3)
  clear hw3 hF3 hl3
  go_wp2_with fail
  refine Hc.out.mono ?_
  rintro e w4 ⟨os, ra, rc, hst, rfl, hO4, hF4⟩
  have HF4 := hide (HF3.out.join hF4)
  have hop := open_close (bs := [97, 98, 99]) (by decide) hst 3 (by decide)
  have hle := hst.len (by decide)
  have hzl := zl_length os [97, 98, 99]
  have h31 : (zl os [97, 98, 99]).length ≤ 2147483648 := by
    rw [hzl]
    have : mostF [97, 98, 99].length = 13 := by decide
    omega
  have Ho4 := hide (open_c ra rc (zl os [97, 98, 99]) 3 w4 (lies_own hO4) (zl_bytes hst.bytes) h31 (own_capZ hO4) (by decide) (Hg.out.fr HF4.out))
  have Hop := hide hop
  generalize zl os [97, 98, 99] = Z at Ho4 Hop ⊢
  clear hop hle hzl h31 hst hO4 hF4 kc
  go_wp2_with fail
  refine Ho4.out.mono ?_
  rintro e w5 ⟨x, a5, c5, hx, rfl, hl5, hF5⟩
  obtain rfl := hx.det Hop.out
  have HF5 := hide (HF4.out.join hF5)
  have hl5b : Lies w5 (.slice a5 3 c5) [97, 98, 99] := hl5
  have s1 := str_lies hl5b (by decide)
  have s2 : ((strOf [97, 98, 99]).toList == [97, 98, 99]) = true := by rw [ByteArray.toList_eq]; decide
  clear hx hl5 hF5 hl5b
  go_wp2
  go_ret
  exact ⟨rfl, HF5.out⟩
end Go.Proofs.YtdpmpllbdoefdaaGreatDoor
namespace Go.Proofs.YtdpmpllbdoefdaaGreatDoor
open Go.ChangeShapes Go.WideShapes Go.ChangeAt Go.RowKit
theorem own' : ownKnob Tryz.prog.godebug = none := by kernel_rfl
theorem laidOut : laidOutB Tryz.prog = true := by kernel_rfl
theorem gOrd : Tryz.prog.globalNamed "engraver/deflate.lengthOrder" = some 1 := by kernel_rfl
theorem tOrd : (Tryz.prog.globals[1]?).map (·.type) = some 156 := by kernel_rfl
theorem gOri : Tryz.prog.globalNamed "engraver/inflate.lengthOrder" = some 0 := by kernel_rfl
theorem tOri : (Tryz.prog.globals[0]?).map (·.type) = some 156 := by kernel_rfl
abbrev laidL {H : Type} : List (String × DataW H) := [("engraver/deflate.lengthOrder", Rows.laid_engraver_deflate_lengthOrder), ("engraver/inflate.lengthOrder", Rows.laid_engraver_inflate_lengthOrder)]
theorem door_met (os : Os) (args : Array Value) : laidMetH Tryz.prog laidL ((World.doorLaid Tryz.prog 400 os).forCall (fun _ _ => 0) ⟨#[], args, []⟩).memory :=
  laidMetH_of_parts3 (fuel := 8) (laidMet_of_run' 8 (by kernel_rfl) (by kernel_rfl)) (by kernel_rfl) (by kernel_rfl)
theorem of_laid {W : World} (h : laidMetH Tryz.prog laidL W) : Gw W := by
  rw [MakeChecks.laidMetH_plain _ _ _ (by kernel_rfl)] at h
  obtain ⟨ps, ⟨g0, t0, cs0, f0, p0, q0, hg0, ht0, hv0, hd0, ⟨g1, t1, cs1, f1, p1, q1, hg1, ht1, hv1, hd1, _, _⟩, _⟩, _, _⟩ := h
  obtain rfl := Option.some.inj (gOrd.symm.trans hg0)
  obtain rfl := Option.some.inj (tOrd.symm.trans ht0)
  obtain rfl := Option.some.inj (gOri.symm.trans hg1)
  obtain rfl := Option.some.inj (tOri.symm.trans ht1)
  have gl : Gl W := by
    clear hg1 ht1 hv1 hd1
    obtain ⟨xs, m1, rfl, hx1, hlen, hn3, hel⟩ := DataW.trod_array Tryz.underlying156 hd0
    have c3 : Tryz.prog.cellsOf 3 = 1 := by kernel_rfl
    simp only [Prod.mk.injEq] at hx1
    have key : ∀ i, i < 19 → W.cell? ⟨1, i, none⟩ = some (.int .i64 ((order.getD i 0 : Nat) : Int)) := by
      intro i hi
      have h1 := hel i hi
      obtain ⟨y, hy⟩ : ∃ y, xs[i]? = some y := ⟨_, List.getElem?_eq_getElem (by omega)⟩
      rw [hy] at h1
      obtain ⟨k, e1, e2, _⟩ := DataW.trod_int Tryz.underlying3 h1
      rw [c3, Nat.mul_one] at e1
      have hm : (xs.map fun x => x.fst)[i]? = some (.lit (.int .i64 k)) := by
        rw [List.getElem?_map, hy, e2]
        rfl
      have hl : ∃ l : List (DataW Unit), Rows.laid_engraver_deflate_lengthOrder = DataW.agg l ∧ l[i]? = some (.lit (.int .i64 ((order.getD i 0 : Nat) : Int))) := by
        refine ⟨_, rfl, ?_⟩
        have all : ∀ j : Fin 19, (order.map fun (n : Nat) => (DataW.lit (.int .i64 (n : Int)) : DataW Unit))[j.1]? = some (.lit (.int .i64 ((order.getD j.1 0 : Nat) : Int))) := by
          intro j
          have hj : j.1 < order.length := j.2
          rw [List.getElem?_map, List.getElem?_eq_getElem hj, List.getD_eq_getElem?_getD, List.getElem?_eq_getElem hj]
          rfl
        exact all ⟨i, hi⟩
      obtain ⟨l, hl1, hl2⟩ := hl
      rw [hl1] at hx1
      have hll : l = xs.map fun x => x.fst := by simpa using hx1.1
      rw [hll, hm] at hl2
      have hk : k = ((order.getD i 0 : Nat) : Int) := by simpa using hl2
      have hv := World.var?_cell hg0 hv0 i
      rw [hv]
      have : cs0.toList[i]? = some (.int .i64 k) := by
        have h2 : (List.take 1 (List.drop i cs0.toList))[0]? = some (.int .i64 k) := by rw [e1]; rfl
        rw [List.getElem?_take, if_pos (by decide), List.getElem?_drop] at h2
        exact h2
      rw [← Array.getElem?_toList, this, hk]
    exact key
  have gi : Gi W := by
    clear hg0 ht0 hv0 hd0
    obtain ⟨xs, m1, rfl, hx1, hlen, hn3, hel⟩ := DataW.trod_array Tryz.underlying156 hd1
    have c3 : Tryz.prog.cellsOf 3 = 1 := by kernel_rfl
    simp only [Prod.mk.injEq] at hx1
    have key : ∀ i, i < 19 → W.cell? ⟨0, i, none⟩ = some (.int .i64 ((order.getD i 0 : Nat) : Int)) := by
      intro i hi
      have h1 := hel i hi
      obtain ⟨y, hy⟩ : ∃ y, xs[i]? = some y := ⟨_, List.getElem?_eq_getElem (by omega)⟩
      rw [hy] at h1
      obtain ⟨k, e1, e2, _⟩ := DataW.trod_int Tryz.underlying3 h1
      rw [c3, Nat.mul_one] at e1
      have hm : (xs.map fun x => x.fst)[i]? = some (.lit (.int .i64 k)) := by
        rw [List.getElem?_map, hy, e2]
        rfl
      have hl : ∃ l : List (DataW Unit), Rows.laid_engraver_inflate_lengthOrder = DataW.agg l ∧ l[i]? = some (.lit (.int .i64 ((order.getD i 0 : Nat) : Int))) := by
        refine ⟨_, rfl, ?_⟩
        have all : ∀ j : Fin 19, (order.map fun (n : Nat) => (DataW.lit (.int .i64 (n : Int)) : DataW Unit))[j.1]? = some (.lit (.int .i64 ((order.getD j.1 0 : Nat) : Int))) := by
          intro j
          have hj : j.1 < order.length := j.2
          rw [List.getElem?_map, List.getElem?_eq_getElem hj, List.getD_eq_getElem?_getD, List.getElem?_eq_getElem hj]
          rfl
        exact all ⟨i, hi⟩
      obtain ⟨l, hl1, hl2⟩ := hl
      rw [hl1] at hx1
      have hll : l = xs.map fun x => x.fst := by simpa using hx1.1
      rw [hll, hm] at hl2
      have hk : k = ((order.getD i 0 : Nat) : Int) := by simpa using hl2
      have hv := World.var?_cell hg1 hv1 i
      rw [hv]
      have : cs1.toList[i]? = some (.int .i64 k) := by
        have h2 : (List.take 1 (List.drop i cs1.toList))[0]? = some (.int .i64 k) := by rw [e1]; rfl
        rw [List.getElem?_take, if_pos (by decide), List.getElem?_drop] at h2
        exact h2
      rw [← Array.getElem?_toList, this, hk]
    exact key
  exact ⟨gl, gi, cell_lt (gl 0 (by decide))⟩
def IsRow (k : IntKind) (w : World) (a : Option Addr) (len cap : Nat) (zs : List Int) : Prop :=
  (a = none ∧ len = 0 ∧ cap = 0 ∧ zs = []) ∨
  ∃ x, a = some x ∧ len ≤ cap ∧ cap ≤ maxLen ∧ zs.length = cap ∧ (∀ i, i < zs.length → w.cell? (x.add i) = some (.int k (zs.getD i 0))) ∧ ∀ n ∈ zs, (Lit.int k n).wf = true
theorem IsRow.len {k : IntKind} {w : World} {a : Option Addr} {len cap : Nat} {zs : List Int} (h : IsRow k w a len cap zs) : (zs.take len).length = len := by
  rcases h with ⟨_, rfl, _, rfl⟩ | ⟨x, rfl, hl, _, hz, _⟩
  · rfl
  · simp; omega
def bytesOf (len : Nat) (zs : List Int) : List Nat := (zs.take len).map Int.toNat
theorem wf_u8 {n : Int} (h : (Lit.int .u8 n).wf = true) : 0 ≤ n ∧ n < 256 := by
  have := bounds_u8 h
  omega
theorem IsRow.bytes {w : World} {a : Option Addr} {len cap : Nat} {zs : List Int} (h : IsRow .u8 w a len cap zs) :
    (bytesOf len zs).length = len ∧ (∀ b ∈ bytesOf len zs, b < 256) ∧ Lies w (.slice a (bytesOf len zs).length cap) (bytesOf len zs) ∧ ((bytesOf len zs) ≠ [] → ∀ ad, a = some ad → ad.block < w.heap.size) := by
  have hlen : (bytesOf len zs).length = len := by simp only [bytesOf, List.length_map]; exact h.len
  refine ⟨hlen, ?_, ?_, ?_⟩
  · intro b hb
    simp only [bytesOf, List.mem_map] at hb
    obtain ⟨z, hz, rfl⟩ := hb
    rcases h with ⟨_, rfl, _, rfl⟩ | ⟨x, rfl, hl, _, hzl, hc, hw⟩
    · simp at hz
    · have := wf_u8 (hw z (List.mem_of_mem_take hz))
      omega
  · rcases h with ⟨rfl, rfl, rfl, rfl⟩ | ⟨x, rfl, hl, hm, hzl, hc, hw⟩
    · exact Or.inl ⟨rfl, rfl⟩
    · refine Or.inr ⟨x, cap, rfl, fun j u hu => ?_⟩
      simp only [cellsOf, bytesOf, List.map_map, List.getElem?_map, Option.map_eq_some_iff] at hu
      obtain ⟨z, hz, rfl⟩ := hu
      rw [List.getElem?_take] at hz
      split at hz
      · have hj : j < zs.length := by
          rcases Nat.lt_or_ge j zs.length with h | h
          · exact h
          · rw [List.getElem?_eq_none h] at hz; cases hz
        have := hw z (List.mem_of_getElem? hz)
        rw [hc j hj, List.getD_eq_getElem?_getD, hz]
        have := wf_u8 this
        simp; omega
      · cases hz
  · intro hne ad e
    rcases h with ⟨rfl, rfl, rfl, rfl⟩ | ⟨x, rfl, hl, hm, hzl, hc, hw⟩
    · cases e
    · cases e
      have hpos : 0 < len := by rw [← hlen]; exact List.length_pos_iff.2 hne
      have := World.block_lt_of_cell? _ _ (hc 0 (by omega))
      simpa [Addr.add] using this
end Go.Proofs.YtdpmpllbdoefdaaGreatDoor

/-
  Contracts of repeating an int, of growing and joining rows of ints.
-/
import Derived.Test.YtleeaofofofgmaaDoorMk
import Derived.Laws.CopyOwn
namespace Go.Proofs.YtleeaofofofgmaaDoor
open Go.RowKit

theorem and_u64 (n : Nat) (hn : n < 4294967296) : bits .and .u64 (n : Int) 4294967295 = (n : Int) := by
  have e1 : (BitVec.ofInt 64 (n : Int)).toNat = n := by rw [BitVec.toNat_ofInt]; omega
  have e2 : (BitVec.ofInt 64 (4294967295 : Int)).toNat = 4294967295 := by decide
  have e3 : (BitVec.ofInt 64 (n : Int) &&& BitVec.ofInt 64 (4294967295 : Int)).toNat = n := by
    rw [BitVec.toNat_and, e1, e2]
    have : n &&& (2 ^ 32 - 1) = n % 2 ^ 32 := Nat.and_two_pow_sub_one_eq_mod n 32
    rw [show (4294967295 : Nat) = 2 ^ 32 - 1 from rfl, this]
    omega
  have e4 : bits .and .u64 (n : Int) 4294967295 = IntKind.u64.wrap ((n : Nat) : Int) := congrArg (fun k : Nat => IntKind.u64.wrap (k : Int)) e3
  rw [e4]
  show (n : Int) % 18446744073709551616 = n
  omega

set_option maxHeartbeats 800000 in
theorem mul64_c (n : Nat) (hn : n ≤ 1000000) (w : World) : Calls Tryd.prog 72 #[.int .u64 1, .int .u64 (n : Int)] w fun e w' => e = .returned (.tuple #[.int .u64 0, .int .u64 (n : Int)]) ∧ w = w' := by
  have h0 : bits .and .u64 0 4294967295 = 0 := by decide
  have h1 : bits .and .u64 1 4294967295 = 1 := by decide
  have h2 := and_u64 n (by omega)
  have h3 : (n : Int) / 4294967296 = 0 := by omega
  have h4 : ((n : Int) / 2 ^ 32) = 0 := by omega
  go_enter Tryd.func72, Tryd.ntmps72
  go_wp2
  go_ret2
  exact ⟨rfl, rfl⟩

set_option maxHeartbeats 800000 in
theorem mul_c (n : Nat) (hn : n ≤ 1000000) (w : World) : Calls Tryd.prog 68 #[.int .u64 1, .int .u64 (n : Int)] w fun e w' => e = .returned (.tuple #[.int .u64 0, .int .u64 (n : Int)]) ∧ w = w' := by
  go_enter Tryd.func68, Tryd.ntmps68
  go_wp2_with fail
  refine (mul64_c n hn w).mono ?_
  rintro e w1 ⟨rfl, rfl⟩
  go_wp2
  go_ret2
  exact ⟨rfl, rfl⟩

theorem makeI_c (n : Nat) (hn : n ≤ 1000000) : ∃ zs : List Value, (∀ W : World, (Instr.makeSlice 30 (.int .i64 (n : Int)) (.int .i64 (n : Int))).run Tryd.prog W = .ok (.slice (some ⟨W.heap.size, 0, none⟩) n n) (W.alloc (.cells zs.toArray 3))) ∧ zs.length = n := by
  obtain ⟨i0, hi, hz0, hz1, hz2⟩ := info_parts Tryd.info3
  refine ⟨(madeCells (Value.int .i64 0).cells n).toList, fun W => ?_, by simp [size_madeCells]⟩
  have := run_make (P := Tryd.prog) W 30 3 i0 (.int .i64 0) Tryd.underlying30 hi hz0 .i64 .i64 n n (by omega) (Int.le_refl _) (by rw [hz2]; omega) (by omega)
  rw [hz1] at this
  simpa using this

theorem take_rep {v : Value} {zs : List Value} {k m : Nat} (h : zs.take k = List.replicate k v) (hm : m ≤ k) : zs.take m = List.replicate m v := by
  have : (zs.take k).take m = (List.replicate k v).take m := by rw [h]
  rwa [List.take_take, List.take_replicate, Nat.min_eq_left hm] at this

theorem splice_rep {v : Value} {zs : List Value} {k m : Nat} (h : zs.take k = List.replicate k v) (hm : m ≤ k) : (splice zs k (zs.take m)).take (k + m) = List.replicate (k + m) v := by
  have e := take_rep h hm
  unfold splice
  rw [h, e, ← List.append_assoc, List.replicate_append_replicate]
  rw [List.take_append_of_le_length (by simp), List.take_of_length_le (by simp)]

theorem wp_copy_splice {P : Program} {o : Oper} {a : Act} {w : World} {K : Act → World → Prop} {Q : Exit → Act → World → Prop} (hgd : o.guard = none) (d s : Operand) (dT sT : TypeId)
    (ho : o.op = .call { callee := .builtin .copy, args := #[d, s], argTypes := #[dT, sT] }) (elem : TypeId) (hu : P.underlying dT = some (.slice elem)) (hsz : (P.info? elem).map (·.size) = some 1)
    (dp sp : Option Addr) (dLen dCap sLen sCap : Nat) (hd : a.eval d = .slice dp dLen dCap) (hs : a.eval s = .slice sp sLen sCap)
    (g off : Nat) (cur : List Value) (t : TypeId) (hg : w.heap[g]? = some (.cells cur.toArray t (0, 0))) (cs : List Value) (hn : cs.length = Nat.min sLen dLen)
    (hpos : 0 < cs.length → dp = some ⟨g, off, none⟩ ∧ ∃ ad, sp = some ad ∧ ∀ j v, cs[j]? = some v → w.cell? (ad.add j) = some v)
    (hfit : off + cs.length ≤ cur.length) (h1 : ∀ v ∈ cs, v.oneCell' = true) (B : Nat) (w0 : World) (hb : Below B w0 w) (hBg : B ≤ g)
    (h : ∀ w', Hid (w'.heap[g]? = some (.cells (splice cur off cs).toArray t (0, 0))) → Below B w0 w' → K (a.put o.dst (goInt cs.length)) w') : o.wp P a w K Q := by
  have hh := step_copy_splice (ops := #[]) (E := False) (Q := Q) hgd d s dT sT ho elem hu hsz dp sp dLen dCap sLen sCap hd hs g off cur t hg cs hn hpos hfit h1 B w0 hb hBg h
  rw [if_pos (by simp [Region.wanted, hgd])] at hh
  exact hh

theorem below_drew {D : Nat} {w w1 : World} (h : Below D w w1) : Below D w w1.drew := ⟨h.os, h.tape, h.output, h.size, h.block⟩

theorem src_take {w : World} {D m : Nat} {zs : List Value} {t : TypeId} (h : w.heap[D]? = some (.cells zs.toArray t (0, 0))) : ∀ j u, (zs.take m)[j]? = some u → w.cell? ((⟨D, 0, none⟩ : Addr).add j) = some u := by
  intro j u hu
  rw [add_none, Nat.zero_add]
  rw [List.getElem?_take] at hu
  split at hu
  · exact cell_of h (by simpa using hu)
  · cases hu

theorem one_take {zs : List Value} {k m : Nat} {v : Int} (h : zs.take k = List.replicate k (.int .i64 v)) (hm : m ≤ k) : ∀ u ∈ zs.take m, u.oneCell' = true := by
  rw [take_rep h hm]
  intro u hu
  rw [List.eq_of_mem_replicate hu]
  rfl

set_option maxHeartbeats 1600000 in
set_option maxRecDepth 100000 in
theorem repeat_c (v : Int) (ad : Addr) (c N : Nat) (w : World) (hx : w.cell? ad = some (.int .i64 v)) (hN : 1 ≤ N ∧ N ≤ 1000) :
    Calls Tryd.prog 62 #[.slice (some ad) 1 c, .int .i64 (N : Int)] w fun e w' => ∃ D, e = .returned (.slice (some ⟨D, 0, none⟩) N N) ∧ w'.heap[D]? = some (.cells (cellsZ (List.replicate N v)).toArray 3 (0, 0)) ∧ w.heap.size ≤ D ∧ Fr (fun _ => False) w w' := by
  obtain ⟨zs, hmk, hzl⟩ := makeI_c N (by omega)
  obtain ⟨i0, hi, hz0, hz1, hz2⟩ := info_parts Tryd.info3
  have hw1 : IntKind.u64.wrap (N : Int) = (N : Int) := by show (N : Int) % 18446744073709551616 = N; omega
  have hw2 : IntKind.i64.wrap (N : Int) = (N : Int) := wrap_i64_id _ (by omega) (by omega)
  have Hzl := hide hzl
  have Hx := hide hx
  clear hzl hx
  go_enter Tryd.func62, Tryd.ntmps62
  go_wp2_with fail
  refine calls_args (mul_c N (by omega) w) rfl |>.mono ?_
  rintro e w1 ⟨rfl, rfl⟩
  obtain ⟨D, hD⟩ : ∃ D, D = w.heap.size := ⟨_, rfl⟩
  have h1c : ∀ j u, [(Value.int .i64 v)][j]? = some u → (w.alloc (.cells zs.toArray 3)).cell? (ad.add j) = some u := by
    intro j u hu
    rcases j with _ | j
    · simp at hu
      subst hu
      have hb := cell_lt Hx.out
      have e0 : ad.add 0 = ad := by unfold Addr.add; simp
      rw [e0, World.cell?_alloc_lt _ _ _ hb]
      exact Hx.out
    · simp at hu
  have hbel : Below w.heap.size w (w.alloc (.cells zs.toArray 3)) := (Below.refl _ _).alloc (Nat.le_refl _) _
  have H1c := hide h1c
  have Hbel := hide hbel
  clear h1c hbel
  have t1 : (Tryd.prog.info? 3).map (·.size) = some 1 := by rw [hi]; simp [hz1]
  have t2 : [(Value.int .i64 v)].length = Nat.min 1 N := by simp [Nat.min_def]; omega
  have t3 : 0 + [(Value.int .i64 v)].length ≤ zs.length := by have := Hzl.out; simp; omega
  have t4 : ∀ x ∈ [(Value.int .i64 v)], x.oneCell' = true := fun x hx => by simp at hx; subst hx; rfl
  have T2 := hide t2
  have T3 := hide t3
  have T4 := hide t4
  clear t2 t3 t4
  go_wp2_with (refine wpList_copy_splice rfl (.tmp 31) (.tmp 32) 30 30 rfl 3 Tryd.underlying30 t1 (some ⟨w.heap.size, 0, none⟩) (some ad) N N 1 c rfl rfl w.heap.size 0 zs 3 (heap_alloc_new _ _) [.int .i64 v] T2.out (fun _ => ⟨rfl, ad, rfl, H1c.out⟩) T3.out T4.out w.heap.size w Hbel.out (Nat.le_refl _) ?_; intro w2 hg2 hb2)
  rw [← hD] at hg2 hb2 ⊢
  have Hs2 : Hid (∃ zs' : List Value, w2.heap[D]? = some (.cells zs'.toArray 3 (0, 0)) ∧ zs'.length = N ∧ zs'.take 1 = List.replicate 1 (.int .i64 v)) := by
    refine ⟨_, hg2.out, ?_, ?_⟩
    · rw [length_splice _ _ _ (by have := Hzl.out; simp; omega)]; exact Hzl.out
    · simp [splice]
  have HB2 := hide hb2
  have HD := hide hD
  clear hg2 hb2 hD
  go_wp2
  go_loopw [8] (fun kv wr => ∃ (k : Nat) (zs' : List Value), 1 ≤ k ∧ k ≤ N ∧ kv = .int .i64 ((k : Nat) : Int) ∧ Hid (wr.heap[D]? = some (.cells zs'.toArray 3 (0, 0))) ∧ Hid (zs'.length = N) ∧ Hid (zs'.take k = List.replicate k (.int .i64 v)) ∧ Hid (Below D w wr)) (fun kv _ => N - (intOf kv).toNat)
  case atStart =>
    obtain ⟨zs', g1, g2, g3⟩ := Hs2.out
    exact ⟨1, zs', by omega, by omega, rfl, g1, g2, g3, HB2.out⟩
  case round =>
    obtain ⟨k, zs', hk1, hk2, rfl, G1, G2, G3, G4⟩ := hrel
    by_cases hlt : k < N
    · have hlti : (k : Int) < (N : Int) := by omega
      have k1 : (k : Int) ≤ (N : Int) := by omega
      have k2 : ¬ N = k := by omega
      obtain ⟨m, hm⟩ : ∃ m, m = Nat.min k (N - k) := ⟨_, rfl⟩
      have hmb : m ≤ k ∧ m ≤ N - k ∧ 1 ≤ m := by rw [hm]; simp only [Nat.min_def]; split <;> omega
      obtain ⟨cs, hcs⟩ : ∃ cs, cs = zs'.take m := ⟨_, rfl⟩
      have hcl : cs.length = m := by rw [hcs]; have := G2.out; simp; omega
      have Hm := hide hm
      have hm1 := hmb.1
      have hm2 := hmb.2.1
      have hm3 := hmb.2.2
      have hfit : k + cs.length ≤ zs'.length := by have := G2.out; omega
      have Hfit := hide hfit
      have S1 : Hid (∀ j u, cs[j]? = some u → wr.drew.cell? ((⟨D, 0, none⟩ : Addr).add j) = some u) := by rw [hcs]; exact src_take G1.out
      have S2 : Hid (∀ u ∈ cs, u.oneCell' = true) := by rw [hcs]; exact one_take G3.out hm1
      have S3 : Hid ((splice zs' k cs).take (k + m) = List.replicate (k + m) (.int .i64 v)) := by rw [hcs]; exact splice_rep G3.out hm1
      have S4 : Hid (cs.length = Nat.min k (N - k)) := by show _ = _; rw [hcl]; exact hm
      clear hm hmb hcs hfit
      go_wp2_with fail
      refine wp_region_held_drew (S := fun _ => True) (by kernel_rfl) trivial (fun hHeld => ?_)
      refine wpAnyH_take (i := 0) (v := ?v0) rfl (by kernel_rfl) (by kernel_rfl) (by kernel_rfl) (fun _ _ _ h => h) (Or.inl ⟨by rfl, ?hy0⟩) hHeld ?rest0
      case hy0 => (intro W hSw; (try dsimp only at hSw); go_simp; all_goals (with_reducible rfl))
      change wpAnyH _ _ _ _ _ _ _ (Act.put _ (some 38) _) _
      simp only [Act.put, List.setIfInBounds_toArray, List.set_cons_zero, List.set_cons_succ]
      refine wpAnyH_take (i := 1) (v := ?v1) rfl (by kernel_rfl) (by kernel_rfl) (by kernel_rfl) (fun _ _ _ h => h) (Or.inl ⟨by rfl, ?hy1⟩) hHeld ?rest1
      case hy1 => (intro W hSw; (try dsimp only at hSw); go_simp; all_goals (with_reducible rfl))
      change wpAnyH _ _ _ _ _ _ _ (Act.put _ (some 39) _) _
      simp only [Act.put, List.setIfInBounds_toArray, List.set_cons_zero, List.set_cons_succ]
      refine wpAnyH_take (i := 2) (v := ?v2) rfl (by kernel_rfl) (by kernel_rfl) (by kernel_rfl) (fun _ _ _ h => h) (Or.inl ⟨by rfl, ?hy2⟩) hHeld ?rest2
      case hy2 => (intro W hSw; (try dsimp only at hSw); go_simp; all_goals (with_reducible rfl))
      change wpAnyH _ _ _ _ _ _ _ (Act.put _ (some 40) _) _
      simp only [Act.put, List.setIfInBounds_toArray, List.set_cons_zero, List.set_cons_succ]
      refine wpAnyH_take (i := 4) (v := ?v4) rfl (by kernel_rfl) (by kernel_rfl) (by kernel_rfl) (fun _ _ _ h => h) (Or.inl ⟨by rfl, ?hy4⟩) hHeld ?rest4
      case hy4 => (intro W hSw; (try dsimp only at hSw); go_simp; all_goals (with_reducible rfl))
      change wpAnyH _ _ _ _ _ _ _ (Act.put _ (some 42) _) _
      simp only [Act.put, List.setIfInBounds_toArray, List.set_cons_zero, List.set_cons_succ]
      refine wpAnyH_take (i := 5) (v := ?v5) rfl (by kernel_rfl) (by kernel_rfl) (by kernel_rfl) (fun _ _ _ h => h) (Or.inl ⟨by rfl, ?hy5⟩) hHeld ?rest5
      case hy5 => (intro W hSw; (try dsimp only at hSw); go_simp; all_goals (with_reducible rfl))
      change wpAnyH _ _ _ _ _ _ _ (Act.put _ (some 43) _) _
      simp only [Act.put, List.setIfInBounds_toArray, List.set_cons_zero, List.set_cons_succ]
      refine wpAnyH_take (i := 3) (v := ?v3) rfl (by kernel_rfl) (by kernel_rfl) (by kernel_rfl) (fun _ _ _ h => h) (Or.inl ⟨by rfl, ?hy3⟩) hHeld ?rest3
      case hy3 => (intro W hSw; (try dsimp only at hSw); go_simp; all_goals (with_reducible rfl))
      change wpAnyH _ _ _ _ _ _ _ (Act.put _ (some 41) _) _
      simp only [Act.put, List.setIfInBounds_toArray, List.set_cons_zero, List.set_cons_succ]
      refine wpAnyH_take (i := 6) (v := ?v6) rfl (by kernel_rfl) (by kernel_rfl) (by kernel_rfl) (fun _ _ _ h => h) (Or.inl ⟨by rfl, ?hy6⟩) hHeld ?rest6
      case hy6 => (intro W hSw; (try dsimp only at hSw); go_simp; all_goals (with_reducible rfl))
      change wpAnyH _ _ _ _ _ _ _ (Act.put _ (some 44) _) _
      simp only [Act.put, List.setIfInBounds_toArray, List.set_cons_zero, List.set_cons_succ]
      refine wpAnyH_ready (rs := [7]) (by kernel_rfl) (by simp) ?_
      refine AllReadyH.cons rfl (fun K hK => ?_) AllReadyH.nil
      try simp only [List.getElem_toArray, List.getElem_cons_succ, List.getElem_cons_zero]
      rw [if_pos (by rfl)]
      refine wp_copy_splice (w := wr.drew) (by rfl) (.tmp 41) (.tmp 44) 30 30 (by rfl) 3 Tryd.underlying30 (by rw [hi]; simp [hz1]) (some ⟨D, k, none⟩) (some ⟨D, 0, none⟩) (N - k) (N - k) k N (by rfl) (by rfl) D k zs' 3 G1.out cs S4.out (fun _ => ⟨rfl, ⟨D, 0, none⟩, rfl, S1.out⟩) Hfit.out S2.out D w (below_drew G4.out) (Nat.le_refl _) ?_
      intro w3 hg3 hb3
      have E3 := hide hg3
      have E4 := hide hb3
      refine hK.out _ _ trivial (fun hHeld => ?_)
      clear hK K
      refine wpAnyH_take (i := 8) (v := ?v8) rfl (by kernel_rfl) (by kernel_rfl) (by kernel_rfl) (fun _ _ _ h => h) (Or.inl ⟨by rfl, ?hy8⟩) hHeld ?rest8
      case hy8 => (intro W hSw; (try dsimp only at hSw); go_simp; all_goals (with_reducible rfl))
      change wpAnyH _ _ _ _ _ _ _ (Act.put _ (some 46) _) _
      simp only [Act.put, List.setIfInBounds_toArray, List.set_cons_zero, List.set_cons_succ]
      refine wpAnyH_take (i := 9) (v := ?v9) rfl (by kernel_rfl) (by kernel_rfl) (by kernel_rfl) (fun _ _ _ h => h) (Or.inl ⟨by rfl, ?hy9⟩) hHeld ?rest9
      case hy9 => (intro W hSw; (try dsimp only at hSw); go_simp; all_goals (with_reducible rfl))
      change wpAnyH _ _ _ _ _ _ _ (Act.put _ (some 8) _) _
      simp only [Act.put, List.setIfInBounds_toArray, List.set_cons_zero, List.set_cons_succ]
      refine wpAnyH_done (by kernel_rfl) ?_ _
      go_wp2
      go_roundw
      case rel => exact ⟨k + m, splice zs' k cs, by omega, by omega, by rw [wrap_i64_id _ (by omega) (by omega)]; simp, E3.out, by show _ = _; rw [length_splice _ _ _ Hfit.out]; exact G2.out, S3.out, E4.out⟩
      case measure => rw [wrap_i64_id _ (by omega) (by omega)]; simp [intOf]; omega
    · have hlti : ¬ (k : Int) < (N : Int) := by omega
      have hke : k = N := by omega
      subst hke
      go_wp2
      go_ret
      have hz : zs' = cellsZ (List.replicate k v) := by
        have h1 := G3.out
        rw [List.take_of_length_le (by have := G2.out; omega)] at h1
        rw [h1]
        simp [cellsZ]
      refine ⟨D, rfl, by rw [← hz]; exact G1.out, by have := HD.out; omega, ?_⟩
      have := HD.out
      exact ⟨G4.out.os, G4.out.tape, G4.out.output, G4.out.size, fun j hj _ => G4.out.block j (by omega)⟩
end Go.Proofs.YtleeaofofofgmaaDoor

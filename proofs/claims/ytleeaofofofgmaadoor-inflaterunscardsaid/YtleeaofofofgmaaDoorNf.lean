/-
  Cuts: the law InflateCuts.
-/
import Derived.Test.YtleeaofofofgmaaDoorNe
import Derived.Laws.AppendOwnNone
namespace Go.Proofs.YtleeaofofofgmaaDoor
open Go.RowKit

theorem append_any {w : World} {ops : Array Oper} {rest : List Oper} {o : Oper} {a : Act} {Q : Exit → Act → World → Prop} (hgd : o.guard = none) (s x : Operand)
    (ho : o.op = .call { callee := .builtin .append, args := #[s, x], argTypes := #[22, 22] }) (base : Nat) (v : Value) (n : Nat) (xs : List Value) (hs : a.eval s = v) (hown : w.ownsRow base 5 1 v n xs)
    (sv : Value) (bs : List Nat) (hx : a.eval x = sv) (hl : Lies w sv bs) (h63 : n + bs.length ≤ 2147483648) (hbase : base ≤ w.heap.size)
    (h : ∀ v' w', w'.ownsRow base 5 1 v' (n + bs.length) (xs ++ cellsOf bs) → Below base w w' → wpList Tryd.prog ops Q rest (a.put o.dst v') w') : wpList Tryd.prog ops Q (o :: rest) a w := by
  obtain ⟨i0, hi, hz0, hz1, hz2⟩ := info_parts Tryd.info5
  rcases hl with ⟨rfl, rfl⟩ | ⟨ad, c, rfl, hc⟩
  · refine wpList_append_own_none hgd s x 22 ho base 5 i0 1 Tryd.underlying22 hi v n xs hs hown hx ?_
    refine h v w ?_ (Below.refl _ _)
    simpa [cellsOf] using hown
  · refine wpList_append_own w hgd s x 22 ho base 5 i0 (.int .u8 0) 1 1 Tryd.underlying22 hi hz0 hz1 hz2 rfl (by decide) v n xs hs hown ad bs.length c (cellsOf bs) hx (by simp [cellsOf_length]) hc (cellsOf_one bs) (by unfold maxLen; omega) (by omega) hbase ?_
    intro v' w' h1 h2 _
    exact h v' w' h1 (Below.grown (Below.refl _ _) h2 hbase (fun k hk => (hown.lt k hk).1))

theorem leNum_cat (l m : List Nat) : leNum (l ++ m) = leNum l + leNum m * 2 ^ (8 * l.length) := by
  induction l with
  | nil => simp [leNum]
  | cons b l ih =>
    show b + 256 * leNum (l ++ m) = b + 256 * leNum l + _
    rw [ih, Nat.mul_add, List.length_cons, Nat.mul_add 8, Nat.mul_one, Nat.pow_add, show (2:Nat) ^ 8 = 256 from rfl, ← Nat.mul_assoc (leNum m), Nat.mul_comm _ 256, Nat.add_assoc]

theorem leNum_take (bs : List Nat) (U : Nat) (h : U ≤ bs.length) (m : List Nat) : leNum bs % 2 ^ (8 * U) = leNum (bs.take U ++ m) % 2 ^ (8 * U) := by
  have e : leNum bs = leNum (bs.take U ++ bs.drop U) := by rw [List.take_append_drop]
  have hl : (bs.take U).length = U := by simp; omega
  rw [e, leNum_cat, leNum_cat, hl, Nat.add_mul_mod_self_right, Nat.add_mul_mod_self_right]

/-- Bytes behind a stream are not taken. -/
theorem cuts_tail {bs tail x : List Nat} {p U : Nat} (h : Runs (leNum bs) (8 * bs.length) 65536 init (.ok (x, p))) (hU : U = (p + 7) / 8) : U ≤ bs.length ∧ 1 ≤ U ∧ AllOk (bs.take U ++ tail) 65536 (.ok (x, p)) := by
  have h1 := h.end_le (by omega) (Nat.zero_le _)
  have h3 := h.pos_three
  have hle : U ≤ bs.length := by omega
  refine ⟨hle, by omega, Or.inr ⟨by decide, ?_⟩⟩
  have hl : (bs.take U).length = U := by simp; omega
  refine h.same (by rw [List.length_append, hl]; omega) ?_
  exact agree_le (leNum_take bs U hle tail) (by omega)

/-- A stream that is cut is too short. -/
theorem cuts_cut {bs x : List Nat} {p k : Nat} (h : Runs (leNum bs) (8 * bs.length) 65536 init (.ok (x, p))) (hk : k < (p + 7) / 8) : AllOk (bs.take k) 65536 (.error 2) := by
  have h1 := h.end_le (by omega) (Nat.zero_le _)
  refine Or.inr ⟨by decide, ?_⟩
  have hl : (bs.take k).length = k := by simp; omega
  refine h.cut (by rw [hl]; omega) (Nat.zero_le _) (by rw [hl]; omega) ?_
  rw [hl]
  have := leNum_take bs k (by omega) []
  rw [List.append_nil] at this
  exact this

theorem Fr.join' {a b c : World} (h : Fr (fun _ => False) a b) (k : Below a.heap.size b c) : Fr (fun _ => False) a c :=
  (h.trans (Fr.of_below k)).mono fun i hi e => e.elim id (fun e => by omega)

theorem lies_takeB {w : World} {a : Option Addr} {n c k : Nat} {bs : List Nat} (h : Lies w (.slice a n c) bs) (hn : n = bs.length) (hk : k ≤ n) (h0 : 0 < n) : Lies w (.slice a k c) (bs.take k) := by
  rcases h with ⟨h1, rfl⟩ | ⟨ad, c', h1, h2⟩
  · simp at hn; omega
  · cases h1
    have hl : (bs.take k).length = k := by simp; omega
    refine Or.inr ⟨ad, c, by rw [hl], fun j u hu => h2 j u ?_⟩
    simp only [cellsOf, List.map_take, List.getElem?_take] at hu
    split at hu
    · exact hu
    · cases hu

set_option maxHeartbeats 1600000 in
set_option maxRecDepth 100000 in
theorem cuts_c (a : Option Addr) (n c : Nat) (bs : List Nat) (w : World) (hn : n = bs.length) (hnc : n ≤ c) (h : Lies w (.slice a n c) bs) (hlt : ∀ b ∈ bs, b < 256) (ct : Nat) (hct : ct < 65536)
    (ta : Option Addr) (tn tc : Nat) (ts : List Nat) (htn : tn = ts.length) (ht : Lies w (.slice ta tn tc) ts) (htlt : ∀ b ∈ ts, b < 256) (hg : Gw w) :
    Calls Tryd.prog 7 #[.slice a n c, .int .u16 (ct : Int), .slice ta tn tc] w fun e w' => e = .returned (.bool true) ∧ Fr (fun _ => False) w w' := by
  have HG := hide hg
  have HL := hide h
  have HT := hide ht
  have Hlt := hide hlt
  have Htlt := hide htlt
  have Hn := hide hn
  have Htn := hide htn
  have Hnc := hide hnc
  clear hg h hlt hn ht htlt htn hnc
  go_enter Tryd.func7, Tryd.ntmps7
  go_wp2_with fail
  refine (awake_c w HG.out).mono ?_
  rintro e w0 ⟨rfl, hF0⟩
  have HG0 := hide (HG.out.fr hF0)
  have HF0 := hide hF0
  clear hF0
  by_cases hbig : 2000 < n ∨ 200 < tn
  · rcases (show 2000 < n ∨ (n ≤ 2000 ∧ 200 < tn) by omega) with hb | ⟨hb1, hb2⟩
    · have hbi : (2000 : Int) < n := by omega
      go_wp2
      go_ret
      exact ⟨rfl, HF0.out⟩
    · have hbi : ¬ (2000 : Int) < n := by omega
      have hbj : (200 : Int) < tn := by omega
      go_wp2
      go_ret
      exact ⟨rfl, HF0.out⟩
  · have hbi : ¬ (2000 : Int) < n := by omega
    have hbj : ¬ (200 : Int) < tn := by omega
    have hln : bs.length ≤ 2000 := by have := Hn.out; omega
    have hlt' : ts.length ≤ 200 := by have := Htn.out; omega
    go_wp2_with fail
    refine (calls_args (all_at (.slice a n c) bs 65536 w0 (lies_fr HL.out HF0.out) Hlt.out (by omega) (by omega) HG0.out) (by rfl)).mono ?_
    rintro e w1 ⟨r1, a1, c1, hA1, rfl, hL1, hF1⟩
    have HG1 := hide (HG0.out.fr hF1)
    have HF1 := hide (HF0.out.join hF1)
    have HL1 := hide hL1
    have HA1 := hide hA1
    clear hF1 hL1 hA1
    by_cases he : errOf r1 = 0
    · obtain ⟨x, p, rfl, hR⟩ := HA1.out.ok he
      have hxl : x.length ≤ 65536 := hR.out_most (Nat.zero_le _)
      have hx256 : ∀ b ∈ x, b < 256 := HA1.out.bytes
      simp only [outOf, usedOf, errOf]
      simp only [outOf] at HL1
      obtain ⟨U, hU⟩ : ∃ U, U = (p + 7) / 8 := ⟨_, rfl⟩
      obtain ⟨hU1, hU2, hA2⟩ := cuts_tail (tail := ts) hR hU
      obtain ⟨k, hk⟩ : ∃ k, k = ct % U := ⟨_, rfl⟩
      have hkU : k < U := by rw [hk]; exact Nat.mod_lt _ (by omega)
      have hA3 := cuts_cut (k := k) hR (by rw [← hU]; exact hkU)
      have hki : (ct : Int).tmod (U : Int) = (k : Int) := by
        rw [hk, Int.tmod_eq_emod_of_nonneg (by omega)]
        simp
      rw [← hU]
      obtain ⟨X, hX⟩ : ∃ X, X = x.length := ⟨_, rfl⟩
      rw [← hX] at HL1 hxl ⊢
      have HX := hide hX
      have HU := hide hU
      have HA2 := hide hA2
      have HA3 := hide hA3
      have hUn : U ≤ n := by have := Hn.out; omega
      have hUc : U ≤ c := by have := Hnc.out; omega
      have i1 : (U : Int) ≤ (c : Int) := by omega
      have i2 : (k : Int) ≤ (c : Int) := by omega
      have i3 : ¬ (U : Int) = 0 := by omega
      have i4 : ((U : Int) == 0) = false := beq_false_of_ne i3
      have T1 : Hid (Lies w1 (.slice a U c) (bs.take U)) := lies_takeB (lies_fr HL.out HF1.out) Hn.out hUn (by omega)
      have T2 : Hid (Lies w1 (.slice ta tn tc) ts) := lies_fr HT.out HF1.out
      have hlU : Hid ((bs.take U).length = U) := by show _ = _; simp; omega
      have hsize0 : w1.heap.size ≤ (w1.alloc (.cells #[] 5)).heap.size := by simp
      clear he hR hX hU hA2 hA3 hk
      have q1 : 0 + (bs.take U).length ≤ 2147483648 := by rw [hlU.out]; omega
      have q2 : 0 + (bs.take U).length + ts.length ≤ 2147483648 := by rw [hlU.out]; omega
      have Q1 := hide q1
      have Q2 := hide q2
      have O0 : Hid ((w1.alloc (.cells #[] 5)).ownsRow w1.heap.size 5 1 (.slice (some ⟨w1.heap.size, 0, none⟩) 0 0) 0 []) := World.ownsRow_made _ #[] 0 (Nat.le_refl _) (by unfold maxLen; omega) rfl
      have T1' : Hid (Lies (w1.alloc (.cells #[] 5)) (.slice a U c) (bs.take U)) := lies_fr T1.out (Fr.of_alloc _ _)
      have T2' : Hid (Lies (w1.alloc (.cells #[] 5)) (.slice ta tn tc) ts) := lies_fr T2.out (Fr.of_alloc _ _)
      have FA : Hid (Fr (fun _ => False) w1 (w1.alloc (.cells #[] 5))) := Fr.of_alloc _ _
      clear q1 q2
      go_wp2_with (at_builtin; first
        | (refine append_any rfl (.tmp 35) (.tmp 38) rfl w1.heap.size (.slice (some ⟨w1.heap.size, 0, none⟩) 0 0) 0 [] rfl O0.out (.slice a U c) (bs.take U) rfl T1'.out Q1.out hsize0 ?_; intro v2 w2 hown2 hbel2
           have F2 := hide (FA.out.join' hbel2)
           have S1 := hide (lies_fr T2.out F2.out)
           have Hown2 := hide hown2
           have hs2 := hbel2.size
           have Hs2 : Hid (w1.heap.size ≤ w2.heap.size) := Nat.le_trans hsize0 hs2
           clear hown2 hbel2 hs2)
        | (refine append_any rfl (.tmp 39) (.tmp 40) rfl w1.heap.size v2 (0 + (bs.take U).length) ([] ++ cellsOf (bs.take U)) rfl Hown2.out (.slice ta tn tc) ts rfl S1.out Q2.out Hs2.out ?_; intro v3 w3 hown3 hbel3
           have F3 := hide (F2.out.join' hbel3)
           have Hown3 := hide hown3
           clear hown3 hbel3))
      have L3 : Lies w3 v3 (bs.take U ++ ts) := lies_own (lo := w1.heap.size) (by
        have := Hown3.out
        simpa [cellsOf] using this)
      have HL3 := hide L3
      have F3w := hide (HF1.out.join F3.out)
      clear L3
      refine (calls_args (all_at v3 (bs.take U ++ ts) 65536 w3 HL3.out (fun b hb => ?_) (by rw [List.length_append, hlU.out]; omega) (by omega) (HG.out.fr F3w.out)) (by rfl)).mono ?_
      · rw [List.mem_append] at hb
        rcases hb with hb | hb
        · exact Hlt.out b (List.mem_of_mem_take hb)
        · exact Htlt.out b hb
      rintro e w4 ⟨r4, a4, c4, hA4, rfl, hL4, hF4⟩
      obtain rfl := hA4.det HA2.out
      simp only [outOf, usedOf, errOf] at hL4 ⊢
      rw [← HX.out] at hL4 ⊢
      rw [← HU.out]
      have HF4 := hide (F3w.out.join hF4)
      have HL4 := hide hL4
      have HL1' := hide (lies_fr HL1.out (F3.out.join hF4))
      have T4 : Hid (Lies w4 (.slice a k c) (bs.take k)) := lies_takeB (lies_fr HL.out HF4.out) Hn.out (by omega) (by omega)
      clear hA4 hL4 hF4
      go_wp2_with fail
      refine (calls_args (all_at (.slice a k c) (bs.take k) 65536 w4 T4.out (fun b hb => Hlt.out b (List.mem_of_mem_take hb)) (by simp; omega) (by omega) (HG.out.fr HF4.out)) (by rfl)).mono ?_
      rintro e w5 ⟨r5, a5, c5, hA5, rfl, _, hF5⟩
      obtain rfl := hA5.det HA3.out
      simp only [outOf, usedOf, errOf, List.length_nil]
      have s1 := str_lies (lies_fr HL1'.out hF5) hx256
      have s2 := str_lies (lies_fr HL4.out hF5) hx256
      have HF5 := hide (HF4.out.join hF5)
      clear hA5 hF5
      go_wp2
      go_ret
      exact ⟨rfl, HF5.out⟩
    · have hei : ((errOf r1 : Int) == 0) = false := beq_false_of_ne (by omega)
      have hej : ¬ (errOf r1 : Int) = 0 := by omega
      go_wp2
      go_ret
      exact ⟨rfl, HF1.out⟩
end Go.Proofs.YtleeaofofofgmaaDoor

/-
  lzw: Unblock.
-/
import Derived.Test.YtdbgolklgiadeaaXd
namespace Go.Proofs.Ytdbgolklgiadeaa
open Go.RowKit

/-- What pieces come to, from a place on: the bytes, how many were taken, the error. -/
inductive Ub (bs : List Nat) : Nat → List Nat → List Nat × Nat × Nat → Prop where
  | out {p : Nat} {o : List Nat} (h : bs.length ≤ p) : Ub bs p o ([], 0, 2)
  | fin {p : Nat} {o : List Nat} (h : p < bs.length) (h0 : bs.getD p 0 = 0) : Ub bs p o (o, p + 1, 0)
  | short {p : Nat} {o : List Nat} (h : p < bs.length) (h0 : bs.getD p 0 ≠ 0) (hs : bs.length < p + 1 + bs.getD p 0) : Ub bs p o ([], 0, 2)
  | go {p : Nat} {o : List Nat} {r : List Nat × Nat × Nat} (h : p < bs.length) (h0 : bs.getD p 0 ≠ 0) (hs : p + 1 + bs.getD p 0 ≤ bs.length) (hr : Ub bs (p + 1 + bs.getD p 0) (o ++ (bs.drop (p + 1)).take (bs.getD p 0)) r) : Ub bs p o r

theorem Ub.det {bs : List Nat} {p : Nat} {o : List Nat} {r q : List Nat × Nat × Nat} (h : Ub bs p o r) (g : Ub bs p o q) : r = q := by
  induction h with
  | out h => cases g <;> first | rfl | omega
  | fin h h0 => cases g <;> first | rfl | omega | contradiction
  | short h h0 hs => cases g <;> first | rfl | omega | contradiction
  | go h h0 hs hr ih =>
    cases g with
    | out g => omega
    | fin g g0 => contradiction
    | short g g0 gs => omega
    | go g g0 gs gr => exact ih gr

/-- What was cut into pieces is put together. -/
theorem ub_blocks (pre rest c o : List Nat) : Ub (pre ++ (blocks rest ++ c)) pre.length o (o ++ rest, pre.length + (blocks rest).length, 0) := by
  have key : ∀ n (rest pre o : List Nat), rest.length ≤ n → Ub (pre ++ (blocks rest ++ c)) pre.length o (o ++ rest, pre.length + (blocks rest).length, 0) := by
    intro n
    induction n with
    | zero =>
      intro rest pre o h
      have : rest = [] := List.eq_nil_of_length_eq_zero (by omega)
      subst this
      rw [blocks_nil, List.append_nil]
      exact .fin (by simp) (by simp [List.getD_eq_getElem?_getD])
    | succ n ih =>
      intro rest pre o h
      by_cases hb : rest = []
      · subst hb
        rw [blocks_nil, List.append_nil]
        exact .fin (by simp) (by simp [List.getD_eq_getElem?_getD])
      · have hp : 0 < rest.length := List.length_pos_iff.2 hb
        obtain ⟨m, hm⟩ : ∃ m, m = min rest.length 255 := ⟨_, rfl⟩
        have e := blocks_cons rest hb m hm
        have hg : (pre ++ (blocks rest ++ c)).getD pre.length 0 = m := by rw [e]; simp [List.getD_eq_getElem?_getD]
        have hl : (blocks rest).length = 1 + m + (blocks (rest.drop m)).length := by rw [e, List.length_cons, List.length_append, List.length_take]; omega
        have hT : ((pre ++ (blocks rest ++ c)).drop (pre.length + 1)).take m = rest.take m := by
          rw [e]
          have e1 : pre ++ (m :: (rest.take m ++ blocks (rest.drop m)) ++ c) = (pre ++ [m]) ++ (rest.take m ++ (blocks (rest.drop m) ++ c)) := by simp
          rw [e1, List.drop_append_of_le_length (by simp), List.drop_of_length_le (by simp), List.nil_append, List.take_append_of_le_length (by rw [List.length_take]; omega)]
          rw [List.take_take, Nat.min_self]
        refine .go (by rw [List.length_append, List.length_append]; omega) (by rw [hg]; omega) (by rw [hg, List.length_append, List.length_append]; omega) ?_
        rw [hg, hT]
        have e2 : pre ++ (blocks rest ++ c) = (pre ++ m :: rest.take m) ++ (blocks (rest.drop m) ++ c) := by rw [e]; simp
        have e3 : pre.length + 1 + m = (pre ++ m :: rest.take m).length := by rw [List.length_append, List.length_cons, List.length_take]; omega
        have := ih (rest.drop m) (pre ++ m :: rest.take m) (o ++ rest.take m) (by rw [List.length_drop]; omega)
        rw [← e2, ← e3, List.append_assoc, List.take_append_drop] at this
        rw [show pre.length + (blocks rest).length = pre.length + 1 + m + (blocks (rest.drop m)).length by omega]
        exact this
  exact key _ rest pre o (Nat.le_refl _)

/-- What a call of Unblock comes to. -/
def Ubd (w : World) (bs : List Nat) (e : Ending) (w' : World) : Prop :=
  ∃ r ra rc, Ub bs 0 [] r ∧ e = .returned (.tuple #[.slice ra r.1.length rc, .int .i64 (r.2.1 : Int), .int .i64 (r.2.2 : Int)]) ∧ Lies w' (.slice ra r.1.length rc) r.1 ∧ (∀ b ∈ r.1, b < 256) ∧ Fr (fun _ => False) w w'

theorem mid_lies {w : World} {ad : Addr} {m c : Nat} {bs : List Nat} (h : Lies w (.slice (some ad) m c) bs) (p n c' : Nat) (hn : p + n ≤ bs.length) : Lies w (.slice (some (ad.add p)) n c') ((bs.drop p).take n) := by
  have h1 := drop_lies h p c'
  exact take_lies h1 n c' (by rw [List.length_drop]; omega)

set_option maxHeartbeats 3200000 in
set_option maxRecDepth 100000 in
theorem unblock_c (a : Option Addr) (c : Nat) (bs : List Nat) (w : World) (h : Lies w (.slice a bs.length c) bs) (hb : ∀ b ∈ bs, b < 256) (hlen : bs.length ≤ 1000000) (hc : bs.length ≤ c) :
    Calls Try.prog 23 #[.slice a bs.length c] w (Ubd w bs) := by
  have H := hide h
  have Hb := hide hb
  obtain ⟨N, hN⟩ : ∃ N, N = bs.length := ⟨_, rfl⟩
  have HN := hide hN
  rw [← hN] at hlen hc ⊢
  clear h hb hN
  go_enter Try.func23, Try.ntmps23
  go_wp2_with fail
  go_loopw [5, 6, 7] (fun tv ti _ wr => ∃ (p : Nat) (o : List Nat) (oa : Option Addr) (oc : Nat), ti = .int .i64 (p : Int) ∧ p ≤ N ∧ tv = .slice oa o.length oc ∧ Hid (OwnB wr w.heap.size (.slice oa o.length oc) o) ∧ Hid (∀ b ∈ o, b < 256) ∧ o.length ≤ p ∧ Hid (∀ r, Ub bs p o r → Ub bs 0 [] r) ∧ Hid (Fr (fun _ => False) w wr)) (fun _ ti _ _ => N - (intOf ti).toNat)
  case atStart => exact ⟨0, [], none, 0, rfl, Nat.zero_le _, rfl, World.ownsRow_nil _ _ _ _, (fun b hb => by cases hb), Nat.zero_le _, fun r h => h, Fr.refl _ _⟩
  case round =>
    obtain ⟨p, o, oa, oc, rfl, hp, rfl, HO, HOb, hol, HR, HF⟩ := hrel
    by_cases hlt : p < N
    · have hlti : (p : Int) < (N : Int) := by omega
      obtain ⟨ad, rfl, hcp⟩ := (Lz.of (lies_false H.out HF.out) Hb.out).2 p (by rw [← HN.out]; exact hlt)
      have hb8 : bs.getD p 0 < 256 := Hb.out _ (getD_mem bs p (by rw [← HN.out]; exact hlt))
      obtain ⟨n, hn⟩ : ∃ n, n = bs.getD p 0 := ⟨_, rfl⟩
      rw [← hn] at hcp hb8
      have Hn := hide hn
      have hltn : p < bs.length := by rw [← HN.out]; exact hlt
      by_cases h0 : n = 0
      · subst h0
        have HU := hide (HR.out _ (.fin hltn Hn.out.symm))
        clear hn
        go_wp2_with fail
        go_ret3
        exact ⟨_, oa, oc, HU.out, rfl, lies_own HO.out, HOb.out, HF.out⟩
      · have h0i : ¬ (n : Int) = 0 := by omega
        have h0b : ((n : Int) == 0) = false := by rw [beq_eq_false_iff_ne]; exact h0i
        by_cases hs : N < p + 1 + n
        · have hsi : (N : Int) - ((p : Int) + 1) < (n : Int) := by omega
          have HU := hide (HR.out _ (.short hltn (by rw [← Hn.out]; exact h0) (by rw [← Hn.out, ← HN.out]; exact hs)))
          clear hn
          go_wp2_with fail
          go_ret3
          exact ⟨_, none, 0, HU.out, rfl, Or.inl ⟨rfl, rfl⟩, (fun b hb => by cases hb), HF.out⟩
        · have hsi : ¬ (N : Int) - ((p : Int) + 1) < (n : Int) := by omega
          have hcp1 : ¬ c = p + 1 := by omega
          have hpn : p + 1 + n ≤ c := by omega
          have hpni : (p : Int) + 1 + (n : Int) ≤ (c : Int) := by omega
          have hpp : (p : Int) + 1 ≤ (p : Int) + 1 + (n : Int) := by omega
          obtain ⟨T, hT⟩ : ∃ T, T = (bs.drop (p + 1)).take n := ⟨_, rfl⟩
          have HTl : Hid (T.length = n) := by show _ = _; rw [hT, List.length_take, List.length_drop, ← HN.out]; omega
          have HTw : Hid (Lies wr (.slice (some ⟨ad.block, ad.off + (p + 1), none⟩) (p + 1 + n - (p + 1)) (c - (p + 1))) T) := by rw [hT, show p + 1 + n - (p + 1) = n by omega]; exact mid_lies (lies_false H.out HF.out) (p + 1) n _ (by rw [← HN.out]; omega)
          have HTb : Hid (∀ b ∈ o ++ T, b < 256) := fun b hb => by
            rcases List.mem_append.1 hb with h | h
            · exact HOb.out b h
            · rw [hT] at h; exact Hb.out b (List.mem_of_mem_drop (List.mem_of_mem_take h))
          have HRn : Hid (∀ r, Ub bs (p + 1 + n) (o ++ T) r → Ub bs 0 [] r) := fun r hr => HR.out r (.go hltn (by rw [← Hn.out]; exact h0) (by rw [← Hn.out, ← HN.out]; omega) (by rw [← Hn.out, ← hT]; exact hr))
          have HQ : Hid (o.length + T.length ≤ 2147483648) := by show _ ≤ _; rw [HTl.out]; omega
          have HS := hide HF.out.size
          clear hT hn
          go_upto_region 10 with (at_builtin; go_must (refine wpList_app rfl (.tmp 29) (.tmp 35) rfl w.heap.size (.slice oa o.length oc) o rfl HO.out (.slice (some ⟨ad.block, ad.off + (p + 1), none⟩) (p + 1 + n - (p + 1)) (c - (p + 1))) T rfl HTw.out HQ.out HS.out ?_); intro a2 c2 w2 hO2 hF2 _
                                  have HF2 := hide (frJ HF.out hF2 fun j hj => (World.ownsRow.lt HO.out j hj).1)
                                  have HO2 := hide hO2
                                  clear hO2 hF2)
          have HO2b : Hid (OwnB w2 w.heap.size (.slice a2 (o ++ T).length c2) (o ++ T)) := by
            have h := HO2.out
            rw [← List.length_append] at h
            exact h
          have hlo : o.length + T.length = (o ++ T).length := by rw [List.length_append]
          have Hlo := hide hlo
          clear hlo HO2
          go_wp2_with fail
          go_roundw
          case rel => exact ⟨p + 1 + n, o ++ T, a2, c2, by go_num, by omega, by rw [Hlo.out], HO2b.out, HTb.out, by rw [← Hlo.out, HTl.out]; omega, HRn.out, HF2.out⟩
          case measure => simp [intOf]; omega
    · have HU := hide (HR.out _ (.out (by rw [← HN.out]; omega)))
      have hlti : ¬ (p : Int) < (N : Int) := by omega
      go_wp2_with fail
      go_ret3
      exact ⟨_, none, 0, HU.out, rfl, Or.inl ⟨rfl, rfl⟩, (fun b hb => by cases hb), HF.out⟩
end Go.Proofs.Ytdbgolklgiadeaa

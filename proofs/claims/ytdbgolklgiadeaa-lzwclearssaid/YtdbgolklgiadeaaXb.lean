/-
  lzw: Blocks.
-/
import Derived.Test.YtdbgolklgiadeaaXc
namespace Go.Proofs.Ytdbgolklgiadeaa
open Go.RowKit

/-- Bytes cut into pieces. -/
def blk : Nat → List Nat → List Nat
  | 0, _ => [0]
  | f + 1, bs => if bs = [] then [0] else min bs.length 255 :: (bs.take (min bs.length 255) ++ blk f (bs.drop (min bs.length 255)))
def blocks (bs : List Nat) : List Nat := blk bs.length bs

theorem blk_more (f g : Nat) (bs : List Nat) (hf : bs.length ≤ f) (hg : bs.length ≤ g) : blk f bs = blk g bs := by
  induction f generalizing g bs with
  | zero =>
    have : bs = [] := List.eq_nil_of_length_eq_zero (by omega)
    subst this
    cases g <;> simp [blk]
  | succ f ih =>
    by_cases hb : bs = []
    · subst hb
      cases g <;> simp [blk]
    · have hp : 0 < bs.length := List.length_pos_iff.2 hb
      cases g with
      | zero => omega
      | succ g =>
        simp only [blk, if_neg hb]
        rw [ih g _ (by rw [List.length_drop]; omega) (by rw [List.length_drop]; omega)]

theorem blocks_nil : blocks [] = [0] := rfl
theorem blocks_cons (bs : List Nat) (hb : bs ≠ []) (m : Nat) (hm : m = min bs.length 255) : blocks bs = m :: (bs.take m ++ blocks (bs.drop m)) := by
  have hp : 0 < bs.length := List.length_pos_iff.2 hb
  unfold blocks
  obtain ⟨f, hf⟩ : ∃ f, bs.length = f + 1 := ⟨bs.length - 1, by omega⟩
  rw [hf]
  simp only [blk, if_neg hb, hf ▸ hm]
  rw [← hf, ← hm]
  rw [blk_more f (bs.drop m).length _ (by rw [List.length_drop]; omega) (Nat.le_refl _)]

theorem blocks_len (bs : List Nat) : (blocks bs).length ≤ 2 * bs.length + 1 := by
  have key : ∀ n (bs : List Nat), bs.length ≤ n → (blocks bs).length ≤ 2 * bs.length + 1 := by
    intro n
    induction n with
    | zero =>
      intro bs h
      have : bs = [] := List.eq_nil_of_length_eq_zero (by omega)
      subst this
      simp [blocks_nil]
    | succ n ih =>
      intro bs h
      by_cases hb : bs = []
      · subst hb; simp [blocks_nil]
      · have hp : 0 < bs.length := List.length_pos_iff.2 hb
        rw [blocks_cons bs hb _ rfl]
        have := ih (bs.drop (min bs.length 255)) (by rw [List.length_drop]; omega)
        rw [List.length_drop] at this
        simp only [List.length_cons, List.length_append, List.length_take]
        omega
  exact key _ bs (Nat.le_refl _)

/-- A slice's length. -/
def lenOf : Value → Nat
  | .slice _ n _ => n
  | _ => 0

theorem take_lies {w : World} {ad : Addr} {n c : Nat} {bs : List Nat} (h : Lies w (.slice (some ad) n c) bs) (m c' : Nat) (hm : m ≤ bs.length) : Lies w (.slice (some ad) m c') (bs.take m) := by
  rcases h with ⟨e, _⟩ | ⟨ad', c2, e, hc⟩
  · cases e
  · cases e
    refine Or.inr ⟨ad, c', by rw [List.length_take, Nat.min_eq_left hm], fun j u hu => hc j u ?_⟩
    simp only [cellsOf, List.getElem?_map, List.getElem?_take] at hu ⊢
    split at hu
    · exact hu
    · simp at hu

set_option maxHeartbeats 3200000 in
set_option maxRecDepth 100000 in
theorem blocks_c (a : Option Addr) (c : Nat) (bs : List Nat) (w : World) (h : Lies w (.slice a bs.length c) bs) (hb : ∀ b ∈ bs, b < 256) (hlen : bs.length ≤ 1000000) (hc : bs.length ≤ c) :
    Calls Try.prog 22 #[.slice a bs.length c] w fun e w' => ∃ ra rc, e = .returned (.slice ra (blocks bs).length rc) ∧ OwnB w' w.heap.size (.slice ra (blocks bs).length rc) (blocks bs) ∧ Fr (fun _ => False) w w' := by
  have H := hide h
  have Hb := hide hb
  have hbl := blocks_len bs
  clear h hb
  go_enter Try.func22, Try.ntmps22
  go_wp2_with fail
  go_loopw [0, 3, 4] (fun tb tv _ wr => ∃ (rest o : List Nat) (ba : Option Addr) (bc : Nat) (oa : Option Addr) (oc : Nat), tb = .slice ba rest.length bc ∧ Hid (Lies w (.slice ba rest.length bc) rest) ∧ Hid (∀ b ∈ rest, b < 256) ∧ rest.length ≤ bc ∧ rest.length ≤ 1000000 ∧ tv = .slice oa o.length oc ∧ Hid (OwnB wr w.heap.size (.slice oa o.length oc) o) ∧ Hid (o ++ blocks rest = blocks bs) ∧ Hid (Fr (fun _ => False) w wr)) (fun tb _ _ _ => lenOf tb)
  case atStart => exact ⟨bs, [], a, c, none, 0, rfl, H.out, Hb.out, hc, hlen, rfl, World.ownsRow_nil _ _ _ _, rfl, Fr.refl _ _⟩
  case round =>
    obtain ⟨rest, o, ba, bc, oa, oc, rfl, HR, HRb, hrc, hrl, rfl, HO, HE, HF⟩ := hrel
    by_cases hne : rest = []
    · subst hne
      have hol : o.length ≤ 2000001 := by
        have := congrArg List.length HE.out
        rw [List.length_append] at this
        omega
      have FA : Hid (Fr (fun _ => False) wr (wr.alloc (.cells (cellsOf [0]).toArray 5))) := Fr.of_alloc _ _
      have HO1 : Hid (OwnB (wr.alloc (.cells (cellsOf [0]).toArray 5)) w.heap.size (.slice oa o.length oc) o) := ownsRow_fr HO.out fun j hj => FA.out.block j (World.ownsRow.lt HO.out j hj).2 (fun h => h)
      have HL0 : Hid (Lies (wr.alloc (.cells (cellsOf [0]).toArray 5)) (.slice (some ⟨wr.heap.size, 0, none⟩) 1 1) [0]) := lies_lit wr [0] 1
      have hs1 : w.heap.size ≤ (wr.alloc (.cells (cellsOf [0]).toArray 5)).heap.size := Nat.le_trans HF.out.size FA.out.size
      have hq1 : o.length + [0].length ≤ 2147483648 := by simp; omega
      have HS1 := hide hs1
      have HQ1 := hide hq1
      clear hs1 hq1 HO
      go_wp2_with (at_builtin; go_must (refine wpList_app rfl (.tmp 24) (.tmp 25) rfl w.heap.size (.slice oa o.length oc) o rfl HO1.out (.slice (some ⟨wr.heap.size, 0, none⟩) 1 1) [0] rfl HL0.out HQ1.out HS1.out ?_); intro a2 c2 w2 hO2 hF2 _
                   have HF2 := hide (frJ (HF.out.join FA.out) hF2 fun j hj => (World.ownsRow.lt HO1.out j hj).1)
                   have HO2 := hide hO2
                   clear hO2 hF2)
      have e : o ++ [0] = blocks bs := HE.out
      have ho := HO2.out
      rw [e] at ho
      have el : o.length + [0].length = (blocks bs).length := by rw [← e, List.length_append]
      rw [el] at ho
      go_ret
      exact ⟨a2, c2, by rw [← el]; rfl, ho, HF2.out⟩
    · have hp : 0 < rest.length := List.length_pos_iff.2 hne
      obtain ⟨ad, rfl⟩ : ∃ ad, ba = some ad := by
        rcases HR.out with ⟨_, e⟩ | ⟨ad, c', e, _⟩
        · exact absurd e hne
        · exact ⟨ad, (Value.slice.inj e).1⟩
      obtain ⟨m, hm⟩ : ∃ m, m = min rest.length 255 := ⟨_, rfl⟩
      have hE2 := HE.out
      rw [blocks_cons rest hne m hm] at hE2
      have hol : o.length + m + 1 ≤ 2000001 := by
        have := congrArg List.length hE2
        rw [List.length_append, List.length_cons, List.length_append, List.length_take] at this
        omega
      have hmi : (if (255 : Int) < (rest.length : Int) then (255 : Int) else (rest.length : Int)) = (m : Int) := by split <;> omega
      have hm1 : m ≤ 255 := by omega
      have hm2 : m ≤ rest.length := by omega
      have hm3 : 1 ≤ m := by omega
      have hwr8 : IntKind.u8.wrap (m : Int) = (m : Int) := by rw [IntKind.wrap_u8']; omega
      have HE2 := hide hE2
      have Hm := hide hm
      obtain ⟨n, hn⟩ : ∃ n, n = rest.length := ⟨_, rfl⟩
      have Hn := hide hn
      rw [← hn] at hrc hrl hp hmi hm2 ⊢
      clear hm hE2 HE
      have hpi : (0 : Int) < (n : Int) := by omega
      have FA : Hid (Fr (fun _ => False) wr (wr.alloc (.cells (cellsOf [m]).toArray 5))) := Fr.of_alloc _ _
      have HO1 : Hid (OwnB (wr.alloc (.cells (cellsOf [m]).toArray 5)) w.heap.size (.slice oa o.length oc) o) := ownsRow_fr HO.out fun j hj => FA.out.block j (World.ownsRow.lt HO.out j hj).2 (fun h => h)
      have HL0 : Hid (Lies (wr.alloc (.cells (cellsOf [m]).toArray 5)) (.slice (some ⟨wr.heap.size, 0, none⟩) 1 1) [m]) := lies_lit wr [m] 1
      have HS1 : Hid (w.heap.size ≤ (wr.alloc (.cells (cellsOf [m]).toArray 5)).heap.size) := Nat.le_trans HF.out.size FA.out.size
      have HQ1 : Hid (o.length + [m].length ≤ 2147483648) := by show _ ≤ _; simp; omega
      clear HO hn
      go_upto_region 5 with (at_builtin; go_must (refine wpList_app rfl (.tmp 11) (.tmp 14) rfl w.heap.size (.slice oa o.length oc) o rfl HO1.out (.slice (some ⟨wr.heap.size, 0, none⟩) 1 1) [m] rfl HL0.out HQ1.out HS1.out ?_); intro a2 c2 w2 hO2 hF2 _
                             have HF2 := hide (frJ (HF.out.join FA.out) hF2 fun j hj => (World.ownsRow.lt HO1.out j hj).1)
                             have HO2 := hide hO2
                             have HS2 := hide (Nat.le_trans HS1.out hF2.size)
                             clear hO2 hF2)
      obtain ⟨o2, ho2⟩ : ∃ o2, o2 = o ++ [m] := ⟨_, rfl⟩
      obtain ⟨L2, hL2⟩ : ∃ L2, L2 = o.length + 1 := ⟨_, rfl⟩
      have hL2' : L2 = o2.length := by rw [hL2, ho2, List.length_append]; rfl
      have HO2b : Hid (OwnB w2 w.heap.size (.slice a2 L2 c2) o2) := by
        have h := HO2.out
        rw [← ho2] at h
        rw [hL2]
        exact h
      rw [← hL2]
      obtain ⟨T, hT⟩ : ∃ T, T = rest.take m := ⟨_, rfl⟩
      have HLt : Hid (Lies w2 (.slice (some ad) m bc) (T)) := by rw [hT]; exact take_lies (lies_false HR.out HF2.out) m bc (by rw [← Hn.out]; exact hm2)
      have HQ2 : Hid (o2.length + (T).length ≤ 2147483648) := by show _ ≤ _; rw [hT, List.length_take, ← hL2']; omega
      have hmc : m ≤ bc := by omega
      have hmci : (m : Int) ≤ (bc : Int) := by omega
      have Ho2 := hide ho2
      have HL2 := hide hL2'
      have Hlt : Hid ((T).length = m) := by show _ = _; rw [hT, List.length_take, ← Hn.out]; omega
      have HT := hide hT
      clear hT HO2 HO1 HL0 FA HQ1 HS1 ho2 hL2 hL2'
      rw [HL2.out] at HO2b ⊢
      go_upto_region 6 with (at_builtin; go_must (refine wpList_app rfl (.tmp 16) (.tmp 19) rfl w.heap.size (.slice a2 o2.length c2) o2 rfl HO2b.out (.slice (some ad) m bc) (T) rfl HLt.out HQ2.out HS2.out ?_); intro a3 c3 w3 hO3 hF3 _
                             have HF3 := hide (frJ HF2.out hF3 fun j hj => (World.ownsRow.lt HO2b.out j hj).1)
                             have HO3 := hide hO3
                             clear hO3 hF3)
      rw [Hlt.out]
      have HO3b : Hid (OwnB w3 w.heap.size (.slice a3 (o2 ++ T).length c3) (o2 ++ T)) := by
        have h := HO3.out
        rw [← List.length_append] at h
        exact h
      have HEn : Hid ((o2 ++ T) ++ blocks (rest.drop m) = blocks bs) := by
        show _ = _
        rw [← HE2.out, Ho2.out, HT.out]
        simp
      have hlo : o2.length + m = (o2 ++ T).length := by rw [List.length_append, Hlt.out]
      have hld : n - m = (rest.drop m).length := by rw [List.length_drop, ← Hn.out]
      have hmn : (m : Int) ≤ (n : Int) := by omega
      have Hld := hide hld
      have Hlo := hide hlo
      clear hld hlo HO2b HLt HQ2 HO3
      by_cases hcm : bc = m
      · go_wp2_with fail
        go_roundw
        case rel =>
          refine ⟨rest.drop m, o2 ++ T, some ad, 0, a3, c3, by rw [Hld.out], ?_, sub_bytes HRb.out m, by rw [← Hld.out]; omega, by rw [← Hld.out]; omega, by rw [Hlo.out], HO3b.out, HEn.out, HF3.out⟩
          have e : rest.drop m = [] := List.eq_nil_of_length_eq_zero (by rw [← Hld.out]; omega)
          show Lies _ _ _
          rw [e]
          exact Or.inr ⟨ad, 0, rfl, fun j u hu => by simp [cellsOf] at hu⟩
        case measure => simp [lenOf]; have := Hn.out; omega
      · go_wp2_with fail
        go_roundw
        case rel =>
          refine ⟨rest.drop m, o2 ++ T, some (ad.add m), bc - m, a3, c3, by rw [Hld.out], ?_, sub_bytes HRb.out m, by rw [← Hld.out]; omega, by rw [← Hld.out]; omega, by rw [Hlo.out], HO3b.out, HEn.out, HF3.out⟩
          exact drop_lies HR.out m (bc - m)
        case measure => simp [lenOf]; have := Hn.out; omega
end Go.Proofs.Ytdbgolklgiadeaa

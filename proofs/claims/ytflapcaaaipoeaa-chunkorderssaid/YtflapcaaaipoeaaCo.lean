/-
  chunk: Cut.
-/
import Derived.Test.YtflapcaaaipoeaaCn
namespace Go.Proofs.Ytflapcaaaipoeaa
open Go.RowKit Go.Lib
set_option linter.unusedVariables false

/-- The first chunk of some bytes, where there is one. -/
def firstK (r : List Nat) : Ck := (kindOf r, dataOf r)
/-- What is behind it. -/
def restOf (r : List Nat) : List Nat := r.drop (12 + (dataOf r).length)
/-- Chunks one behind the other as far as the end; what is left. -/
def runC : Nat → List Nat → Except Int (List Ck × List Nat)
  | 0, _ => .error 0
  | f + 1, r => if firstE r ≠ 0 then .error (firstE r) else if kindOf r = sIend then .ok ([firstK r], restOf r) else
    match runC f (restOf r) with
    | .error e => .error e
    | .ok (l, q) => .ok (firstK r :: l, q)
/-- Some chunks ahead. -/
def pre (ls : List Ck) : Except Int (List Ck × List Nat) → Except Int (List Ck × List Nat)
  | .error e => .error e
  | .ok (l, q) => .ok (ls ++ l, q)
/-- What Cut answers. -/
def cutV (bs : List Nat) : Except Int (List Ck) :=
  if startE bs ≠ 0 then .error (startE bs) else
    match runC (bs.length + 1) (bs.drop 8) with
    | .error e => .error e
    | .ok (l, q) => if 0 < q.length then .error 4 else .ok l

/-- Has the end come? -/
def endB (ls : List Ck) : Bool := decide (0 < ls.length) && decide ((ls.getD (ls.length - 1) default).1 = sIend)

theorem first_long {r : List Nat} (h : firstE r = 0) : 12 + (dataOf r).length ≤ r.length := by
  unfold firstE at h
  by_cases h1 : r.length < 12
  · rw [if_pos h1] at h; omega
  · rw [if_neg h1] at h
    by_cases h2 : 2147483647 < w32 r ∨ kindB (kindOf r) = false
    · rw [if_pos h2] at h; omega
    · rw [if_neg h2] at h
      by_cases h3 : r.length - 12 < w32 r
      · rw [if_pos h3] at h; omega
      · unfold dataOf
        rw [List.length_take, List.length_drop]
        omega

theorem pre_pre (a b : List Ck) (x : Except Int (List Ck × List Nat)) : pre a (pre b x) = pre (a ++ b) x := by
  cases x with
  | error e => rfl
  | ok p => obtain ⟨l, q⟩ := p; simp [pre]

/-- Where the loop stands: chunks ls were cut, r is left. -/
def CutAt (F : Nat) (b : List Nat) (ls : List Ck) (r : List Nat) : Prop :=
  if endB ls = true then runC F b = .ok (ls, r) else ∃ f, r.length < f ∧ runC F b = pre ls (runC f r)

theorem endB_snoc (ls : List Ck) (c : Ck) : endB (ls ++ [c]) = decide (c.1 = sIend) := by
  unfold endB
  rw [List.length_append]
  simp only [List.length_cons, List.length_nil, Nat.zero_add, Nat.add_sub_cancel]
  rw [getD_snoc_eq]
  simp

theorem CutAt.start (b : List Nat) (F : Nat) (h : b.length < F) : CutAt F b [] b := by
  unfold CutAt
  rw [if_neg (by simp [endB])]
  refine ⟨F, h, ?_⟩
  cases runC F b with
  | error e => rfl
  | ok p => rfl

theorem CutAt.step {F : Nat} {b r : List Nat} {ls : List Ck} (h : CutAt F b ls r) (he : endB ls = false) (hf : firstE r = 0) : CutAt F b (ls ++ [firstK r]) (restOf r) := by
  unfold CutAt at h
  rw [he] at h
  simp only [Bool.false_eq_true, if_false] at h
  obtain ⟨f, h1, h2⟩ := h
  have hl := first_long hf
  obtain ⟨f', rfl⟩ : ∃ f', f = f' + 1 := ⟨f - 1, by omega⟩
  unfold CutAt
  rw [endB_snoc, show (firstK r).1 = kindOf r from rfl]
  by_cases hk : kindOf r = sIend
  · rw [if_pos (decide_eq_true hk), h2]
    unfold runC
    rw [if_neg (by simpa using hf), if_pos hk]
    rfl
  · rw [if_neg (fun h => hk (of_decide_eq_true h)), h2]
    refine ⟨f', ?_, ?_⟩
    · unfold restOf
      rw [List.length_drop]
      omega
    · conv => lhs; unfold runC
      rw [if_neg (by simpa using hf), if_neg hk]
      cases runC f' (restOf r) with
      | error e => rfl
      | ok p => obtain ⟨l, q⟩ := p; simp [pre]

theorem CutAt.err {F : Nat} {b r : List Nat} {ls : List Ck} (h : CutAt F b ls r) (he : endB ls = false) (hf : firstE r ≠ 0) : runC F b = .error (firstE r) := by
  unfold CutAt at h
  rw [he] at h
  simp only [Bool.false_eq_true, if_false] at h
  obtain ⟨f, h1, h2⟩ := h
  obtain ⟨f', rfl⟩ : ∃ f', f = f' + 1 := ⟨f - 1, by omega⟩
  rw [h2]
  unfold runC
  rw [if_pos hf]
  rfl
theorem CutAt.fin {F : Nat} {b r : List Nat} {ls : List Ck} (h : CutAt F b ls r) (he : endB ls = true) : runC F b = .ok (ls, r) := by
  unfold CutAt at h
  rw [if_pos he] at h
  exact h

/-- What Cut leaves. -/
def CutOut (bs : List Nat) (lo : Nat) (e : Ending) (w' : World) : Prop :=
  match cutV bs with
  | .error er => e = .returned (.tuple #[.slice none 0 0, .int .i64 er])
  | .ok l => ∃ v, e = .returned (.tuple #[v, .int .i64 0]) ∧ OwnC 51 w' lo v l

theorem start_len {bs : List Nat} (h : startE bs = 0) : 8 ≤ bs.length ∧ bs.length ≤ 262144 := by
  unfold startE at h
  by_cases h1 : 262144 < bs.length
  · rw [if_pos h1] at h; omega
  · rw [if_neg h1] at h
    by_cases h2 : bs.length < 8
    · rw [if_pos h2] at h; omega
    · omega

set_option maxHeartbeats 1600000 in
set_option maxRecDepth 20000 in
theorem cut_c (a : Option Addr) (c : Nat) (bs : List Nat) (w : World) (hl : Lies w a bs) (hc : bs.length ≤ c) (hcm : c ≤ maxLen) :
    Calls Try.prog 8 #[.slice a bs.length c] w fun e w' => CutOut bs w.heap.size e w' ∧ Fr (fun _ => False) w w' := by
  have hst := checkStart_c a c bs w hl hc hcm
  by_cases hs : startE bs = 0
  · obtain ⟨h8, h26⟩ := start_len hs
    have HG : Hid (cutV bs = match runC (bs.length + 1) (bs.drop 8) with
      | .error e => .error e
      | .ok (l, q) => if 0 < q.length then .error 4 else .ok l) := by show _ = _; unfold cutV; rw [if_neg (by simpa using hs)]
    rw [hs] at hst
    obtain ⟨ad, rfl, _⟩ := hl.2 0 (by omega)
    have hd8 := hl.drop 8 c h8 hc
    have hx8 : (some ad).map (·.add 8) = some (⟨ad.block, ad.off + 8, none⟩ : Addr) := by simp [Addr.add]
    rw [hx8] at hd8
    have HD := hide hd8
    have HS := hide hst
    have g8 : (8 : Int) ≤ (c : Int) := by unfold maxLen at hcm; omega
    have HL := hide (CutAt.start (bs.drop 8) (bs.length + 1) (by rw [List.length_drop]; omega))
    have hrl : (bs.drop 8).length = bs.length - 8 := List.length_drop
    have h9 : (8 : Int) ≤ (bs.length : Int) := by omega
    have Hrl := hide hrl
    clear hst hl hs hd8 hx8 hrl
    go_enter Try.func8, Try.ntmps8
    go_wp2_with fail
    refine HS.out.mono ?_
    rintro e w1 ⟨rfl, rfl⟩
    go_wp2_with fail
    refine (new_c w).mono ?_
    rintro e w1 ⟨T, rfl, ht, hf1⟩
    have HF := hide hf1
    have HT := hide ht
    have HTlt := hide ht.lt
    clear hf1 ht HS
    go_upto_region 6 with fail
    have HD1 := HD
    rw [← Hrl.out]
    have hc9 : (bs.drop 8).length ≤ c - 8 := by rw [Hrl.out]; omega
    have hc10 : c - 8 ≤ maxLen := by omega
    have hr0 : (bs.drop 8).length ≤ 262136 := by rw [Hrl.out]; omega
    clear HD hc hcm h9 g8
    generalize (if c = 8 then some ad else some (⟨ad.block, ad.off + 8, none⟩ : Addr)) = ra at *
    generalize c - 8 = rc at *
    have HG2 := hide HG
    clear HG
    obtain ⟨F, hF⟩ : ∃ F, F = bs.length + 1 := ⟨_, rfl⟩
    rw [← hF] at HL HG2
    clear hF Hrl h8 h26
    generalize bs.drop 8 = b8 at *
    go_wp2_with fail
    go_loopw [6, 7] (fun rv lv wr => ∃ (ls : List Ck) (r : List Nat) (ra : Option Addr) (rc : Nat) (va : Option Addr) (vc : Nat), rv = .slice ra r.length rc ∧ Lies w ra r ∧ r.length ≤ rc ∧ rc ≤ maxLen ∧ lv = .slice va ls.length vc ∧ OwnC 51 wr w1.heap.size (.slice va ls.length vc) ls ∧ Hid (CutAt F b8 ls r) ∧ IsTab wr T ∧ Fr (fun _ => False) w wr ∧ w1.heap.size ≤ wr.heap.size ∧ ls.length * 12 + r.length ≤ 262136) (fun rv _ _ => match rv with | .slice _ n _ => n | _ => 0)
    case atStart => exact ⟨[], b8, ra, rc, none, 0, rfl, HD1.out, hc9, hc10, rfl, OwnC.nil _ _ _, HL, HT.out, HF.out, Nat.le_refl _, by simpa using hr0⟩
    case round =>
      have HF0 : w.heap.size ≤ w1.heap.size := HF.out.size
      clear HD1 hc9 hc10 hr0 HL HT HF
      obtain ⟨ls, r, ra', rc', va, vc, rfl, hli, hrc, hrm, rfl, ho, HC, ht, hf, hsz, hcount⟩ := hrel
      have hrm0 := hide hrm
      unfold maxLen at hrm
      have hlie := ho.lies
      have Hli := hide hli
      have HO := hide ho
      have HTb := hide ht
      have HF := hide hf
      have HZ := hide hsz
      have HCN := hide hcount
      clear hli ho ht hf hsz hcount
      have hcase : (endB ls = true ∧ ∃ m, ls.length = m + 1 ∧ (ls.getD m default).1 = sIend) ∨ (endB ls = false ∧ (ls.length = 0 ∨ ∃ m, ls.length = m + 1 ∧ (ls.getD m default).1 ≠ sIend)) := by
        unfold endB
        by_cases h0 : ls.length = 0
        · right; exact ⟨by rw [h0]; rfl, .inl h0⟩
        · have hm : ls.length = ls.length - 1 + 1 := by omega
          by_cases hk : (ls.getD (ls.length - 1) default).1 = sIend
          · left; exact ⟨by rw [decide_eq_true (by omega), decide_eq_true hk]; rfl, _, hm, hk⟩
          · right; exact ⟨by rw [decide_eq_false hk, Bool.and_false], .inr ⟨_, hm, hk⟩⟩
      rcases hcase with ⟨he, m, hm, hk⟩ | ⟨he, hcs⟩
      · -- the end has come
        obtain ⟨b, o, d, cap, rfl, hck⟩ := hlie m (by omega)
        have hc1 := hck.kind
        have hbe : ((ls.getD m default).1.toList == [73, 69, 78, 68]) = true := by rw [eqL]; exact decide_eq_true hk
        have HR := hide (HC.out.fin he)
        clear hck hlie
        generalize (ls.getD m default).1 = kd at *
        have Hm := hide hm
        have hm0 : (0 : Int) ≤ (m : Int) := by omega
        have hmB : m ≤ 300000 := by have := HCN.out; omega
        have hmz : ((m : Int) + 1 == 0) = false := by simp; omega
        rw [hm]
        clear hm hk
        by_cases hr0 : 0 < r.length
        · have HN : Hid (cutV bs = .error 4) := by show _ = _; rw [HG2.out.out, HR.out]; simp only []; rw [if_pos hr0]
          go_wp2
          go_ret2
          refine ⟨?_, HF.out⟩
          unfold CutOut
          rw [HN.out]
          rfl
        · have HN : Hid (cutV bs = .ok ls) := by show _ = _; rw [HG2.out.out, HR.out]; simp only []; rw [if_neg hr0]
          have hrz : r.length = 0 := by omega
          go_wp2
          go_ret2
          refine ⟨?_, HF.out⟩
          unfold CutOut
          rw [HN.out]
          refine ⟨_, rfl, ?_⟩
          have h9 := HO.out.base' (w.heap.size) HF0
          rw [Hm.out] at h9
          exact h9
      · -- one more
        have hrl : r.length ≤ 262144 := by have := HCN.out; omega
        obtain ⟨N, hN⟩ : ∃ N, ls.length = N := ⟨_, rfl⟩
        have hB : N ≤ 300000 := by have := HCN.out; omega
        rw [hN] at HO HCN hcs ⊢
        have HNN := hide hN
        clear hN
        have hfst := first_c T ra' rc' r wr HTb.out (Hli.out.keep HF.out (fun _ _ h => h)) hrc hrm0.out hrl
        have HFS := hide hfst
        have HHe := hide he
        clear hfst he
        rcases hcs with rfl | ⟨m, rfl, hk⟩
        · clear hlie
          go_upto_region 8 with fail
          go_wp2_with fail
          refine HFS.out.mono ?_
          rintro e w5 ⟨hout, hf5⟩
          have HF5 := hide hf5
          clear hf5 HFS
          rcases hout with ⟨hne, rfl⟩ | ⟨hz, v, rfl, hown⟩
          · have HN : Hid (cutV bs = .error (firstE r)) := by show _ = _; rw [HG2.out.out, HC.out.err HHe.out hne]
            have hse : (firstE r == 0) = false := by simpa using hne
            clear hne
            generalize firstE r = E at *
            go_wp2
            go_ret2
            refine ⟨?_, HF.out.join (HF5.out.join (Fr.of_alloc _ _))⟩
            unfold CutOut
            rw [HN.out]
            rfl
          · obtain ⟨da, dc, hv, hdc, hdn, hdb⟩ := hown.form
            have hcell : True := trivial
            subst hv
            have hzz := hz
            have HST := hide (HC.out.step HHe.out hz)
            have hfl := first_long hz
            have hgn : (dataOf r).length = (firstK r).2.length := rfl
            have hre : restOf r = r.drop (12 + (dataOf r).length) := rfl
            have Hre := hide hre
            have hks : (kindOf r).size ≤ 281474976710656 := by
              unfold kindOf
              rw [strOf_size, List.length_take]
              omega
            have hrr : (restOf r).length = r.length - (12 + (dataOf r).length) := List.length_drop
            have hob := HO.out.form.2
            obtain ⟨A, hA⟩ : ∃ A, A = Obj.cells #[.string (kindOf r), .slice da (dataOf r).length dc] 51 := ⟨_, rfl⟩
            have f7 : Fr (fun _ => False) w5 ((w5.alloc A).alloc A) := (Fr.of_alloc _ _).join (Fr.of_alloc _ _)
            have HO7 := hide (HO.out.keep (HF5.out.join f7) (fun _ _ h => h))
            have hdat : Dat ((w5.alloc A).alloc A) (.slice va _ vc) (firstK r) da dc := ⟨hown.lies.keep f7 (fun _ _ h => h), hdn, hks, by rw [← hgn]; omega, hdc, fun _ ad' e hb => by
              have h1 := (hob _ hb).2
              subst e
              have h2 := (hdb ad'.block rfl).1
              omega⟩
            have HDT := hide hdat
            have hc70 : ((w5.alloc A).alloc A).cell? ((⟨w5.heap.size + 1, 0, none⟩ : Addr).add 0) = some (.string (firstK r).1) := by
              have := heap_alloc_new (w5.alloc A) A
              rw [add_none]
              simp only [World.cell?]
              rw [show w5.heap.size + 1 = (w5.alloc A).heap.size by simp, this, hA]
              rfl
            have hc71 : ((w5.alloc A).alloc A).cell? ((⟨w5.heap.size + 1, 0, none⟩ : Addr).add 1) = some (.slice da (firstK r).2.length dc) := by
              have := heap_alloc_new (w5.alloc A) A
              rw [add_none]
              simp only [World.cell?]
              rw [show w5.heap.size + 1 = (w5.alloc A).heap.size by simp, this, hA]
              rfl
            have hc8 : ((w5.alloc A).alloc A).cell? ⟨w5.heap.size, 1, none⟩ = some (.slice da (dataOf r).length dc) := by
              simp only [World.cell?]
              rw [Below.heap_alloc _ _ _ (by simp), heap_alloc_new, hA]
              rfl
            have Hc8 := hide hc8
            have Hc70 := hide hc70
            have Hc71 := hide hc71
            have hz1 : w1.heap.size ≤ ((w5.alloc A).alloc A).heap.size := by
              have := HF5.out.size
              have := HZ.out
              simp; omega
            have Hz1 := hide hz1
            have Hob := hide hob
            have hn12 : (12 : Int) + ((dataOf r).length : Int) ≤ (r.length : Int) := by omega
            have hn12' : (12 : Int) + ((dataOf r).length : Int) ≤ (rc' : Int) := by omega
            have Hgn := hide hgn
            have Hrr := hide hrr
            have Hfl := hide hfl
            have Hrc := hide hrc
            clear hdat hc70 hc71 hc8 hz1 hob hzz hgn hrr hfl hdb hdn hdc hks hown hz hre f7 hcell hrc
            generalize (dataOf r).length = n at *
            subst hA
            go_wp2_with (at_builtin; go_must (refine wpList_appC 51 24 Try.underlying24 Try.info51 rfl _ _ rfl w1.heap.size _ ls rfl HO7.out ⟨w5.heap.size + 1, 0, none⟩ 1 rfl (firstK r) da dc Hc70.out Hc71.out HDT.out (by have := HNN.out; omega) Hz1.out ?_))
            intro v' w8 ho8 hf8
            obtain ⟨⟨va', vc', hv', _⟩, _⟩ := ho8.form
            subst hv'
            have hob8 : ¬ (Value.slice va 0 vc).ownBlock = some w5.heap.size := fun e => by
              have := (Hob.out _ e).2
              have := HF5.out.size
              omega
            have hc9 : w8.cell? ⟨w5.heap.size, 1, none⟩ = some (.slice da n dc) := cell_fr hf8 Hc8.out hob8
            have HF8 : Hid (Fr (fun _ => False) w w8) := by
              refine ((HF.out.join (HF5.out.join ((Fr.of_alloc _ _).join (Fr.of_alloc _ _)))).trans hf8).mono fun i hi h => ?_
              rcases h with h | h
              · exact h
              · have := (Hob.out _ h).1
                omega
            have HT8 : Hid (IsTab w8 T) := by
              refine (HTb.out.keep (HF5.out.join ((Fr.of_alloc _ _).join (Fr.of_alloc _ _))) (fun h => h)).keep hf8 fun h => ?_
              have := (Hob.out _ h).1
              have := HTlt.out
              omega
            have HL8 : Hid (Lies w (if rc' = 12 + n then ra' else ra'.map (·.add (12 + n))) (restOf r)) := by
              rw [Hre.out]
              exact Hli.out.drop (12 + n) rc' (by have := Hfl.out; omega) Hrc.out
            have Ho8 := hide ho8
            have hsz8 : Hid (w1.heap.size ≤ w8.heap.size) := Nat.le_trans Hz1.out hf8.size
            clear ho8 hf8 hob8
            go_wp2
            go_roundw
            case rel => exact ⟨ls ++ [firstK r], restOf r, _, rc' - (12 + n), va', vc', by rw [Hrr.out], HL8.out, by rw [Hrr.out]; have := Hrc.out; omega, by have := hrm0.out; omega, rfl, Ho8.out, HST, HT8.out, HF8.out, hsz8.out, by have h1 := HCN.out; have h2 := HNN.out; have h3 := Hrr.out; have h4 := Hfl.out; rw [List.length_append]; simp only [List.length_cons, List.length_nil]; omega⟩
            case measure => simp only []; have := Hfl.out; omega
        · obtain ⟨b, o, d, cap, rfl, hck⟩ := hlie m (by have := HNN.out; omega)
          have hc1 := hck.kind
          have hbe : ((ls.getD m default).1.toList == [73, 69, 78, 68]) = false := by rw [eqL]; exact decide_eq_false hk
          clear hck hlie
          generalize (ls.getD m default).1 = kd at *
          have hm0 : (0 : Int) ≤ (m : Int) := by omega
          have hmz : ((m : Int) + 1 == 0) = false := by simp; omega
          clear hk
          go_upto_region 8 with fail
          go_wp2_with fail
          refine HFS.out.mono ?_
          rintro e w5 ⟨hout, hf5⟩
          have HF5 := hide hf5
          clear hf5 HFS
          rcases hout with ⟨hne, rfl⟩ | ⟨hz, v, rfl, hown⟩
          · have HN : Hid (cutV bs = .error (firstE r)) := by show _ = _; rw [HG2.out.out, HC.out.err HHe.out hne]
            have hse : (firstE r == 0) = false := by simpa using hne
            clear hne
            generalize firstE r = E at *
            go_wp2
            go_ret2
            refine ⟨?_, HF.out.join (HF5.out.join (Fr.of_alloc _ _))⟩
            unfold CutOut
            rw [HN.out]
            rfl
          · obtain ⟨da, dc, hv, hdc, hdn, hdb⟩ := hown.form
            have hcell : True := trivial
            subst hv
            have hzz := hz
            have HST := hide (HC.out.step HHe.out hz)
            have hfl := first_long hz
            have hgn : (dataOf r).length = (firstK r).2.length := rfl
            have hre : restOf r = r.drop (12 + (dataOf r).length) := rfl
            have Hre := hide hre
            have hks : (kindOf r).size ≤ 281474976710656 := by
              unfold kindOf
              rw [strOf_size, List.length_take]
              omega
            have hrr : (restOf r).length = r.length - (12 + (dataOf r).length) := List.length_drop
            have hob := HO.out.form.2
            obtain ⟨A, hA⟩ : ∃ A, A = Obj.cells #[.string (kindOf r), .slice da (dataOf r).length dc] 51 := ⟨_, rfl⟩
            have f7 : Fr (fun _ => False) w5 ((w5.alloc A).alloc A) := (Fr.of_alloc _ _).join (Fr.of_alloc _ _)
            have HO7 := hide (HO.out.keep (HF5.out.join f7) (fun _ _ h => h))
            have hdat : Dat ((w5.alloc A).alloc A) (.slice (some ⟨b, o, none⟩) _ vc) (firstK r) da dc := ⟨hown.lies.keep f7 (fun _ _ h => h), hdn, hks, by rw [← hgn]; omega, hdc, fun _ ad' e hb => by
              have h1 := (hob _ hb).2
              subst e
              have h2 := (hdb ad'.block rfl).1
              omega⟩
            have HDT := hide hdat
            have hc70 : ((w5.alloc A).alloc A).cell? ((⟨w5.heap.size + 1, 0, none⟩ : Addr).add 0) = some (.string (firstK r).1) := by
              have := heap_alloc_new (w5.alloc A) A
              rw [add_none]
              simp only [World.cell?]
              rw [show w5.heap.size + 1 = (w5.alloc A).heap.size by simp, this, hA]
              rfl
            have hc71 : ((w5.alloc A).alloc A).cell? ((⟨w5.heap.size + 1, 0, none⟩ : Addr).add 1) = some (.slice da (firstK r).2.length dc) := by
              have := heap_alloc_new (w5.alloc A) A
              rw [add_none]
              simp only [World.cell?]
              rw [show w5.heap.size + 1 = (w5.alloc A).heap.size by simp, this, hA]
              rfl
            have hc8 : ((w5.alloc A).alloc A).cell? ⟨w5.heap.size, 1, none⟩ = some (.slice da (dataOf r).length dc) := by
              simp only [World.cell?]
              rw [Below.heap_alloc _ _ _ (by simp), heap_alloc_new, hA]
              rfl
            have Hc8 := hide hc8
            have Hc70 := hide hc70
            have Hc71 := hide hc71
            have hz1 : w1.heap.size ≤ ((w5.alloc A).alloc A).heap.size := by
              have := HF5.out.size
              have := HZ.out
              simp; omega
            have Hz1 := hide hz1
            have Hob := hide hob
            have hn12 : (12 : Int) + ((dataOf r).length : Int) ≤ (r.length : Int) := by omega
            have hn12' : (12 : Int) + ((dataOf r).length : Int) ≤ (rc' : Int) := by omega
            have Hgn := hide hgn
            have Hrr := hide hrr
            have Hfl := hide hfl
            have Hrc := hide hrc
            clear hdat hc70 hc71 hc8 hz1 hob hzz hgn hrr hfl hdb hdn hdc hks hown hz hre f7 hcell hrc
            generalize (dataOf r).length = n at *
            subst hA
            go_wp2_with (at_builtin; go_must (refine wpList_appC 51 24 Try.underlying24 Try.info51 rfl _ _ rfl w1.heap.size _ ls rfl HO7.out ⟨w5.heap.size + 1, 0, none⟩ 1 rfl (firstK r) da dc Hc70.out Hc71.out HDT.out (by have := HNN.out; omega) Hz1.out ?_))
            intro v' w8 ho8 hf8
            obtain ⟨⟨va', vc', hv', _⟩, _⟩ := ho8.form
            subst hv'
            have hob8 : ¬ (Value.slice (some ⟨b, o, none⟩) (m + 1) vc).ownBlock = some w5.heap.size := fun e => by
              have := (Hob.out _ e).2
              have := HF5.out.size
              omega
            have hc9 : w8.cell? ⟨w5.heap.size, 1, none⟩ = some (.slice da n dc) := cell_fr hf8 Hc8.out hob8
            have HF8 : Hid (Fr (fun _ => False) w w8) := by
              refine ((HF.out.join (HF5.out.join ((Fr.of_alloc _ _).join (Fr.of_alloc _ _)))).trans hf8).mono fun i hi h => ?_
              rcases h with h | h
              · exact h
              · have := (Hob.out _ h).1
                omega
            have HT8 : Hid (IsTab w8 T) := by
              refine (HTb.out.keep (HF5.out.join ((Fr.of_alloc _ _).join (Fr.of_alloc _ _))) (fun h => h)).keep hf8 fun h => ?_
              have := (Hob.out _ h).1
              have := HTlt.out
              omega
            have HL8 : Hid (Lies w (if rc' = 12 + n then ra' else ra'.map (·.add (12 + n))) (restOf r)) := by
              rw [Hre.out]
              exact Hli.out.drop (12 + n) rc' (by have := Hfl.out; omega) Hrc.out
            have Ho8 := hide ho8
            have hsz8 : Hid (w1.heap.size ≤ w8.heap.size) := Nat.le_trans Hz1.out hf8.size
            clear ho8 hf8 hob8
            go_wp2
            go_roundw
            case rel => exact ⟨ls ++ [firstK r], restOf r, _, rc' - (12 + n), va', vc', by rw [Hrr.out], HL8.out, by rw [Hrr.out]; have := Hrc.out; omega, by have := hrm0.out; omega, rfl, Ho8.out, HST, HT8.out, HF8.out, hsz8.out, by have h1 := HCN.out; have h2 := HNN.out; have h3 := Hrr.out; have h4 := Hfl.out; rw [List.length_append]; simp only [List.length_cons, List.length_nil]; omega⟩
            case measure => simp only []; have := Hfl.out; omega
  · have HN : Hid (cutV bs = .error (startE bs)) := by show _ = _; unfold cutV; rw [if_pos hs]
    have hse : (startE bs == 0) = false := by simpa using hs
    have HS := hide hst
    have Hs := hide hs
    clear hst hl hs hc hcm
    generalize startE bs = E at *
    generalize bs.length = n at *
    go_enter Try.func8, Try.ntmps8
    go_wp2_with fail
    refine HS.out.mono ?_
    rintro e w1 ⟨rfl, rfl⟩
    go_wp2
    go_ret2
    refine ⟨?_, Fr.refl _ _⟩
    unfold CutOut
    rw [HN.out]
    rfl
end Go.Proofs.Ytflapcaaaipoeaa

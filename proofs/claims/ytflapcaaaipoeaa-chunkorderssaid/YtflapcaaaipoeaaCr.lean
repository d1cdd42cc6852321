/-
  chunk: Join.
-/
import Derived.Test.YtflapcaaaipoeaaCq
namespace Go.Proofs.Ytflapcaaaipoeaa
open Go.RowKit Go.Lib
set_option linter.unusedVariables false

/-- A chunk in a file. -/
def encL (c : Ck) : List Nat := wd4 c.2.length ++ strBytes c.1 ++ c.2 ++ wd4 (sumOf c.1 c.2)
/-- A file of the first k. -/
def pl (l : List Ck) (k : Nat) : List Nat := sigL ++ ((l.take k).map encL).flatten
/-- What Join answers. -/
def joinV (l : List Ck) : Except Int (List Nat) := if kindsB l = false then .error 1 else if sizeL l ≤ 262144 then .ok (pl l l.length) else .error 3

theorem pl_snoc (l : List Ck) (k : Nat) (h : k < l.length) : pl l (k + 1) = pl l k ++ encL (l.getD k default) := by
  unfold pl
  rw [List.take_succ_eq_append_getElem h, List.map_append, List.flatten_append, List.append_assoc]
  simp [List.getD_eq_getElem?_getD, List.getElem?_eq_getElem h]
theorem kind_size {k : ByteArray} (h : kindB k = true) : k.size = 4 := by
  unfold kindB at h
  simp only [Bool.and_eq_true, decide_eq_true_eq] at h
  exact h.1
theorem encL_length {c : Ck} (h : kindB c.1 = true) : (encL c).length = 12 + c.2.length := by
  unfold encL
  simp only [List.length_append, strBytes_length, kind_size h, wd4, List.length_cons, List.length_nil]
  omega
theorem kinds_get {l : List Ck} (h : kindsB l = true) {k : Nat} (hk : k < l.length) : kindB (l.getD k default).1 = true := by
  unfold kindsB at h
  rw [List.getD_eq_getElem?_getD, List.getElem?_eq_getElem hk]
  exact List.all_eq_true.1 h _ (List.getElem_mem hk)
theorem pl_length {l : List Ck} (h : kindsB l = true) : ∀ k, k ≤ l.length → (pl l k).length = sizeL (l.take k)
  | 0, _ => by simp [pl, sizeL, sigL]
  | k + 1, hk => by
    rw [pl_snoc l k (by omega), List.length_append, pl_length h k (by omega), encL_length (kinds_get h (by omega)), size_snoc l k (by omega)]

theorem makeZ (n : Nat) (hn : n ≤ 5000000) : ∃ zs : Array Value, (∀ W : World, (Instr.makeSlice 22 (.int .i64 0) (.int .i64 (n : Int))).run Try.prog W = .ok (.slice (some ⟨W.heap.size, 0, none⟩) 0 n) (W.alloc (.cells zs 5))) ∧ zs.size = n := by
  obtain ⟨i0, hi, hz0, hz1, hz2⟩ := info_parts Try.info5
  refine ⟨madeCells (Value.int .u8 0).cells (n * 1), fun W => ?_, by simp [size_madeCells]⟩
  have := run_make (P := Try.prog) W 22 5 i0 (.int .u8 0) Try.underlying22 hi hz0 .i64 .i64 0 n (by omega) (by omega) (by rw [hz2]; omega) (by omega)
  rw [hz1] at this
  simpa using this

theorem own_ne {w : World} {base : Nat} {v : Value} {bs : List Nat} {R : Nat} {cs : Array Value} {T : TypeId} {fz : Nat × Nat} (h : OwnB w base v bs) (hR : w.heap[R]? = some (.cells cs T fz)) (hT : T ≠ 5) : ¬ v.ownBlock = some R := fun e => by
  obtain ⟨_, _, _, _, _, hf⟩ := h.form
  obtain ⟨_, cur, fz', h2⟩ := hf R e
  rw [hR] at h2
  cases h2
  exact hT rfl
theorem fr_own {w w' w2 : World} {base : Nat} {v : Value} {bs : List Nat} (h : Fr (fun _ => False) w w') (ho : OwnB w' base v bs) (hb : w.heap.size ≤ base) (f : Fr (fun i => v.ownBlock = some i) w' w2) : Fr (fun _ => False) w w2 := by
  refine (h.trans f).mono fun i hi hh => ?_
  rcases hh with hh | hh
  · exact hh
  · obtain ⟨_, _, _, _, _, hf⟩ := ho.form
    have := (hf i hh).1
    omega
theorem cells_at {w w' : World} {S : Nat → Prop} {D : Nat} {cs : Array Value} {T : TypeId} (h : w.heap[D]? = some (.cells cs T (0, 0))) (f : Fr S w w') (hn : ¬ S D) : w'.heap[D]? = some (.cells cs T (0, 0)) := (f.block D (lt_of h) hn).trans h

/-- What Join leaves. -/
def JoinOut (l : List Ck) (lo : Nat) (e : Ending) (w' : World) : Prop :=
  match joinV l with
  | .error er => e = .returned (.tuple #[.slice none 0 0, .int .i64 er])
  | .ok bs => ∃ v, e = .returned (.tuple #[v, .int .i64 0]) ∧ OwnB w' lo v bs

set_option maxHeartbeats 1600000 in
set_option maxRecDepth 20000 in
theorem join_c (a : Option Addr) (c : Nat) (l : List Ck) (w : World) (hl : LiesC w a l) (hlen : l.length ≤ 281474976710656) :
    Calls Try.prog 13 #[.slice a l.length c] w fun e w' => JoinOut l w.heap.size e w' ∧ Fr (fun _ => False) w w' := by
  have Hl := hide hl
  have HK := hide (kindsMayBe_c a c l w hl hlen)
  have HS := hide (fun w hl => fileSize_c a c l w hl hlen)
  clear hl
  cases hk : kindsB l
  · rw [hk] at HK
    have HN : Hid (joinV l = .error 1) := by show _ = _; unfold joinV; rw [if_pos hk]
    clear hk
    go_enter Try.func13, Try.ntmps13
    go_wp2_with fail
    refine HK.out.mono ?_
    rintro e w1 ⟨rfl, hf1⟩
    go_wp2
    go_ret2
    refine ⟨?_, hf1⟩
    unfold JoinOut
    rw [HN.out]
    rfl
  · rw [hk] at HK
    by_cases hz : sizeL l ≤ 262144
    · have HN : Hid (joinV l = .ok (pl l l.length)) := by show _ = _; unfold joinV; rw [if_neg (by rw [hk]; simp), if_pos hz]
      have hsv : sizeV l = .tuple #[.int .i64 (sizeL l : Int), .bool true] := by unfold sizeV; rw [if_pos hz]
      rw [hsv] at HS
      obtain ⟨zs, hmk, hzs⟩ := makeZ (sizeL l) (by omega)
      have Hzs := hide hzs
      have Hk := hide hk
      have Hz := hide hz
      clear hk hsv hzs hz
      generalize hsz : sizeL l = z at *
      have Hsz := hide hsz
      clear hsz
      go_enter Try.func13, Try.ntmps13
      go_wp2_with fail
      refine HK.out.mono ?_
      rintro e w1 ⟨rfl, hf1⟩
      go_wp2_with fail
      refine (HS.out w1 (Hl.out.keep hf1 (fun _ _ h => h))).mono ?_
      rintro e w2 ⟨rfl, hf2⟩
      go_wp2_with fail
      refine (new_c w2).mono ?_
      rintro e w3 ⟨T, rfl, ht, hf3⟩
      have HF := hide ((hf1.join hf2).join hf3)
      have HT := hide ht
      clear hf1 hf2 hf3 ht
      have hob := OwnB.fresh w3 z (by have := Hz.out; unfold maxLen; omega) zs Hzs.out
      have HO := hide hob
      have h63 : Hid (([] : List Nat).length + (⟨#[137, 80, 78, 71, 13, 10, 26, 10]⟩ : ByteArray).size ≤ 140737488355328) := by show _ ≤ _; decide
      have hbs : Hid (w3.heap.size ≤ (w3.alloc (.cells zs 5)).heap.size) := by show _ ≤ _; simp
      clear hob
      go_wp2_with (at_builtin; go_must (refine wpList_appS rfl _ _ rfl w3.heap.size _ [] rfl HO.out ⟨#[137, 80, 78, 71, 13, 10, 26, 10]⟩ rfl h63.out hbs.out ?_); intro v' w4 ho4 hf4)
      have hsg : [] ++ strBytes ⟨#[137, 80, 78, 71, 13, 10, 26, 10]⟩ = pl l 0 := by rfl
      rw [hsg] at ho4
      obtain ⟨va, vc, hv, _⟩ := ho4.form
      subst hv
      have HO4 := hide ho4
      have HF4 := hide (fr_own (HF.out.join (Fr.of_alloc _ _)) HO.out HF.out.size hf4)
      have HTlt := hide HT.out.lt
      have HT4 : Hid (IsTab w4 T) := by
        refine (HT.out.keep (Fr.of_alloc w3 _) (fun h => h)).keep hf4 fun h => ?_
        have := HTlt.out
        obtain ⟨_, _, _, _, _, hf⟩ := HO.out.form
        have := (hf T h).1
        omega
      have hB : Hid (w3.heap.size ≤ w4.heap.size) := Nat.le_trans hbs.out hf4.size
      have HF0 : Hid (w.heap.size ≤ w3.heap.size) := HF.out.size
      clear ho4 hf4 HO hsg h63 hbs HF HT hmk
      go_loopw [7, 26] (fun ov iv wr => ∃ (k : Nat) (va : Option Addr) (vc : Nat), k ≤ l.length ∧ iv = .int .i64 k ∧ ov = .slice va (pl l k).length vc ∧ OwnB wr w3.heap.size (.slice va (pl l k).length vc) (pl l k) ∧ IsTab wr T ∧ Fr (fun _ => False) w wr ∧ w3.heap.size ≤ wr.heap.size) (fun _ iv _ => l.length - (intOf iv).toNat)
      case atStart => exact ⟨0, va, vc, by omega, rfl, rfl, HO4.out, HT4.out, HF4.out, hB.out⟩
      case round =>
        clear HO4 HT4 HF4 hB
        obtain ⟨k, va', vc', hkl, rfl, rfl, ho, ht, hf, hsz⟩ := hrel
        by_cases hlt : k < l.length
        · obtain ⟨b, o, d, cap, rfl, hck⟩ := Hl.out k hlt
          have h0 : (0 : Int) ≤ (k : Int) := by omega
          have h1 : (k : Int) < (l.length : Int) := by omega
          have hc1 := cell_fr hf hck.kind (fun h => h)
          have hc2 := cell_fr hf hck.data (fun h => h)
          have hkb := kinds_get Hk.out hlt
          have hps := pl_snoc l k hlt
          have hpl := pl_length Hk.out k hkl
          have hpl1 := pl_length Hk.out (k + 1) hlt
          have hsn := size_snoc l k hlt
          have hsl := size_le l (k + 1)
          rw [Hsz.out] at hsl
          have hzz := Hz.out
          have HL := hide hck.lies
          have Hnil := hide hck.nil
          have hz2 : (l.getD k default).2.length ≤ 262144 := by omega
          have hzp : (pl l k).length ≤ 262144 := by omega
          have hkz := kind_size hkb
          have HO := hide ho
          have HT := hide ht
          have HF := hide hf
          have HB := hide hsz
          have Hps := hide hps
          clear hck ho ht hf hsz hpl hpl1 hsn hsl hzz hkb hps
          generalize l.getD k default = q at *
          obtain ⟨kd, ds⟩ := q
          simp only [] at hc1 hc2 hz2 hkz
          have w32n : IntKind.u32.wrap (ds.length : Int) = (ds.length : Int) := wrap_u32_nat _ (by omega)
          obtain ⟨n, hn⟩ : ∃ n, ds.length = n := ⟨_, rfl⟩
          have Hn := hide hn
          rw [hn] at hc2 hz2 w32n
          clear hn
          have hA := heap_alloc_new wr (Obj.cells #[.string kd, .slice d n cap] 51)
          have HA := hide hA
          have HO1 := hide (HO.out.keep (Fr.of_alloc wr (Obj.cells #[.string kd, .slice d n cap] 51)) (fun _ _ h => h))
          have HF1 := hide (HF.out.join (Fr.of_alloc wr (Obj.cells #[.string kd, .slice d n cap] 51)))
          have HT1 := hide (HT.out.keep (Fr.of_alloc wr (Obj.cells #[.string kd, .slice d n cap] 51)) (fun h => h))
          have HB1 : Hid (w3.heap.size ≤ (wr.alloc (Obj.cells #[.string kd, .slice d n cap] 51)).heap.size) := by have := HB.out; show _ ≤ _; simp; omega
          clear hA
          go_upto_region 11 with fail
          obtain ⟨w5, hw5⟩ : ∃ w5, w5 = wr.alloc (Obj.cells #[.string kd, .slice d n cap] 51) := ⟨_, rfl⟩
          have HA5 := HA
          have HO5 := HO1
          have HF5 := HF1
          have HT5 := HT1
          have HB5 := HB1
          rw [← hw5] at HA5 HO5 HF5 HT5 HB5 ⊢
          clear hw5 HO HF HT HB HA HO1 HF1 HT1 HB1
          have r1 := cell_of HA5.out (o := 1) rfl
          have haw := appendWord_c _ (pl l k) n w3.heap.size w5 HO5.out (by omega) (by omega) HB5.out
          have HW := hide haw
          clear haw
          go_wp2_with fail
          refine HW.out.mono ?_
          rintro e w6 ⟨v6, rfl, ho6, hf6⟩
          clear r1
          have HA6 := hide (cells_at HA5.out hf6 (own_ne HO5.out HA5.out (by decide)))
          have HT6 : Hid (IsTab w6 T) := HT5.out.keep hf6 fun h => by
            obtain ⟨_, _, _, _, _, hf⟩ := HO5.out.form
            have := (hf T h).1
            have := HTlt.out
            omega
          have HB6 : Hid (w3.heap.size ≤ w6.heap.size) := Nat.le_trans HB5.out hf6.size
          have HF6 := hide (fr_own HF5.out HO5.out HF0.out hf6)
          have HO6 := hide ho6
          have r0 := cell_of HA6.out (o := 0) rfl
          have r1 := cell_of HA6.out (o := 1) rfl
          clear HA5 HT5 HB5 HF5 HO5 hf6 ho6
          have h63 : Hid ((pl l k ++ wd4 n).length + kd.size ≤ 140737488355328) := by show _ ≤ _; rw [List.length_append]; simp only [wd4, List.length_cons, List.length_nil]; omega
          go_upto_region 13 with (at_builtin; go_must (refine wpList_appS rfl _ _ rfl w3.heap.size _ _ rfl HO6.out kd rfl h63.out HB6.out ?_); intro v7 w7 ho7 hf7)
          clear r0 r1 h63
          have HA7 := hide (cells_at HA6.out hf7 (own_ne HO6.out HA6.out (by decide)))
          have HT7 : Hid (IsTab w7 T) := HT6.out.keep hf7 fun h => by
            obtain ⟨_, _, _, _, _, hf⟩ := HO6.out.form
            have := (hf T h).1
            have := HTlt.out
            omega
          have HB7 : Hid (w3.heap.size ≤ w7.heap.size) := Nat.le_trans HB6.out hf7.size
          have HF7 := hide (fr_own HF6.out HO6.out HF0.out hf7)
          have HO7 := hide ho7
          have r0 := cell_of HA7.out (o := 0) rfl
          have r1 := cell_of HA7.out (o := 1) rfl
          clear HA6 HT6 HB6 HF6 HO6 hf7 ho7
          have h63 : Hid ((pl l k ++ wd4 n ++ strBytes kd).length + ds.length ≤ 140737488355328) := by show _ ≤ _; rw [Hn.out, List.length_append, List.length_append, strBytes_length]; simp only [wd4, List.length_cons, List.length_nil]; omega
          have HL7 := hide (HL.out.keep HF7.out (fun _ _ h => h))
          go_upto_region 14 with (at_builtin; go_must (refine wpList_appBn rfl _ _ rfl w3.heap.size _ _ rfl HO7.out d n cap ds rfl Hn.out.symm HL7.out Hnil.out h63.out HB7.out ?_); intro v8 w8 ho8 hf8)
          clear r0 r1 h63 HL7
          have HA8 := hide (cells_at HA7.out hf8 (own_ne HO7.out HA7.out (by decide)))
          have HT8 : Hid (IsTab w8 T) := HT7.out.keep hf8 fun h => by
            obtain ⟨_, _, _, _, _, hf⟩ := HO7.out.form
            have := (hf T h).1
            have := HTlt.out
            omega
          have HB8 : Hid (w3.heap.size ≤ w8.heap.size) := Nat.le_trans HB7.out hf8.size
          have HF8 := hide (fr_own HF7.out HO7.out HF0.out hf8)
          have HO8 := hide ho8
          have r0 := cell_of HA8.out (o := 0) rfl
          have r1 := cell_of HA8.out (o := 1) rfl
          clear HA7 HT7 HB7 HF7 HO7 hf8 ho8
          have hck := chunk_c T kd d cap ds w8 HT8.out (by rw [strBytes_length]; omega) (HL.out.keep HF8.out (fun _ _ h => h)) (by rw [Hn.out]; omega)
          rw [Hn.out] at hck
          have HK8 := hide hck
          have hso : (crc 0#32 (strBytes kd ++ ds)).toNat = sumOf kd ds := rfl
          have Hso := hide hso
          clear hck hso
          go_wp2_with fail
          refine HK8.out.mono ?_
          rintro e w9 ⟨rfl, hf9⟩
          rw [Hso.out]
          have HO9 := hide (HO8.out.keep hf9 (fun _ _ h => h))
          have HF9 := hide (HF8.out.join hf9)
          have HT9 := hide (HT8.out.keep hf9 (fun h => h))
          have HB9 : Hid (w3.heap.size ≤ w9.heap.size) := Nat.le_trans HB8.out hf9.size
          have hsm : sumOf kd ds < 4294967296 := (crc 0#32 (strBytes kd ++ ds)).isLt
          have haw := appendWord_c _ _ (sumOf kd ds) w3.heap.size w9 HO9.out hsm (by rw [List.length_append, List.length_append, List.length_append, strBytes_length, Hn.out]; simp only [wd4, List.length_cons, List.length_nil]; omega) HB9.out
          have HW9 := hide haw
          clear haw hf9 HO8 HF8 HT8 HB8 HK8 r0 r1 HA8
          go_wp2_with fail
          refine HW9.out.mono ?_
          rintro e w10 ⟨v10, rfl, ho10, hf10⟩
          have hfin : pl l k ++ wd4 n ++ strBytes kd ++ ds ++ wd4 (sumOf kd ds) = pl l (k + 1) := by
            rw [Hps.out]
            unfold encL
            rw [show ((kd, ds) : Ck).2.length = n from Hn.out]
            simp only [List.append_assoc]
          rw [hfin] at ho10
          obtain ⟨va2, vc2, hv10, _⟩ := ho10.form
          subst hv10
          have HT10 : Hid (IsTab w10 T) := HT9.out.keep hf10 fun h => by
            obtain ⟨_, _, _, _, _, hf⟩ := HO9.out.form
            have := (hf T h).1
            have := HTlt.out
            omega
          have HB10 : Hid (w3.heap.size ≤ w10.heap.size) := Nat.le_trans HB9.out hf10.size
          have HF10 := hide (fr_own HF9.out HO9.out HF0.out hf10)
          have HO10 := hide ho10
          clear HO9 HF9 HT9 HB9 ho10 hf10 HW9 hfin hsm
          go_wp2
          go_roundw
          case rel => exact ⟨k + 1, va2, vc2, hlt, by go_num, rfl, HO10.out, HT10.out, HF10.out, HB10.out⟩
          case measure => simp [intOf]; omega
        · have hkl : k = l.length := by omega
          subst hkl
          have HO := hide ho
          have HF := hide hf
          clear ho hf ht
          go_wp2
          go_ret2
          refine ⟨?_, HF.out⟩
          unfold JoinOut
          rw [HN.out]
          exact ⟨_, rfl, HO.out.base HF0.out⟩
    · have HN : Hid (joinV l = .error 3) := by show _ = _; unfold joinV; rw [if_neg (by rw [hk]; simp), if_neg hz]
      have hsv : sizeV l = .tuple #[.int .i64 0, .bool false] := by unfold sizeV; rw [if_neg hz]
      rw [hsv] at HS
      clear hk hz hsv
      go_enter Try.func13, Try.ntmps13
      go_wp2_with fail
      refine HK.out.mono ?_
      rintro e w1 ⟨rfl, hf1⟩
      go_wp2_with fail
      refine (HS.out w1 (Hl.out.keep hf1 (fun _ _ h => h))).mono ?_
      rintro e w2 ⟨rfl, hf2⟩
      go_wp2
      go_ret2
      refine ⟨?_, hf1.join hf2⟩
      unfold JoinOut
      rw [HN.out]
      rfl
end Go.Proofs.Ytflapcaaaipoeaa

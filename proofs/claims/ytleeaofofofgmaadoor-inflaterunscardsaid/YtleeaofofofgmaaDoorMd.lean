/-
  A machine in a state; what a step of it asks for.
-/
import Derived.Test.YtleeaofofofgmaaDoorMc
import Derived.Test.YtleeaofofofgmaaDoorIn
namespace Go.Proofs.YtleeaofofofgmaaDoor
open Go.RowKit

/-- A code that lies apart from the machine, its reader and what it puts out. -/
def CodeAt (w : World) (R M : Nat) (ov v : Value) (ls : List Int) : Prop :=
  ∃ C clo chi, v = .pointer (some ⟨C, 0, none⟩) ∧ R ≤ clo ∧ Cd w clo chi C ls ∧ (M < clo ∨ chi ≤ M) ∧ ∀ g, ov.ownBlock = some g → g < clo ∨ chi ≤ g

theorem CodeAt.keep {w w' : World} {R M : Nat} {ov v : Value} {ls : List Int} (h : CodeAt w R M ov v ls) {S : Nat → Prop} (hF : Fr S w w') (hS : ∀ k, S k → k < R ∨ k = M ∨ ov.ownBlock = some k) : CodeAt w' R M ov v ls := by
  obtain ⟨C, clo, chi, h1, h2, h3, h4, h5⟩ := h
  refine ⟨C, clo, chi, h1, h2, h3.keep hF (fun k a b e => ?_), h4, h5⟩
  rcases hS k e with h | h | h
  · omega
  · omega
  · have := h5 k h; omega

theorem CodeAt.put {w w' : World} {R M : Nat} {ov ov' v : Value} {ls : List Int} (h : CodeAt w R M ov v ls) (hF : Fr (fun k => k = M ∨ ov.ownBlock = some k) w w') (ho : ∀ g, ov'.ownBlock = some g → ov.ownBlock = some g ∨ w.heap.size ≤ g) : CodeAt w' R M ov' v ls := by
  obtain ⟨C, clo, chi, h1, h2, h3, h4, h5⟩ := h.keep hF (fun k e => Or.inr e)
  obtain ⟨C', clo', chi', h1', h2', h3', h4', h5'⟩ := h
  refine ⟨C', clo', chi', h1', h2', ?_, h4', fun g hg => ?_⟩
  · refine h3'.keep hF (fun k a b e => ?_)
    rcases e with h | h
    · omega
    · have := h5' k h; omega
  · rcases ho g hg with h | h
    · exact h5' g h
    · have := h3'.esz; omega

def plv : Pl → Int
  | .ahead => 0
  | .stored _ => 1
  | .coded _ _ => 2
  | .row _ _ _ _ => 3

def PlOk (w : World) (R M : Nat) (ov : Value) (o : Nat) (lf bk : Int) (b1 b2 : Value) : Pl → Prop
  | .ahead => True
  | .stored n => lf = (n : Int) ∧ n ≤ 65535
  | .coded ll dl => CodeAt w R M ov b1 ll ∧ CodeAt w R M ov b2 dl
  | .row n d ll dl => lf = (n : Int) ∧ bk = (d : Int) ∧ 1 ≤ n ∧ n ≤ 1000003 ∧ 1 ≤ d ∧ d ≤ o ∧ CodeAt w R M ov b1 ll ∧ CodeAt w R M ov b2 dl

def FixOk (w : World) (R M : Nat) (ov f1 f2 : Value) : Prop := f1 = .pointer none ∨ (CodeAt w R M ov f1 fixL ∧ CodeAt w R M ov f2 fixD)

/-- A machine in state s. -/
def Mx (w : World) (lo R M B : Nat) (bs : List Nat) (most : Nat) (s : St) : Prop :=
  ∃ lf bk b1 b2 f1 f2 ov, Mo w lo R M B bs s.p most (plv s.pl) s.last lf bk b1 b2 f1 f2 ov s.out ∧ PlOk w R M ov s.out.length lf bk b1 b2 s.pl ∧ FixOk w R M ov f1 f2 ∧ (∀ x ∈ s.out, x < 256) ∧ s.out.length ≤ most

/-- A machine that is done. -/
structure Mf (w : World) (M : Nat) (out : List Nat) (used : Nat) (er : Nat) : Prop where
  obj : ∃ ov, w.heap[M]? = some (.cells #[.pointer none, .int .i64 0, .int .i64 0, .int .i64 0, .bool false, .int .i64 0, .int .i64 0, .pointer none, .pointer none, .pointer none, .pointer none, ov, .int .i64 (used : Int), .int .i64 (er : Int), .bool true] 68 (0, 0)) ∧ (∃ R, w.ownsRow R 5 1 ov out.length (cellsOf out)) ∧ ∀ g, ov.ownBlock = some g → g ≠ M

/-- A machine of which only the place is sure. -/
def Md (w : World) (M : Nat) : Prop := ∃ cs : Array Value, w.heap[M]? = some (.cells cs 68 (0, 0)) ∧ cs.size = 15

/-- From w to w' nothing below lo has turned. -/
abbrev Fl (lo : Nat) (w w' : World) : Prop := Fr (fun k => lo ≤ k) w w'

/-- The blocks that a machine may turn: its reader's, its own, that of what it has put out. -/
def Sm (M B : Nat) (w : World) (k : Nat) : Prop := k = B ∨ k = M ∨ ∃ v, w.cell? ⟨M, 11, none⟩ = some v ∧ v.ownBlock = some k

/-- From w to w' only a machine's blocks have turned. -/
structure Fs (M B : Nat) (w w' : World) : Prop where
  fr : Fr (Sm M B w) w w'
  own : ∀ v g, w'.cell? ⟨M, 11, none⟩ = some v → v.ownBlock = some g → Sm M B w g ∨ w.heap.size ≤ g

theorem Fs.join {M B : Nat} {a b c : World} (h : Fs M B a b) (k : Fs M B b c) : Fs M B a c := by
  have key : ∀ g, Sm M B b g → Sm M B a g ∨ a.heap.size ≤ g := by
    intro g hg
    rcases hg with e | e | ⟨v, e1, e2⟩
    · exact Or.inl (Or.inl e)
    · exact Or.inl (Or.inr (Or.inl e))
    · exact h.own v g e1 e2
  refine ⟨(h.fr.trans k.fr).mono fun i hi e => ?_, fun v g e1 e2 => ?_⟩
  · rcases e with e | e
    · exact e
    · rcases key i e with e | e
      · exact e
      · omega
  · rcases k.own v g e1 e2 with e | e
    · exact key g e
    · exact Or.inr (Nat.le_trans h.fr.size e)

theorem Fs.of {M B : Nat} {w w' : World} (h : Fr (fun _ => False) w w') (hM : M < w.heap.size) : Fs M B w w' :=
  ⟨h.mono fun _ _ h => h.elim, fun v _ e1 e2 => Or.inl (Or.inr (Or.inr ⟨v, (cell_blk (a := ⟨M, 11, none⟩) (h.block M hM (fun h => h))).symm.trans e1, e2⟩))⟩

/-- What a step of a machine in state s asks for. -/
structure AdvQ (lo R M B : Nat) (bs : List Nat) (most : Nat) (s : St) (w : World) (put go fin : Value) (Q : Ending → World → Prop) : Prop where
  fail : ∀ (er : Nat) w', adv (leNum bs) (8 * bs.length) s = .fail er → Md w' M → Fs M B w w' → Q (errPanic er) w'
  full : ∀ s' w', adv (leNum bs) (8 * bs.length) s = .put s' → most ≤ s.out.length → Md w' M → Fs M B w w' → Q (errPanic 6) w'
  put : ∀ s' w', adv (leNum bs) (8 * bs.length) s = .put s' → s.out.length < most → Mx w' lo R M B bs most s' → Fs M B w w' → Q (.returned put) w'
  go : ∀ s' w', adv (leNum bs) (8 * bs.length) s = .go s' → Mx w' lo R M B bs most s' → Fs M B w w' → Q (.returned go) w'
  done : ∀ w', adv (leNum bs) (8 * bs.length) s = .done → Mf w' M s.out ((s.p + 7) / 8) 0 → Fs M B w w' → Q (.returned fin) w'

section
variable {w w' : World} {lo R M B : Nat} {bs : List Nat} {p : Nat} {mst plc : Int} {lst : Bool} {lf bk : Int} {b1 b2 f1 f2 ov : Value} {out : List Nat}
theorem Mo.md (h : Mo w lo R M B bs p mst plc lst lf bk b1 b2 f1 f2 ov out) : Md w M := ⟨_, h.obj, rfl⟩

theorem Md.fr {S : Nat → Prop} (h : Md w M) (hF : Fr S w w') (hS : ¬ S M) : Md w' M := by
  obtain ⟨cs, h1, h2⟩ := h
  exact ⟨cs, by rw [hF.block M (lt_of h1) hS]; exact h1, h2⟩

theorem FixOk.keep (h : FixOk w R M ov f1 f2) {S : Nat → Prop} (hF : Fr S w w') (hS : ∀ k, S k → k < R ∨ k = M ∨ ov.ownBlock = some k) : FixOk w' R M ov f1 f2 :=
  h.imp id fun ⟨a, b⟩ => ⟨a.keep hF hS, b.keep hF hS⟩
theorem FixOk.put {ov' : Value} (h : FixOk w R M ov f1 f2) (hF : Fr (fun k => k = M ∨ ov.ownBlock = some k) w w') (ho : ∀ g, ov'.ownBlock = some g → ov.ownBlock = some g ∨ w.heap.size ≤ g) : FixOk w' R M ov' f1 f2 :=
  h.imp id fun ⟨a, b⟩ => ⟨a.put hF ho, b.put hF ho⟩

theorem Mo.frB (h : Mo w lo R M B bs p mst plc lst lf bk b1 b2 f1 f2 ov out) (hF : Fr (fun k => k = B) w w') : Fs M B w w' :=
  ⟨hF.mono fun _ _ e => Or.inl e, fun v _ e1 e2 => Or.inl (Or.inr (Or.inr ⟨v, (cell_blk (a := ⟨M, 11, none⟩) (hF.block M h.ltM h.mi.ne)).symm.trans e1, e2⟩))⟩
theorem Mo.frM (_h : Mo w lo R M B bs p mst plc lst lf bk b1 b2 f1 f2 ov out) (hF : Fr (fun k => k = M) w w') (hc : w'.cell? ⟨M, 11, none⟩ = w.cell? ⟨M, 11, none⟩ := by simp [World.cell?_setCell_other]) : Fs M B w w' :=
  ⟨hF.mono fun _ _ e => Or.inr (Or.inl e), fun v _ e1 e2 => Or.inl (Or.inr (Or.inr ⟨v, by rw [← hc]; exact e1, e2⟩))⟩
theorem Mo.frO {ov' : Value} {out' : List Nat} (h : Mo w lo R M B bs p mst plc lst lf bk b1 b2 f1 f2 ov out) (hF : Fr (fun k => k = M ∨ ov.ownBlock = some k) w w') (h2 : Mo w' lo R M B bs p mst plc lst lf bk b1 b2 f1 f2 ov' out') (hg : ∀ g, ov'.ownBlock = some g → ov.ownBlock = some g ∨ w.heap.size ≤ g) : Fs M B w w' := by
  have e0 : w.cell? ⟨M, 11, none⟩ = some ov := cell_of h.obj rfl
  have e2 : w'.cell? ⟨M, 11, none⟩ = some ov' := cell_of h2.obj rfl
  refine ⟨hF.mono fun k _ e => ?_, fun v g e1 e3 => ?_⟩
  · rcases e with e | e
    · exact Or.inr (Or.inl e)
    · exact Or.inr (Or.inr ⟨ov, e0, e⟩)
  · rw [e2] at e1
    cases e1
    rcases hg g e3 with h | h
    · exact Or.inl (Or.inr (Or.inr ⟨ov, e0, h⟩))
    · exact Or.inr h
/-- What a machine turns lies from lo on. -/
theorem Mo.low (h : Mo w lo R M B bs p mst plc lst lf bk b1 b2 f1 f2 ov out) (hF : Fs M B w w') : Fl lo w w' := hF.fr.mono fun k _ e => by
  have := h.rd.elo; have := h.rd.ehi; have := h.hM
  have e0 : w.cell? ⟨M, 11, none⟩ = some ov := cell_of h.obj rfl
  rcases e with e | e | ⟨v, e1, e2⟩
  · omega
  · omega
  · rw [e0] at e1
    cases e1
    have := (h.own.lt k e2).1; omega
end

theorem fr_set (w : World) (M o : Nat) (v : Value) : Fr (fun k => k = M) w (w.setCell ⟨M, o, none⟩ v) := Fr.of_setCell w ⟨M, o, none⟩ v
theorem Fl.of {lo : Nat} {w w' : World} (h : Fr (fun _ => False) w w') : Fl lo w w' := h.mono fun _ _ h => h.elim
theorem wrap_u8 (x : Int) (h0 : 0 ≤ x) (h1 : x < 256) : IntKind.u8.wrap x = x := by
  show x % 256 = x
  omega

set_option maxHeartbeats 1000000 in
set_option maxRecDepth 100000 in
theorem storedByte_c (w : World) (lo R M B : Nat) (bs : List Nat) (most : Nat) (hmost : most ≤ 2147483648) (p : Nat) (last : Bool) (out : List Nat) (n : Nat) (h : Mx w lo R M B bs most ⟨p, last, out, .stored n⟩) (u : Value) (Q : Ending → World → Prop)
    (hQ : AdvQ lo R M B bs most ⟨p, last, out, .stored n⟩ w (.bool true) (.bool false) u Q) : Calls Tryd.prog 40 #[.pointer (some ⟨M, 0, none⟩)] w Q := by
  obtain ⟨lf, bk, b1, b2, f1, f2, ov, hO, ⟨rfl, hn⟩, hX, hb, ho⟩ := h
  have q5 : w.cell? ⟨M, 5, none⟩ = some (.int .i64 (n : Int)) := cell_of hO.obj rfl
  have q0 : w.cell? ⟨M, 0, none⟩ = some (.pointer (some ⟨B, 0, none⟩)) := cell_of hO.obj rfl
  have q3 : w.cell? ⟨M, 3, none⟩ = some (.int .i64 1) := cell_of hO.obj rfl
  have z3 := frozen_of (o := 3) hO.obj
  have HO := hide hO
  have HX := hide hX
  have Hb := hide hb
  have Ho := hide ho
  have HQ := hide hQ
  clear hO hX hb ho hQ
  by_cases h0 : n = 0
  · subst h0
    go_enter Tryd.func40, Tryd.ntmps40
    go_wp2
    refine HQ.out.go ⟨p, last, out, .ahead⟩ _ rfl ⟨0, bk, b1, b2, f1, f2, ov, HO.out.turn (fr_set _ _ _ _) (heap_set _ HO.out.obj), trivial, HX.out.keep (fr_set _ _ _ _) (fun k e => Or.inr (Or.inl e)), Hb.out, Ho.out⟩ (HO.out.frM (fr_set _ _ _ _))
  · have h0i : ((n : Int) == 0) = false := beq_false_of_ne (by omega)
    have h0j : ¬ (n : Int) = 0 := by omega
    have E : Hid (adv (leNum bs) (8 * bs.length) ⟨p, last, out, .stored n⟩ = match tkn 8 (leNum bs) (8 * bs.length) p with
      | .error er => .fail er
      | .ok (b, q) => .put ⟨q, last, out ++ [b], .stored (n - 1)⟩) := by
        show adv _ _ _ = _
        simp only [adv, if_neg h0]
        cases tkn 8 (leNum bs) (8 * bs.length) p <;> rfl
    go_enter Tryd.func40, Tryd.ntmps40
    go_wp2_with fail
    refine calls_args (low_reads _ lo R B bs p 8 HO.out.rd (by omega) _ ⟨?ok1, ?no1⟩) rfl
    case no1 => (intro er w1 hx hF; refine ⟨rfl, HQ.out.fail er w1 (by rw [E.out, hx]) (HO.out.md.fr hF HO.out.mi.ne) (HO.out.frB hF)⟩)
    intro b q w1 hx hR hF
    have hbb : b < 256 := tkn_lt hx
    have E1 : Hid (adv (leNum bs) (8 * bs.length) ⟨p, last, out, .stored n⟩ = .put ⟨q, last, out ++ [b], .stored (n - 1)⟩) := by
      show adv _ _ _ = _
      rw [E.out, hx]
    have H1 := hide (HO.out.next hR hF)
    have HX1 := hide (HX.out.keep hF (fun k e => Or.inl (by have := HO.out.rd.ehi; omega)))
    have HF1 := hide (HO.out.frB hF)
    clear hx hR hF q0 q3 z3 q5
    go_wp2_with fail
    refine calls_args (put_c w1 lo R M B bs q most 1 last n bk b1 b2 f1 f2 ov out H1.out b (by have : out.length ≤ most := Ho.out; omega) _ ?full ?put) rfl
    case full => (intro hm w2 hF2; exact ⟨rfl, HQ.out.full _ w2 E1.out (by simp only; omega) (H1.out.md.fr hF2 (fun h => h)) (HF1.out.join (Fs.of hF2 H1.out.ltM))⟩)
    intro hm ov' w2 hO2 hF2 hg
    have q5 : w2.cell? ⟨M, 5, none⟩ = some (.int .i64 (n : Int)) := cell_of hO2.obj rfl
    have z5 := frozen_of (o := 5) hO2.obj
    have H2 := hide hO2
    have HX2 := hide (HX1.out.put hF2 hg)
    have HF2 := hide (HF1.out.join (H1.out.frO hF2 hO2 hg))
    have Hm := hide hm
    clear hO2 hF2 hg hm
    go_wp2
    have e : (n : Int) - 1 = ((n - 1 : Nat) : Int) := by omega
    refine HQ.out.put ⟨q, last, out ++ [b], .stored (n - 1)⟩ _ E1.out (by have := Hm.out; simp only; omega) ⟨((n - 1 : Nat) : Int), bk, b1, b2, f1, f2, ov', H2.out.turn (fr_set _ _ _ _) (by rw [e]; exact heap_set _ H2.out.obj), ⟨rfl, by omega⟩, HX2.out.keep (fr_set _ _ _ _) (fun k e => Or.inr (Or.inl e)), ?_, ?_⟩ (HF2.out.join (H2.out.frM (fr_set _ _ _ _)))
    · intro x hx
      simp only [List.mem_append, List.mem_singleton] at hx
      rcases hx with hx | hx
      · exact Hb.out x hx
      · omega
    · have := Hm.out; simp only [List.length_append, List.length_singleton]; omega
end Go.Proofs.YtleeaofofofgmaaDoor

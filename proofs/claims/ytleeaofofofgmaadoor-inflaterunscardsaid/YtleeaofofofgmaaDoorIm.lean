/-
  What a deflate stream says, as plain mathematics: no program is named here.
-/
import Derived.Test.YtleeaofofofgmaaDoorHm
namespace Go.Proofs.YtleeaofofofgmaaDoor
open Go.RowKit

instance (ls : List Int) : Decidable (codeOk ls) := by unfold codeOk; infer_instance

/-- Something that is read from bit p on, of the L bits of V: what it is, and where it ends; or an error's number. -/
abbrev Rdr (α : Type) := Nat → Nat → Nat → Except Nat (α × Nat)

def ret {α : Type} (a : α) : Rdr α := fun _ _ p => .ok (a, p)
def bad {α : Type} (er : Nat) : Rdr α := fun _ _ _ => .error er
def andThen {α β : Type} (x : Rdr α) (f : α → Rdr β) : Rdr β := fun V L p =>
  match x V L p with
  | .ok (a, q) => f a V L q
  | .error er => .error er

theorem then_ok {α β : Type} {x : Rdr α} {f : α → Rdr β} {V L p : Nat} {a : α} {q : Nat} (h : x V L p = .ok (a, q)) : andThen x f V L p = f a V L q := by
  simp only [andThen, h]
theorem then_err {α β : Type} {x : Rdr α} {f : α → Rdr β} {V L p er : Nat} (h : x V L p = .error er) : andThen x f V L p = .error er := by
  simp only [andThen, h]

/-- n bits as a number. -/
def tkn (n : Nat) : Rdr Nat := fun V L p => if p + n ≤ L then .ok (lowBits V p n, p + n) else .error 2

theorem tkn_ok {n V L p : Nat} (h : p + n ≤ L) : tkn n V L p = .ok (lowBits V p n, p + n) := by simp [tkn, h]
theorem tkn_err {n V L p : Nat} (h : ¬ p + n ≤ L) : tkn n V L p = .error 2 := by simp [tkn, h]

theorem tkn_inv {n V L p a q : Nat} (h : tkn n V L p = .ok (a, q)) : p + n ≤ L ∧ a = lowBits V p n ∧ q = p + n := by
  unfold tkn at h
  split at h
  · next h1 => cases h; exact ⟨h1, rfl, rfl⟩
  · cases h

theorem then_inv {α β : Type} {x : Rdr α} {f : α → Rdr β} {V L p : Nat} {b : β} {q : Nat} (h : andThen x f V L p = .ok (b, q)) : ∃ a m, x V L p = .ok (a, m) ∧ f a V L m = .ok (b, q) := by
  unfold andThen at h
  split at h
  · next a m h1 => exact ⟨a, m, h1, h⟩
  · cases h

/-- Up to the next byte. -/
def algn : Rdr Unit := fun _ _ p => .ok ((), (p + 7) / 8 * 8)

/-- The symbol of the word that comes next; m bits of it are read. -/
def tkFrom (ls : List Int) (V L p : Nat) : Nat → Nat → Except Nat (Nat × Nat)
  | 0, _ => .error 4
  | f + 1, m =>
    if tot ls 15 ≤ tot ls m then .error 4
    else if L < p + m + 1 then .error 2
    else if rd V p (m + 1) < nx ls (m + 1) then .ok ((rkd ls 15).getD (hitAt ls V p (m + 1)) 0, p + (m + 1))
    else tkFrom ls V L p f (m + 1)

def tk (ls : List Int) : Rdr Nat := fun V L p => tkFrom ls V L p 15 0

/-- The ladder of lengths, of distances. -/
def rung (i lot : Nat) : Rdr Nat :=
  if i < 2 * lot then ret i else andThen (tkn (i / lot - 1)) fun x => ret ((lot + i % lot) * 2 ^ (i / lot - 1) + x)

def rlen (s : Nat) : Rdr Nat :=
  if 285 < s then bad 4 else if s = 285 then ret 258 else andThen (rung (s - 257) 4) fun x => ret (3 + x)

def rdist (dl : List Int) (o : Nat) : Rdr Nat :=
  andThen (tk dl) fun s => if 30 ≤ s then bad 4 else andThen (rung s 2) fun x => if o < 1 + x then bad 4 else ret (1 + x)

inductive Sym
  | lit (b : Nat)
  | fin
  | row (n d : Nat)

/-- What comes next in a block of words, o bytes being put out. -/
def word (ll dl : List Int) (o : Nat) : Rdr Sym :=
  andThen (tk ll) fun s => if s < 256 then ret (.lit s) else if s = 256 then ret .fin else
    andThen (rlen s) fun n => andThen (rdist dl o) fun d => ret (.row n d)

/-- What symbol s says behind the lengths acc: a length, and how many times. -/
def rep (s : Nat) (acc : List Int) : Rdr (Int × Nat) :=
  if s = 16 then andThen (tkn 2) fun x => if acc.length = 0 then bad 4 else ret (at0 acc (acc.length - 1), 3 + x)
  else if s = 17 then andThen (tkn 3) fun x => ret (0, 3 + x)
  else if s = 18 then andThen (tkn 7) fun x => ret (0, 11 + x)
  else ret ((s : Int), 1)

def lens (cl : List Int) (n : Nat) : Nat → List Int → Rdr (List Int)
  | 0, _ => bad 4
  | f + 1, acc => if n ≤ acc.length then ret acc else
    andThen (tk cl) fun s => andThen (rep s acc) fun vt => if n < acc.length + vt.2 then bad 4 else lens cl n f (acc ++ List.replicate vt.2 vt.1)

def order : List Nat := [16, 17, 18, 0, 8, 7, 9, 6, 10, 5, 11, 4, 12, 3, 13, 2, 14, 1, 15]

def told : Nat → Nat → List Int → Rdr (List Int)
  | 0, _, cl => ret cl
  | k + 1, i, cl => andThen (tkn 3) fun x => told k (i + 1) (cl.set (order.getD i 0) (x : Int))

def zero19 : List Int := List.replicate 19 0

/-- The codes that a block brings with it, read behind its numbers. -/
def ownB (a b c : Nat) : Rdr (List Int × List Int) :=
  if 286 < 257 + a ∨ 30 < 1 + b then bad 4 else
    andThen (told (4 + c) 0 zero19) fun cl => if codeOk cl then
      andThen (lens cl (257 + a + (1 + b)) (257 + a + (1 + b) + 1) []) fun l =>
        if codeOk (l.take (257 + a)) ∧ codeOk (l.drop (257 + a)) ∧ at0 l 256 ≠ 0 then ret (l.take (257 + a), l.drop (257 + a)) else bad 4
      else bad 4

def own : Rdr (List Int × List Int) := andThen (tkn 5) fun a => andThen (tkn 5) fun b => andThen (tkn 4) fun c => ownB a b c

def fixL : List Int := List.replicate 144 8 ++ (List.replicate 112 9 ++ (List.replicate 24 7 ++ List.replicate 8 8))
def fixD : List Int := List.replicate 32 5

/-- Where in a stream one stands. -/
inductive Pl
  | ahead
  | stored (left : Nat)
  | coded (ll dl : List Int)
  | row (left back : Nat) (ll dl : List Int)

def storedHead : Rdr Nat := andThen algn fun _ => andThen (tkn 16) fun n => andThen (tkn 16) fun m => if n + m = 65535 then ret n else bad 4

def kindOf (k : Nat) : Rdr Pl :=
  if k = 0 then andThen storedHead fun n => ret (.stored n)
  else if k = 1 then ret (.coded fixL fixD)
  else if k = 2 then andThen own fun c => ret (.coded c.1 c.2)
  else bad 4

/-- A block's head. -/
def head : Rdr (Bool × Pl) := andThen (tkn 1) fun l => andThen (tkn 2) fun k => andThen (kindOf k) fun pl => ret (decide (l = 1), pl)

structure St where
  p : Nat
  last : Bool
  out : List Nat
  pl : Pl

inductive Ax
  | fail (er : Nat)
  | done
  | go (s : St)
  | put (s : St)

def adv (V L : Nat) (s : St) : Ax :=
  match s.pl with
  | .ahead => if s.last = true then .done else
    match head V L s.p with
    | .error er => .fail er
    | .ok (h, q) => .go ⟨q, h.1, s.out, h.2⟩
  | .stored n => if n = 0 then .go ⟨s.p, s.last, s.out, .ahead⟩ else
    match tkn 8 V L s.p with
    | .error er => .fail er
    | .ok (b, q) => .put ⟨q, s.last, s.out ++ [b], .stored (n - 1)⟩
  | .coded ll dl =>
    match word ll dl s.out.length V L s.p with
    | .error er => .fail er
    | .ok (.lit b, q) => .put ⟨q, s.last, s.out ++ [b], .coded ll dl⟩
    | .ok (.fin, q) => .go ⟨q, s.last, s.out, .ahead⟩
    | .ok (.row n d, q) => .go ⟨q, s.last, s.out, .row n d ll dl⟩
  | .row n d ll dl => .put ⟨s.p, s.last, s.out ++ [s.out.getD (s.out.length - d) 0], if n = 1 then .coded ll dl else .row (n - 1) d ll dl⟩

/-- What a stream comes to from a state on: its bytes and where it ends, or an error's number. -/
inductive Runs (V L most : Nat) : St → Except Nat (List Nat × Nat) → Prop
  | fail {s : St} {er : Nat} : adv V L s = .fail er → Runs V L most s (.error er)
  | done {s : St} : adv V L s = .done → Runs V L most s (.ok (s.out, s.p))
  | go {s s' : St} {r : Except Nat (List Nat × Nat)} : adv V L s = .go s' → Runs V L most s' r → Runs V L most s r
  | put {s s' : St} {r : Except Nat (List Nat × Nat)} : adv V L s = .put s' → s.out.length < most → Runs V L most s' r → Runs V L most s r
  | full {s s' : St} : adv V L s = .put s' → most ≤ s.out.length → Runs V L most s (.error 6)

theorem Runs.det {V L most : Nat} {s : St} {r r' : Except Nat (List Nat × Nat)} (h : Runs V L most s r) (g : Runs V L most s r') : r = r' := by
  induction h with
  | fail h1 => cases g <;> simp_all
  | done h1 => cases g <;> simp_all
  | go h1 _ ih =>
    cases g with
    | fail g1 => simp_all
    | done g1 => simp_all
    | go g1 g2 => rw [h1] at g1; cases g1; exact ih g2
    | put g1 _ _ => simp_all
    | full g1 _ => simp_all
  | put h1 h2 _ ih =>
    cases g with
    | fail g1 => simp_all
    | done g1 => simp_all
    | go g1 g2 => simp_all
    | put g1 _ g2 => rw [h1] at g1; cases g1; exact ih g2
    | full g1 g2 => exact absurd h2 (by omega)
  | full h1 h2 =>
    cases g with
    | fail g1 => simp_all
    | done g1 => simp_all
    | go g1 g2 => simp_all
    | put g1 g2 _ => exact absurd g2 (by omega)
    | full g1 _ => rfl

def init : St := ⟨0, false, [], .ahead⟩

theorem adv_go_out {V L : Nat} {s s' : St} (h1 : adv V L s = .go s') : s'.out = s.out := by
  unfold adv at h1
  split at h1 <;> (try split at h1) <;> (try split at h1) <;> first | cases h1; rfl | cases h1

theorem adv_put_out {V L : Nat} {s s' : St} (h1 : adv V L s = .put s') : s'.out.length = s.out.length + 1 := by
  unfold adv at h1
  split at h1 <;> (try split at h1) <;> (try split at h1) <;> first | (cases h1; simp) | cases h1

/-- With just the room that it needs a stream is read. -/
theorem Runs.out_le {V L most : Nat} {s : St} {x : List Nat} {p : Nat} (h : Runs V L most s (.ok (x, p))) : s.out.length ≤ x.length := by
  generalize hr : (Except.ok (x, p) : Except Nat (List Nat × Nat)) = r at h
  induction h with
  | fail _ => cases hr
  | done _ => cases hr; exact Nat.le_refl _
  | go h1 _ ih =>
    have := ih hr
    rw [adv_go_out h1] at this
    exact this
  | put h1 _ _ ih =>
    have := ih hr
    rw [adv_put_out h1] at this
    omega
  | full _ _ => cases hr

theorem Runs.room {V L most m : Nat} {s : St} {x : List Nat} {p : Nat} (h : Runs V L most s (.ok (x, p))) (hm : x.length ≤ m) : Runs V L m s (.ok (x, p)) := by
  generalize hr : (Except.ok (x, p) : Except Nat (List Nat × Nat)) = r at h
  induction h with
  | fail _ => cases hr
  | done h => cases hr; exact .done h
  | go h1 _ ih => exact .go h1 (ih hr)
  | put h1 _ h2 ih =>
    subst hr
    have h3 := h2.out_le
    rw [adv_put_out h1] at h3
    exact .put h1 (by omega) (ih rfl)
  | full _ _ => cases hr

/-- With a byte less it is too great. -/
theorem Runs.less {V L most m : Nat} {s : St} {x : List Nat} {p : Nat} (h : Runs V L most s (.ok (x, p))) (hm : m < x.length) (hs : s.out.length ≤ m) : Runs V L m s (.error 6) := by
  generalize hr : (Except.ok (x, p) : Except Nat (List Nat × Nat)) = r at h
  induction h with
  | fail _ => cases hr
  | done h => cases hr; omega
  | go h1 _ ih => exact .go h1 (ih (by rw [adv_go_out h1]; exact hs) hr)
  | @put s s' r h1 _ h2 ih =>
    rcases Nat.lt_or_ge s.out.length m with h | h
    · exact .put h1 h (ih (by rw [adv_put_out h1]; omega) hr)
    · exact .full h1 h
  | full _ _ => cases hr
end Go.Proofs.YtleeaofofofgmaaDoor

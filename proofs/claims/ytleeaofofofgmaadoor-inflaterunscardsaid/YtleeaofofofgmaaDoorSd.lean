/-
  The law InflateStored: its walk.
-/
import Derived.Test.YtleeaofofofgmaaDoorSc
namespace Go.Proofs.YtleeaofofofgmaaDoor
open Go.RowKit

/-- Where the law stands behind i pieces. -/
structure Sl4 (w0 : World) (ls : List (List Nat)) (wr : World) (i : Nat) (vb vw : Value) (B X : List Nat) : Prop where
  le : i ≤ ls.length
  b : OwnB wr w0.heap.size vb B
  x : OwnB wr w0.heap.size vw X
  ap : ∀ k, vb.ownBlock = some k → vw.ownBlock ≠ some k
  eB : B = bstream ls i
  eX : X = (ls.take i).flatten
  small : ∀ y ∈ ls.take i, y.length ≤ 1000
  fr : Fr (fun _ => False) w0 wr

theorem Sl4.start (w0 : World) (ls : List (List Nat)) (h : ls ≠ []) : Sl4 w0 ls w0 0 (.slice none 0 0) (.slice none 0 0) [] [] := by
  refine ⟨Nat.zero_le _, ⟨rfl, Or.inl ⟨rfl, rfl⟩⟩, ⟨rfl, Or.inl ⟨rfl, rfl⟩⟩, fun k hk => (by cases hk), ?_, by simp, by simp, Fr.refl _ _⟩
  unfold bstream
  rw [if_pos (List.length_pos_iff.2 h)]
  simp

theorem shead_len (f n : Nat) : (shead f n).length = 5 := rfl

theorem Sl4.len {w0 wr : World} {ls : List (List Nat)} {i : Nat} {vb vw : Value} {B X : List Nat} (h : Sl4 w0 ls wr i vb vw B X) : X.length ≤ 1000 * i ∧ B.length ≤ 1005 * i := by
  have key : ∀ l : List (List Nat), (∀ y ∈ l, y.length ≤ 1000) → l.flatten.length ≤ 1000 * l.length ∧ ((l.map fun x => shead 0 x.length ++ x).flatten.length ≤ 1005 * l.length) := by
    intro l
    induction l with
    | nil => intro _; simp
    | cons y l ih =>
      intro h
      have h1 := ih (fun z hz => h z (by simp [hz]))
      have h2 := h y (by simp)
      simp only [List.flatten_cons, List.map_cons, List.length_append, List.length_cons, shead_len]
      omega
  have k2 : ∀ l : List (List Nat), (∀ y ∈ l, y.length ≤ 1000) → (sstream l).length ≤ 1005 * l.length := by
    intro l
    induction l with
    | nil => intro _; simp [sstream]
    | cons y l ih =>
      intro h
      have h1 := ih (fun z hz => h z (by simp [hz]))
      have h2 := h y (by simp)
      cases l with
      | nil => simp only [sstream, List.length_append, shead_len, List.length_cons]; omega
      | cons z l => simp only [sstream, List.length_append, shead_len, List.length_cons] at h1 ⊢; omega
  have h1 := key _ h.small
  have h2 := h.le
  have hl : (ls.take i).length = i := by simp; omega
  rw [hl] at h1
  refine ⟨by rw [h.eX]; exact h1.1, ?_⟩
  rw [h.eB]
  unfold bstream
  split
  · exact h1.2
  · have : i = ls.length := by omega
    subst this
    have h3 := h.small
    rw [List.take_length] at h3
    exact k2 ls h3

theorem sstream_lt : ∀ (l : List (List Nat)), (∀ x ∈ l, x.length < 65536 ∧ ∀ b ∈ x, b < 256) → ∀ b ∈ sstream l, b < 256 := by
  intro l
  induction l with
  | nil => intro _ b hb; cases hb
  | cons y l ih =>
    intro h b hb
    have h1 := ih (fun z hz => h z (by simp [hz]))
    obtain ⟨h2, h3⟩ := h y (by simp)
    cases l with
    | nil =>
      rcases List.mem_append.1 hb with hb | hb
      · exact shead_lt (by omega) h2 b hb
      · exact h3 b hb
    | cons z l =>
      rcases List.mem_append.1 hb with hb | hb
      · rcases List.mem_append.1 hb with hb | hb
        · exact shead_lt (by omega) h2 b hb
        · exact h3 b hb
      · exact h1 b hb

theorem frNew {w0 wr w1 : World} (h : Fr (fun _ => False) w0 wr) {v : Value} {xs : List Nat} (ho : OwnB wr w0.heap.size v xs) (g : Fr (fun i => v.ownBlock = some i) wr w1) : Fr (fun _ => False) w0 w1 :=
  (h.trans g).mono fun i hi e => e.elim id fun e => by have := (World.ownsRow.lt ho i e).1; omega

theorem own_block_ge {w : World} {base : Nat} {v : Value} {xs : List Nat} (ho : OwnB w base v xs) {k : Nat} (hk : v.ownBlock = some k) : base ≤ k ∧ k < w.heap.size := World.ownsRow.lt ho k hk

theorem own_keep {w w' : World} {base : Nat} {v u : Value} {xs : List Nat} (ho : OwnB w base v xs) (hF : Fr (fun i => u.ownBlock = some i) w w') (hap : ∀ k, u.ownBlock = some k → v.ownBlock ≠ some k) : OwnB w' base v xs :=
  ownsRow_fr ho fun k hk => hF.block k (World.ownsRow.lt ho k hk).2 (fun e => hap k e hk)

theorem lies_frS {w w' : World} {S : Nat → Prop} {sv : Value} {bs : List Nat} (h : Lies w sv bs) (hF : Fr S w w') (hn : ∀ ad n c, sv = .slice (some ad) n c → ad.block < w.heap.size → ¬ S ad.block) : Lies w' sv bs := by
  rcases h with h | ⟨ad, c, rfl, h2⟩
  · exact Or.inl h
  · refine Or.inr ⟨ad, c, rfl, fun j u hu => ?_⟩
    have h3 := h2 j u hu
    have hb : (ad.add j).block = ad.block := by unfold Addr.add; split <;> rfl
    rw [cell_blk (hF.block _ (cell_lt h3) (by rw [hb]; exact hn ad _ _ rfl (by rw [← hb]; exact cell_lt h3)))]
    exact h3

theorem own_apart {H : Nat} {vb vb' vw : Value} (hap : ∀ k, vb.ownBlock = some k → vw.ownBlock ≠ some k) (hlt : ∀ k, vw.ownBlock = some k → k < H) (h : vb'.ownBlock = vb.ownBlock ∨ vb'.ownBlock = some H) : ∀ k, vb'.ownBlock = some k → vw.ownBlock ≠ some k := by
  intro k hk hw
  rcases h with h | h
  · exact hap k (h ▸ hk) hw
  · rw [h] at hk
    cases hk
    exact Nat.lt_irrefl _ (hlt _ hw)

/-- One piece more. -/
theorem Sl4.step {w0 wr w1 w2 w3 : World} {ls : List (List Nat)} {i : Nat} {vb vw vb1 vb2 vw2 : Value} {B X : List Nat} (h : Sl4 w0 ls wr i vb vw B X) (hi : i < ls.length) (hs : (ls.getD i []).length ≤ 1000) {f : Nat} (hf : f = if i + 1 = ls.length then 1 else 0)
    (g0 : Fr (fun _ => False) wr w1) (o1 : OwnB w2 w0.heap.size vb1 (B ++ shead f (ls.getD i []).length)) (g1 : Fr (fun i => vb.ownBlock = some i) w1 w2) (a1 : vb1.ownBlock = vb.ownBlock ∨ vb1.ownBlock = some w1.heap.size)
    (o2 : OwnB w3 w0.heap.size vb2 (B ++ shead f (ls.getD i []).length ++ ls.getD i [])) (g2 : Fr (fun i => vb1.ownBlock = some i) w2 w3) (a2 : vb2.ownBlock = vb1.ownBlock ∨ vb2.ownBlock = some w2.heap.size) {w4 : World}
    (o3 : OwnB w4 w0.heap.size vw2 (X ++ ls.getD i [])) (g3 : Fr (fun i => vw.ownBlock = some i) w3 w4) (a3 : vw2.ownBlock = vw.ownBlock ∨ vw2.ownBlock = some w3.heap.size) :
    Sl4 w0 ls w4 (i + 1) vb2 vw2 (B ++ shead f (ls.getD i []).length ++ ls.getD i []) (X ++ ls.getD i []) := by
  have x1 : OwnB w1 w0.heap.size vw X := ownsRow_fr h.x fun k hk => g0.block k (World.ownsRow.lt h.x k hk).2 (fun e => e)
  have p1 : ∀ k, vb1.ownBlock = some k → vw.ownBlock ≠ some k := own_apart h.ap (fun k hk => (own_block_ge x1 hk).2) a1
  have x2 : OwnB w2 w0.heap.size vw X := own_keep x1 g1 h.ap
  have x3 : OwnB w3 w0.heap.size vw X := own_keep x2 g2 p1
  have p2 : ∀ k, vb2.ownBlock = some k → vw.ownBlock ≠ some k := own_apart p1 (fun k hk => (own_block_ge x2 hk).2) a2
  have p2' : ∀ k, vw.ownBlock = some k → vb2.ownBlock ≠ some k := fun k h1 h2 => p2 k h2 h1
  have o4 : OwnB w4 w0.heap.size vb2 _ := own_keep o2 g3 p2'
  have p3' := own_apart p2' (fun k hk => (own_block_ge o2 hk).2) a3
  refine ⟨hi, o4, o3, fun k h1 h2 => p3' k h2 h1, ?_, ?_, ?_, ?_⟩
  · rw [h.eB, hf]; exact bstream_step ls i hi
  · rw [h.eX]; exact flat_step ls i hi
  · intro y hy
    rw [List.take_succ_eq_append_getElem hi] at hy
    rcases List.mem_append.1 hy with hy | hy
    · exact h.small y hy
    · simp at hy; subst hy; simpa [List.getElem?_eq_getElem hi] using hs
  · have hb1 : OwnB w1 w0.heap.size vb B := ownsRow_fr h.b fun k hk => g0.block k (World.ownsRow.lt h.b k hk).2 (fun e => e)
    exact frNew (frNew (frNew (h.fr.join g0) hb1 g1) o1 g2) x3 g3

end Go.Proofs.YtleeaofofofgmaaDoor

import Derived.Test.YtglbamalagacgaaGreatX5
import Derived.Deep.CutBlock
import Derived.Deep.CutRange
namespace Go.Proofs.YtglbamalagacgaaGreat
open Go.RowKit Go.Shelf
structure WI (w0 wr : World) (wb : Nat) (vs : Value) (bs : List Nat) (L : List Sd) (no ni : Nat) (F : List Nat) : Prop where
 len : L.length = bs.length
 bsd : ∀ (i : Nat) d, L[i]? = some d -> bs[i]? = some d.b
 W : Wd wr wb vs no ni F
 row : RowG 81 1 wr vs bs.length (bs.map fun b => ptrV b)
 pr : ∀ (i : Nat) d, L[i]? = some d -> Pr wr d /\ ∀ k ∈ d.F, k ∉ F /\ w0.heap.size <= k /\ vs.ownBlock ≠ some k
 dis : ∀ (i j : Nat) d e, i ≠ j -> L[i]? = some d -> L[j]? = some e -> ∀ k ∈ d.F, k ∉ e.F
 vsF : ∀ g, vs.ownBlock = some g -> g ∉ F /\ w0.heap.size <= g
 lowF : ∀ k ∈ F, w0.heap.size <= k
 below : Below w0.heap.size w0 wr
section
variable {w0 wr W : World} {wb : Nat} {vs : Value} {bs : List Nat} {L : List Sd} {no ni : Nat} {F : List Nat}
theorem WI.later (h : WI w0 wr wb vs bs L no ni F) (hB : Below wr.heap.size wr W) : WI w0 W wb vs bs L no ni F :=
 ⟨h.len, h.bsd, h.W.later hB, h.row.kept fun g hg => hB.block g (h.row.lt g hg), fun i d hd => ⟨(h.pr i d hd).1.later hB, (h.pr i d hd).2⟩, h.dis, h.vsF, h.lowF, h.below.trans (hB.mono h.below.size)⟩
theorem WI.pw (h : WI w0 wr wb vs bs L no ni F) {i : Nat} {d : Sd} (hd : L[i]? = some d) : PW wr d wb vs no ni F := ⟨(h.pr i d hd).1, h.W, fun k hk => ((h.pr i d hd).2 k hk).1⟩
theorem set_cases {L : List Sd} {i j : Nat} {d' e : Sd} (h : (L.set i d')[j]? = some e) : (i = j /\ e = d' /\ i < L.length) ∨ (i ≠ j /\ L[j]? = some e) := by
 rw [List.getElem?_set] at h
 by_cases hij : i = j
 ·rw [if_pos hij] at h
  split at h
  ·exact .inl ⟨hij, (Option.some.inj h).symm, by assumption⟩
  ·cases h
 ·rw [if_neg hij] at h
  exact .inr ⟨hij, h⟩
theorem WI.step (h : WI w0 wr wb vs bs L no ni F) {i : Nat} {d d' : Sd} {F' : List Nat} {no' ni' : Nat} (hd : L[i]? = some d) (hs : SAcc wr d F wb vs W d' F' no' ni') : WI w0 W wb vs bs (L.set i d') no' ni' F' := by
 have hz := h.below.size
 have hzW := hs.only.size
 have hvl : ∀ g, vs.ownBlock = some g -> g < wr.heap.size := h.row.lt
 have hvn : ∀ g, vs.ownBlock = some g -> g ∉ d.F ++ F := fun g hg hm => by
  rcases List.mem_append.1 hm with h1 | h1
  ·exact ((h.pr i d hd).2 g h1).2.2 hg
  ·exact (h.vsF g hg).1 h1
 have hlow : ∀ k ∈ d.F ++ F, w0.heap.size <= k := fun k hk => by
  rcases List.mem_append.1 hk with h1 | h1
  ·exact ((h.pr i d hd).2 k h1).2.1
  ·exact h.lowF k h1
 have hlow' : ∀ k ∈ d'.F ++ F', w0.heap.size <= k := fun k hk => (hs.new k hk).elim (hlow k) fun h1 => by omega
 have hvs' : ∀ k ∈ d'.F ++ F', vs.ownBlock ≠ some k := fun k hk e => (hs.new k hk).elim (hvn k e) fun h1 => by have := hvl k e; omega
 have hother : ∀ (j : Nat) e, i ≠ j -> L[j]? = some e -> ∀ k ∈ e.F, k ∉ d.F ++ F := fun j e hij he k hk hm => by
  rcases List.mem_append.1 hm with h1 | h1
  ·exact h.dis j i e d (fun h => hij h.symm) he hd k hk h1
  ·exact ((h.pr j e he).2 k hk).1 h1
 have hother' : ∀ (j : Nat) e, i ≠ j -> L[j]? = some e -> ∀ k ∈ e.F, k ∉ d'.F ++ F' := fun j e hij he k hk hm => (hs.new k hm).elim (hother j e hij he k hk) fun h1 => by have := (h.pr j e he).1.lt k hk; omega
 refine ⟨by rw [List.length_set]; exact h.len, fun j e he => ?_, hs.pw.W, h.row.kept fun g hg => hs.only.block g (hvl g hg) (hvn g hg), fun j e he => ?_, fun j1 j2 e1 e2 hj h1 h2 => ?_, fun g hg => ⟨fun hm => hvs' g (List.mem_append.2 (.inr hm)) hg, (h.vsF g hg).2⟩, fun k hk => hlow' k (List.mem_append.2 (.inr hk)), ?_⟩
 ·rcases set_cases he with ⟨rfl, rfl, _⟩ | ⟨_, he⟩
  ·rw [hs.b]; exact h.bsd i d hd
  ·exact h.bsd j e he
 ·rcases set_cases he with ⟨rfl, rfl, _⟩ | ⟨hij, he⟩
  ·exact ⟨hs.pw.p, fun k hk => ⟨hs.pw.dis k hk, hlow' k (List.mem_append.2 (.inl hk)), hvs' k (List.mem_append.2 (.inl hk))⟩⟩
  ·refine ⟨(h.pr j e he).1.kept fun k hk => hs.only.block k ((h.pr j e he).1.lt k hk) (hother j e hij he k hk), fun k hk => ⟨fun hm => hother' j e hij he k hk (List.mem_append.2 (.inr hm)), ((h.pr j e he).2 k hk).2⟩⟩
 ·rcases set_cases h1 with ⟨p1, p2, _⟩ | ⟨hij1, q1⟩
  ·rcases set_cases h2 with ⟨p3, _, _⟩ | ⟨hij2, q2⟩
   ·exact absurd (p1.symm.trans p3) hj
   ·rw [p2]
    exact fun k hk hm => hother' j2 e2 hij2 q2 k hm (List.mem_append.2 (.inl hk))
  ·rcases set_cases h2 with ⟨p1, p2, _⟩ | ⟨hij2, q2⟩
   ·rw [p2]
    exact fun k hk hm => hother' j1 e1 hij1 q1 k hk (List.mem_append.2 (.inl hm))
   ·exact h.dis j1 j2 e1 e2 hj q1 q2
 ·exact ⟨hs.only.os.trans h.below.os, hs.only.tape.trans h.below.tape, hs.only.output.trans h.below.output, by omega, fun k hk => (hs.only.block k (by omega) fun hm => by have := hlow k hm; omega).trans (h.below.block k hk)⟩
theorem StP.acc {w W : World} {d : Sd} {r : Ending} (hP : PW w d wb vs no ni F) (hp : StP w d wb vs no ni F r W) : r = .returned (.bool true) /\ ∃ d' F' no' ni', SAcc w d F wb vs W d' F' no' ni' /\ no' <= no + 4 /\ ni' <= ni + 1 := by
 obtain ⟨h1, d'', F'', no'', ni'', h2, h3, h4, _⟩ := (SAcc.start hP).step hp
 exact ⟨h1, d'', F'', no'', ni'', h2, h3, h4⟩
theorem wd0 {W : World} (h : W.heap[wb]? = some (.cells #[vs, .slice none 0 0, .slice none 0 0, .slice none 0 0, .slice none 0 0, .int .i64 0] 75 (0, 0))) : Wd W wb vs 0 0 [wb] :=
 ⟨.slice none 0 0, .slice none 0 0, .slice none 0 0, .slice none 0 0, [], [], [], [], 0, ⟨h, RowG.nil _ _ _, RowG.nil _ _ _, RowG.nil _ _ _, RowG.nil _ _ _, fun i v m h1 => by simp at h1, fun i v m h1 => by simp at h1, fun v hv => by simp at hv, fun v hv => by simp at hv, (fun g hg => by cases hg), by simp, (fun g hg => by cases hg), (fun g hg => by cases hg), (fun g hg => by cases hg), (fun g hg => by cases hg), (fun v hv => by simp at hv), (fun v hv => by simp at hv), fun k hk => by
  have : k = wb := by simpa using hk
  subst this
  exact (Array.getElem?_eq_some_iff.1 h).1⟩, rfl, rfl, rfl, rfl⟩
theorem WI.first {w0 W : World} (h : W.heap[wb]? = some (.cells #[.slice none 0 0, .slice none 0 0, .slice none 0 0, .slice none 0 0, .slice none 0 0, .int .i64 0] 75 (0, 0))) (hw : w0.heap.size <= wb) (hB : Below w0.heap.size w0 W) : WI w0 W wb (.slice none 0 0) [] [] 0 0 [wb] :=
 ⟨rfl, (fun i d hd => by simp at hd), wd0 h, RowG.nil _ _ _, (fun i d hd => by simp at hd), (fun i j d e _ hd => by simp at hd), (fun g hg => by cases hg), (fun k hk => by
  have e : k = wb := by simpa using hk
  rw [e]; exact hw), hB⟩
theorem sdInfo : ∃ i, Tryz.prog.info? 81 = some i /\ i.zero = some (.pointer none) /\ i.size = 1 /\ i.bytes = 8 := by
 have h : (Tryz.prog.info? 81).map (fun i => (i.zero, i.size, i.bytes)) = some (some (.pointer none), 1, 8) := by kernel_rfl
 cases hq : Tryz.prog.info? 81 with
 | none => simp [hq] at h
 | some i => simp [hq] at h; exact ⟨i, rfl, h.1, h.2.1, h.2.2⟩
theorem WI.more {w0 wr w2 : World} {x y : Nat} {s : TS} {A A' : List Nat} (h : WI w0 wr wb vs bs L 0 0 [wb]) (hblk : wr.heap[wb]? = some (.cells #[vs, .slice none 0 0, .slice none 0 0, .slice none 0 0, .slice none 0 0, .int .i64 0] 75 (0, 0))) (hn : bs.length <= 1000) (hB : Below wr.heap.size wr w2) (hT : TT w2 x s A) (hR : RT w2 y s A') (hA : ∀ k ∈ A, wr.heap.size <= k) (hA' : ∀ k ∈ A', wr.heap.size <= k) (hAA : ∀ k ∈ A, k ∉ A') (ty : TypeId) :
  ∃ g cap W, (Builtin.append_ #[71, 71] ty #[vs, .slice (some ⟨w2.heap.size + 1, 0, none⟩) 1 1]).run Tryz.prog ((w2.alloc (.cells #[ptrV x, ptrV y] 83)).alloc (.cells #[ptrV w2.heap.size] 81)) = .ok (.slice (some ⟨g, 0, none⟩) (bs.length + 1) cap) W ∧
   WI w0 (W.setCell ⟨wb, 0, none⟩ (.slice (some ⟨g, 0, none⟩) (bs.length + 1) cap)) wb (.slice (some ⟨g, 0, none⟩) (bs.length + 1) cap) (bs ++ [w2.heap.size]) (L ++ [⟨w2.heap.size, x, y, s, A, A'⟩]) 0 0 [wb] ∧
   (W.setCell ⟨wb, 0, none⟩ (.slice (some ⟨g, 0, none⟩) (bs.length + 1) cap)).heap[wb]? = some (.cells #[.slice (some ⟨g, 0, none⟩) (bs.length + 1) cap, .slice none 0 0, .slice none 0 0, .slice none 0 0, .slice none 0 0, .int .i64 0] 75 (0, 0)) ∧
   W.cell? ⟨wb, 0, none⟩ = some vs /\ W.frozen? ⟨wb, 0, none⟩ = false /\ wb < W.heap.size := by
 obtain ⟨ii, hi, hz, hs, hby⟩ := sdInfo
 have hB3 : Below w2.heap.size w2 (w2.alloc (.cells #[ptrV x, ptrV y] 83)) := (Below.refl _ w2).alloc (Nat.le_refl _) _
 have hz2 := hB.size
 have h3 := (h.later hB).later hB3
 have hsd : (w2.alloc (.cells #[ptrV x, ptrV y] 83)).heap[w2.heap.size]? = some (.cells #[ptrV x, ptrV y] 83 (0, 0)) := World.alloc_heap_new w2 _
 have hz3 : (w2.alloc (.cells #[ptrV x, ptrV y] 83)).heap.size = w2.heap.size + 1 := by simp
 have hpr3 : Pr (w2.alloc (.cells #[ptrV x, ptrV y] 83)) ⟨w2.heap.size, x, y, s, A, A'⟩ := ⟨hsd, hT.later hB3, hR.later hB3, (fun hk => absurd (show w2.heap.size < w2.heap.size from hT.lt _ hk) (Nat.lt_irrefl _)), (fun hk => absurd (show w2.heap.size < w2.heap.size from hR.lt _ hk) (Nat.lt_irrefl _)), hAA⟩
 have hblk3 : (w2.alloc (.cells #[ptrV x, ptrV y] 83)).heap[wb]? = some (.cells #[vs, .slice none 0 0, .slice none 0 0, .slice none 0 0, .slice none 0 0, .int .i64 0] 75 (0, 0)) := by
  have hwl := (Array.getElem?_eq_some_iff.1 hblk).1
  exact (hB3.block _ (by omega)).trans ((hB.block _ hwl).trans hblk)
 obtain ⟨w3, hw3⟩ : ∃ w3, w2.alloc (.cells #[ptrV x, ptrV y] 83) = w3 := ⟨_, rfl⟩
 rw [hw3] at h3 hsd hz3 hpr3 hblk3
 rw [hw3, <- hz3]
 obtain ⟨g, cap, W, r1, r2, r3, r4, r5, r6⟩ := append_one (w := w3) 71 ty 81 ii (.pointer none) 1 8 Tryz.underlying71 hi hz hs hby rfl (by omega) (by omega) vs bs.length (bs.map fun b => ptrV b) [ptrV w2.heap.size] rfl (by simp [Value.oneCell']) h3.row (by omega)
 have hwl3 := (Array.getElem?_eq_some_iff.1 hblk3).1
 have hvw : vs.ownBlock ≠ some wb := fun e => (h3.vsF wb e).1 (by simp)
 have hkw : W.heap[wb]? = w3.heap[wb]? := r3 wb hwl3 hvw
 have hblkW := hkw.trans hblk3
 have hset := setW hblkW 0 (.slice (some ⟨g, 0, none⟩) (bs.length + 1) cap)
 rw [show (#[vs, Value.slice none 0 0, .slice none 0 0, .slice none 0 0, .slice none 0 0, .int .i64 0]).setIfInBounds 0 (.slice (some ⟨g, 0, none⟩) (bs.length + 1) cap) = #[.slice (some ⟨g, 0, none⟩) (bs.length + 1) cap, .slice none 0 0, .slice none 0 0, .slice none 0 0, .slice none 0 0, .int .i64 0] by simp] at hset
 have hsn : ∀ k, k ≠ wb -> (W.setCell ⟨wb, 0, none⟩ (.slice (some ⟨g, 0, none⟩) (bs.length + 1) cap)).heap[k]? = W.heap[k]? := fun k hk => Below.heap_setCell _ _ _ _ hk
 have hss := setCell_size W ⟨wb, 0, none⟩ (.slice (some ⟨g, 0, none⟩) (bs.length + 1) cap)
 have hzb := h.below.size
 have hwlow : w0.heap.size <= wb := h.lowF wb (by simp)
 have hgw : g ≠ wb := by
  rcases r6 with h6 | h6
  ·exact fun e => hvw (by rw [<- e]; exact h6.symm)
  ·omega
 have hglow : w0.heap.size <= g := by
  rcases r6 with h6 | h6
  ·exact (h3.vsF g h6.symm).2
  ·omega
 -- the blocks of a side
 have hall : ∀ (i : Nat) d, (L ++ [⟨w2.heap.size, x, y, s, A, A'⟩])[i]? = some d -> (i < L.length /\ L[i]? = some d) ∨ (i = L.length /\ d = ⟨w2.heap.size, x, y, s, A, A'⟩) := fun i d hd => by
  rcases Nat.lt_or_ge i L.length with h1 | h1
  ·rw [List.getElem?_append_left h1] at hd; exact .inl ⟨h1, hd⟩
  ·have hil := (List.getElem?_eq_some_iff.1 hd).1
   have e : i = L.length := by simp at hil; omega
   subst e
   exact .inr ⟨rfl, by simpa [eq_comm] using hd⟩
 have hnew : ∀ k ∈ (Sd.mk w2.heap.size x y s A A').F, wr.heap.size <= k /\ k < w3.heap.size := fun k hk => ⟨by
  rcases Sd.mem.1 hk with h1 | h1 | h1
  ·have h1 : k = w2.heap.size := h1
   omega
  ·exact hA k h1
  ·exact hA' k h1, hpr3.lt k hk⟩
 have hprA : ∀ (i : Nat) d, (L ++ [⟨w2.heap.size, x, y, s, A, A'⟩])[i]? = some d -> Pr w3 d /\ ∀ k ∈ d.F, k ≠ wb /\ w0.heap.size <= k /\ vs.ownBlock ≠ some k := fun i d hd => by
  rcases hall i d hd with ⟨_, h1⟩ | ⟨_, rfl⟩
  ·have h2 := h3.pr i d h1
   exact ⟨h2.1, fun k hk => ⟨fun e => (h2.2 k hk).1 (by simp [e]), (h2.2 k hk).2⟩⟩
  ·refine ⟨hpr3, fun k hk => ?_⟩
   obtain ⟨q1, q2⟩ := hnew k hk
   have hwl := (Array.getElem?_eq_some_iff.1 hblk).1
   exact ⟨by omega, by omega, fun e => by have := h.row.lt k e; omega⟩
 have hgd : ∀ (i : Nat) d, (L ++ [⟨w2.heap.size, x, y, s, A, A'⟩])[i]? = some d -> ∀ k ∈ d.F, k ≠ g := fun i d hd k hk e => by
  obtain ⟨q1, q2⟩ := hprA i d hd
  rcases r6 with h6 | h6
  ·exact (q2 k hk).2.2 (by rw [e]; exact h6.symm)
  ·have := q1.lt k hk; omega
 refine ⟨g, cap, W, r1, ⟨by simp [h.len], fun i d hd => ?_, wd0 hset, ?_, fun i d hd => ?_, fun i j d e hij hd he => ?_, fun g' hg' => ?_, fun k hk => by rw [(by simpa using hk : k = wb)]; exact hwlow, ?_⟩, hset, by simp [World.cell?, hblkW], by simp [World.frozen?, hblkW], by omega⟩
 ·rcases hall i d hd with ⟨h1, h2⟩ | ⟨h1, rfl⟩
  ·rw [List.getElem?_append_left (by rw [<- h.len]; exact h1)]
   exact h.bsd i d h2
  ·rw [h1, h.len]; simp
 ·have hr2 : RowG 81 1 W (.slice (some ⟨g, 0, none⟩) (bs.length + 1) cap) (bs.length + 1) ((bs.map fun b => ptrV b) ++ [ptrV w2.heap.size]) := r2
  have := hr2.kept (w' := W.setCell ⟨wb, 0, none⟩ (.slice (some ⟨g, 0, none⟩) (bs.length + 1) cap)) fun g' hg' => hsn g' (by
   have e : g = g' := by simpa [Value.ownBlock] using hg'
   rw [<- e]; exact hgw)
  simpa using this
 ·obtain ⟨q1, q2⟩ := hprA i d hd
  refine ⟨q1.kept fun k hk => (hsn k (q2 k hk).1).trans (r3 k (q1.lt k hk) (q2 k hk).2.2), fun k hk => ⟨by simpa using (q2 k hk).1, (q2 k hk).2.1, fun e => ?_⟩⟩
  have e2 : g = k := by simpa [Value.ownBlock] using e
  exact hgd i d hd k hk e2.symm
 ·rcases hall i d hd with ⟨h1, h2⟩ | ⟨h1, rfl⟩
  ·rcases hall j e he with ⟨h4, h5⟩ | ⟨h4, rfl⟩
   ·exact h.dis i j d e hij h2 h5
   ·intro k hk hm
    have := (h.pr i d h2).1.lt k hk
    have := (hnew k hm).1
    omega
  ·rcases hall j e he with ⟨h4, h5⟩ | ⟨h4, rfl⟩
   ·intro k hk hm
    have := (h.pr j e h5).1.lt k hm
    have := (hnew k hk).1
    omega
   ·omega
 ·have e2 : g = g' := by simpa [Value.ownBlock] using hg'
  rw [<- e2]
  exact ⟨by simpa using hgw, hglow⟩
 ·have hb3 := h3.below
  refine ⟨r5.os.trans hb3.os, r5.tape.trans hb3.tape, r5.output.trans hb3.output, by rw [hss]; have := hb3.size; omega, fun k hk => ?_⟩
  have := hb3.size
  exact ((hsn k (by omega)).trans (r3 k (by omega) fun e => by have := (h3.vsF k e).2; omega)).trans (hb3.block k hk)
end
end Go.Proofs.YtglbamalagacgaaGreat

namespace Go.Proofs.YtglbamalagacgaaGreat
open Go.RowKit Go.Shelf
attribute [local go_sem] Oper.semAt_some
structure Opr where
 k : Int
 a : Int
 l : Int
 n : Int
 v : Value
 cs : List Chg
 wh : Bool
def OpsAt (w : World) (v : Value) (ss : List Opr) : Prop := ∃ a cap, v = .slice a ss.length cap /\ ∀ i x, ss[i]? = some x -> ∃ A, a = some A /\ A.block < w.heap.size /\ ChgsAt w x.v x.cs ∧
 w.cell? (A.add (i * 6)) = some (.int .i64 x.k) /\ w.cell? ⟨(A.add (i * 6)).block, (A.add (i * 6)).off + 1, none⟩ = some (.int .i64 x.a) /\ w.cell? ⟨(A.add (i * 6)).block, (A.add (i * 6)).off + 2, none⟩ = some (.int .i64 x.l) /\ w.cell? ⟨(A.add (i * 6)).block, (A.add (i * 6)).off + 3, none⟩ = some (.int .i64 x.n) /\ w.cell? ⟨(A.add (i * 6)).block, (A.add (i * 6)).off + 4, none⟩ = some x.v /\ w.cell? ⟨(A.add (i * 6)).block, (A.add (i * 6)).off + 5, none⟩ = some (.bool x.wh)
def cfgC (cfs : List Cfg) : List Value := cfs.flatMap fun c => [.int .i64 c.e, .int .i64 c.b, .int .i64 c.c, .int .i64 c.l]
theorem cfgC_at {cfs : List Cfg} {i : Nat} {x : Cfg} (h : cfs[i]? = some x) : (cfgC cfs)[i * 4]? = some (.int .i64 x.e) /\ (cfgC cfs)[i * 4 + 1]? = some (.int .i64 x.b) /\ (cfgC cfs)[i * 4 + 2]? = some (.int .i64 x.c) /\ (cfgC cfs)[i * 4 + 3]? = some (.int .i64 x.l) := by
 induction cfs generalizing i with
 | nil => simp at h
 | cons q cfs ih =>
  have e : cfgC (q :: cfs) = .int .i64 q.e :: .int .i64 q.b :: .int .i64 q.c :: .int .i64 q.l :: cfgC cfs := by simp [cfgC]
  rw [e]
  cases i with
  | zero => simp at h; subst h; simp
  | succ i =>
   have := ih (i := i) (by simpa using h)
   rw [show (i + 1) * 4 = i * 4 + 4 by omega]
   simpa using this
theorem grow_le {a b c k i : Nat} (h1 : a <= b + k) (h2 : b <= c + k * i) : a <= c + k * (i + 1) := by
 rw [Nat.mul_add, Nat.mul_one, <- Nat.add_assoc]
 omega
set_option maxRecDepth 8000 in
set_option maxHeartbeats 4000000 in
theorem play_y (w : World) (vc : Value) (cfs : List Cfg) (v : Value) (ss : List Opr) (most : Int) (N : Nat) (hcf : RowG 23 4 w vc cfs.length (cfgC cfs)) (h1 : 1 <= cfs.length) (h2 : cfs.length <= 2) (hs : OpsAt w v ss) (hbig : ∀ x ∈ ss, x.cs.length <= 6000000000000) (hss : ss.length <= 2199023255552) (hN : 1 <= N) (hN2 : N <= 32) :
  Calls Tryz.prog 12 #[vc, v, .int .i64 most, .int .i64 (N : Int)] w fun r w' => r = .returned (.bool true) /\ Below w.heap.size w w' := by
 obtain ⟨ca, cc, hvc⟩ := hcf.shape
 obtain ⟨sa, sc, hve, hst⟩ := id hs
 subst hvc
 subst hve
 have HCF := hide hcf
 have HST := hide hst
 have HBIG := hide hbig
 have hB0 : Below w.heap.size w (w.alloc (.cells #[.slice none 0 0, .slice none 0 0, .slice none 0 0, .slice none 0 0, .slice none 0 0, .int .i64 0] 75)) := (Below.refl _ w).alloc (Nat.le_refl _) _
 have hblk0 : (w.alloc (.cells #[.slice none 0 0, .slice none 0 0, .slice none 0 0, .slice none 0 0, .slice none 0 0, .int .i64 0] 75)).heap[w.heap.size]? = some (.cells #[.slice none 0 0, .slice none 0 0, .slice none 0 0, .slice none 0 0, .slice none 0 0, .int .i64 0] 75 (0, 0)) := World.alloc_heap_new w _
 have HW0 := hide (WI.first hblk0 (Nat.le_refl _) hB0)
 have HBLK0 := hide hblk0
 clear hcf hst hbig hs hB0 hblk0
 go_enter Tryz.func12, Tryz.ntmps12
 go_upto_block 0 with fail
 go_cut [11] from 12 to 134 (fun s11 w' => ∃ (vs : Value) (bs : List Nat) (L : List Sd), Hid (bs.length = cfs.length) /\ Hid (WI w w' w.heap.size vs bs L 0 0 [w.heap.size]))
 case first =>
  go_wp2_with fail
  go_loopw [11] (fun s11 wr => ∃ (i : Nat) (vs : Value) (bs : List Nat) (L : List Sd), i <= cfs.length /\ s11 = .int .i64 (i : Int) /\ Hid (bs.length = i) /\ Hid (WI w wr w.heap.size vs bs L 0 0 [w.heap.size]) /\ Hid (wr.heap[w.heap.size]? = some (.cells #[vs, .slice none 0 0, .slice none 0 0, .slice none 0 0, .slice none 0 0, .int .i64 0] 75 (0, 0)))) (fun s11 _ => cfs.length - (intOf s11).toNat)
  case atStart => exact ⟨0, _, _, _, by omega, rfl, hide rfl, HW0, HBLK0⟩
  case round =>
   clear HW0 HBLK0
   obtain ⟨i, vs, bs, L, hi, rfl, HBL, HW, HBLK⟩ := hrel
   by_cases hlt : i < cfs.length
   ·obtain ⟨cf, hcf⟩ : ∃ cf, cfs[i]? = some cf := ⟨_, List.getElem?_eq_getElem hlt⟩
    obtain ⟨gc, hca, gz⟩ : ∃ gc, ca = some ⟨gc, 0, none⟩ /\ gc < w.heap.size := by
     rcases HCF.out.2 with ⟨_, h0⟩ | ⟨g, cap, sp, h0, hg, _⟩
     ·omega
     ·cases h0; exact ⟨g, rfl, (Array.getElem?_eq_some_iff.1 hg).1⟩
    subst hca
    obtain ⟨q0, q1, q2, q3⟩ := cfgC_at hcf
    have cell := fun j u (hj : (cfgC cfs)[j]? = some u) => (HW.out.below.cell (p := ⟨gc, j, none⟩) gz).trans (HCF.out.cell hj)
    have k0 := cell _ _ q0
    have k1 := cell _ _ q1
    have k2 := cell _ _ q2
    have k3 := cell _ _ q3
    have i0 : (0 : Int) <= (i : Int) := by omega
    have i1 : (i : Int) < (cfs.length : Int) := by omega
    have hwi : IntKind.i64.wrap ((i : Int) + 1) = (i : Int) + 1 := by rw [IntKind.wrap_i64]; omega
    have zc : gc < wr.heap.size := Nat.lt_of_lt_of_le gz HW.out.below.size
    have cell2 := hide (fun (W : World) (hW : Below wr.heap.size wr W) j u (hj : (cfgC cfs)[j]? = some u) => (hW.cell (p := ⟨gc, j, none⟩) zc).trans (cell j u hj))
    have HQ := hide (And.intro q0 (And.intro q1 (And.intro q2 q3)))
    clear cell q0 q1 q2 q3
    by_cases hcfg : isCfg cf
    ·have hx := hide (new_ts wr cf hcfg)
     have hy := hide (fun W => new_r W cf hcfg)
     obtain ⟨ce, cb, cch, cl⟩ := cf
     simp only at k0 k1 k2 k3
     go_wp2_with fail
     refine hx.out.mono ?_
     rintro _ w2 ⟨t, A, rfl, hb2, hT, hA⟩
     obtain ⟨q0, q1, q2, q3⟩ := HQ.out
     have m0 := cell2.out w2 hb2 _ _ q0
     have m1 := cell2.out w2 hb2 _ _ q1
     have m2 := cell2.out w2 hb2 _ _ q2
     have m3 := cell2.out w2 hb2 _ _ q3
     have zc2 : gc < w2.heap.size := Nat.lt_of_lt_of_le zc hb2.size
     have HT := hide hT
     have HA := hide hA
     have HB2 := hide hb2
     clear q0 q1 q2 q3 hT hA hb2 hx k0 k1 k2 k3
     go_wp2_with fail
     refine (hy.out w2).mono ?_
     rintro _ w3 ⟨y, A', rfl, hb3, hR, hA'⟩
     have hz2 := HB2.out.size
     obtain ⟨g, cap, W, r1, hWI, hblk, x1, x2, x3⟩ := HW.out.more HBLK.out (by have := HBL.out; omega) (HB2.out.trans (hb3.mono HB2.out.size)) (HT.out.later hb3) hR HA.out (fun k hk => by have := hA' k hk; omega) (fun k hk hk' => by have := HT.out.lt k hk; have := hA' k hk'; omega) 71
     have hBW : Below wr.heap.size wr w3 := HB2.out.trans (hb3.mono HB2.out.size)
     have hwl := (Array.getElem?_eq_some_iff.1 HBLK.out).1
     have hbl3 := (hBW.block _ hwl).trans HBLK.out
     have p0 : w3.cell? ⟨w.heap.size, 0, none⟩ = some vs := by simp [World.cell?, hbl3]
     have z3 : w.heap.size < w3.heap.size := (Array.getElem?_eq_some_iff.1 hbl3).1
     obtain ⟨V, hV⟩ : ∃ V, W.setCell ⟨w.heap.size, 0, none⟩ (.slice (some ⟨g, 0, none⟩) (bs.length + 1) cap) = V := ⟨_, rfl⟩
     rw [hV] at hWI hblk
     have nx := hide (show ∃ (i' : Nat) (vs : Value) (bs : List Nat) (L : List Sd), i' <= cfs.length /\ Value.int .i64 ((i : Int) + 1) = .int .i64 (i' : Int) /\ Hid (bs.length = i') /\ Hid (WI w V w.heap.size vs bs L 0 0 [w.heap.size]) /\ Hid (V.heap[w.heap.size]? = some (.cells #[vs, .slice none 0 0, .slice none 0 0, .slice none 0 0, .slice none 0 0, .int .i64 0] 75 (0, 0))) from ⟨i + 1, _, _, _, by omega, by simp, hide (by rw [List.length_append, HBL.out]; rfl), hide hWI, hide hblk⟩)
     obtain ⟨va, vcp, hvs⟩ := HW.out.row.shape
     rw [hvs] at p0 x1 r1
     have HR1 := hide r1
     clear hWI hblk hBW hbl3 hb3 hR hA' hy r1 hvs HT HA HB2 HW HBLK m0 m1 m2 m3 cell2 HQ hcfg hcf
     generalize bs.length = bl at *
     go_wp2_with (at_builtin; refine wpList_appendB rfl _ _ 71 71 rfl _ _ rfl rfl _ _ HR1.out ?_)
     exact ⟨nx.out, by simp [intOf]; omega⟩
    ·have hx := hide (new_no wr cf hcfg)
     have hy := hide (fun W => new_rno W cf hcfg)
     obtain ⟨ce, cb, cch, cl⟩ := cf
     simp only at k0 k1 k2 k3
     go_wp2_with fail
     refine hx.out.mono ?_
     rintro _ w2 ⟨rfl, hb2⟩
     obtain ⟨q0, q1, q2, q3⟩ := HQ.out
     have m0 := cell2.out w2 hb2 _ _ q0
     have m1 := cell2.out w2 hb2 _ _ q1
     have m2 := cell2.out w2 hb2 _ _ q2
     have m3 := cell2.out w2 hb2 _ _ q3
     have zc2 : gc < w2.heap.size := Nat.lt_of_lt_of_le zc hb2.size
     have HB2 := hide hb2
     clear q0 q1 q2 q3 hb2 hx k0 k1 k2 k3
     go_wp2_with fail
     refine (hy.out w2).mono ?_
     rintro _ w3 ⟨rfl, hb3⟩
     have hBW : Below wr.heap.size wr w3 := HB2.out.trans (hb3.mono HB2.out.size)
     have fin := hide (HW.out.below.trans (hBW.mono HW.out.below.size))
     clear hBW hb3 hy HB2 HW HBLK m0 m1 m2 m3 cell2 HQ hcfg hcf
     go_wp2
     go_ret
     exact ⟨rfl, fin.out⟩
   ·obtain rfl : i = cfs.length := by omega
    go_wp2
    go_meet
    exact ⟨vs, bs, L, HBL, HW⟩
 case rest =>
  clear HW0 HBLK0 HCF
  obtain ⟨vs, bs, L0, HBL, HW1⟩ := hcut
  have HBL1 := hide HW1.out.len
  obtain ⟨gs, vcp, hvs, _, _⟩ : ∃ g cap, vs = .slice (some ⟨g, 0, none⟩) bs.length cap /\ True /\ True := by
   rcases HW1.out.row.2 with ⟨_, h0⟩ | ⟨g, cap, sp, h0, _⟩
   ·have := HBL.out; omega
   ·exact ⟨g, cap, h0, trivial, trivial⟩
  subst hvs
  rw [HBL.out] at HW1
  -- what each side is met by
  have HS := hide (show ∀ wr L no ni F, WI w wr w.heap.size (.slice (some ⟨gs, 0, none⟩) cfs.length vcp) bs L no ni F -> ∀ j, j < cfs.length -> ∃ d, L[j]? = some d /\ wr.cell? ⟨w.heap.size, 0, none⟩ = some (.slice (some ⟨gs, 0, none⟩) cfs.length vcp) /\ wr.cell? ⟨gs, j, none⟩ = some (ptrV d.b) /\ w.heap.size < wr.heap.size /\ gs < wr.heap.size /\ gs ≠ w.heap.size from fun wr L no ni F hI j hj => by
   obtain ⟨d, hd⟩ : ∃ d, L[j]? = some d := ⟨_, List.getElem?_eq_getElem (by have := hI.len; have := HBL.out; omega)⟩
   obtain ⟨vo, vm, vi, vt, os, ms, is, ts, last, hW, _⟩ := hI.W
   have hb := hI.bsd j d hd
   obtain ⟨g', cap', e1, e2, e3⟩ := rowG_at hI.row (i := j) (u := ptrV d.b) (by simp [hb])
   have e7 : gs = g' := by injection e1 with e4 _ _; injection e4 with e5; injection e5
   subst e7
   exact ⟨d, hd, hW.p0, e3, hW.wlt, e2, fun e => (hI.vsF gs rfl).1 (by rw [e]; exact hW.fb)⟩)
  go_upto_block 2 with fail
  go_cut [16] from 17 to 134 (fun s16 w' => ∃ (L : List Sd) (no ni : Nat) (F : List Nat), no <= 4 * ss.length /\ ni <= ss.length /\ Hid (WI w w' w.heap.size (.slice (some ⟨gs, 0, none⟩) cfs.length vcp) bs L no ni F))
  case first =>
   go_wp2_with fail
   go_loopw [16] (fun s16 wr => ∃ (i : Nat) (L : List Sd) (no ni : Nat) (F : List Nat), i <= ss.length /\ s16 = .int .i64 (i : Int) /\ no <= 4 * i /\ ni <= i /\ Hid (WI w wr w.heap.size (.slice (some ⟨gs, 0, none⟩) cfs.length vcp) bs L no ni F)) (fun s16 _ => ss.length - (intOf s16).toNat)
   case atStart => exact ⟨0, _, _, _, _, by omega, rfl, by omega, by omega, HW1⟩
   case round =>
    clear HW1
    obtain ⟨i, L, no, ni, F, hi, rfl, c1, c2, HW⟩ := hrel
    by_cases hlt : i < ss.length
    ·obtain ⟨x, hx⟩ : ∃ x, ss[i]? = some x := ⟨_, List.getElem?_eq_getElem hlt⟩
     obtain ⟨Ad, hA0, hA, hcs, a0, a1, a2, a3, a4, a5⟩ := HST.out i x hx
     subst hA0
     have hbg := HBIG.out x (List.mem_of_getElem? hx)
     have hk : ∀ j, (⟨(Ad.add (i * 6)).block, (Ad.add (i * 6)).off + j, none⟩ : Addr).block < w.heap.size := fun j => by simpa [addB] using hA
     have hbl := HW.out.below
     obtain ⟨xk, xa, xl, xn, xv, xcs, xwh⟩ := x
     simp only at hcs a0 a1 a2 a3 a4 a5 hbg
     replace a0 := (hbl.cell (p := Ad.add (i * 6)) (by simpa [addB] using hA)).trans a0
     replace a1 := (hbl.cell (p := ⟨(Ad.add (i * 6)).block, (Ad.add (i * 6)).off + 1, none⟩) (hk 1)).trans a1
     replace a2 := (hbl.cell (p := ⟨(Ad.add (i * 6)).block, (Ad.add (i * 6)).off + 2, none⟩) (hk 2)).trans a2
     replace a3 := (hbl.cell (p := ⟨(Ad.add (i * 6)).block, (Ad.add (i * 6)).off + 3, none⟩) (hk 3)).trans a3
     replace a4 := (hbl.cell (p := ⟨(Ad.add (i * 6)).block, (Ad.add (i * 6)).off + 4, none⟩) (hk 4)).trans a4
     replace a5 := (hbl.cell (p := ⟨(Ad.add (i * 6)).block, (Ad.add (i * 6)).off + 5, none⟩) (hk 5)).trans a5
     obtain ⟨ya, yc, rfl⟩ : ∃ ya yc, xv = .slice ya xcs.length yc := by obtain ⟨p, q, h, _⟩ := hcs; exact ⟨p, q, h⟩
     have Hcs := hide hcs
     have j0 : (0 : Int) <= (i : Int) := by omega
     have j1 : (i : Int) < (ss.length : Int) := by omega
     have hwi : IntKind.i64.wrap ((i : Int) + 1) = (i : Int) + 1 := by rw [IntKind.wrap_i64]; omega
     have hBA : Below wr.heap.size wr (wr.alloc (.cells (opB xk xa xl xn (.slice ya xcs.length yc) xwh) 85)) := (Below.refl _ wr).alloc (Nat.le_refl _) _
     have HWA := hide (HW.out.later hBA)
     have next := hide (show ∀ W L' no' ni' F', no' <= no + 4 -> ni' <= ni + 1 -> WI w W w.heap.size (.slice (some ⟨gs, 0, none⟩) cfs.length vcp) bs L' no' ni' F' -> ∃ (i' : Nat) (L : List Sd) (no ni : Nat) (F : List Nat), i' <= ss.length /\ Value.int .i64 ((i : Int) + 1) = .int .i64 (i' : Int) /\ no <= 4 * i' /\ ni <= i' /\ Hid (WI w W w.heap.size (.slice (some ⟨gs, 0, none⟩) cfs.length vcp) bs L no ni F) from fun W L' no' ni' F' h1 h2 hI => ⟨i + 1, L', no', ni', F', by omega, by simp, by omega, by omega, hide hI⟩)
     clear hx hcs hbl hk hBA
     by_cases hm : most < xk
     ·have dm : decide (most < xk) = true := decide_eq_true hm
      have nx := hide (next.out _ L no ni F (by omega) (by omega) HWA.out)
      clear hm next HWA HW
      go_wp2
      exact ⟨nx.out, by simp [intOf]; omega⟩
     ·have dm : decide (most < xk) = false := decide_eq_false hm
      clear hm
      -- the side, its step, the lists
      have GO := hide (show ∀ (j : Nat) (d : Sd), L[j]? = some d -> Calls Tryz.prog 33 #[ptrV w.heap.size, ptrV d.b, opV xk xa xl xn (.slice ya xcs.length yc) xwh] (wr.alloc (.cells (opB xk xa xl xn (.slice ya xcs.length yc) xwh) 85)) (fun r w' => r = .returned (.bool true) /\ ∃ L' no' ni' F', no' <= no + 4 /\ ni' <= ni + 1 /\ WI w w' w.heap.size (.slice (some ⟨gs, 0, none⟩) cfs.length vcp) bs L' no' ni' F') from fun j d hd => by
       have hP := HWA.out.pw hd
       have hlow : ∀ k ∈ d.F ++ F, w.heap.size <= k := fun k hk => by
        rcases List.mem_append.1 hk with h1 | h1
        ·exact ((HWA.out.pr j d hd).2 k h1).2.1
        ·exact HWA.out.lowF k h1
       refine (step_y _ d w.heap.size _ no ni F xa xl xn (.slice ya xcs.length yc) xwh xcs hP (Hcs.out.later HWA.out.below) (ChgsAt.away Hcs.out hlow) hbg (by omega) (by omega) xk).mono ?_
       rintro r w' hp
       obtain ⟨h1, d', F', no', ni', h2, h3, h4⟩ := StP.acc hP hp
       exact ⟨h1, _, no', ni', F', h3, h4, HWA.out.step hd h2⟩)
      obtain ⟨d0, hd0, s0, s1, s2, s3, s4⟩ := HS.out wr L no ni F HW.out 0 (by omega)
      obtain ⟨dT, hdT, t0, t1, t2, t3, t4⟩ := HS.out wr L no ni F HW.out (cfs.length - 1) (by omega)
      have g0 := hide (GO.out 0 d0 hd0)
      have gT := hide (GO.out _ dT hdT)
      obtain ⟨T1, hT1⟩ : ∃ T1, cfs.length - 1 = T1 := ⟨_, rfl⟩
      rw [hT1] at t1
      have hwT : IntKind.i64.wrap ((cfs.length : Int) - 1) = (T1 : Int) := by rw [IntKind.wrap_i64]; omega
      have T0 : (0 : Int) <= (T1 : Int) := by omega
      have T2 : (T1 : Int) < (cfs.length : Int) := by omega
      have T3 : (0 : Int) < (cfs.length : Int) := by omega
      clear hd0 hdT GO HW HWA hT1 t0 t2 t3 t4
      cases xwh
      ·go_wp2_with fail
       refine g0.out.mono ?_
       rintro _ w5 ⟨rfl, L', no', ni', F', x1, x2, hWI⟩
       have hke := hide (hWI.W.keptC (by omega) (by omega))
       have HWI := hide hWI
       clear hWI g0 gT a0 a1 a2 a3 a4 a5 s0 s1 t1
       go_wp2_with fail
       refine hke.out.mono ?_
       rintro _ w6 ⟨rfl, hb6⟩
       have nx := hide (next.out w6 L' no' ni' F' x1 x2 (HWI.out.later hb6))
       clear hb6 hke HWI next
       go_wp2
       exact ⟨nx.out, by simp [intOf]; omega⟩
      ·go_wp2_with fail
       refine gT.out.mono ?_
       rintro _ w5 ⟨rfl, L', no', ni', F', x1, x2, hWI⟩
       have hke := hide (hWI.W.keptC (by omega) (by omega))
       have HWI := hide hWI
       clear hWI g0 gT a0 a1 a2 a3 a4 a5 s0 s1 t1
       go_wp2_with fail
       refine hke.out.mono ?_
       rintro _ w6 ⟨rfl, hb6⟩
       have nx := hide (next.out w6 L' no' ni' F' x1 x2 (HWI.out.later hb6))
       clear hb6 hke HWI next
       go_wp2
       exact ⟨nx.out, by simp [intOf]; omega⟩
    ·obtain rfl : i = ss.length := by omega
     go_wp2
     go_meet
     exact ⟨L, no, ni, F, c1, c2, HW⟩
  case rest =>
   clear HW1 HST HBIG
   obtain ⟨L1, no1, ni1, F1, c1, c2, HW2⟩ := hcut
   go_wp2
   go_loopw [21] (fun s21 wr => ∃ (i : Nat) (L : List Sd) (no ni : Nat) (F : List Nat), i <= cfs.length /\ s21 = .int .i64 (i : Int) /\ no <= 4 * ss.length + 20000 * i /\ ni <= ss.length + 1000 * i /\ Hid (WI w wr w.heap.size (.slice (some ⟨gs, 0, none⟩) cfs.length vcp) bs L no ni F)) (fun s21 _ => cfs.length - (intOf s21).toNat)
   case atStart => exact ⟨0, _, _, _, _, by omega, rfl, by omega, by omega, HW2⟩
   case round =>
    clear HW2
    obtain ⟨i, L, no, ni, F, hi, rfl, c3, c4, HW⟩ := hrel
    by_cases hlt : i < cfs.length
    ·obtain ⟨d, hd, s0, s1, s2, s3, s4⟩ := HS.out wr L no ni F HW.out i hlt
     have hen := hide (ended_y wr d w.heap.size _ no ni F most N (HW.out.pw hd) hN hN2 (by omega) (by omega))
     have HD := hide hd
     have j0 : (0 : Int) <= (i : Int) := by omega
     have j1 : (i : Int) < (cfs.length : Int) := by omega
     have hwi : IntKind.i64.wrap ((i : Int) + 1) = (i : Int) + 1 := by rw [IntKind.wrap_i64]; omega
     clear hd
     go_wp2_with fail
     refine hen.out.mono ?_
     rintro _ w5 ⟨rfl, d', F', no', ni', hA, x1, x2⟩
     have hWI := HW.out.step HD.out hA
     have y1 := grow_le x1 c3
     have y2 := grow_le x2 c4
     have y3 : i + 1 <= cfs.length := hlt
     have y4 : Value.int .i64 ((i : Int) + 1) = .int .i64 ((i + 1 : Nat) : Int) := by rw [Int.natCast_add]; rfl
     have nx := hide (show ∃ (i' : Nat) (L : List Sd) (no ni : Nat) (F : List Nat), i' <= cfs.length /\ Value.int .i64 ((i : Int) + 1) = .int .i64 (i' : Int) /\ no <= 4 * ss.length + 20000 * i' /\ ni <= ss.length + 1000 * i' /\ Hid (WI w w5 w.heap.size (.slice (some ⟨gs, 0, none⟩) cfs.length vcp) bs L no ni F) from ⟨i + 1, L.set i d', no', ni', F', y3, y4, y1, y2, hWI⟩)
     clear hA hen HW HD s0 s1 hWI y1 y2 y3 y4
     go_wp2
     exact ⟨nx.out, by simp [intOf]; omega⟩
    ·obtain rfl : i = cfs.length := by omega
     have hke := hide (HW.out.W.keptC (by omega) (by omega))
     have HBW := hide HW.out.below
     clear HW HS
     go_wp2_with fail
     refine hke.out.mono ?_
     rintro _ w6 ⟨rfl, hb6⟩
     have fin := hide (HBW.out.trans (hb6.mono HBW.out.size))
     clear hb6 hke
     go_wp2
     go_ret
     exact ⟨rfl, fin.out⟩
end Go.Proofs.YtglbamalagacgaaGreat

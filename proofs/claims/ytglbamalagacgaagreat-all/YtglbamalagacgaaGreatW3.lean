import Derived.Test.YtglbamalagacgaaGreatW2
import Derived.Test.YtglbamalagacgaaGreatY8
import Derived.BigQuiet
namespace Go.Proofs.YtglbamalagacgaaGreat
open Go.RowKit Go.Shelf
structure Sd where
 b : Nat
 x : Nat
 y : Nat
 s : TS
 A : List Nat
 A' : List Nat
def Sd.F (d : Sd) : List Nat := d.b :: (d.A ++ d.A')
theorem Sd.mem {d : Sd} {k : Nat} : k ∈ d.F ↔ k = d.b ∨ k ∈ d.A ∨ k ∈ d.A' := by unfold Sd.F; simp
structure Pr (w : World) (d : Sd) : Prop where
 blk : w.heap[d.b]? = some (.cells #[ptrV d.x, ptrV d.y] 83 (0, 0))
 T : TT w d.x d.s d.A
 R : RT w d.y d.s d.A'
 nA : d.b ∉ d.A
 nA' : d.b ∉ d.A'
 dis : ∀ k ∈ d.A, k ∉ d.A'
section
variable {w W : World} {d : Sd} {wb : Nat} {vs : Value} {no ni : Nat} {F : List Nat}
theorem Pr.lt (h : Pr w d) : ∀ k ∈ d.F, k < w.heap.size := fun k hk => by
 rcases Sd.mem.1 hk with rfl | h1 | h1
 ·exact (Array.getElem?_eq_some_iff.1 h.blk).1
 ·exact h.T.lt k h1
 ·exact h.R.lt k h1
theorem Pr.kept (h : Pr w d) (hk : ∀ k ∈ d.F, W.heap[k]? = w.heap[k]?) : Pr W d :=
 ⟨(hk _ (Sd.mem.2 (.inl rfl))).trans h.blk, h.T.kept fun k h1 => hk k (Sd.mem.2 (.inr (.inl h1))), h.R.kept fun k h1 => hk k (Sd.mem.2 (.inr (.inr h1))), h.nA, h.nA', h.dis⟩
theorem Pr.later (h : Pr w d) (hB : Below w.heap.size w W) : Pr W d := h.kept fun k hk => hB.block k (h.lt k hk)
theorem Pr.c0 (h : Pr w d) : w.cell? ⟨d.b, 0, none⟩ = some (ptrV d.x) := by simp [World.cell?, h.blk]
theorem Pr.c1 (h : Pr w d) : w.cell? ⟨d.b, 1, none⟩ = some (ptrV d.y) := by simp [World.cell?, h.blk]
theorem Pr.bl (h : Pr w d) : d.b < w.heap.size := (Array.getElem?_eq_some_iff.1 h.blk).1
theorem Pr.ok (h : Pr w d) : d.s.Ok := h.T.ok
structure PW (w : World) (d : Sd) (wb : Nat) (vs : Value) (no ni : Nat) (F : List Nat) : Prop where
 p : Pr w d
 W : Wd w wb vs no ni F
 dis : ∀ k ∈ d.F, k ∉ F
theorem PW.later (h : PW w d wb vs no ni F) (hB : Below w.heap.size w W) : PW W d wb vs no ni F := ⟨h.p.later hB, h.W.later hB, h.dis⟩
def PgP (w : World) (d : Sd) (wb : Nat) (vs : Value) (F : List Nat) (no' ni' : Nat) (v : Value) (r : Ending) (w' : World) : Prop := r = .returned v /\ ∃ F', PW w' d wb vs no' ni' F' /\ NewF w F F' /\ Only F w w'
theorem PW.turned {no' ni' : Nat} {F' : List Nat} (h : PW w d wb vs no ni F) (hW : Wd W wb vs no' ni' F') (hn : NewF w F F') (ho : Only F w W) : PW W d wb vs no' ni' F' :=
 ⟨h.p.kept fun k hk => ho.block k (h.p.lt k hk) (h.dis k hk), hW, fun k hk hm => (hn k hm).elim (h.dis k hk) fun h1 => by have := h.p.lt k hk; omega⟩
theorem Wd.keptC (h : Wd w wb vs no ni F) (b1 : no <= 9000000000000) (b2 : ni <= 9000000000000) : Calls Tryz.prog 34 #[ptrV wb] w fun r w' => r = .returned (.bool true) /\ Below w.heap.size w w' := by
 obtain ⟨vo, vm, vi, vt, os, ms, is, ts, last, h, h1, h2, h3, h4⟩ := h
 exact kept_any h (by omega) (by omega) (by omega) (by omega)
end
theorem pagL_len (xs : List Ent) (a l n : Int) : (pagL xs a l n).length <= 32 := by
 unfold pagL
 split
 ·rename_i h
  unfold pagE at h
  have : n <= 32 := by
   split at h
   ·cases h
   ·split at h
    ·cases h
    ·omega
  rw [List.length_take]
  omega
 ·simp
end Go.Proofs.YtglbamalagacgaaGreat

namespace Go.Proofs.YtglbamalagacgaaGreat
open Go.RowKit Go.Shelf
attribute [local go_sem] Oper.semAt_some
set_option maxRecDepth 8000 in
set_option maxHeartbeats 4000000 in
theorem pages_any (w : World) (d : Sd) (wb : Nat) (vs : Value) (no ni : Nat) (F : List Nat) (a l n : Int) (h : PW w d wb vs no ni F) (b1 : no <= 8999999999990) (b2 : ni <= 9000000000000) :
  Calls Tryz.prog 73 #[ptrV wb, ptrV d.b, pfxV a l, .int .i64 n] w (PgP w d wb vs F (no + 4) ni (.bool true)) := by
 obtain ⟨w0, hw0⟩ : ∃ w0, w.alloc (.cells #[.int .i64 a, .int .i64 l] 65) = w0 := ⟨_, rfl⟩
 have hB0 : Below w.heap.size w w0 := by rw [<- hw0]; exact (Below.refl _ w).alloc (Nat.le_refl _) _
 have hpb : w0.heap[w.heap.size]? = some (.cells #[.int .i64 a, .int .i64 l] 65 (0, 0)) := by rw [<- hw0]; exact World.alloc_heap_new w _
 have hz0 : w0.heap.size = w.heap.size + 1 := by rw [<- hw0]; simp
 have h0 := h.later hB0
 have e0 := h0.p.c0
 have pb0 : w0.cell? ⟨w.heap.size, 0, none⟩ = some (.int .i64 a) := by simp [World.cell?, hpb]
 have pb1 : w0.cell? ⟨w.heap.size, 1, none⟩ = some (.int .i64 l) := by simp [World.cell?, hpb]
 have bl := h0.p.bl
 have pz : w.heap.size < w0.heap.size := by omega
 have hx := hide ((h0.p.T.later (Below.refl _ w0).drew).page a l n)
 obtain ⟨ys, hys⟩ : ∃ ys, pagL d.s.xs a l n = ys := ⟨_, rfl⟩
 obtain ⟨er, her⟩ : ∃ er, pagE a l n = er := ⟨_, rfl⟩
 have hyl : ys.length <= 32 := by rw [<- hys]; exact pagL_len _ _ _ _
 have HY := hide (show ∀ W, Below w0.heap.size w0 W -> W.cell? ⟨d.b, 1, none⟩ = some (ptrV d.y) /\ W.cell? ⟨w.heap.size, 0, none⟩ = some (.int .i64 a) /\ W.cell? ⟨w.heap.size, 1, none⟩ = some (.int .i64 l) /\ d.b < W.heap.size /\ w.heap.size < W.heap.size /\ Calls Tryz.prog 74 #[ptrV d.y, pfxV a l, .int .i64 n] W.drew (PagP W.drew ys er) from fun W hW => by
  have h1 := h0.later hW
  rw [<- hys, <- her]
  exact ⟨h1.p.c1, (hW.cell (p := ⟨w.heap.size, 0, none⟩) pz).trans pb0, (hW.cell (p := ⟨w.heap.size, 1, none⟩) pz).trans pb1, h1.p.bl, Nat.lt_of_lt_of_le pz hW.size, page_r W.drew d.y d.s d.A' a l n (h1.p.R.later (Below.refl _ W).drew) h1.p.ok.good⟩)
 rw [hys, her] at hx
 have H0 := hide h0
 have H := hide h
 have HB0 := hide hB0
 have HW0 := hide hw0
 clear h0 hpb h hB0
 obtain ⟨b, x, y, s, A, A'⟩ := d
 simp only at e0 bl hx HY
 go_enter Tryz.func73, Tryz.ntmps73
 go_wp2
 go_region_held3 (fun w' => w'.cell? ⟨b, 0, none⟩ = some (ptrV x) /\ w'.cell? ⟨w.heap.size, 0, none⟩ = some (.int .i64 a) /\ w'.cell? ⟨w.heap.size, 1, none⟩ = some (.int .i64 l)) (go_keep)
  (first | (go_at_call 28; refine hx.out.mono ?_; rintro _ w1 ⟨v1, rfl, hr1, hb1, hf1⟩; (obtain ⟨a1, c1, rfl⟩ := hr1.shape); (have u1 : ∀ o, w1.cell? ⟨b, o, none⟩ = w0.cell? ⟨b, o, none⟩ := fun o => hb1.cell (p := ⟨b, o, none⟩) bl); (have u2 : ∀ o, w1.cell? ⟨w.heap.size, o, none⟩ = w0.cell? ⟨w.heap.size, o, none⟩ := fun o => hb1.cell (p := ⟨w.heap.size, o, none⟩) pz)))
 have hB1 : Below w0.heap.size w0 w1 := (Below.refl _ w0).drew.trans hb1
 obtain ⟨f0, f1, f2, f3, f4, hy⟩ := HY.out w1 hB1
 have HYC := hide hy
 have HR1 := hide hr1
 have HF1 := hide hf1
 have HB1 := hide hB1
 clear hr1 hb1 hf1 u1 u2 hB1 hy HY hx e0 pb0 pb1 bl pz hw0
 go_wp2
 go_region_held3 (fun w' => w'.cell? ⟨b, 1, none⟩ = some (ptrV y) /\ w'.cell? ⟨w.heap.size, 0, none⟩ = some (.int .i64 a) /\ w'.cell? ⟨w.heap.size, 1, none⟩ = some (.int .i64 l)) (go_keep)
  (first | (go_at_call 74; refine HYC.out.mono ?_; rintro _ w2 ⟨v2, rfl, hr2, hb2, hf2⟩; (obtain ⟨a2, c2, rfl⟩ := hr2.shape); (have u1 : ∀ o, w2.cell? ⟨b, o, none⟩ = w1.cell? ⟨b, o, none⟩ := fun o => hb2.cell (p := ⟨b, o, none⟩) f3); (have u2 : ∀ o, w2.cell? ⟨w.heap.size, o, none⟩ = w1.cell? ⟨w.heap.size, o, none⟩ := fun o => hb2.cell (p := ⟨w.heap.size, o, none⟩) f4)))
 have hB2 : Below w1.heap.size w1 w2 := (Below.refl _ w1).drew.trans hb2
 have HR2 := hide hr2
 have HR12 := hide (HR1.out.kept (w' := w2) fun g hg => hB2.block g (HR1.out.lt g hg))
 have HB2 := hide hB2
 clear hr2 hb2 hf2 u1 u2 hB2 HYC f0 f1 f2 f3 f4
 have hB02 : Below w.heap.size w w2 := HB0.out.trans ((HB1.out.trans (HB2.out.mono HB1.out.size)).mono (by omega))
 have HB02 := hide hB02
 clear hB02
 go_wp2
 go_loopw [13] (fun s13 wr => ∃ j : Nat, j <= ys.length /\ s13 = .int .i64 (j : Int) /\ Hid (Below w2.heap.size w2 wr)) (fun s13 _ => ys.length - (intOf s13).toNat)
 case atStart => exact ⟨0, by omega, rfl, hide (Below.refl _ _)⟩
 case round =>
  obtain ⟨j, hj, rfl, HB⟩ := hrel
  by_cases hlt : j < ys.length
  ·obtain ⟨e, he⟩ : ∃ e, ys[j]? = some e := ⟨_, List.getElem?_eq_getElem hlt⟩
   obtain ⟨g1, eg1, s0, s1, s2, s3⟩ := rowG_rte HR12.out he
   obtain ⟨g2, eg2, t0, t1, t2, t3⟩ := rowG_rte HR2.out he
   subst eg1
   subst eg2
   have j0 : (0 : Int) <= (j : Int) := by omega
   have j1 : (j : Int) < (ys.length : Int) := by omega
   have hwj : IntKind.i64.wrap ((j : Int) + 1) = (j : Int) + 1 := by rw [IntKind.wrap_i64]; omega
   have p1 := (HB.out.cell (p := ⟨g1, j * 3, none⟩) s0).trans s1
   have p2 := (HB.out.cell (p := ⟨g1, j * 3 + 1, none⟩) s0).trans s2
   have p3 := (HB.out.cell (p := ⟨g1, j * 3 + 2, none⟩) s0).trans s3
   have q1 := (HB.out.cell (p := ⟨g2, j * 3, none⟩) t0).trans t1
   have q2 := (HB.out.cell (p := ⟨g2, j * 3 + 1, none⟩) t0).trans t2
   have q3 := (HB.out.cell (p := ⟨g2, j * 3 + 2, none⟩) t0).trans t3
   clear s1 s2 s3 t1 t2 t3 he
   go_wp2
   go_quiet (fail)
   go_wp2
   exact ⟨⟨j + 1, by omega, by simp, hide (HB.out.trans (Below.mono (by repeat (first | exact Below.refl _ _ | refine below_drewN ?_ _ | refine Below.drew ?_ | refine Below.trans ?_ (Below.mono (by assumption) ?_) | refine Below.alloc ?_ ?_ _ | refine Below.setCell ?_ ?_ _ | omega | (simp; omega) | simp)) HB.out.size))⟩, by simp [intOf]; omega⟩
  ·obtain rfl : j = ys.length := by omega
   have hBw : Below w.heap.size w wr := HB02.out.trans (HB.out.mono HB02.out.size)
   have hWr := H.out.W.later hBw
   have hke := hide (hWr.keptC (by omega) b2)
   have HBW := hide hBw
   have HRR := hide (HR12.out.kept (w' := wr) fun g hg => HB.out.block g (HR12.out.lt g hg))
   have HFF := hide (show ∀ g, (Value.slice a1 ys.length c1).ownBlock = some g -> w.heap.size < g from fun g hg => by have h1 : w0.heap.size <= g := HF1.out g hg; omega)
   have HFL := hide H.out.W.lt
   clear hBw hWr HR1 HR2 HR12 HF1
   go_wp2_with fail
   refine hke.out.mono ?_
   rintro _ w3 ⟨rfl, hb3⟩
   have hBw3 : Below w.heap.size w w3 := HBW.out.trans (hb3.mono HBW.out.size)
   have hkp := hide (keep_any w3 wb vs no ni F (.slice a1 ys.length c1) ys.length (rteC ys) (H.out.W.later hBw3) (HRR.out.kept fun g hg => hb3.block g (HRR.out.lt g hg)) hyl (fun g hg hm => by have h1 := HFF.out g hg; have h2 := HFL.out g hm; omega) b1)
   have HB3 := hide hBw3
   clear hke hBw3 hb3
   go_wp2_with fail
   refine hkp.out.mono ?_
   rintro _ w4 ⟨rfl, F', hW4, hn4, ho4⟩
   have hn : NewF w F F' := fun k hk => by
    rcases hn4 k hk with h1 | h1
    ·rcases List.mem_append.1 h1 with h2 | h2
     ·exact .inl h2
     ·have := HFF.out k (by simpa using h2)
      exact .inr (by omega)
    ·have := HB3.out.size
     exact .inr (by omega)
   have ho : Only F w w4 := (Only.of_below F HB3.out).trans ho4 fun x hx => by
    rcases List.mem_append.1 hx with h2 | h2
    ·exact .inl h2
    ·have := HFF.out x (by simpa using h2)
     exact .inr (by omega)
   have fin := hide (show PgP w ⟨b, x, y, s, A, A'⟩ wb vs F (no + 4) ni (.bool true) (.returned (.bool true)) w4 from ⟨rfl, F', H.out.turned hW4 hn ho, hn, ho⟩)
   clear hkp hW4 hn4 ho4 hn ho
   go_wp2
   go_ret
   exact fin.out
end Go.Proofs.YtglbamalagacgaaGreat

namespace Go.Proofs.YtglbamalagacgaaGreat
open Go.RowKit Go.Shelf
def chgC (cs : List Chg) : List Value := cs.flatMap fun x => [.int .i64 x.a, .int .i64 x.l, .int .i64 x.n]
theorem chgC_cons (x : Chg) (cs : List Chg) : chgC (x :: cs) = .int .i64 x.a :: .int .i64 x.l :: .int .i64 x.n :: chgC cs := by simp [chgC]
theorem chgC_len (cs : List Chg) : (chgC cs).length = cs.length * 3 := by
 induction cs with
 | nil => rfl
 | cons x cs ih => rw [chgC_cons]; simp only [List.length_cons, ih]; omega
theorem chgC_at {cs : List Chg} {i : Nat} {x : Chg} (h : cs[i]? = some x) : (chgC cs)[i * 3]? = some (.int .i64 x.a) /\ (chgC cs)[i * 3 + 1]? = some (.int .i64 x.l) /\ (chgC cs)[i * 3 + 2]? = some (.int .i64 x.n) := by
 induction cs generalizing i with
 | nil => simp at h
 | cons q cs ih =>
  rw [chgC_cons]
  cases i with
  | zero => simp at h; subst h; simp
  | succ i =>
   have := ih (i := i) (by simpa using h)
   rw [show (i + 1) * 3 = i * 3 + 3 by omega]
   simpa using this
theorem chgC_one (cs : List Chg) : ∀ v ∈ chgC cs, v.oneCell' = true := by
 intro v hv
 obtain ⟨x, _, hx⟩ := List.mem_flatMap.1 hv
 simp at hx
 rcases hx with rfl | rfl | rfl <;> rfl
theorem chgC_src {w : World} {A : Addr} {cs : List Chg} (h : ∀ i x, cs[i]? = some x -> w.cell? (A.add (i * 3)) = some (.int .i64 x.a) /\ w.cell? ⟨(A.add (i * 3)).block, (A.add (i * 3)).off + 1, none⟩ = some (.int .i64 x.l) /\ w.cell? ⟨(A.add (i * 3)).block, (A.add (i * 3)).off + 2, none⟩ = some (.int .i64 x.n)) {j : Nat} {v : Value} (hj : (chgC cs)[j]? = some v) : w.cell? (A.add j) = some v := by
 have hl : j < cs.length * 3 := by have := (List.getElem?_eq_some_iff.1 hj).1; rw [chgC_len] at this; exact this
 obtain ⟨x, hx⟩ : ∃ x, cs[j / 3]? = some x := ⟨_, List.getElem?_eq_getElem (by omega)⟩
 obtain ⟨q0, q1, q2⟩ := h _ _ hx
 obtain ⟨c0, c1, c2⟩ := chgC_at hx
 have hoff : ∀ k : Nat, k ≠ 0 -> (⟨(A.add (j / 3 * 3)).block, (A.add (j / 3 * 3)).off + k, none⟩ : Addr) = A.add (j / 3 * 3 + k) := fun k hk => by
  unfold Addr.add
  rw [if_neg (show ¬ j / 3 * 3 + k = 0 by omega)]
  split
  ·rename_i h0; rw [h0]; simp
  ·simp; omega
 rcases (show j % 3 = 0 ∨ j % 3 = 1 ∨ j % 3 = 2 by omega) with hm | hm | hm
 ·have e : j / 3 * 3 = j := by omega
  rw [e] at q0 c0
  rw [c0] at hj
  cases hj
  exact q0
 ·have e : j / 3 * 3 + 1 = j := by omega
  rw [hoff 1 (by omega), e] at q1
  rw [e] at c1
  rw [c1] at hj
  cases hj
  exact q1
 ·have e : j / 3 * 3 + 2 = j := by omega
  rw [hoff 2 (by omega), e] at q2
  rw [e] at c2
  rw [c2] at hj
  cases hj
  exact q2
theorem chgs_row {w : World} {g n cap N : Nat} {cs : List Chg} {ys : List Value} (h : RowG 103 3 w (.slice (some ⟨g, 0, none⟩) N cap) N (chgC cs ++ ys)) (hn : n = cs.length) (c' : Nat) (hm : n <= maxLen) : ChgsAt w (.slice (some ⟨g, 0, none⟩) n c') cs := by
 subst hn
 refine ⟨_, _, rfl, hm, fun i x hx => ⟨⟨g, 0, none⟩, rfl, h.lt g rfl, ?_⟩⟩
 obtain ⟨c0, c1, c2⟩ := chgC_at hx
 have hil := (List.getElem?_eq_some_iff.1 hx).1
 have hl := chgC_len cs
 have key : ∀ j v, (chgC cs)[j]? = some v -> w.cell? ⟨g, j, none⟩ = some v := fun j v hj => h.cell (by rw [List.getElem?_append_left (List.getElem?_eq_some_iff.1 hj).1]; exact hj)
 have ea : (⟨g, 0, none⟩ : Addr).add (i * 3) = ⟨g, i * 3, none⟩ := by rw [Addr.add_lit, Nat.zero_add]
 rw [ea]
 exact ⟨key _ _ c0, key _ _ c1, key _ _ c2⟩
theorem chgInfo : ∃ i, Tryz.prog.info? 103 = some i /\ i.zero = some (.agg #[.int .i64 0, .int .i64 0, .int .i64 0]) /\ i.size = 3 /\ i.bytes = 24 := by
 have h : (Tryz.prog.info? 103).map (fun i => (i.zero, i.size, i.bytes)) = some (some (.agg #[.int .i64 0, .int .i64 0, .int .i64 0]), 3, 24) := by kernel_rfl
 cases hq : Tryz.prog.info? 103 with
 | none => simp [hq] at h
 | some i => simp [hq] at h; exact ⟨i, rfl, h.1, h.2.1, h.2.2⟩
theorem make_chg (n : Nat) (hn : n <= 6000000000000) : ∃ M : List Value, M = List.replicate ((n + 2) * 3) (.int .i64 0) /\ ∀ w, (Instr.makeSlice 33 (.int .i64 ((n : Int) + 2)) (.int .i64 ((n : Int) + 2))).run Tryz.prog w = .ok (.slice (some ⟨w.heap.size, 0, none⟩) (n + 2) (n + 2)) (w.alloc (.cells M.toArray 103)) := by
 obtain ⟨i, hi, hz, hs, hb⟩ := chgInfo
 refine ⟨_, rfl, fun w => ?_⟩
 have hr := run_make (P := Tryz.prog) w 33 103 i _ Tryz.underlying33 hi hz .i64 .i64 ((n : Int) + 2) ((n : Int) + 2) (by omega) (Int.le_refl _) (by rw [hb]; omega) (by omega)
 rw [show ((n : Int) + 2).toNat = n + 2 by omega, hs] at hr
 have : (madeCells (Value.agg #[.int .i64 0, .int .i64 0, .int .i64 0]).cells ((n + 2) * 3)) = (List.replicate ((n + 2) * 3) (Value.int .i64 0)).toArray := by
  apply Array.ext
  ·simp [size_madeCells]
  ·intro j h1 h2
   have hc : (Value.agg #[.int .i64 0, .int .i64 0, .int .i64 0]).cells = #[.int .i64 0, .int .i64 0, .int .i64 0] := rfl
   simp only [madeCells, hc, Array.getElem_map, Array.getElem_range, List.getElem_toArray, List.getElem_replicate]
   rcases (show j % 3 = 0 ∨ j % 3 = 1 ∨ j % 3 = 2 by omega) with hm | hm | hm <;> simp [hm]
 rw [this] at hr
 exact hr
theorem copy_chg {W : World} (ty : TypeId) (g n : Nat) (v : Value) (cs : List Chg) (hn : n = cs.length) (hg : W.heap[g]? = some (.cells (List.replicate ((n + 2) * 3) (Value.int .i64 0)).toArray 103 (0, 0))) (hm : n + 2 <= maxLen) (hv : ChgsAt W v cs) :
  ∃ W3, (Builtin.copy_ #[33, 33] ty #[.slice (some ⟨g, 0, none⟩) (n + 2) (n + 2), v]).run Tryz.prog W = .ok (goInt n) W3 /\ RowG 103 3 W3 (.slice (some ⟨g, 0, none⟩) (n + 2) (n + 2)) (n + 2) (chgC cs ++ List.replicate 6 (.int .i64 0)) /\ Only [g] W W3 := by
 obtain ⟨a, c, rfl, hml, hcs⟩ := hv
 obtain ⟨i, hi, hz, hs, hb⟩ := chgInfo
 have hlen : (chgC cs ++ List.replicate 6 (Value.int .i64 0)).length = (n + 2) * 3 := by rw [List.length_append, chgC_len, List.length_replicate]; omega
 have hgl := (Array.getElem?_eq_some_iff.1 hg).1
 cases a with
 | none =>
  have h0 : cs = [] := by
   cases cs with
   | nil => rfl
   | cons x cs => obtain ⟨A, hA, _⟩ := hcs 0 x rfl; cases hA
  subst h0
  have hn0 : n = 0 := hn
  subst hn0
  refine ⟨W, ?_, ⟨by simp [chgC], .inr ⟨g, 2, [], rfl, by rw [List.append_nil]; exact hg, by simp [chgC], Nat.le_refl _, by omega⟩⟩, Only.refl _ _⟩
  simp [Builtin.copy_, run_underlying Tryz.underlying33, Builtin.lenOf, Builtin.firstCells, sizeOf, typeInfo, hi, storeCells]
 | some A =>
  have hr := run_copyS (P := Tryz.prog) (w := W) 33 33 ty 103 3 g 0 (n + 2) (n + 2) A cs.length c _ 103 (chgC cs) Tryz.underlying33 (by rw [hi]; simp [hs]) hg (by rw [chgC_len, show Nat.min cs.length (n + 2) = cs.length from Nat.min_eq_left (by omega)]) (fun j v hj => chgC_src (fun i x hx => by obtain ⟨B, hB, _, h2⟩ := hcs i x hx; cases hB; exact h2) hj) (by rw [chgC_len]; simp; omega) (chgC_one cs)
  have e : (List.take 0 (List.replicate ((n + 2) * 3) (Value.int .i64 0)).toArray.toList ++ chgC cs ++ List.drop (0 + (chgC cs).length) (List.replicate ((n + 2) * 3) (Value.int .i64 0)).toArray.toList) = chgC cs ++ List.replicate 6 (Value.int .i64 0) := by
   rw [List.take_zero, List.nil_append, Nat.zero_add, chgC_len]
   show chgC cs ++ List.drop (cs.length * 3) (List.replicate ((n + 2) * 3) (Value.int .i64 0)) = _
   rw [List.drop_replicate, show (n + 2) * 3 - cs.length * 3 = 6 by omega]
  rw [e, show Nat.min cs.length (n + 2) = n by rw [<- hn]; exact Nat.min_eq_left (by omega)] at hr
  refine ⟨_, hr, ⟨hlen, .inr ⟨g, n + 2, [], rfl, by rw [List.append_nil]; exact setRow_heap W g _ _ _ _ hg, by rw [List.append_nil]; exact hlen, Nat.le_refl _, hm⟩⟩, ?_⟩
  have := grownBy_setRow' (w := W) g ((chgC cs ++ List.replicate 6 (Value.int .i64 0)).toArray)
  exact ⟨this.os, this.tape, this.output, this.size, fun k hk hn => this.block k hk (by simpa using hn)⟩
end Go.Proofs.YtglbamalagacgaaGreat

namespace Go.Proofs.YtglbamalagacgaaGreat
open Go.RowKit Go.Shelf
structure MidY (w W : World) (d : Sd) (s' : TS) (A1 : List Nat) : Prop where
 T : TT W d.x s' A1
 R : RT W d.y d.s d.A'
 blk : W.heap[d.b]? = some (.cells #[ptrV d.x, ptrV d.y] 83 (0, 0))
 new : NewF w d.A A1
 only : Only d.A w W
section
variable {w w' W W' W2 : World} {d : Sd} {s' : TS} {A1 : List Nat} {v : Value} {r : Ending} {wb : Nat} {vs : Value} {no ni : Nat} {F : List Nat}
theorem Pr.mid (h : Pr w d) (hB : Below w.heap.size w w') (hp : TurnP w' d.x d.A v s' r W) : r = .returned v /\ ∃ A1, MidY w W d s' A1 := by
 obtain ⟨A1, h1, h2, h3, h4⟩ := hp
 have hz := hB.size
 have hO : Only d.A w W := (Only.of_below d.A hB).trans h4 fun x hx => .inl hx
 exact ⟨h1, A1, h2, h.R.kept fun k hk => hO.block k (h.R.lt k hk) fun hm => h.dis k hm hk, (hO.block _ h.bl h.nA).trans h.blk, fun k hk => (h3 k hk).imp id fun h => by omega, hO⟩
theorem MidY.later (h : MidY w W d s' A1) (hB : Below W.heap.size W W') : MidY w W' d s' A1 :=
 ⟨h.T.later hB, h.R.later hB, (hB.block _ (Array.getElem?_eq_some_iff.1 h.blk).1).trans h.blk, h.new, h.only.trans (Only.of_below [] hB) fun x hx => by cases hx⟩
theorem MidY.c1 (h : MidY w W d s' A1) : W.cell? ⟨d.b, 1, none⟩ = some (ptrV d.y) := by simp [World.cell?, h.blk]
theorem MidY.bl (h : MidY w W d s' A1) : d.b < W.heap.size := (Array.getElem?_eq_some_iff.1 h.blk).1
def Did (w : World) (d d' : Sd) (W : World) : Prop := Pr W d' /\ d'.b = d.b /\ d'.x = d.x /\ d'.y = d.y /\ NewF w d.F d'.F /\ Only d.F w W
theorem MidY.done (h0 : Pr w d) (h : MidY w W d s' A1) (hB : Below W.heap.size W W') (hp : RTurn W' d.y d.A' v s' r W2) : r = .returned v /\ ∃ A1', Did w d ⟨d.b, d.x, d.y, s', A1, A1'⟩ W2 := by
 obtain ⟨A1', h1, h2, h3, h4⟩ := hp
 have hm := h.later hB
 have hz := hB.size
 have hz0 := h.only.size
 have nAA : ∀ k ∈ A1, k ∉ d.A' := fun k hk hk' => (h.new k hk).elim (fun h1 => h0.dis k h1 hk') fun h1 => by have := h0.R.lt k hk'; omega
 have hbl := hm.bl
 refine ⟨h1, A1', ⟨(h4.block _ hbl h0.nA').trans hm.blk, hm.T.kept fun k hk => h4.block k (hm.T.lt k hk) (nAA k hk), h2, fun hk => (h.new d.b hk).elim h0.nA fun h1 => by have := h0.bl; omega, fun hk => (h3 d.b hk).elim h0.nA' fun h1 => by have := h0.bl; omega, fun k hk hk' => (h3 k hk').elim (nAA k hk) fun h1 => by have := h.T.lt k hk; omega⟩, rfl, rfl, rfl, fun k hk => ?_, ?_⟩
 ·rcases Sd.mem.1 hk with h5 | h5 | h5
  ·exact .inl (Sd.mem.2 (.inl h5))
  ·exact (h.new k h5).imp (fun h6 => Sd.mem.2 (.inr (.inl h6))) id
  ·exact (h3 k h5).imp (fun h6 => Sd.mem.2 (.inr (.inr h6))) fun h => by omega
 ·refine (hm.only.mono fun x hx _ => Sd.mem.2 (.inr (.inl hx))).trans h4 fun x hx => .inl (Sd.mem.2 (.inr (.inr hx)))
def StP (w : World) (d : Sd) (wb : Nat) (vs : Value) (no ni : Nat) (F : List Nat) (r : Ending) (w' : World) : Prop := r = .returned (.bool true) /\ ∃ d' F' no' ni', PW w' d' wb vs no' ni' F' /\ d'.b = d.b /\ no' <= no + 4 /\ ni' <= ni + 1 /\ NewF w (d.F ++ F) (d'.F ++ F') /\ Only (d.F ++ F) w w'
theorem PW.did {d' : Sd} (h : PW w d wb vs no ni F) (hd : Did w d d' W) : PW W d' wb vs no ni F /\ NewF w (d.F ++ F) (d'.F ++ F) /\ Only (d.F ++ F) w W := by
 obtain ⟨h1, h2, h3, h4, h5, h6⟩ := hd
 refine ⟨⟨h1, h.W.kept h6.size fun k hk => h6.block k (h.W.lt k hk) fun hm => h.dis k hm hk, fun k hk hm => (h5 k hk).elim (fun h7 => h.dis k h7 hm) fun h7 => by have := h.W.lt k hm; omega⟩, fun k hk => ?_, h6.mono fun x hx _ => List.mem_append.2 (.inl hx)⟩
 rcases List.mem_append.1 hk with h7 | h7
 ·exact (h5 k h7).imp (fun h => List.mem_append.2 (.inl h)) id
 ·exact .inl (List.mem_append.2 (.inr h7))
theorem PW.stp {d' : Sd} (h : PW w d wb vs no ni F) (hd : Did w d d' W) : StP w d wb vs no ni F (.returned (.bool true)) W := by
 obtain ⟨h1, h2, h3⟩ := h.did hd
 exact ⟨rfl, d', F, no, ni, h1, hd.2.1, by omega, by omega, h2, h3⟩
theorem PW.stay (h : PW w d wb vs no ni F) (hB : Below w.heap.size w W) : StP w d wb vs no ni F (.returned (.bool true)) W :=
 ⟨rfl, d, F, no, ni, h.later hB, rfl, by omega, by omega, NewF.refl _ _, Only.of_below _ hB⟩
theorem paged_stp {no' : Nat} (hB : Below w.heap.size w w') (hn : no' <= no + 4) (hp : PgP w' d wb vs F no' ni (.bool true) r W) : StP w d wb vs no ni F r W := by
 obtain ⟨rfl, F', h1, h2, h3⟩ := hp
 have hz := hB.size
 refine ⟨rfl, d, F', _, _, h1, rfl, hn, by omega, fun k hk => ?_, (Only.of_below _ hB).trans (h3.mono fun x hx _ => List.mem_append.2 (.inr hx)) fun x hx => .inl hx⟩
 rcases List.mem_append.1 hk with h4 | h4
 ·exact .inl (List.mem_append.2 (.inl h4))
 ·exact (h2 k h4).imp (fun h => List.mem_append.2 (.inr h)) fun h => by omega
structure Iw (w wr : World) (wb : Nat) (vs vo vm vi vt : Value) (os : List Value) (ms : List Int) (is : List Value) (ts : List Int) (F0 F : List Nat) (m : Int) (l : Value) : Prop where
 W : WdT wr wb vs vo vm vi vt os ms is ts m F
 inn : InM wr l m
 own : ∀ g, l.ownBlock = some g -> g ∈ F
 new : NewF w F0 F
 only : Only F0 w wr
end
section
variable {w wr : World} {wb : Nat} {vs vi vt vo vm l : Value} {os : List Value} {ms : List Int} {is : List Value} {ts : List Int} {F0 F : List Nat} {m : Int} {K : Nat}
theorem Iw.side {W : World} {u u' : Value} {o g : Nat} {e : TypeId} (h : Iw w wr wb vs vo vm vi vt os ms is ts F0 F m l) (hu : TyB wr u e) (heR : 103 ≠ e) (hew : e ≠ 75) (huF : ∀ g, u.ownBlock = some g -> g ∈ F) (r3 : ∀ k, k < wr.heap.size -> u.ownBlock ≠ some k -> W.heap[k]? = wr.heap[k]?) (r5 : Only u.ownBlock.toList wr W) (hgn : some g = u.ownBlock ∨ wr.heap.size < g) :
  (W.heap[wb]? = wr.heap[wb]? /\ wb < W.heap.size) /\ InM (W.setCell ⟨wb, o, none⟩ u') l m /\ NewF w F0 (F ++ [g]) /\ Only F0 w (W.setCell ⟨wb, o, none⟩ u') /\ ∀ g', l.ownBlock = some g' -> g' ∈ F ++ [g] := by
 have hz2 := h.only.size
 have hwo : u.ownBlock ≠ some wb := fun e2 => by
  obtain ⟨c, hc⟩ := hu wb e2
  exact tyNe hc h.W.blk hew rfl
 have hkw : W.heap[wb]? = wr.heap[wb]? := r3 wb h.W.wlt hwo
 refine ⟨⟨hkw, Nat.lt_of_lt_of_le h.W.wlt r5.size⟩, ?_, ?_, ?_, fun g' hg' => List.mem_append.2 (.inl (h.own g' hg'))⟩
 ·refine (h.inn.kept (h.inn.ty.stays hu heR r3)).kept fun k hk => Below.heap_setCell _ _ _ _ ?_
  show k ≠ wb
  rintro rfl
  obtain ⟨c, hc⟩ := h.inn.ty k hk
  exact tyNe hc h.W.blk (by decide) rfl
 ·intro k hk
  rcases List.mem_append.1 hk with h1 | h1
  ·exact h.new k h1
  ·have : k = g := by simpa using h1
   subst this
   rcases hgn with h2 | h2
   ·exact h.new k (huF k h2.symm)
   ·exact .inr (by omega)
 ·refine (h.only.trans r5 fun x hx => h.new x (huF x (by simpa using hx))).trans (only_set (F := [wb]) (by simp)) fun x hx => ?_
  have : x = wb := by simpa using hx
  subst this
  exact h.new x h.W.fb
theorem Iw.one (h : Iw w wr wb vs vo vm vi vt os ms is ts F0 F m l) (hK : is.length = K) (hl : ts.length <= is.length) (hb : K <= 9000000000000) (ty : TypeId) : ∃ g cap W, (Builtin.append_ #[73, 73] ty #[vi, .slice (some ⟨wr.heap.size, 0, none⟩) 1 1]).run Tryz.prog (wr.alloc (.cells #[l] 33)) = .ok (.slice (some ⟨g, 0, none⟩) (K + 1) cap) W ∧
  Iw w (W.setCell ⟨wb, 3, none⟩ (.slice (some ⟨g, 0, none⟩) (K + 1) cap)) wb vs vo vm (.slice (some ⟨g, 0, none⟩) (K + 1) cap) vt os ms (is ++ [l]) ts F0 (F ++ [g]) m l /\ W.cell? ⟨wb, 3, none⟩ = some vi /\ W.frozen? ⟨wb, 3, none⟩ = false /\ wb < W.heap.size := by
 obtain ⟨ii, hi, hz, hs, hby⟩ := slcInfo
 obtain ⟨lg, ln, lc, lcs, hlv, _⟩ := id h.inn
 obtain ⟨g, cap, W, r1, r2, r3, r4, r5, r6⟩ := append_one (w := wr) 73 ty 33 ii (.slice none 0 0) 1 24 Tryz.underlying73 hi hz hs hby rfl (by omega) (by omega) vi is.length is [l] rfl (by simp [hlv, Value.oneCell']) h.W.ri (by omega)
 have hW := h.W.ins r3 r4 r2 hl h.inn.ty h.own
 rw [hK] at r1 r2 hW
 obtain ⟨⟨p1, p2⟩, p3, p4, p5, p8⟩ := h.side (u' := .slice (some ⟨g, 0, none⟩) (K + 1) cap) (o := 3) h.W.ri.ty (by decide) (by decide) h.W.fi r3 r5 (r6.imp id fun h => h.1)
 exact ⟨g, cap, W, r1, ⟨hW, p3, p8, p4, p5⟩, by simp only [World.cell?, p1]; exact h.W.p3, by simp only [World.frozen?, p1]; exact h.W.fz 3, p2⟩
theorem Iw.two (h : Iw w wr wb vs vo vm vi vt os ms is ts F0 F m l) (hK : ts.length = K) (hl : ∀ v, is[ts.length]? = some v -> v = l) (hb : K <= 9000000000000) (ty : TypeId) : ∃ g cap W, (Builtin.append_ #[41, 41] ty #[vt, .slice (some ⟨wr.heap.size, 0, none⟩) 1 1]).run Tryz.prog (wr.alloc (.cells #[.int .i64 m] 3)) = .ok (.slice (some ⟨g, 0, none⟩) (K + 1) cap) W ∧
  Iw w (W.setCell ⟨wb, 4, none⟩ (.slice (some ⟨g, 0, none⟩) (K + 1) cap)) wb vs vo vm vi (.slice (some ⟨g, 0, none⟩) (K + 1) cap) os ms is (ts ++ [m]) F0 (F ++ [g]) m l /\ W.cell? ⟨wb, 4, none⟩ = some vt /\ W.frozen? ⟨wb, 4, none⟩ = false /\ wb < W.heap.size := by
 obtain ⟨ii, hi, hz, hs, hby⟩ := intInfo
 obtain ⟨g, cap, W, r1, r2, r3, r4, r5, r6⟩ := append_one (w := wr) 41 ty 3 ii (.int .i64 0) 1 8 Tryz.underlying41 hi hz hs hby rfl (by omega) (by omega) vt ts.length (ts.map fun m => .int .i64 m) [.int .i64 m] rfl (by simp [Value.oneCell']) h.W.rt (by omega)
 have hW := h.W.turns r3 r4 r2 (fun g' hg' => by
  have hgg : g = g' := by simpa [Value.ownBlock] using hg'
  subst hgg
  exact r6.imp (fun h => h.symm) fun h => by omega) (fun v hv => by rw [hl v hv]; exact h.inn)
 rw [hK] at r1 r2 hW
 obtain ⟨⟨p1, p2⟩, p3, p4, p5, p8⟩ := h.side (u' := .slice (some ⟨g, 0, none⟩) (K + 1) cap) (o := 4) h.W.rt.ty (by decide) (by decide) h.W.ft r3 r5 (r6.imp id fun h => h.1)
 exact ⟨g, cap, W, r1, ⟨hW, p3, p8, p4, p5⟩, by simp only [World.cell?, p1]; exact h.W.p4, by simp only [World.frozen?, p1]; exact h.W.fz 4, p2⟩
end
end Go.Proofs.YtglbamalagacgaaGreat

import Derived.Test.YtglbamalagacgaaGreatY4
namespace Go.Proofs.YtglbamalagacgaaGreat
open Go.RowKit Go.Shelf
attribute [local go_sem] Oper.semAt_some
set_option maxRecDepth 8000 in
set_option maxHeartbeats 2000000 in
theorem page_r (w : World) (y : Nat) (s : TS) (A : List Nat) (a l n : Int) (hT : RT w y s A) (hg : Good s) :
  Calls Tryz.prog 74 #[ptrV y, pfxV a l, .int .i64 n] w (PagP w (pagL s.xs a l n) (pagE a l n)) := by
 obtain ⟨c0, vr, vc, vl, rl, cl, h, rfl⟩ := hT
 have hB : Below w.heap.size w (w.alloc (.cells #[.int .i64 a, .int .i64 l] 65)) := (Below.refl _ w).alloc (Nat.le_refl _) _
 have HB := hide hB
 have hpr := hide (fun W => proper_r a l W)
 have yl := h.lt
 by_cases h1 : isPfx a l = false
 ·have e1 : pagE a l n = 2 := by unfold pagE; rw [if_pos h1]
  have e2 : pagL s.xs a l n = [] := by unfold pagL; rw [e1]; rfl
  rw [e1, e2]
  have fin := hide (show PagP w [] 2 (.returned (.tuple #[.slice none 0 0, .int .i64 2])) (w.alloc (.cells #[.int .i64 a, .int .i64 l] 65)) from ⟨_, rfl, RowG.nil _ _ _, hB, fun g hg => by cases hg⟩)
  rw [h1] at hpr
  clear h hB e1 e2
  go_enter Tryz.func74, Tryz.ntmps74
  go_wp2_with fail
  refine (hpr.out _).mono ?_
  rintro _ _ ⟨rfl, rfl⟩
  go_wp2
  go_ret2
  exact fin.out
 have hp : isPfx a l = true := by simpa using h1
 rw [hp] at hpr
 by_cases h2 : n < 0 ∨ 32 < n
 ·have e1 : pagE a l n = 11 := by unfold pagE; rw [if_neg h1, if_pos h2]
  have e2 : pagL s.xs a l n = [] := by unfold pagL; rw [e1]; rfl
  rw [e1, e2]
  have fin := hide (show PagP w [] 11 (.returned (.tuple #[.slice none 0 0, .int .i64 11])) (w.alloc (.cells #[.int .i64 a, .int .i64 l] 65)) from ⟨_, rfl, RowG.nil _ _ _, hB, fun g hg => by cases hg⟩)
  have hcs : n < 0 ∨ (¬ n < 0 /\ 32 < n) := by omega
  clear h hB e1 e2 h2
  rcases hcs with c1 | ⟨c1, c2⟩
  ·have d1 : decide (n < 0) = true := decide_eq_true c1
   go_enter Tryz.func74, Tryz.ntmps74
   go_wp2_with fail
   refine (hpr.out _).mono ?_
   rintro _ _ ⟨rfl, rfl⟩
   go_wp2
   go_ret2
   exact fin.out
  ·have d1 : decide (n < 0) = false := decide_eq_false c1
   have d2 : decide (32 < n) = true := decide_eq_true c2
   go_enter Tryz.func74, Tryz.ntmps74
   go_wp2_with fail
   refine (hpr.out _).mono ?_
   rintro _ _ ⟨rfl, rfl⟩
   go_wp2
   go_ret2
   exact fin.out
 have e1 : pagE a l n = 0 := by unfold pagE; rw [if_neg h1, if_neg h2]
 obtain ⟨r0, hr1, hr2, hr3⟩ := rank_nat hp
 have e2 : pagL s.xs a l n = (frR s.xs r0).take n.toNat := by unfold pagL; rw [if_pos e1, from_fr hg.ok hp, hr3]
 rw [e1, e2]
 obtain ⟨N, rfl⟩ : ∃ N : Nat, n = N := ⟨n.toNat, by omega⟩
 rw [Int.toNat_natCast]
 have hN : N <= 32 := by omega
 have d1 : decide ((N : Int) < 0) = false := decide_eq_false (by omega)
 have d2 : decide (32 < (N : Int)) = false := decide_eq_false (by omega)
 have hrk := hide (fun W => rank_r a l hp W)
 rw [hr2] at hrk
 have hrl := h.rlen hg
 have hbh := hide (fun (W : World) (hW : Below w.heap.size w W) (r : Nat) => behind_r W vr rl (r : Int) ((h.later hW).rr) (by omega) (h.rok hg))
 have HBE := hide (fun (r : Nat) b (hb : BehI rl (r : Int) rl.length b) => h.rep.behind hg.xs hg.ok hb)
 have HL := hide (fun W (hW : Below w.heap.size w W) => And.intro (h.later hW).q5 (And.intro (h.later hW).rr (h.later hW).lt))
 have HOK := hide (h.rok hg)
 have HX := hide hg
 obtain ⟨ra, rc, rfl⟩ := h.rr.shape
 clear h hB e1 e2 h1 h2
 go_enter Tryz.func74, Tryz.ntmps74
 go_wp2_with fail
 refine (hpr.out _).mono ?_
 rintro _ _ ⟨rfl, rfl⟩
 go_wp2_with fail
 refine (hrk.out _).mono ?_
 rintro _ _ ⟨rfl, rfl⟩
 go_wp2
 go_loopw [9, 10] (fun s9 s10 wr => ∃ (j r : Nat) (ua : Option Addr) (uc : Nat), j <= N /\ Hid (j = ((frR s.xs r0).take j).length) /\ s9 = .slice ua j uc /\ s10 = .int .i64 (r : Int) /\ r <= 2304 /\ Hid (frR s.xs r = (frR s.xs r0).drop j) /\ Hid (RowU wr (.slice ua j uc) ((frR s.xs r0).take j)) /\ Hid (∀ g, (Value.slice ua j uc).ownBlock = some g -> w.heap.size <= g) /\ Hid (Below w.heap.size w wr)) (fun s9 _ _ => N - (match s9 with | .slice _ m _ => m | _ => 0))
 case atStart => exact ⟨0, r0, none, 0, by omega, hide rfl, rfl, rfl, by omega, hide rfl, hide (RowG.nil _ _ _), hide (fun g hg => by cases hg), HB⟩
 case round =>
  obtain ⟨j, r, ua, uc, hj, HJL, rfl, rfl, hr, HF, HU, HG, HB2⟩ := hrel
  by_cases hlt : j < N
  ·have j1 : (j : Int) < (N : Int) := by omega
   have hcall := hide (hbh.out wr HB2.out r)
   obtain ⟨q5, qr, z1⟩ := HL.out wr HB2.out
   clear qr
   go_wp2_with fail
   refine hcall.out.mono ?_
   rintro _ w2 ⟨⟨b, rfl, hb⟩, hb2⟩
   have hbe := HBE.out r b hb
   have hbw : Below w.heap.size w w2 := HB2.out.trans (hb2.mono HB2.out.size)
   have HR2 := hide (HU.out.kept (w' := w2) fun g hg => hb2.block g (HU.out.lt g hg))
   have HB3 := hide hbw
   clear q5 z1
   obtain ⟨q5, qr, z1⟩ := HL.out w2 hbw
   clear hcall hb hb2 hbw HU HB2
   rcases hbe with ⟨rfl, he⟩ | ⟨k, x, zs, rfl, hkl, hx, he⟩
   ·have fin := hide (show PagP w ((frR s.xs r0).take N) 0 (.returned (.tuple #[.slice ua j uc, .int .i64 0])) w2 from by
     have hd : (frR s.xs r0).drop j = [] := by rw [<- HF.out]; exact he
     have hlen : (frR s.xs r0).length <= j := by have := List.drop_eq_nil_iff.1 hd; omega
     have htk : (frR s.xs r0).take N = (frR s.xs r0).take j := by rw [List.take_of_length_le (by omega), List.take_of_length_le hlen]
     rw [htk]
     exact ⟨_, rfl, HR2.out, HB3.out, HG.out⟩)
    clear qr he
    go_wp2
    go_ret2
    exact fin.out
   ·obtain ⟨g1, eg, s0, s1, s2, s3⟩ := rowG_rte qr hx
    subst eg
    have hok := HOK.out x (List.mem_of_getElem? hx)
    have hpx := (isPfx_iff _ _).1 hok.1
    have hdj : (frR s.xs r0).drop j = x :: zs := by rw [<- HF.out]; exact he
    have htk : (frR s.xs r0).take (j + 1) = (frR s.xs r0).take j ++ [x] := by
     have hjn : j < (frR s.xs r0).length := by
      by_cases hq : j < (frR s.xs r0).length
      ·exact hq
      ·rw [List.drop_eq_nil_of_le (by omega)] at hdj; cases hdj
     rw [List.take_succ_eq_append_getElem hjn]
     congr 2
     rw [List.drop_eq_getElem_cons hjn] at hdj
     exact (List.cons.inj hdj).1
    have hdr : (frR s.xs r0).drop (j + 1) = zs := by rw [<- List.drop_drop, hdj]; rfl
    have hnx : frR s.xs (rkE x + 1) = zs := by
     have hpw := frR_pw HX.out.xs HX.out.ok r
     rw [he] at hpw
     obtain ⟨p1, p2⟩ := List.pairwise_cons.1 hpw
     have hxf : x ∈ frR s.xs r := by rw [he]; simp
     have hxr := (List.mem_filter.1 hxf).2
     have e : frR s.xs (rkE x + 1) = (frR s.xs r).filter fun y => decide (rkE x + 1 <= rkE y) := by
      unfold frR
      rw [List.filter_filter]
      refine List.filter_congr fun y _ => ?_
      rw [<- Bool.decide_and]
      refine decide_eq_decide.2 ?_
      have : r <= rkE x := by simpa using hxr
      omega
     rw [e, he, List.filter_cons, if_neg (by simp)]
     exact List.filter_eq_self.2 fun y hy => decide_eq_true (p1 y hy)
    have hrx : ((rkE x + 1 : Nat) : Int) = 9 * x.a + x.l + 1 := by unfold rkE; omega
    obtain ⟨g, cap, W, hrun, hrow, hgr, hfr⟩ := append_rte (w := w2) 61 (.slice ua j uc) ((frR s.xs r0).take j).length (rteC ((frR s.xs r0).take j)) x.a x.l x.n HR2.out (by have := HJL.out; omega)
    rw [<- HJL.out] at hrun hrow
    have hbA : Below w.heap.size w (w2.alloc (.cells #[.int .i64 x.a, .int .i64 x.l, .int .i64 x.n] 90)) := HB3.out.alloc HB3.out.size _
    have hbW : Below w.heap.size w W := grown_below hbA hgr HG.out (Nat.le_trans HB3.out.size (by simp))
    have hl2 : j + 1 = ((frR s.xs r0).take (j + 1)).length := by rw [htk, List.length_append, <- HJL.out]; rfl
    have next := hide (show ∀ W2, Below W.heap.size W W2 -> ∃ (j' r' : Nat) (va : Option Addr) (vc : Nat), j' <= N /\ Hid (j' = ((frR s.xs r0).take j').length) /\ Value.slice (some ⟨g, 0, none⟩) (j + 1) cap = .slice va j' vc /\ Value.int .i64 (9 * x.a + x.l + 1) = .int .i64 (r' : Int) /\ r' <= 2304 /\ Hid (frR s.xs r' = (frR s.xs r0).drop j') /\ Hid (RowU W2 (.slice va j' vc) ((frR s.xs r0).take j')) /\ Hid (∀ g, (Value.slice va j' vc).ownBlock = some g -> w.heap.size <= g) /\ Hid (Below w.heap.size w W2) from fun W2 hW2 => ⟨j + 1, rkE x + 1, some ⟨g, 0, none⟩, cap, by omega, hide hl2, rfl, by rw [hrx], by unfold rkE; omega, hide (by rw [hnx, hdr]), hide (by
      have hrow2 : RowU W (.slice (some ⟨g, 0, none⟩) (j + 1) cap) ((frR s.xs r0).take (j + 1)) := by
       unfold RowU
       rw [<- hl2, htk, <- rteC_snoc]
       exact hrow
      exact hrow2.kept fun k hk => hW2.block k (hrow2.lt k hk)), hide (fun g' hg' => by
      have hgg : g = g' := by simpa [Value.ownBlock] using hg'
      rcases hfr with h | h
      ·exact HG.out g' (by rw [<- hgg]; exact h.symm)
      ·have := HB3.out.size; omega), hbW.trans (hW2.mono hbW.size)⟩)
    have hrk2 := hide (fun W => rank_r x.a x.l hok.1 W)
    obtain ⟨q5', qr', z1'⟩ := HL.out W hbW
    obtain ⟨g2, eg, t0, t1, t2, t3⟩ := rowG_rte qr' hx
    cases eg
    have i0 : (0 : Int) <= (k : Int) := by omega
    have i1 : (k : Int) < (rl.length : Int) := by omega
    have di : decide ((k : Int) < 0) = false := decide_eq_false (by omega)
    have hw7 : IntKind.i64.wrap (9 * x.a + x.l + 1) = 9 * x.a + x.l + 1 := by rw [IntKind.wrap_i64]; omega
    have HRUN := hide hrun
    have hz2 : g1 < w2.heap.size := s0
    clear qr qr' hx he hok hpx hdj htk hdr hnx hrx hrow hgr hfr hbA hrun HR2 hl2
    go_wp2_with (at_builtin; refine wpList_appendB rfl _ _ 61 61 rfl _ _ rfl rfl _ _ HRUN.out ?_)
    go_quiet ((go_at_call 119; exact Calls.quiet_of_same (hrk2.out _)))
    go_wp2
    exact ⟨next.out _ (by repeat (first | exact Below.refl _ _ | refine below_drewN ?_ _ | refine Below.drew ?_ | refine Below.trans ?_ (Below.mono (by assumption) ?_) | refine Below.alloc ?_ ?_ _ | refine Below.setCell ?_ ?_ _ | omega | (simp; omega) | simp)), by show N - (j + 1) < N - j; omega⟩
  ·obtain rfl : j = N := by omega
   have fin := hide (show PagP w ((frR s.xs r0).take j) 0 (.returned (.tuple #[.slice ua j uc, .int .i64 0])) wr from ⟨_, rfl, HU.out, HB2.out, HG.out⟩)
   clear HU HG HF
   go_wp2
   go_ret2
   exact fin.out
end Go.Proofs.YtglbamalagacgaaGreat

namespace Go.Proofs.YtglbamalagacgaaGreat
open Go.RowKit Go.Shelf
attribute [local go_sem] Oper.semAt_some
theorem set67 (v0 v1 v2 v3 v4 v5 v6 v7 v8 v9 v10 v11 v12 v13 x z : Value) : (#[v0, v1, v2, v3, v4, v5, v6, v7, v8, v9, v10, v11, v12, v13].setIfInBounds 6 x).setIfInBounds 7 z = #[v0, v1, v2, v3, v4, v5, x, z, v8, v9, v10, v11, v12, v13] := by simp
theorem RefT.moves {w : World} {y : Nat} {s : TS} {c0 : Int} {vr vc vl : Value} {rl cl : List Ent} (h : RefT w y s c0 vr vc vl rl cl) (hm : s.mv = none) (k : Int) : RefT ((w.setCell ⟨y, 6, none⟩ (.int .i64 k)).setCell ⟨y, 7, none⟩ (.int .i64 1)) y (s.at (mv0 k)) c0 vr vc vl rl cl /\ Only [y] w ((w.setCell ⟨y, 6, none⟩ (.int .i64 k)).setCell ⟨y, 7, none⟩ (.int .i64 1)) := by
 have a1 := (setT h.blk 6 (.int .i64 k)).1
 have b1 := (setT a1 7 (.int .i64 1)).1
 rw [set67] at b1
 have ho := (onlyY w y 6 (.int .i64 k)).andY 7 (.int .i64 1)
 have e1 := h.cep
 have e2 := h.lr
 rw [hm] at e1 e2 b1
 have hk : ∀ v : Value, v.ownBlock ≠ some y -> ∀ g, v.ownBlock = some g -> g ∉ [y] := fun v hv g hg => by simp; exact fun e => hv (by rw [hg, e])
 exact ⟨⟨b1, h.rr.kept fun g hg => ho.block g (h.rr.lt g hg) (hk _ h.y1 g hg), h.rep, h.cr.kept fun g hg => ho.block g (h.cr.lt g hg) (hk _ h.y2 g hg), e1, (e2.kept fun g hg => ho.block g (h.lr.lt g hg) (hk _ h.y3 g hg)), h.y1, h.y2, h.y3, h.l1, h.l2⟩, ho⟩
set_option maxRecDepth 4000 in
set_option maxHeartbeats 1000000 in
theorem move_r (w : World) (y : Nat) (s : TS) (A : List Nat) (k : Int) (hT : RT w y s A) (hg : Good s) :
  Calls Tryz.prog 67 #[ptrV y, .int .i64 k] w (RTurn w y A (.int .i64 (s.move k).1) (s.move k).2) := by
 have HT := hide hT
 obtain ⟨c0, vr, vc, vl, rl, cl, h, rfl⟩ := hT
 have yl := h.lt
 have stay := hide (show ∀ e W, Below w.heap.size w W -> RTurn w y (refA y vr vc vl) (.int .i64 e) s (.returned (.int .i64 e)) W from fun e W hW => ⟨_, rfl, HT.out.later hW, NewF.refl _ _, Only.of_below _ hW⟩)
 unfold TS.move
 by_cases h1 : ¬ (1 <= k /\ k <= 3)
 ·rw [if_pos h1]
  have hcs : k < 1 ∨ (¬ k < 1 /\ 3 < k) := by omega
  clear h h1
  rcases hcs with c1 | ⟨c1, c2⟩
  ·have d1 : decide (k < 1) = true := decide_eq_true c1
   go_enter Tryz.func67, Tryz.ntmps67
   go_wp2
   go_ret
   exact stay.out 7 _ (Below.refl _ _)
  ·have d1 : decide (k < 1) = false := decide_eq_false c1
   have d2 : decide (3 < k) = true := decide_eq_true c2
   go_enter Tryz.func67, Tryz.ntmps67
   go_wp2
   go_ret
   exact stay.out 7 _ (Below.refl _ _)
 rw [if_neg h1]
 have h1' := Decidable.not_not.1 h1
 have d1 : decide (k < 1) = false := decide_eq_false (by omega)
 have d2 : decide (3 < k) = false := decide_eq_false (by omega)
 have e6 := h.q6
 have e4 := h.q4
 have e5 := h.q5
 have e1 := h.q1
 cases hm : s.mv with
 | some m =>
  rw [if_pos (show (some m).isSome = true from rfl)]
  rw [hm, show knM (some m) = m.k from rfl] at e6
  have hk := (hg.mv m hm).2.2.1
  have d0 : (m.k != 0) = true := by simp; omega
  clear h hm hk h1
  go_enter Tryz.func67, Tryz.ntmps67
  go_wp2
  go_ret
  exact stay.out 8 _ (Below.refl _ _)
 | none =>
  rw [if_neg (by simp)]
  rw [hm, show knM none = 0 from rfl] at e6
  by_cases h2 : k = s.k
  ·rw [if_pos h2]
   have d3 : (k == s.k) = true := by simpa using h2
   clear h hm h1 h2
   go_enter Tryz.func67, Tryz.ntmps67
   go_wp2
   go_ret
   exact stay.out 9 _ (Below.refl _ _)
  rw [if_neg h2]
  have d3 : (k == s.k) = false := by simpa using h2
  have hrl := h.rlen hg
  have hc1 := hide (cells_r w.drew s.k vr rl s.xs hg.k1 hg.k3 (h.rr.kept fun _ _ => rfl) (by omega) h.rep hg.xs hg.ok)
  have hc2 := hide (fun W => cells_r W k (.slice none 0 0) [] [] h1'.1 h1'.2 (RowG.nil _ _ _) (by simp) Rep.nil List.Pairwise.nil (by simp))
  have n1 := needK_bd (k := s.k) hg.xs hg.ok
  have n2 := needK_bd (k := k) (xs := []) List.Pairwise.nil (by simp)
  have hw1 : IntKind.i64.wrap (needK s.k s.xs + needK k []) = needK s.k s.xs + needK k [] := by rw [IntKind.wrap_i64]; omega
  have hact : s.act = needK s.k s.xs := rfl
  rw [hact]
  have go := hide (show ∀ W, Below w.heap.size w W -> W.cell? ⟨y, 1, none⟩ = some (.int .i64 s.b) /\ W.cell? ⟨y, 6, none⟩ = some (.int .i64 0) /\ W.cell? ⟨y, 7, none⟩ = some (.int .i64 0) /\ (∀ o, W.frozen? ⟨y, o, none⟩ = false) /\ y < W.heap.size /\ RTurn w y (refA y vr vc vl) (.int .i64 0) (s.at (mv0 k)) (.returned (.int .i64 0)) ((W.setCell ⟨y, 6, none⟩ (.int .i64 k)).setCell ⟨y, 7, none⟩ (.int .i64 1)) from fun W hW => by
   have hW' := h.later hW
   have q6 := hW'.q6
   have q7 := hW'.q7
   rw [hm] at q6 q7
   obtain ⟨m1, m2⟩ := hW'.moves hm k
   refine ⟨hW'.q1, q6, q7, hW'.fz, hW'.lt, ?_⟩
   obtain ⟨A', p1, p2, p3, p4⟩ := RTurn.ofY (vc := vc) (vl := vl) (v := .int .i64 0) m1 m2 (.inr rfl) (.inr rfl)
   exact ⟨A', p1, p2, fun k hk => (p3 k hk).imp id fun h => by have := hW.size; omega, (Only.of_below _ hW).trans p4 fun x hx => .inl hx⟩)
  obtain ⟨ra, rc, rfl⟩ := h.rr.shape
  generalize needK k [] = K2 at *
  generalize needK s.k s.xs = K1 at *
  clear h hm h1 hact h2
  by_cases hc : s.b < K1 + K2 /\ K1 < K1 + K2
  ·rw [if_pos hc]
   obtain ⟨c1, c2⟩ := hc
   have c3 : decide (0 < K2) = true := decide_eq_true (by omega)
   have c4 : decide (s.b < K1 + K2) = true := decide_eq_true c1
   go_enter Tryz.func67, Tryz.ntmps67
   go_wp2
   go_region_held3 (fun w' => w'.cell? ⟨y, 4, none⟩ = some (.int .i64 s.k) /\ w'.cell? ⟨y, 5, none⟩ = some (.slice ra rl.length rc)) (go_keep)
    (first | (go_at_call 102; refine hc1.out.mono ?_; rintro _ w5 ⟨rfl, hb5⟩; (have u1 : ∀ o, w5.cell? ⟨y, o, none⟩ = w.cell? ⟨y, o, none⟩ := fun o => hb5.cell (p := ⟨y, o, none⟩) yl)))
   have hbw : Below w.heap.size w w5 := (Below.refl _ w).drew.trans hb5
   have HBW := hide hbw
   clear hb5 u1 hc1 hbw e4 e5 e6 e1
   go_wp2_with fail
   refine (hc2.out w5).mono ?_
   rintro _ w6 ⟨rfl, hb6⟩
   have hbw2 := HBW.out.trans (hb6.mono HBW.out.size)
   obtain ⟨q1, q6, q7, qf, qz, fin⟩ := go.out w6 hbw2
   have FIN := hide fin
   have ST := hide (stay.out 6 w6 hbw2)
   clear hb6 hc2 hbw2 go fin stay
   go_wp2
   go_ret
   exact ST.out
  rw [if_neg hc]
  by_cases c1 : s.b < K1 + K2
  ·have c3 : decide (0 < K2) = false := decide_eq_false (by omega)
   have c4 : decide (s.b < K1 + K2) = true := decide_eq_true c1
   clear hc
   go_enter Tryz.func67, Tryz.ntmps67
   go_wp2
   go_region_held3 (fun w' => w'.cell? ⟨y, 4, none⟩ = some (.int .i64 s.k) /\ w'.cell? ⟨y, 5, none⟩ = some (.slice ra rl.length rc)) (go_keep)
    (first | (go_at_call 102; refine hc1.out.mono ?_; rintro _ w5 ⟨rfl, hb5⟩; (have u1 : ∀ o, w5.cell? ⟨y, o, none⟩ = w.cell? ⟨y, o, none⟩ := fun o => hb5.cell (p := ⟨y, o, none⟩) yl)))
   have hbw : Below w.heap.size w w5 := (Below.refl _ w).drew.trans hb5
   have HBW := hide hbw
   clear hb5 u1 hc1 hbw e4 e5 e6 e1
   go_wp2_with fail
   refine (hc2.out w5).mono ?_
   rintro _ w6 ⟨rfl, hb6⟩
   have hbw2 := HBW.out.trans (hb6.mono HBW.out.size)
   obtain ⟨q1, q6, q7, qf, qz, fin⟩ := go.out w6 hbw2
   have FIN := hide fin
   have ST := hide (stay.out 6 w6 hbw2)
   clear hb6 hc2 hbw2 go fin stay
   go_wp2
   go_ret
   exact FIN.out
  ·have c4 : decide (s.b < K1 + K2) = false := decide_eq_false c1
   clear hc
   go_enter Tryz.func67, Tryz.ntmps67
   go_wp2
   go_region_held3 (fun w' => w'.cell? ⟨y, 4, none⟩ = some (.int .i64 s.k) /\ w'.cell? ⟨y, 5, none⟩ = some (.slice ra rl.length rc)) (go_keep)
    (first | (go_at_call 102; refine hc1.out.mono ?_; rintro _ w5 ⟨rfl, hb5⟩; (have u1 : ∀ o, w5.cell? ⟨y, o, none⟩ = w.cell? ⟨y, o, none⟩ := fun o => hb5.cell (p := ⟨y, o, none⟩) yl)))
   have hbw : Below w.heap.size w w5 := (Below.refl _ w).drew.trans hb5
   have HBW := hide hbw
   clear hb5 u1 hc1 hbw e4 e5 e6 e1
   go_wp2_with fail
   refine (hc2.out w5).mono ?_
   rintro _ w6 ⟨rfl, hb6⟩
   have hbw2 := HBW.out.trans (hb6.mono HBW.out.size)
   obtain ⟨q1, q6, q7, qf, qz, fin⟩ := go.out w6 hbw2
   have FIN := hide fin
   have ST := hide (stay.out 6 w6 hbw2)
   clear hb6 hc2 hbw2 go fin stay
   go_wp2
   go_ret
   exact FIN.out
end Go.Proofs.YtglbamalagacgaaGreat

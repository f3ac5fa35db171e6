import Derived.Test.YtglbamalagacgaaGreatY8
import Derived.BigRegion
import Derived.Deep.CutRange
namespace Go.Proofs.YtglbamalagacgaaGreat
open Go.RowKit Go.Shelf
def cuN (m : Mv) : Nat := if m.cp = 0 then 0 else (9 * m.ca + m.cl).toNat + 1
theorem cuN_cu {m : Mv} (hp : isPfx m.ca m.cl = true) : cuM (some m) + 1 = (cuN m : Int) := by
 have h1 := (isPfx_iff _ _).1 hp
 show (if m.cp = 0 then (-1 : Int) else 9 * m.ca + m.cl) + 1 = ((if m.cp = 0 then 0 else (9 * m.ca + m.cl).toNat + 1 : Nat) : Int)
 split
 ·rfl
 ·omega
theorem frR_cons {xs ys : List Ent} {x : Ent} {k : Nat} (hs : Sorted xs) (hk : ∀ x ∈ xs, okE x) (h : frR xs k = x :: ys) : x ∈ xs /\ k <= rkE x /\ frR xs (rkE x + 1) = ys := by
 have hx : x ∈ frR xs k := by rw [h]; simp
 obtain ⟨h1, h2⟩ := List.mem_filter.1 hx
 have h2 : k <= rkE x := by simpa using h2
 have hpw := frR_pw hs hk k
 rw [h] at hpw
 obtain ⟨p1, p2⟩ := List.pairwise_cons.1 hpw
 refine ⟨h1, h2, ?_⟩
 have e : frR xs (rkE x + 1) = (frR xs k).filter fun y => decide (rkE x + 1 <= rkE y) := by
  unfold frR
  rw [List.filter_filter]
  refine List.filter_congr fun y _ => ?_
  rw [<- Bool.decide_and]
  refine decide_eq_decide.2 ?_
  omega
 rw [e, h, List.filter_cons, if_neg (by simp)]
 exact List.filter_eq_self.2 fun y hy => decide_eq_true (p1 y hy)
theorem past_cu {m : Mv} {x : Ent} (hp : isPfx m.ca m.cl = true) (hx : isPfx x.a x.l = true) (h0 : 0 <= m.cp) : m.past x.a x.l ↔ rkE x < cuN m := by
 have h1 := (isPfx_iff _ _).1 hp
 have h2 := (isPfx_iff _ _).1 hx
 unfold Mv.past klt cuN rkE
 by_cases hz : m.cp = 0
 ·rw [if_pos hz]; omega
 ·rw [if_neg hz]; omega
theorem cp_from {s : TS} {m : Mv} (hs : s.Ok) (hm : s.mv = some m) (h1 : m.ph = 1) : cpRun s (fromE s.xs m.ca m.cl) 0 m = cpRun s (frR s.xs (cuN m)) 0 m /\ CpI s (frR s.xs (cuN m)) m := by
 have hI := CpI.start hs hm h1
 have hmo := (hs.mv m hm).1
 rw [from_fr hs.ok hmo.cur] at hI ⊢
 have hpx := (isPfx_iff _ _).1 hmo.cur
 by_cases hz : m.cp = 0
 ·obtain ⟨e1, e2⟩ := hmo.c0 hz
  have e : (9 * m.ca + m.cl).toNat = cuN m := by unfold cuN; rw [if_pos hz, e1, e2]; rfl
  rw [e] at hI ⊢
  exact ⟨rfl, hI⟩
 ·have e : cuN m = (9 * m.ca + m.cl).toNat + 1 := by unfold cuN; rw [if_neg hz]
  by_cases hh : ∃ x ∈ s.xs, rkE x = (9 * m.ca + m.cl).toNat
  ·obtain ⟨x, hx, hxe⟩ := hh
   have hxf : x ∈ frR s.xs (9 * m.ca + m.cl).toNat := List.mem_filter.2 ⟨hx, decide_eq_true (by omega)⟩
   cases hf : frR s.xs (9 * m.ca + m.cl).toNat with
   | nil => rw [hf] at hxf; cases hxf
   | cons z zs =>
    obtain ⟨q1, q2, q3⟩ := frR_cons hs.sorted hs.ok hf
    have hpw := frR_pw hs.sorted hs.ok (9 * m.ca + m.cl).toNat
    rw [hf] at hpw hxf
    have hzx : rkE z = (9 * m.ca + m.cl).toNat := by
     rcases List.mem_cons.1 hxf with rfl | h2
     ·exact hxe
     ·have := (List.pairwise_cons.1 hpw).1 x h2
      omega
    have hpst : m.past z.a z.l := (past_cu hmo.cur (hs.ok z q1).1 hmo.cp0).2 (by omega)
    rw [hzx, <- e] at q3
    rw [hf] at hI
    rw [cpRun, if_pos hpst, q3]
    exact ⟨rfl, hI.tail hpst⟩
  ·have e2 : frR s.xs (cuN m) = frR s.xs (9 * m.ca + m.cl).toNat := frR_skip (by omega) fun x hx h2 => hh ⟨x, hx, by omega⟩
   rw [e2]
   exact ⟨rfl, hI⟩
theorem cp_nil {s : TS} {m : Mv} {n : Nat} (h : frR s.xs (cuN m) = []) : cpRun s (frR s.xs (cuN m)) n m = (1, s.at (if (n : Int) < s.ch then { m with ph := 2 } else m)) := by rw [h, cpRun]
theorem cp_full {s : TS} {m : Mv} {n : Nat} (hs : s.Ok) (hI : CpI s (frR s.xs (cuN m)) m) (hn : (n : Int) = s.ch) : cpRun s (frR s.xs (cuN m)) n m = (1, s.at m) := by
 cases hf : frR s.xs (cuN m) with
 | nil => rw [cpRun, if_neg (by omega)]
 | cons x zs =>
  obtain ⟨q1, q2, q3⟩ := frR_cons hs.sorted hs.ok hf
  rw [cpRun, if_neg (fun hp => by have := (past_cu hI.ok.cur (hs.ok x q1).1 hI.ok.cp0).1 hp; omega), if_pos hn]
theorem cp_cons {s : TS} {m : Mv} {n : Nat} {x : Ent} {zs : List Ent} (hs : s.Ok) (hI : CpI s (frR s.xs (cuN m)) m) (hn : (n : Int) < s.ch) (hf : frR s.xs (cuN m) = x :: zs) :
  x ∈ s.xs /\ CpI s (frR s.xs (cuN (m.lay x))) (m.lay x) /\ cpRun s (frR s.xs (cuN m)) n m = if (s.at m).over (s.at (m.lay x)) then (4, s.back) else cpRun s (frR s.xs (cuN (m.lay x))) (n + 1) (m.lay x) := by
 obtain ⟨q1, q2, q3⟩ := frR_cons hs.sorted hs.ok hf
 have hp : ¬ m.past x.a x.l := fun hp => by have := (past_cu hI.ok.cur (hs.ok x q1).1 hI.ok.cp0).1 hp; omega
 have h0 := hI.ok.cp0
 have e : cuN (m.lay x) = rkE x + 1 := by
  unfold cuN
  rw [if_neg (by show ¬ m.cp + 1 = 0; omega)]
  rfl
 rw [e, q3]
 have hI2 := hI
 rw [hf] at hI2
 refine ⟨q1, hI2.lay hs hp, ?_⟩
 rw [hf, cpRun, if_neg hp, if_neg (by omega)]
theorem set8 (v0 v1 v2 v3 v4 v5 v6 v7 v8 v9 v10 v11 v12 v13 x : Value) : #[v0, v1, v2, v3, v4, v5, v6, v7, v8, v9, v10, v11, v12, v13].setIfInBounds 8 x = #[v0, v1, v2, v3, v4, v5, v6, v7, x, v9, v10, v11, v12, v13] := by simp
theorem set9 (v0 v1 v2 v3 v4 v5 v6 v7 v8 v9 v10 v11 v12 v13 x : Value) : #[v0, v1, v2, v3, v4, v5, v6, v7, v8, v9, v10, v11, v12, v13].setIfInBounds 9 x = #[v0, v1, v2, v3, v4, v5, v6, v7, v8, x, v10, v11, v12, v13] := by simp
theorem set10 (v0 v1 v2 v3 v4 v5 v6 v7 v8 v9 v10 v11 v12 v13 x : Value) : #[v0, v1, v2, v3, v4, v5, v6, v7, v8, v9, v10, v11, v12, v13].setIfInBounds 10 x = #[v0, v1, v2, v3, v4, v5, v6, v7, v8, v9, x, v11, v12, v13] := by simp
theorem set7 (v0 v1 v2 v3 v4 v5 v6 v7 v8 v9 v10 v11 v12 v13 x : Value) : #[v0, v1, v2, v3, v4, v5, v6, v7, v8, v9, v10, v11, v12, v13].setIfInBounds 7 x = #[v0, v1, v2, v3, v4, v5, v6, x, v8, v9, v10, v11, v12, v13] := by simp
theorem RefT.turned {w W : World} {y : Nat} {s s' : TS} {c0 : Int} {vr vc vl vc' : Value} {rl cl cl' : List Ent} (h : RefT w y s c0 vr vc vl rl cl) (ho : Only [y] w W) (hb : W.heap[y]? = some (.cells (refB c0 s' vr vc' vl) 122 (0, 0))) (hx : s'.xs = s.xs) (hlg : lgM s'.mv = lgM s.mv) (hr : RowU w vc' cl') (hp : Rep cl' (ysM s'.mv)) (hn : ∀ g, vc'.ownBlock = some g -> vc.ownBlock = some g ∨ g ∉ refA y vr vc vl) : RefT W y s' c0 vr vc' vl rl cl' := by
 have h8y : vc'.ownBlock ≠ some y := fun e => by
  rcases hn y e with h1 | h1
  ·exact h.y2 h1
  ·exact h1 (refA_mem.2 (.inl rfl))
 exact ⟨hb, h.rr.kept fun g hg => ho.block g (h.rr.lt g hg) (by simp; exact fun e => h.y1 (by rw [hg, e])), by rw [hx]; exact h.rep, hr.kept fun g hg => ho.block g (hr.lt g hg) (by simp; exact fun e => h8y (by rw [hg, e])), hp, by rw [hlg]; exact h.lr.kept fun g hg => ho.block g (h.lr.lt g hg) (by simp; exact fun e => h.y3 (by rw [hg, e])), h.y1, h8y, h.y3, h.l1, fun g hg hv => by
  rcases hn g hv with h1 | h1
  ·exact h.l2 g hg h1
  ·exact h1 (refA_mem.2 (.inr (.inr (.inr hg))))⟩
theorem RefT.recopy {w : World} {y : Nat} {s : TS} {m : Mv} {c0 : Int} {vr vc vl vc' : Value} {rl cl cl' ys : List Ent} (h : RefT w y (s.at m) c0 vr vc vl rl cl) (hr : RowU w vc' cl') (hp : Rep cl' ys) (hn : ∀ g, vc'.ownBlock = some g -> vc.ownBlock = some g ∨ g ∉ refA y vr vc vl) : RefT (w.setCell ⟨y, 8, none⟩ vc') y (s.at { m with ys := ys }) c0 vr vc' vl rl cl' := by
 have a1 := (setT h.blk 8 vc').1
 rw [set8] at a1
 exact h.turned (s' := s.at { m with ys := ys }) (onlyY w y 8 vc') (by rw [a1]; rfl) rfl rfl hr hp hn
theorem RefT.cursor {w : World} {y : Nat} {s : TS} {m : Mv} {c0 : Int} {vr vc vl : Value} {rl cl : List Ent} (h : RefT w y (s.at m) c0 vr vc vl rl cl) (a l : Int) (h0 : 0 <= m.cp) :
  RefT ((w.setCell ⟨y, 9, none⟩ (.int .i64 (9 * a + l))).setCell ⟨y, 10, none⟩ (.int .i64 (m.cp + 1))) y (s.at { m with cp := m.cp + 1, ca := a, cl := l }) c0 vr vc vl rl cl /\ Only [y] w ((w.setCell ⟨y, 9, none⟩ (.int .i64 (9 * a + l))).setCell ⟨y, 10, none⟩ (.int .i64 (m.cp + 1))) := by
 have b1 := (setT h.blk 9 (.int .i64 (9 * a + l))).1
 rw [set9] at b1
 have c1 := (setT b1 10 (.int .i64 (m.cp + 1))).1
 rw [set10] at c1
 have ho := (onlyY w y 9 (.int .i64 (9 * a + l))).andY 10 (.int .i64 (m.cp + 1))
 refine ⟨h.turned (s' := s.at { m with cp := m.cp + 1, ca := a, cl := l }) ho ?_ rfl rfl h.cr h.cep (fun g hg => .inl hg), ho⟩
 rw [c1]
 have e : cuM (some { m with cp := m.cp + 1, ca := a, cl := l }) = 9 * a + l := by
  show (if m.cp + 1 = 0 then (-1 : Int) else 9 * a + l) = _
  rw [if_neg (by omega)]
 show _ = some (Obj.cells #[.int .i64 c0, .int .i64 s.b, .int .i64 s.ch, .int .i64 s.lim, .int .i64 s.k, vr, .int .i64 m.k, .int .i64 m.ph, vc, .int .i64 (cuM (some { m with cp := m.cp + 1, ca := a, cl := l })), .int .i64 (m.cp + 1), vl, .int .i64 s.ms, .int .i64 s.bs] 122 (0, 0))
 rw [e]
 rfl
theorem RefT.phase {w : World} {y : Nat} {s : TS} {m : Mv} {c0 : Int} {vr vc vl : Value} {rl cl : List Ent} (h : RefT w y (s.at m) c0 vr vc vl rl cl) : RefT (w.setCell ⟨y, 7, none⟩ (.int .i64 2)) y (s.at { m with ph := 2 }) c0 vr vc vl rl cl /\ Only [y] w (w.setCell ⟨y, 7, none⟩ (.int .i64 2)) := by
 have a1 := (setT h.blk 7 (.int .i64 2)).1
 rw [set7] at a1
 have ho := onlyY w y 7 (.int .i64 2)
 exact ⟨h.turned (s' := s.at { m with ph := 2 }) ho (by rw [a1]; rfl) rfl rfl h.cr h.cep (fun g hg => .inl hg), ho⟩
end Go.Proofs.YtglbamalagacgaaGreat

namespace Go.Proofs.YtglbamalagacgaaGreat
open Go.RowKit Go.Shelf
attribute [local go_sem] Oper.semAt_some
theorem RAcc.yOnly {w wr W W' : World} {A : List Nat} {y : Nat} {s s' : TS} {c0 : Int} {vr vc vl vr' vc' vl' : Value} {rl cl : List Ent} (h : RAcc w A wr y s (refA y vr vc vl)) (hB : Below wr.heap.size wr W) (ho : Only [y] W W') (hr : RefT W' y s' c0 vr' vc' vl' rl cl) (hn : ∀ k ∈ refA y vr' vc' vl', k ∈ refA y vr vc vl ∨ wr.heap.size <= k) : RAcc w A W' y s' (refA y vr' vc' vl') := by
 refine ⟨⟨_, _, _, _, _, _, hr, rfl⟩, h.new.trans hn h.only.size, h.only.trans ((Only.of_below [y] hB).trans ho fun x hx => .inl hx) fun x hx => ?_⟩
 simp at hx
 subst hx
 exact h.new x (refA_mem.2 (.inl rfl))
theorem refA_copy {y N : Nat} {vr vc vl vc' : Value} (h : ∀ g, vc'.ownBlock = some g -> N <= g) : ∀ k ∈ refA y vr vc' vl, k ∈ refA y vr vc vl ∨ N <= k := fun k hk => by
 rcases refA_mem.1 hk with h1 | h1 | h1 | h1
 ·exact .inl (refA_mem.2 (.inl h1))
 ·exact .inl (refA_mem.2 (.inr (.inl h1)))
 ·exact .inr (h k h1)
 ·exact .inl (refA_mem.2 (.inr (.inr (.inr h1))))
theorem RefT.clen {w : World} {y : Nat} {s : TS} {m : Mv} {c0 : Int} {vr vc vl : Value} {rl cl : List Ent} (h : RefT w y (s.at m) c0 vr vc vl rl cl) (h1 : Sorted m.ys) (h2 : ∀ x ∈ m.ys, okE x) : cl.length <= 2304 := by
 have := h.cep.len (xs := m.ys) h1
 have := ok_len h1 h2
 omega
set_option maxRecDepth 8000 in
set_option maxHeartbeats 4000000 in
theorem copies_r (w : World) (y : Nat) (s : TS) (m : Mv) (A : List Nat) (hT : RT w y s A) (hs : s.Ok) (hm : s.mv = some m) (h1 : m.ph = 1) :
  Calls Tryz.prog 103 #[ptrV y] w (RTurn w y A (.int .i64 (cpRun s (fromE s.xs m.ca m.cl) 0 m).1) (cpRun s (fromE s.xs m.ca m.cl) 0 m).2) := by
 obtain ⟨e0, hI0⟩ := cp_from hs hm h1
 rw [e0]
 obtain ⟨R, hR⟩ : ∃ R, cpRun s (frR s.xs (cuN m)) 0 m = R := ⟨_, rfl⟩
 rw [hR]
 have hA0 : RAcc w A w y (s.at m) A := by rw [TS.at_same hm]; exact ⟨hT, NewF.refl _ _, Only.refl _ _⟩
 have HA0 := hide hA0
 have HI0 := hide hI0
 have HR0 := hide hR
 have hch1 := hs.ch1
 have hch8 := hs.ch8
 have HS := hide hs
 obtain ⟨ch, hch⟩ : ∃ ch : Nat, s.ch = ch := ⟨s.ch.toNat, by omega⟩
 rw [hch] at hch1 hch8
 have HCH := hide hch
 clear e0 hI0 hA0 hR hs hm h1 hT hch
 go_enter Tryz.func103, Tryz.ntmps103
 go_wp2
 go_loopw [3] (fun s3 wr => ∃ (n : Nat) (m' : Mv) (A' : List Nat), n <= ch /\ s3 = .int .i64 (n : Int) /\ Hid (RAcc w A wr y (s.at m') A') /\ Hid (CpI s (frR s.xs (cuN m')) m') /\ Hid (cpRun s (frR s.xs (cuN m')) n m' = R)) (fun s3 _ => ch - (intOf s3).toNat)
 case atStart => exact ⟨0, m, A, by omega, rfl, HA0, HI0, HR0⟩
 case round =>
  clear HA0 HI0 HR0
  obtain ⟨n, m', A', hn, rfl, HAC, HI, HR⟩ := hrel
  obtain ⟨c0, vr, vc, vl, rl, cl, h, hA'⟩ := HAC.out.rt
  have HH := hide h
  have yl := h.lt
  have e2 : wr.cell? ⟨y, 2, none⟩ = some (.int .i64 (ch : Int)) := by rw [h.q2, <- HCH.out]; rfl
  by_cases hlt : n < ch
  ·have hg := ((HS.out.at HI.out.ok HI.out.lg)).good
   have HG := hide hg
   have hl1 : (n : Int) < (ch : Int) := by omega
   have hwn : IntKind.i64.wrap ((n : Int) + 1) = (n : Int) + 1 := by rw [IntKind.wrap_i64]; omega
   have e5 := h.q5
   have e9 : wr.cell? ⟨y, 9, none⟩ = some (.int .i64 (cuM (some m'))) := h.q9
   have hcu := cuN_cu HI.out.ok.cur
   have hcup := HI.out.ok.cur
   have hcb : cuN m' <= 2304 := by
    have := (isPfx_iff _ _).1 hcup
    unfold cuN
    split <;> omega
   have hwc : IntKind.i64.wrap (cuM (some m') + 1) = (cuN m' : Int) := by rw [IntKind.wrap_i64]; omega
   have hrl := h.rlen hg
   have hbh := hide (behind_r wr.drew vr rl (cuN m' : Int) (h.rr.kept fun _ _ => rfl) (by omega) (h.rok hg))
   have HBE := hide (fun b (hb : BehI rl (cuN m' : Int) rl.length b) => h.rep.behind hg.xs hg.ok hb)
   obtain ⟨ra, rc, hvr⟩ := h.rr.shape
   obtain ⟨ca, cc, hvc⟩ := h.cr.shape
   have HCL := hide (h.clen HI.out.ok.sorted HI.out.ok.ok)
   subst hvr
   subst hvc
   obtain ⟨cu, hcuE⟩ : ∃ cu, cuM (some m') = cu := ⟨_, rfl⟩
   rw [hcuE] at e9 hwc
   obtain ⟨K, hK⟩ : ∃ K, cuN m' = K := ⟨_, rfl⟩
   rw [hK] at hbh hwc HBE
   clear h hg hcu hcup hcuE hcb hrl
   go_wp2
   go_region_held3 (fun w' => w'.cell? ⟨y, 5, none⟩ = some (.slice ra rl.length rc) /\ w'.cell? ⟨y, 9, none⟩ = some (.int .i64 cu)) (go_keep)
    (first | (go_at_call 120; refine hbh.out.mono ?_; rintro _ w2 ⟨⟨b, rfl, hb⟩, hb2⟩; (have u1 : ∀ o, w2.cell? ⟨y, o, none⟩ = wr.cell? ⟨y, o, none⟩ := fun o => hb2.cell (p := ⟨y, o, none⟩) yl)))
   have hbw : Below wr.heap.size wr w2 := (Below.refl _ wr).drew.trans hb2
   have hbe := HBE.out b hb
   have HB2 := hide hbw
   clear hb hb2 hbh HBE u1 hbw hwc
   rcases hbe with ⟨rfl, he⟩ | ⟨k, x, zs, rfl, hkl, hx, he⟩
   ·have h2 := HH.out.later HB2.out
    have q7 := h2.q7
    have qf := h2.fz
    have y2 := h2.lt
    have fin := hide (show RTurn w y A (.int .i64 R.1) R.2 (.returned (.int .i64 1)) (w2.setCell ⟨y, 7, none⟩ (.int .i64 2)) from by
     obtain ⟨p1, p2⟩ := h2.phase
     rw [<- hK] at he
     have he : frR s.xs (cuN m') = [] := he
     have hr := HR.out
     rw [cp_nil he, if_pos (by rw [HCH.out]; omega)] at hr
     rw [<- hr]
     have hac := HAC.out
     rw [hA'] at hac
     exact (hac.yOnly HB2.out p2 p1 (fun k hk => .inl hk)).fin)
    clear h2 he
    go_wp2
    go_ret
    exact fin.out
   ·have he' : frR s.xs (cuN m') = x :: zs := by rw [hK]; exact he
    obtain ⟨hxin, hI2, hrun⟩ := cp_cons HS.out HI.out (n := n) (by rw [HCH.out]; omega) he'
    have h2 := HH.out.later HB2.out
    have hu := hide (use_r w2 y (s.at m') _ ⟨c0, _, _, _, rl, cl, h2, rfl⟩ HG.out)
    have dk : decide ((k : Int) < 0) = false := decide_eq_false (by omega)
    have k0 : (0 : Int) <= (k : Int) := by omega
    have k1 : (k : Int) < (rl.length : Int) := by omega
    have HX := hide hx
    have HI2 := hide hI2
    have HRUN := hide hrun
    have hxp := (HS.out.ok x hxin).1
    have hrk := hide (fun W => rank_r x.a x.l hxp W)
    clear h2 he he' hI2 hrun hx hxin
    go_wp2_with fail
    refine hu.out.mono ?_
    rintro _ w3 ⟨rfl, hb3⟩
    have hb3w : Below wr.heap.size wr w3 := HB2.out.trans (hb3.mono HB2.out.size)
    have h3 := HH.out.later hb3w
    have H3 := hide h3
    have q5 := h3.q5
    have q8 := h3.q8
    have qf := h3.fz
    have y3 := h3.lt
    obtain ⟨g1, eg, s0, s1, s2, s3⟩ := rowG_rte h3.rr HX.out
    cases eg
    have hla := hide (laid_r w3.drew (.slice ca cl.length cc) cl x (h3.cr.kept fun _ _ => rfl) (by have := HCL.out; omega))
    have HB3 := hide hb3w
    have hg1y : g1 ≠ y := fun e => h3.y1 (by rw [e]; rfl)
    obtain ⟨U, hU⟩ : ∃ U, (s.at m').use = U := ⟨_, rfl⟩
    rw [hU]
    obtain ⟨xa, xl, xn⟩ := x
    simp only at s1 s2 s3 hla hrk
    clear hu hb3 hb3w h3 e5 e9 e2
    go_wp2
    go_cut [4] from 7 to 80 (fun t4 w' => t4 = .int .i64 (k : Int) /\ ∃ va vn vcp, Hid (∃ W, w' = W.setCell ⟨y, 8, none⟩ (.slice va vn vcp) /\ RowU W (.slice va vn vcp) (laidU cl ⟨xa, xl, xn⟩) /\ Below w3.heap.size w3 W /\ ∀ g, (Value.slice va vn vcp).ownBlock = some g -> w3.heap.size <= g))
    case first =>
     go_region_with (first
      | (go_at_call 107; refine hla.out.mono ?_; rintro _ w4 ⟨v4, rfl, hr4, hb4, hf4⟩; (obtain ⟨va, vcp, rfl⟩ := hr4.shape); (have f4 : w4.frozen? ⟨y, 8, none⟩ = false := (hb4.frozen (p := ⟨y, 8, none⟩) y3).trans (qf 8)); (have q4 : w4.cell? ⟨y, 8, none⟩ = some (.slice ca cl.length cc) := (hb4.cell (p := ⟨y, 8, none⟩) y3).trans q8); (have z4 : y < w4.heap.size := Nat.lt_of_lt_of_le y3 hb4.size)))
     all_goals
      have fin := hide (And.intro hr4 (And.intro ((Below.refl _ w3).drew.trans hb4) hf4))
      clear hr4 hb4 hf4
      go_wp2_with fail
      go_meet
      exact ⟨rfl, _, _, _, hide ⟨_, rfl, fin.out⟩⟩
    case rest =>
     obtain ⟨rfl, va, vn, vcp, HW⟩ := hcut
     clear s0 s1 s2 s3 q5 q8 qf hla
     obtain ⟨W, hwc, hrow, hbw3, hfr⟩ := HW.out
     have hbW : Below wr.heap.size wr W := HB3.out.trans (hbw3.mono HB3.out.size)
     have hzw := HB3.out.size
     have h4 := HH.out.later hbW
     have hcp0 := HI.out.ok.cp0
     have hcp1 := HI.out.ok.cp
     have h5 : RefT wc y (s.at { m' with ys := putE m'.ys xa xl xn }) c0 (.slice (some ⟨g1, 0, none⟩) rl.length rc) (.slice va vn vcp) vl rl (laidU cl ⟨xa, xl, xn⟩) := by
      rw [hwc]
      exact h4.recopy hrow (h4.cep.laid HI.out.ok.sorted ⟨xa, xl, xn⟩) fun g hg => .inr fun hm => by
       have q1 := HH.out.ltA g hm
       have q2 := hfr g hg
       omega
     have HA5 := hide (show RAcc w A wc y (s.at { m' with ys := putE m'.ys xa xl xn }) (refA y (.slice (some ⟨g1, 0, none⟩) rl.length rc) (.slice va vn vcp) vl) from by
      have hac := HAC.out
      rw [hA'] at hac
      refine hac.yOnly hbW ?_ h5 (refA_copy fun g hg => by have := hfr g hg; omega)
      rw [hwc]
      exact onlyY _ _ _ _)
     have H5 := hide h5
     have q5 := h5.q5
     have q9 := h5.q9
     have q10 : wc.cell? ⟨y, 10, none⟩ = some (.int .i64 m'.cp) := h5.q10
     have qf := h5.fz
     have y4 := h5.lt
     obtain ⟨g2, eg, s0, s1, s2, s3⟩ := rowG_rte h5.rr HX.out
     cases eg
     simp only at s1 s2 s3
     have hwp : IntKind.i64.wrap (m'.cp + 1) = m'.cp + 1 := by rw [IntKind.wrap_i64]; omega
     have hG2 := hide ((HS.out.at HI2.out.ok HI2.out.lg).good)
     have t5 : (wc.setCell ⟨y, 9, none⟩ (.int .i64 (9 * xa + xl))).drew.cell? ⟨y, 5, none⟩ = some (.slice (some ⟨g1, 0, none⟩) rl.length rc) := by
      have a9 : (wc.setCell ⟨y, 9, none⟩ (.int .i64 (9 * xa + xl))).drew.heap[y]? = _ := (setT h5.blk 9 (.int .i64 (9 * xa + xl))).1
      rw [set9] at a9
      simp only [World.cell?, a9]
      rfl
     have t6 : ∀ o, (wc.setCell ⟨y, 9, none⟩ (.int .i64 (9 * xa + xl))).drew.cell? ⟨g1, o, none⟩ = wc.cell? ⟨g1, o, none⟩ := fun o => World.cell?_of_block (a := ⟨g1, o, none⟩) (Below.heap_setCell wc ⟨y, 9, none⟩ _ g1 hg1y)
     have t7 := (t6 (k * 3)).trans s1
     have t8 := (t6 (k * 3 + 1)).trans s2
     clear h4 hbW h5 hwc hrow hbw3 hfr HW t6
     generalize cuM (s.at { m' with ys := putE m'.ys xa xl xn }).mv = cu2 at q9
     go_wp2
     go_region_held3 (fun w' => w'.cell? ⟨y, 5, none⟩ = some (.slice (some ⟨g1, 0, none⟩) rl.length rc) /\ w'.cell? ⟨g1, k * 3, none⟩ = some (.int .i64 xa) /\ w'.cell? ⟨g1, k * 3 + 1, none⟩ = some (.int .i64 xl)) (first | go_keep | exact ⟨t5, t7, t8⟩)
      (first | (go_at_call 119; refine (hrk.out _).mono ?_; rintro _ _ ⟨rfl, rfl⟩))
     have h6 := (H5.out.later (w' := wc.drew) (Below.refl _ wc).drew).cursor xa xl hcp0
     have HA6 := hide ((HA5.out.later (W := wc.drew) (Below.refl _ wc).drew).yOnly (Below.refl _ _) h6.2 h6.1 (fun k hk => .inl hk))
     obtain ⟨W6, hW6⟩ : ∃ W6, (wc.drew.setCell ⟨y, 9, none⟩ (.int .i64 (9 * xa + xl))).setCell ⟨y, 10, none⟩ (.int .i64 (m'.cp + 1)) = W6 := ⟨_, rfl⟩
     have e6 : ((wc.setCell ⟨y, 9, none⟩ (.int .i64 (9 * xa + xl))).drew).setCell ⟨y, 10, none⟩ (.int .i64 (m'.cp + 1)) = W6 := hW6
     have e7 : ((wc.setCell ⟨y, 9, none⟩ (.int .i64 (9 * xa + xl))).setCell ⟨y, 10, none⟩ (.int .i64 (m'.cp + 1))).drew = W6 := hW6
     have hov := hide (over_r W6 y (s.at (m'.lay ⟨xa, xl, xn⟩)) _ U (by have := HA6.out.rt; rw [hW6] at this; exact this) hG2.out)
     clear h6
     rw [hW6] at HA6
     go_wp2_with fail
     refine hov.out.mono ?_
     rintro _ w7 ⟨rfl, hb7⟩
     have HA7 := hide (HA6.out.later hb7)
     obtain ⟨A7, hA7⟩ : ∃ A7, refA y (.slice (some ⟨g1, 0, none⟩) rl.length rc) (.slice va vn vcp) vl = A7 := ⟨_, rfl⟩
     have hst : s.at { { m' with ys := putE m'.ys xa xl xn } with cp := m'.cp + 1, ca := xa, cl := xl } = s.at (m'.lay ⟨xa, xl, xn⟩) := rfl
     rw [hA7] at HA7
     have HA8 : Hid (RAcc w A w7 y (s.at (m'.lay ⟨xa, xl, xn⟩)) A7) := HA7
     have hovd : (s.at m').over (s.at (m'.lay ⟨xa, xl, xn⟩)) ↔ (s.b < (s.at (m'.lay ⟨xa, xl, xn⟩)).use /\ U < (s.at (m'.lay ⟨xa, xl, xn⟩)).use) := by
      unfold TS.over
      rw [hU]
      exact Iff.rfl
     have hsb : (s.at (m'.lay ⟨xa, xl, xn⟩)).b = s.b := rfl
     rw [hsb]
     have hr0 := HRUN.out.symm.trans HR.out
     generalize (s.at (m'.lay ⟨xa, xl, xn⟩)).use = U2 at *
     clear hb7 hov HA6 HA7 hW6 e6 e7 hst hsb HRUN H5 HA5 HH HX H3 q5 q9 q10 qf s0 s1 s2 s3 t5 t7 t8
     by_cases hc : s.b < U2 /\ U < U2
     ·rw [if_pos (hovd.2 hc)] at hr0
      clear hovd
      have hd : (decide (s.b < U2) && decide (U < U2)) = true := by simp [hc]
      rw [hd]
      have hbk := hide (back_r w7 y _ A7 HA8.out.rt)
      have HR9 := hide hr0
      clear hd hr0 hc
      go_wp2_with fail
      refine hbk.out.mono ?_
      rintro _ w8 hp8
      obtain ⟨_, rfl, -⟩ := id hp8
      have fin := hide (show RTurn w y A (.int .i64 R.1) R.2 (.returned (.int .i64 4)) w8 from by
       obtain ⟨_, A9, h9⟩ := HA8.out.turn hp8
       rw [<- HR9.out]
       exact h9.fin)
      clear hp8 hbk
      go_wp2
      go_ret
      exact fin.out
     ·rw [if_neg fun h => hc (hovd.1 h)] at hr0
      clear hovd
      have hd : (decide (s.b < U2) && decide (U < U2)) = false := by
       rw [Bool.and_eq_false_iff, decide_eq_false_iff_not, decide_eq_false_iff_not]
       omega
      rw [hd]
      have HR9 := hide hr0
      clear hd hr0 hc
      go_wp2
      exact ⟨⟨n + 1, m'.lay ⟨xa, xl, xn⟩, A7, by omega, by simp, HA8, HI2, HR9⟩, by simp [intOf]; omega⟩
  ·have hl1 : decide ((n : Int) < (ch : Int)) = false := decide_eq_false (by omega)
   have fin := hide (show RTurn w y A (.int .i64 R.1) R.2 (.returned (.int .i64 1)) wr from by
    have hr := HR.out
    rw [cp_full HS.out HI.out (by rw [HCH.out]; omega)] at hr
    rw [<- hr]
    exact HAC.out.fin)
   clear h
   go_wp2
   go_ret
   exact fin.out
end Go.Proofs.YtglbamalagacgaaGreat

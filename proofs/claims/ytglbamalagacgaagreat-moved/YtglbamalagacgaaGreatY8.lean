import Derived.Test.YtglbamalagacgaaGreatY7
namespace Go.Proofs.YtglbamalagacgaaGreat
open Go.RowKit Go.Shelf
attribute [local go_sem] Oper.semAt_some
set_option maxRecDepth 8000 in
set_option maxHeartbeats 4000000 in
theorem apply_r (w : World) (y : Nat) (s : TS) (A : List Nat) (v : Value) (cs : List Chg) (hT : RT w y s A) (hs : s.Ok) (hv : ChgsAt w v cs) (hva : Apart v A) :
  Calls Tryz.prog 132 #[ptrV y, v] w (RTurn w y A (.tuple #[.int .i64 (s.apply cs).1, .int .i64 (s.apply cs).2.1]) (s.apply cs).2.2) := by
 have hg := hs.good
 have HT := hide hT
 have Hv := hide hv
 obtain ⟨sa, sc, hve, hml, hcs⟩ := hv
 subst hve
 unfold maxLen at hml
 have stay := hide (show ∀ n e, s.apply cs = (n, e, s) -> ∀ W, Below w.heap.size w W -> RTurn w y A (.tuple #[.int .i64 (s.apply cs).1, .int .i64 (s.apply cs).2.1]) (s.apply cs).2.2 (.returned (.tuple #[.int .i64 n, .int .i64 e])) W from fun n e he W hW => by rw [he]; exact ⟨_, rfl, HT.out.later hW, NewF.refl _ _, Only.of_below _ hW⟩)
 by_cases h16 : 16 < cs.length
 ·have fin := hide (stay.out 0 12 (by unfold TS.apply; rw [if_pos h16]))
  have d16 : (16 : Int) < (cs.length : Int) := by omega
  clear hT hcs stay
  go_enter Tryz.func132, Tryz.ntmps132
  go_wp2
  go_ret2
  exact fin.out w (Below.refl _ _)
 have d16 : decide ((16 : Int) < (cs.length : Int)) = false := decide_eq_false (by omega)
 obtain ⟨c0, vr, vc, vl, rl, cl, h, rfl⟩ := hT
 have yl := h.lt
 have e5 := h.q5
 have HH := hide h
 obtain ⟨ra, rc, hrv⟩ := h.rr.shape
 have HS := hide hs
 have HCS := hide hcs
 have hvr0 := hide (show RowU w vr rl /\ Rep rl s.xs /\ Sorted s.xs /\ (∀ x ∈ s.xs, okE x) from ⟨h.rr, h.rep, hs.sorted, hs.ok⟩)
 clear h hcs hg
 go_enter Tryz.func132, Tryz.ntmps132
 rw [hrv] at e5
 go_wp2
 go_loopw [6, 7] (fun s6 s7 wr => ∃ (i : Nat) (ls ys : List Ent) (ua : Option Addr) (uc : Nat), i <= cs.length /\ s6 = .slice ua ls.length uc /\ s7 = .int .i64 (i : Int) /\ Hid (RowU wr (.slice ua ls.length uc) ls /\ Rep ls ys /\ Sorted ys /\ (∀ x ∈ ys, okE x)) /\ Hid (tryX cs s.xs 0 = tryX (cs.drop i) ys i) /\ Hid (∀ g, (Value.slice ua ls.length uc).ownBlock = some g -> vr.ownBlock = some g ∨ w.heap.size <= g) /\ Hid (Below w.heap.size w wr)) (fun _ s7 _ => cs.length - (intOf s7).toNat)
 case atStart => exact ⟨0, rl, s.xs, ra, rc, by omega, rfl, rfl, (by rw [<- hrv]; exact hvr0), hide rfl, hide (fun g hg => .inl (by rw [hrv]; exact hg)), hide (Below.refl _ _)⟩
 case round =>
  obtain ⟨i, ls, ys, ua, uc, hi, rfl, rfl, HR, HX, HO, HB⟩ := hrel
  have hlz : ls.length <= 2304 := by rw [HR.out.2.1.len HR.out.2.2.1]; exact ok_len HR.out.2.2.1 HR.out.2.2.2
  by_cases hlt : i < cs.length
  ·obtain ⟨x, hx⟩ : ∃ x, cs[i]? = some x := ⟨_, List.getElem?_eq_getElem hlt⟩
   obtain ⟨Ad, hA0, hA, a0, a1, a2⟩ := HCS.out i x hx
   have hxx := tryX_at hx ys HX.out
   cases hA0
   obtain ⟨xa, xl, xn⟩ := x
   simp only at a0 a1 a2 hxx
   have j0 : (0 : Int) <= (i : Int) := by omega
   have j1 : (i : Int) < (cs.length : Int) := by omega
   have hwi : IntKind.i64.wrap ((i : Int) + 1) = (i : Int) + 1 := by rw [IntKind.wrap_i64]; omega
   have hk : ∀ j, (⟨(Ad.add (i * 3)).block, (Ad.add (i * 3)).off + j, none⟩ : Addr).block < w.heap.size := fun j => by simpa [addB] using hA
   replace a0 := (HB.out.cell (p := Ad.add (i * 3)) (by simpa [addB] using hA)).trans a0
   replace a1 := (HB.out.cell (p := ⟨(Ad.add (i * 3)).block, (Ad.add (i * 3)).off + 1, none⟩) (hk 1)).trans a1
   replace a2 := (HB.out.cell (p := ⟨(Ad.add (i * 3)).block, (Ad.add (i * 3)).off + 2, none⟩) (hk 2)).trans a2
   have hpr := hide (fun W => proper_r xa xl W)
   have HBA := hide (show Below w.heap.size w (wr.alloc (.cells #[.int .i64 xa, .int .i64 xl, .int .i64 xn] 103)) from HB.out.alloc HB.out.size _)
   have hBA : Below wr.heap.size wr (wr.alloc (.cells #[.int .i64 xa, .int .i64 xl, .int .i64 xn] 103)) := (Below.refl _ wr).alloc (Nat.le_refl _) _
   have hRA : RowU (wr.alloc (.cells #[.int .i64 xa, .int .i64 xl, .int .i64 xn] 103)) (.slice ua ls.length uc) ls := HR.out.1.kept fun g hg => hBA.block g (HR.out.1.lt g hg)
   have bad := hide (show ∀ e, chgE ys xa xl xn = e -> e ≠ 0 -> ∀ W, Below w.heap.size w W -> RTurn w y (refA y vr vc vl) (.tuple #[.int .i64 (s.apply cs).1, .int .i64 (s.apply cs).2.1]) (s.apply cs).2.2 (.returned (.tuple #[.int .i64 (i : Int), .int .i64 e])) W from fun e he hne W hW => by
    rw [he, if_neg hne] at hxx
    exact stay.out (i : Int) e (by unfold TS.apply; rw [if_neg h16, hxx, if_pos hne]) W hW)
   have good := hide (show chgE ys xa xl xn = 0 -> tryX cs s.xs 0 = tryX (cs.drop (i + 1)) (setE ys xa xl xn) (i + 1) from fun he => by rw [he, if_pos rfl] at hxx; exact hxx)
   have HBA2 := hide hBA
   clear hx hxx hk hBA
   by_cases hp : isPfx xa xl = false
   ·have fin := hide (bad.out 2 (by unfold chgE; rw [if_pos hp]) (by decide))
    rw [hp] at hpr
    clear bad good hRA
    go_wp2_with fail
    refine (hpr.out _).mono ?_
    rintro _ _ ⟨rfl, rfl⟩
    go_wp2
    go_ret2
    exact fin.out _ HBA.out
   have hp' : isPfx xa xl = true := by simpa using hp
   rw [hp'] at hpr
   by_cases hn : xn < 0 ∨ 255 < xn
   ·have fin := hide (bad.out 3 (by unfold chgE; rw [if_neg hp, if_pos hn]) (by decide))
    have hcs2 : xn < 0 ∨ (¬ xn < 0 /\ 255 < xn) := by omega
    clear bad good hRA hn hp
    rcases hcs2 with c1 | ⟨c1, c2⟩
    case' inl => have d1 : decide (xn < 0) = true := decide_eq_true c1
    case' inr => have d1 : decide (xn < 0) = false := decide_eq_false c1
    case' inr => have d2 : decide (255 < xn) = true := decide_eq_true c2
    all_goals
     go_wp2_with fail
     refine (hpr.out _).mono ?_
     rintro _ _ ⟨rfl, rfl⟩
     go_wp2
     go_ret2
     exact fin.out _ HBA.out
   have d1 : decide (xn < 0) = false := decide_eq_false (by omega)
   have d2 : decide (255 < xn) = false := decide_eq_false (by omega)
   have step := hide (show chgE ys xa xl xn = 0 -> ∀ (ls' : List Ent) (W : World) (va : Option Addr) (vcc : Nat), RowU W (.slice va ls'.length vcc) ls' -> Rep ls' (setE ys xa xl xn) -> (∀ g, (Value.slice va ls'.length vcc).ownBlock = some g -> w.heap.size <= g) -> Below w.heap.size w W -> ∃ (i' : Nat) (ls ys : List Ent) (ua : Option Addr) (uc : Nat), i' <= cs.length /\ Value.slice va ls'.length vcc = .slice ua ls.length uc /\ Value.int .i64 ((i : Int) + 1) = .int .i64 (i' : Int) /\ Hid (RowU W (.slice ua ls.length uc) ls /\ Rep ls ys /\ Sorted ys /\ (∀ x ∈ ys, okE x)) /\ Hid (tryX cs s.xs 0 = tryX (cs.drop i') ys i') /\ Hid (∀ g, (Value.slice ua ls.length uc).ownBlock = some g -> vr.ownBlock = some g ∨ w.heap.size <= g) /\ Hid (Below w.heap.size w W) from fun he ls' W va vcc h1 h2 h3 h4 =>
    ⟨i + 1, ls', setE ys xa xl xn, va, vcc, by omega, rfl, by simp, hide ⟨h1, h2, setE_sorted HR.out.2.2.1, setE_ok HR.out.2.2.2 hp' (by omega)⟩, hide (good.out he), hide (fun g hg => .inr (h3 g hg)), h4⟩)
   by_cases h0 : xn = 0
   ·subst h0
    have hfi := HR.out.2.1.find HR.out.2.2.1 xa xl
    have hfd := hide (find_r _ _ ls xa xl hRA (by omega))
    have hgn := hide (fun W (hW : Below (wr.alloc (.cells #[.int .i64 xa, .int .i64 xl, .int .i64 0] 103)).heap.size (wr.alloc (.cells #[.int .i64 xa, .int .i64 xl, .int .i64 0] 103)) W) => gone_r W (.slice ua ls.length uc) ls xa xl (hRA.kept fun g hg => hW.block g (hRA.lt g hg)) (by omega))
    rcases hfi with ⟨f1, f2⟩ | ⟨k, n, f1, f2, f3⟩
    ·have fin := hide (bad.out 5 (by unfold chgE; rw [if_neg hp, if_neg (by omega), if_pos ⟨rfl, f2⟩]) (by decide))
     rw [f1, show iU none = -1 from rfl] at hfd
     clear bad good step hRA hp f1 f2 hgn hn
     go_wp2_with fail
     refine (hpr.out _).mono ?_
     rintro _ _ ⟨rfl, rfl⟩
     go_wp2_with fail
     refine hfd.out.mono ?_
     rintro _ w3 ⟨rfl, hb3⟩
     have fin2 := hide (fin.out w3 (HBA.out.trans (hb3.mono HBA.out.size)))
     clear hb3 hfd fin
     go_wp2
     go_ret2
     exact fin2.out
    ·have hch : chgE ys xa xl 0 = 0 := by unfold chgE; rw [if_neg hp, if_neg (by omega), if_neg (by rw [f3]; simp)]
     have st := hide (step.out hch)
     have hdel : setE ys xa xl 0 = delE ys xa xl := by rw [setE, if_pos rfl]
     have HG := hide (show Rep (goneU ls xa xl) (setE ys xa xl 0) by rw [hdel]; exact HR.out.2.1.gone HR.out.2.2.1 xa xl)
     rw [f1, show iU (some k) = (k : Int) from rfl] at hfd
     have dk : decide ((k : Int) < 0) = false := decide_eq_false (by omega)
     clear bad good step hRA hp f1 f2 f3 hch hdel hn
     go_wp2_with fail
     refine (hpr.out _).mono ?_
     rintro _ _ ⟨rfl, rfl⟩
     go_wp2_with fail
     refine hfd.out.mono ?_
     rintro _ w3 ⟨rfl, hb3⟩
     have hg2 := hide (hgn.out w3 hb3)
     have c0' : w3.cell? ⟨wr.heap.size, 0, none⟩ = some (.int .i64 xa) := (hb3.cell (p := ⟨wr.heap.size, 0, none⟩) (by simp)).trans (by simp)
     have c1' : w3.cell? ⟨wr.heap.size, 1, none⟩ = some (.int .i64 xl) := (hb3.cell (p := ⟨wr.heap.size, 1, none⟩) (by simp)).trans (by simp)
     have z3 : wr.heap.size < w3.heap.size := by have := hb3.size; simp at this; omega
     have HB3 := hide (HBA.out.trans (hb3.mono HBA.out.size))
     clear hb3 hfd hgn
     go_wp2_with fail
     refine hg2.out.mono ?_
     rintro _ w4 ⟨u, rfl, hu, hb4, hf⟩
     obtain ⟨va, vcc, rfl⟩ := hu.shape
     have nx := hide (st.out (goneU ls xa xl) w4 va vcc hu HG.out (fun g hg => by have := hf g hg; have := HB3.out.size; omega) (HB3.out.trans (hb4.mono HB3.out.size)))
     clear hu hb4 hf hg2 st
     go_wp2
     exact ⟨nx.out, by simp [intOf]; omega⟩
   ·have dn : (xn == 0) = false := by simpa using h0
    have hch : chgE ys xa xl xn = 0 := by unfold chgE; rw [if_neg hp, if_neg hn, if_neg (by omega)]
    have st := hide (step.out hch)
    have hput : setE ys xa xl xn = putE ys xa xl xn := by rw [setE, if_neg h0]
    have HG := hide (show Rep (laidU ls ⟨xa, xl, xn⟩) (setE ys xa xl xn) by rw [hput]; exact HR.out.2.1.laid HR.out.2.2.1 ⟨xa, xl, xn⟩)
    have hla := hide (laid_r _ _ ls ⟨xa, xl, xn⟩ hRA (by omega))
    clear bad good step hRA hp hch hput hn h0
    go_wp2_with fail
    refine (hpr.out _).mono ?_
    rintro _ _ ⟨rfl, rfl⟩
    go_wp2_with fail
    refine hla.out.mono ?_
    rintro _ w4 ⟨u, rfl, hu, hb4, hf⟩
    obtain ⟨va, vcc, rfl⟩ := hu.shape
    have nx := hide (st.out (laidU ls ⟨xa, xl, xn⟩) w4 va vcc hu HG.out (fun g hg => by have := hf g hg; have := HBA.out.size; omega) (HBA.out.trans (hb4.mono HBA.out.size)))
    clear hu hb4 hf hla st
    go_wp2
    exact ⟨nx.out, by simp [intOf]; omega⟩
  ·obtain rfl : i = cs.length := by omega
   have hx0 : tryX cs s.xs 0 = (ys, cs.length, 0) := by rw [HX.out, List.drop_length]; rfl
   obtain ⟨K', hK'⟩ : ∃ K', needK s.k ys = K' := ⟨_, rfl⟩
   obtain ⟨K, hK⟩ : ∃ K, needK s.k s.xs = K := ⟨_, rfl⟩
   have hrl : rl.length <= 2304 := HH.out.rlen HS.out.good
   have hc1 := hide (cells_r wr s.k (.slice ua ls.length uc) ls ys HS.out.k1 HS.out.k3 HR.out.1 (by omega) HR.out.2.1 HR.out.2.2.1 HR.out.2.2.2)
   rw [hK'] at hc1
   have HLL := hide (show ∀ W, Below w.heap.size w W -> W.cell? ⟨y, 1, none⟩ = some (.int .i64 s.b) /\ W.cell? ⟨y, 4, none⟩ = some (.int .i64 s.k) /\ W.cell? ⟨y, 5, none⟩ = some (.slice ra rl.length rc) /\ W.cell? ⟨y, 6, none⟩ = some (.int .i64 (knM s.mv)) /\ (∀ o, W.frozen? ⟨y, o, none⟩ = false) /\ y < W.heap.size /\ Calls Tryz.prog 104 #[ptrV y] W (fun r w' => r = .returned (.int .i64 s.use) /\ Below W.heap.size W w') from fun W hW => by
    have hW' := HH.out.later hW
    exact ⟨hW'.q1, hW'.q4, by rw [<- hrv]; exact hW'.q5, hW'.q6, hW'.fz, hW'.lt, use_r W y s _ (HT.out.later hW) HS.out.good⟩)
   have HC2 := hide (show ∀ W, Below w.heap.size w W -> Calls Tryz.prog 102 #[.int .i64 s.k, .slice ra rl.length rc] W.drew (fun r w' => r = .returned (.int .i64 K) /\ Below W.drew.heap.size W.drew w') from fun W hW => by
    have hW' := HH.out.later hW
    have := cells_r W.drew s.k vr rl s.xs HS.out.k1 HS.out.k3 (hW'.rr.kept fun _ _ => rfl) (by omega) hW'.rep HS.out.sorted HS.out.ok
    rw [hK, hrv] at this
    exact this)
   have HNEW := hide (show ∀ W, Below w.heap.size w W -> Below wr.heap.size wr W -> RTurn w y (refA y vr vc vl) (.tuple #[.int .i64 (cs.length : Int), .int .i64 0]) (s.lays ys) (.returned (.tuple #[.int .i64 (cs.length : Int), .int .i64 0])) (W.setCell ⟨y, 5, none⟩ (.slice ua ls.length uc)) /\ RefT (W.setCell ⟨y, 5, none⟩ (.slice ua ls.length uc)) y (s.lays ys) c0 (.slice ua ls.length uc) vc vl ls cl from fun W hW hW2 => by
    have hW' := HH.out.later hW
    have hl := HH.out.ltA
    have href := hW'.lays (HR.out.1.kept fun g hg => hW2.block g (HR.out.1.lt g hg)) HR.out.2.1 (fun g hg => (HO.out g hg).imp id fun h1 hm => by have := hl g hm; omega)
    refine ⟨⟨_, rfl, ⟨c0, _, vc, vl, ls, cl, href, rfl⟩, fun k hk => ?_, ((Only.of_below _ hW).trans (onlyY W y 5 _) fun x hx => .inl (by simp at hx; exact refA_mem.2 (.inl hx))).mono fun x hx _ => hx⟩, href⟩
    rcases refA_mem.1 hk with h1 | h1 | h1 | h1
    ·exact .inl (refA_mem.2 (.inl h1))
    ·exact (HO.out k h1).imp (fun h2 => refA_mem.2 (.inr (.inl h2))) id
    ·exact .inl (refA_mem.2 (.inr (.inr (.inl h1))))
    ·exact .inl (refA_mem.2 (.inr (.inr (.inr h1)))))
   have z2' := hide (HLL.out wr HB.out)
   have q4 := z2'.out.2.1
   have zy := z2'.out.2.2.2.2.2.1
   go_wp2_with fail
   refine hc1.out.mono ?_
   rintro _ w2 ⟨rfl, hb2⟩
   have hbw2 := HB.out.trans (hb2.mono HB.out.size)
   have HB2 := hide hbw2
   have HWR := hide hb2
   have hc2 := hide (HC2.out w2 hbw2)
   obtain ⟨p1, p4, p5, p6, pf, z2, -⟩ := HLL.out w2 hbw2
   clear hb2 hbw2 hc1 HC2 z2' q4 zy p6 pf
   by_cases hA : s.b < K' /\ K < K'
   ·have fin := hide (stay.out (cs.length : Int) 6 (by unfold TS.apply; rw [if_neg h16, hx0, if_neg (by simp), hK', hK, if_pos ⟨hA.1, hA.2⟩]))
    obtain ⟨c1, c2⟩ := hA
    have d1 : decide (s.b < K') = true := decide_eq_true c1
    have d2 : decide (K < K') = true := decide_eq_true c2
    go_wp2
    go_region_held3 (fun w' => w'.cell? ⟨y, 1, none⟩ = some (.int .i64 s.b) /\ w'.cell? ⟨y, 4, none⟩ = some (.int .i64 s.k) /\ w'.cell? ⟨y, 5, none⟩ = some (.slice ra rl.length rc)) (go_keep)
     (first | (go_at_call 102; refine hc2.out.mono ?_; rintro _ w3 ⟨rfl, hb3⟩; (have u1 : ∀ o, w3.cell? ⟨y, o, none⟩ = w2.cell? ⟨y, o, none⟩ := fun o => hb3.cell (p := ⟨y, o, none⟩) z2)))
    have HB3 := hide (HB2.out.trans (((Below.refl _ w2).drew.trans hb3).mono HB2.out.size))
    have HWR3 := hide (HWR.out.trans (((Below.refl _ w2).drew.trans hb3).mono HWR.out.size))
    clear hb3 u1 hc2 p1 p4 p5
    go_wp2
    go_ret2
    exact fin.out w3 HB3.out
   have HAP := hide (show s.apply cs = (((cs.length : Nat) : Int), (0 : Int), (s.lays ys).follow cs s.use) by unfold TS.apply; rw [if_neg h16, hx0, if_neg (by simp), hK', hK, if_neg hA])
   by_cases c1 : s.b < K'
   ·have d1 : decide (s.b < K') = true := decide_eq_true c1
    have d2 : decide (K < K') = false := decide_eq_false (by omega)
    clear hA
    go_wp2
    go_region_held3 (fun w' => w'.cell? ⟨y, 1, none⟩ = some (.int .i64 s.b) /\ w'.cell? ⟨y, 4, none⟩ = some (.int .i64 s.k) /\ w'.cell? ⟨y, 5, none⟩ = some (.slice ra rl.length rc)) (go_keep)
     (first | (go_at_call 102; refine hc2.out.mono ?_; rintro _ w3 ⟨rfl, hb3⟩; (have u1 : ∀ o, w3.cell? ⟨y, o, none⟩ = w2.cell? ⟨y, o, none⟩ := fun o => hb3.cell (p := ⟨y, o, none⟩) z2)))
    have HB3 := hide (HB2.out.trans (((Below.refl _ w2).drew.trans hb3).mono HB2.out.size))
    have HWR3 := hide (HWR.out.trans (((Below.refl _ w2).drew.trans hb3).mono HWR.out.size))
    clear hb3 u1 hc2 p1 p4 p5
    obtain ⟨n1, n2, n3, n4, n5, n6, n7⟩ := HLL.out w3 HB3.out
    have huse := hide n7
    have hl3 : y < w3.heap.size := n6
    clear n7
    go_wp2_with fail
    refine huse.out.mono ?_
    rintro _ w4 ⟨rfl, hb4⟩
    have hbw4 := HB3.out.trans (hb4.mono HB3.out.size)
    have HB4 := hide hbw4
    have HN := hide (HNEW.out w4 hbw4 (HWR3.out.trans (hb4.mono HWR3.out.size)))
    clear n1 n2 n3 n4 n5 n6
    obtain ⟨n1, n2, n3, n4, n5, n6, n7⟩ := HLL.out w4 hbw4
    have q5' : w4.cell? ⟨y, 5, none⟩ = some (.slice ra rl.length rc) := n3
    have qf : ∀ o, w4.frozen? ⟨y, o, none⟩ = false := n5
    have q6' := n4
    clear hb4 hbw4 huse n1 n2 n3 n4 n5 n7 HB3
    rcases (show s.mv = none ∨ ∃ m, s.mv = some m by cases s.mv with | none => exact .inl rfl | some m => exact .inr ⟨m, rfl⟩) with hmv | ⟨m, hmv⟩
    ·rw [hmv, show knM none = 0 from rfl] at q6'
     have fin := hide (show RTurn w y (refA y vr vc vl) (.tuple #[.int .i64 (s.apply cs).1, .int .i64 (s.apply cs).2.1]) (s.apply cs).2.2 (.returned (.tuple #[.int .i64 (cs.length : Int), .int .i64 0])) (w4.setCell ⟨y, 5, none⟩ (.slice ua ls.length uc)) from by
      rw [HAP.out, show (s.lays ys).follow cs s.use = s.lays ys by unfold TS.follow; rw [show (s.lays ys).mv = s.mv from rfl, hmv]]
      exact HN.out.1)
     clear HN hmv
     go_wp2
     go_ret2
     exact fin.out
    ·have hs2 : (s.lays ys).at m = s.lays ys := TS.at_same hmv
     rw [hmv, show knM (some m) = m.k from rfl] at q6'
     obtain ⟨g1, g2⟩ := HS.out.mv m hmv
     have dk : (m.k == 0) = false := by have := g1.k1; simp; omega
     have l16 := HS.out.l16
     have HAC := hide (show RAcc w (refA y vr vc vl) (w4.setCell ⟨y, 5, none⟩ (.slice ua ls.length uc)) y ((s.lays ys).at (m.notes (cs.take 0))) (refA y (.slice ua ls.length uc) vc vl) from by
      rw [show m.notes (cs.take 0) = m from rfl, hs2]
      obtain ⟨A', p1, p2, p3, p4⟩ := HN.out.1
      exact ⟨⟨c0, _, vc, vl, ls, cl, HN.out.2, rfl⟩, fun k hk => by
       rcases refA_mem.1 hk with h1 | h1 | h1 | h1
       ·exact .inl (refA_mem.2 (.inl h1))
       ·exact (HO.out k h1).imp (fun h2 => refA_mem.2 (.inr (.inl h2))) id
       ·exact .inl (refA_mem.2 (.inr (.inr (.inl h1))))
       ·exact .inl (refA_mem.2 (.inr (.inr (.inr h1)))), p4⟩)
     have HG := hide (follow_good HS.out hmv HR.out.2.2.1 HR.out.2.2.2 (show cs.length <= 16 by omega))
     have HPX := hide (tryX_pfx cs s.xs 0 (by rw [hx0]))
     have HFO := hide (show (s.lays ys).follow cs s.use = if s.lim < (((m.notes cs).lg.length : Nat) : Int) ∨ (s.b < ((s.lays ys).at (m.notes cs)).use /\ s.use < ((s.lays ys).at (m.notes cs)).use) then (s.lays ys).back else (s.lays ys).at (m.notes cs) by unfold TS.follow; rw [show (s.lays ys).mv = s.mv from rfl, hmv]; rfl)
     have HM := hide (And.intro g1 g2)
     clear HN hs2 hmv g1 g2 HX HO HR hx0 hlz
     go_wp2
     go_loopw [13] (fun s13 wr => ∃ (j : Nat) (A' : List Nat), j <= cs.length /\ s13 = .int .i64 (j : Int) /\ Hid (RAcc w (refA y vr vc vl) wr y ((s.lays ys).at (m.notes (cs.take j))) A')) (fun s13 _ => cs.length - (intOf s13).toNat)
     case atStart => exact ⟨0, _, by omega, rfl, HAC⟩
     case round =>
      clear HAC
      obtain ⟨j, A', hj, rfl, HAC⟩ := hrel
      by_cases hjl : j < cs.length
      ·obtain ⟨x, hx⟩ : ∃ x, cs[j]? = some x := ⟨_, List.getElem?_eq_getElem hjl⟩
       obtain ⟨Ad, hA0, hA, a0, a1, a2⟩ := HCS.out j x hx
       have hnt := notes_take (m := m) hx
       have hpx := HPX.out x (List.mem_of_getElem? hx)
       have hAF : Ad.block ∉ refA y vr vc vl := hva Ad cs.length sc (by rw [hA0]) (by omega)
       cases hA0
       obtain ⟨k1, k2, k3, k4, k5, k6, k7⟩ := notes_keep (cs.take j) m
       have hbk : ∀ j, (Ad.add j).block = Ad.block := fun j => addB Ad j
       have hblk : wr.heap[Ad.block]? = w.heap[Ad.block]? := HAC.out.only.block _ hA hAF
       replace a0 := (World.cell?_of_block (w := w) (w' := wr) (a := Ad.add (j * 3)) (by rw [hbk]; exact hblk)).trans a0
       replace a1 := (World.cell?_of_block (w := w) (w' := wr) (a := ⟨(Ad.add (j * 3)).block, (Ad.add (j * 3)).off + 1, none⟩) (by show wr.heap[(Ad.add (j * 3)).block]? = w.heap[(Ad.add (j * 3)).block]?; rw [hbk]; exact hblk)).trans a1
       obtain ⟨xa, xl, xn⟩ := x
       simp only at a0 a1 hnt hpx
       have j0 : (0 : Int) <= (j : Int) := by omega
       have j1 : (j : Int) < (cs.length : Int) := by omega
       have hwj : IntKind.i64.wrap ((j : Int) + 1) = (j : Int) + 1 := by rw [IntKind.wrap_i64]; omega
       have hg1 := HM.out.1
       have hl200 : (m.notes (cs.take j)).lg.length <= 200 := by
        have h1 := HM.out.2
        have h2 : (cs.take j).length <= cs.length := by rw [List.length_take]; omega
        omega
       have hlog := hide (log_r wr.drew y (s.lays ys) (m.notes (cs.take j)) A' xa xl (HAC.out.rt.later (Below.refl _ wr).drew) hpx (by rw [k1, k2]; exact hg1.cur) (by rw [k3]; exact hg1.cp0) (by rw [k4]; exact hg1.ph) hl200)
       have HK2 := hide (show ∀ W, RTurn wr.drew y A' (.tuple #[]) ((s.lays ys).at ((m.notes (cs.take j)).note xa xl)) (.returned (.tuple #[])) W -> (W.cell? (Ad.add (j * 3)) = wr.cell? (Ad.add (j * 3)) /\ W.cell? ⟨(Ad.add (j * 3)).block, (Ad.add (j * 3)).off + 1, none⟩ = wr.cell? ⟨(Ad.add (j * 3)).block, (Ad.add (j * 3)).off + 1, none⟩) /\ ∃ (j' : Nat) (A' : List Nat), j' <= cs.length /\ Value.int .i64 ((j : Int) + 1) = .int .i64 (j' : Int) /\ Hid (RAcc w (refA y vr vc vl) W y ((s.lays ys).at (m.notes (cs.take j'))) A') from fun W hW => by
        obtain ⟨_, A'', hA''⟩ := (HAC.out.later (Below.refl _ wr).drew).turn hW
        have hb2 : W.heap[Ad.block]? = wr.heap[Ad.block]? := (hA''.only.block _ hA hAF).trans hblk.symm
        refine ⟨⟨World.cell?_of_block (by rw [hbk]; exact hb2), World.cell?_of_block (by show W.heap[(Ad.add (j * 3)).block]? = wr.heap[(Ad.add (j * 3)).block]?; rw [hbk]; exact hb2)⟩, j + 1, A'', by omega, by simp, hide ?_⟩
        rw [hnt]
        exact hA'')
       clear hl200 hx hnt hpx hblk hbk hg1 k1 k2 k3 k4 k5 k6 k7 a2 hA hAF
       go_wp2
       go_region_held3 (fun w' => w'.cell? (Ad.add (j * 3)) = some (.int .i64 xa) /\ w'.cell? ⟨(Ad.add (j * 3)).block, (Ad.add (j * 3)).off + 1, none⟩ = some (.int .i64 xl)) (go_keep)
        (first | (go_at_call 142; refine hlog.out.mono ?_; rintro _ w7 hp7; (obtain ⟨_, rfl, -⟩ := id hp7); (obtain ⟨⟨u1, u2⟩, nx⟩ := HK2.out w7 hp7)))
       have NX := hide nx
       clear nx u1 u2 hp7 hlog HK2 a0 a1
       go_wp2
       exact ⟨NX.out, by simp [intOf]; omega⟩
      ·obtain rfl : j = cs.length := by omega
       have hac := HAC.out
       rw [List.take_length] at hac
       have HAC2 := hide hac
       have hov := hide (over_r wr y _ A' s.use hac.rt HG.out)
       obtain ⟨S2, hS2⟩ : ∃ S2, (s.lays ys).at (m.notes cs) = S2 := ⟨_, rfl⟩
       have hsb : S2.b = s.b := by rw [<- hS2]; rfl
       have HQ := hide (show ∀ W, Below wr.heap.size wr W -> (∃ la lc, W.cell? ⟨y, 11, none⟩ = some (.slice la (m.notes cs).lg.length lc)) /\ W.cell? ⟨y, 3, none⟩ = some (.int .i64 s.lim) /\ y < W.heap.size from fun W hW => by
        obtain ⟨d0, d1, d2, d3, d4, d5, h6, h7⟩ := (HAC2.out.later hW).rt
        obtain ⟨la, lc, hl⟩ := h6.lr.shape
        refine ⟨⟨la, lc, ?_⟩, h6.q3, h6.lt⟩
        rw [<- show d3 = .slice la (m.notes cs).lg.length lc from hl]
        exact h6.q11)
       have HBK := hide (show ∀ W, Below wr.heap.size wr W -> Calls Tryz.prog 109 #[ptrV y] W (RTurn W y A' (.tuple #[]) S2.back) from fun W hW => by rw [<- hS2]; exact back_r W y _ A' (HAC2.out.later hW).rt)
       have hback : S2.back = (s.lays ys).back := by rw [<- hS2]; rfl
       rw [hback] at HBK
       rw [hS2] at hov HAC2 HFO
       rw [hsb] at hov
       clear hac HAC hback
       go_wp2_with fail
       refine hov.out.mono ?_
       rintro _ w7 ⟨rfl, hb7⟩
       obtain ⟨⟨la, lc, q11⟩, q3, z7⟩ := HQ.out w7 hb7
       have HB7 := hide hb7
       clear hov hb7 HQ
       have hfollow := HFO.out
       have HBKW := hide (fun W (hW : Below w7.heap.size w7 W) => HBK.out W (HB7.out.trans (hW.mono HB7.out.size)))
       have HR7 := hide (HAC2.out.later HB7.out)
       clear HBK
       generalize S2.use = U at *
       by_cases o1 : s.b < U /\ s.use < U
       ·obtain ⟨o2, o3⟩ := o1
        rw [if_pos (.inr ⟨o2, o3⟩)] at hfollow
        have HF2 := hide hfollow
        have hob : (decide (s.b < U) && decide (s.use < U)) = true := by simp [o2, o3]
        rw [hob]
        clear hfollow HFO hob
        go_wp2
        go_quiet (fail)
        go_wp2_with fail
        refine (HBKW.out (w7.drewN nq) (by repeat (first | exact Below.refl _ _ | refine below_drewN ?_ _ | refine Below.drew ?_ | refine Below.trans ?_ (Below.mono (by assumption) ?_) | refine Below.alloc ?_ ?_ _ | refine Below.setCell ?_ ?_ _ | omega | (simp; omega) | simp))).mono ?_
        rintro _ w8 hp8
        obtain ⟨_, rfl, -⟩ := id hp8
        have fin := hide (show RTurn w y (refA y vr vc vl) (.tuple #[.int .i64 (s.apply cs).1, .int .i64 (s.apply cs).2.1]) (s.apply cs).2.2 (.returned (.tuple #[.int .i64 (cs.length : Int), .int .i64 0])) w8 from by
         rw [HAP.out, HF2.out]
         obtain ⟨_, A9, h9⟩ := (HR7.out.later (W := w7.drewN nq) (by repeat (first | exact Below.refl _ _ | refine below_drewN ?_ _ | refine Below.drew ?_ | refine Below.trans ?_ (Below.mono (by assumption) ?_) | refine Below.alloc ?_ ?_ _ | refine Below.setCell ?_ ?_ _ | omega | (simp; omega) | simp))).turn hp8
         exact h9.fin)
        clear hp8
        go_wp2
        go_ret2
        exact fin.out
       ·have hob : (decide (s.b < U) && decide (s.use < U)) = false := by
         rw [Bool.and_eq_false_iff, decide_eq_false_iff_not, decide_eq_false_iff_not]
         omega
        rw [hob]
        clear hob
        by_cases l1 : s.lim < (((m.notes cs).lg.length : Nat) : Int)
        ·rw [if_pos (.inl l1)] at hfollow
         have HF2 := hide hfollow
         clear hfollow HFO o1
         go_wp2
         go_quiet (fail)
         go_wp2_with fail
         refine (HBKW.out (w7.drewN nq) (by repeat (first | exact Below.refl _ _ | refine below_drewN ?_ _ | refine Below.drew ?_ | refine Below.trans ?_ (Below.mono (by assumption) ?_) | refine Below.alloc ?_ ?_ _ | refine Below.setCell ?_ ?_ _ | omega | (simp; omega) | simp))).mono ?_
         rintro _ w8 hp8
         obtain ⟨_, rfl, -⟩ := id hp8
         have fin := hide (show RTurn w y (refA y vr vc vl) (.tuple #[.int .i64 (s.apply cs).1, .int .i64 (s.apply cs).2.1]) (s.apply cs).2.2 (.returned (.tuple #[.int .i64 (cs.length : Int), .int .i64 0])) w8 from by
          rw [HAP.out, HF2.out]
          obtain ⟨_, A9, h9⟩ := (HR7.out.later (W := w7.drewN nq) (by repeat (first | exact Below.refl _ _ | refine below_drewN ?_ _ | refine Below.drew ?_ | refine Below.trans ?_ (Below.mono (by assumption) ?_) | refine Below.alloc ?_ ?_ _ | refine Below.setCell ?_ ?_ _ | omega | (simp; omega) | simp))).turn hp8
          exact h9.fin)
         clear hp8
         go_wp2
         go_ret2
         exact fin.out
        ·rw [if_neg (by omega)] at hfollow
         have dl : decide (s.lim < (((m.notes cs).lg.length : Nat) : Int)) = false := decide_eq_false l1
         have fin := hide (show ∀ W, Below w7.heap.size w7 W -> RTurn w y (refA y vr vc vl) (.tuple #[.int .i64 (s.apply cs).1, .int .i64 (s.apply cs).2.1]) (s.apply cs).2.2 (.returned (.tuple #[.int .i64 (cs.length : Int), .int .i64 0])) W from fun W hW => by
          rw [HAP.out, hfollow]
          exact (HR7.out.later hW).fin)
         clear hfollow HFO o1 l1 HBKW
         go_wp2
         go_quiet (fail)
         go_wp2
         go_ret2
         exact fin.out _ (by repeat (first | exact Below.refl _ _ | refine below_drewN ?_ _ | refine Below.drew ?_ | refine Below.trans ?_ (Below.mono (by assumption) ?_) | refine Below.alloc ?_ ?_ _ | refine Below.setCell ?_ ?_ _ | omega | (simp; omega) | simp))
   ·have d1 : decide (s.b < K') = false := decide_eq_false c1
    clear hA
    go_wp2
    go_quiet (fail)
    obtain ⟨w3, hw3⟩ : ∃ w3, w3 = w2.drewN nq := ⟨_, rfl⟩
    have hb3 : Below w2.heap.size w2 w3 := by rw [hw3]; exact (by repeat (first | exact Below.refl _ _ | refine below_drewN ?_ _ | refine Below.drew ?_ | refine Below.trans ?_ (Below.mono (by assumption) ?_) | refine Below.alloc ?_ ?_ _ | refine Below.setCell ?_ ?_ _ | omega | (simp; omega) | simp))
    have HB3 := hide (HB2.out.trans (hb3.mono HB2.out.size))
    have HWR3 := hide (HWR.out.trans (hb3.mono HWR.out.size))
    rw [<- hw3]
    clear hb3 hw3 hc2 p1 p4 p5
    obtain ⟨n1, n2, n3, n4, n5, n6, n7⟩ := HLL.out w3 HB3.out
    have huse := hide n7
    have hl3 : y < w3.heap.size := n6
    clear n7
    go_wp2_with fail
    refine huse.out.mono ?_
    rintro _ w4 ⟨rfl, hb4⟩
    have hbw4 := HB3.out.trans (hb4.mono HB3.out.size)
    have HB4 := hide hbw4
    have HN := hide (HNEW.out w4 hbw4 (HWR3.out.trans (hb4.mono HWR3.out.size)))
    clear n1 n2 n3 n4 n5 n6
    obtain ⟨n1, n2, n3, n4, n5, n6, n7⟩ := HLL.out w4 hbw4
    have q5' : w4.cell? ⟨y, 5, none⟩ = some (.slice ra rl.length rc) := n3
    have qf : ∀ o, w4.frozen? ⟨y, o, none⟩ = false := n5
    have q6' := n4
    clear hb4 hbw4 huse n1 n2 n3 n4 n5 n7 HB3
    rcases (show s.mv = none ∨ ∃ m, s.mv = some m by cases s.mv with | none => exact .inl rfl | some m => exact .inr ⟨m, rfl⟩) with hmv | ⟨m, hmv⟩
    ·rw [hmv, show knM none = 0 from rfl] at q6'
     have fin := hide (show RTurn w y (refA y vr vc vl) (.tuple #[.int .i64 (s.apply cs).1, .int .i64 (s.apply cs).2.1]) (s.apply cs).2.2 (.returned (.tuple #[.int .i64 (cs.length : Int), .int .i64 0])) (w4.setCell ⟨y, 5, none⟩ (.slice ua ls.length uc)) from by
      rw [HAP.out, show (s.lays ys).follow cs s.use = s.lays ys by unfold TS.follow; rw [show (s.lays ys).mv = s.mv from rfl, hmv]]
      exact HN.out.1)
     clear HN hmv
     go_wp2
     go_ret2
     exact fin.out
    ·have hs2 : (s.lays ys).at m = s.lays ys := TS.at_same hmv
     rw [hmv, show knM (some m) = m.k from rfl] at q6'
     obtain ⟨g1, g2⟩ := HS.out.mv m hmv
     have dk : (m.k == 0) = false := by have := g1.k1; simp; omega
     have l16 := HS.out.l16
     have HAC := hide (show RAcc w (refA y vr vc vl) (w4.setCell ⟨y, 5, none⟩ (.slice ua ls.length uc)) y ((s.lays ys).at (m.notes (cs.take 0))) (refA y (.slice ua ls.length uc) vc vl) from by
      rw [show m.notes (cs.take 0) = m from rfl, hs2]
      obtain ⟨A', p1, p2, p3, p4⟩ := HN.out.1
      exact ⟨⟨c0, _, vc, vl, ls, cl, HN.out.2, rfl⟩, fun k hk => by
       rcases refA_mem.1 hk with h1 | h1 | h1 | h1
       ·exact .inl (refA_mem.2 (.inl h1))
       ·exact (HO.out k h1).imp (fun h2 => refA_mem.2 (.inr (.inl h2))) id
       ·exact .inl (refA_mem.2 (.inr (.inr (.inl h1))))
       ·exact .inl (refA_mem.2 (.inr (.inr (.inr h1)))), p4⟩)
     have HG := hide (follow_good HS.out hmv HR.out.2.2.1 HR.out.2.2.2 (show cs.length <= 16 by omega))
     have HPX := hide (tryX_pfx cs s.xs 0 (by rw [hx0]))
     have HFO := hide (show (s.lays ys).follow cs s.use = if s.lim < (((m.notes cs).lg.length : Nat) : Int) ∨ (s.b < ((s.lays ys).at (m.notes cs)).use /\ s.use < ((s.lays ys).at (m.notes cs)).use) then (s.lays ys).back else (s.lays ys).at (m.notes cs) by unfold TS.follow; rw [show (s.lays ys).mv = s.mv from rfl, hmv]; rfl)
     have HM := hide (And.intro g1 g2)
     clear HN hs2 hmv g1 g2 HX HO HR hx0 hlz
     go_wp2
     go_loopw [13] (fun s13 wr => ∃ (j : Nat) (A' : List Nat), j <= cs.length /\ s13 = .int .i64 (j : Int) /\ Hid (RAcc w (refA y vr vc vl) wr y ((s.lays ys).at (m.notes (cs.take j))) A')) (fun s13 _ => cs.length - (intOf s13).toNat)
     case atStart => exact ⟨0, _, by omega, rfl, HAC⟩
     case round =>
      clear HAC
      obtain ⟨j, A', hj, rfl, HAC⟩ := hrel
      by_cases hjl : j < cs.length
      ·obtain ⟨x, hx⟩ : ∃ x, cs[j]? = some x := ⟨_, List.getElem?_eq_getElem hjl⟩
       obtain ⟨Ad, hA0, hA, a0, a1, a2⟩ := HCS.out j x hx
       have hnt := notes_take (m := m) hx
       have hpx := HPX.out x (List.mem_of_getElem? hx)
       have hAF : Ad.block ∉ refA y vr vc vl := hva Ad cs.length sc (by rw [hA0]) (by omega)
       cases hA0
       obtain ⟨k1, k2, k3, k4, k5, k6, k7⟩ := notes_keep (cs.take j) m
       have hbk : ∀ j, (Ad.add j).block = Ad.block := fun j => addB Ad j
       have hblk : wr.heap[Ad.block]? = w.heap[Ad.block]? := HAC.out.only.block _ hA hAF
       replace a0 := (World.cell?_of_block (w := w) (w' := wr) (a := Ad.add (j * 3)) (by rw [hbk]; exact hblk)).trans a0
       replace a1 := (World.cell?_of_block (w := w) (w' := wr) (a := ⟨(Ad.add (j * 3)).block, (Ad.add (j * 3)).off + 1, none⟩) (by show wr.heap[(Ad.add (j * 3)).block]? = w.heap[(Ad.add (j * 3)).block]?; rw [hbk]; exact hblk)).trans a1
       obtain ⟨xa, xl, xn⟩ := x
       simp only at a0 a1 hnt hpx
       have j0 : (0 : Int) <= (j : Int) := by omega
       have j1 : (j : Int) < (cs.length : Int) := by omega
       have hwj : IntKind.i64.wrap ((j : Int) + 1) = (j : Int) + 1 := by rw [IntKind.wrap_i64]; omega
       have hg1 := HM.out.1
       have hl200 : (m.notes (cs.take j)).lg.length <= 200 := by
        have h1 := HM.out.2
        have h2 : (cs.take j).length <= cs.length := by rw [List.length_take]; omega
        omega
       have hlog := hide (log_r wr.drew y (s.lays ys) (m.notes (cs.take j)) A' xa xl (HAC.out.rt.later (Below.refl _ wr).drew) hpx (by rw [k1, k2]; exact hg1.cur) (by rw [k3]; exact hg1.cp0) (by rw [k4]; exact hg1.ph) hl200)
       have HK2 := hide (show ∀ W, RTurn wr.drew y A' (.tuple #[]) ((s.lays ys).at ((m.notes (cs.take j)).note xa xl)) (.returned (.tuple #[])) W -> (W.cell? (Ad.add (j * 3)) = wr.cell? (Ad.add (j * 3)) /\ W.cell? ⟨(Ad.add (j * 3)).block, (Ad.add (j * 3)).off + 1, none⟩ = wr.cell? ⟨(Ad.add (j * 3)).block, (Ad.add (j * 3)).off + 1, none⟩) /\ ∃ (j' : Nat) (A' : List Nat), j' <= cs.length /\ Value.int .i64 ((j : Int) + 1) = .int .i64 (j' : Int) /\ Hid (RAcc w (refA y vr vc vl) W y ((s.lays ys).at (m.notes (cs.take j'))) A') from fun W hW => by
        obtain ⟨_, A'', hA''⟩ := (HAC.out.later (Below.refl _ wr).drew).turn hW
        have hb2 : W.heap[Ad.block]? = wr.heap[Ad.block]? := (hA''.only.block _ hA hAF).trans hblk.symm
        refine ⟨⟨World.cell?_of_block (by rw [hbk]; exact hb2), World.cell?_of_block (by show W.heap[(Ad.add (j * 3)).block]? = wr.heap[(Ad.add (j * 3)).block]?; rw [hbk]; exact hb2)⟩, j + 1, A'', by omega, by simp, hide ?_⟩
        rw [hnt]
        exact hA'')
       clear hl200 hx hnt hpx hblk hbk hg1 k1 k2 k3 k4 k5 k6 k7 a2 hA hAF
       go_wp2
       go_region_held3 (fun w' => w'.cell? (Ad.add (j * 3)) = some (.int .i64 xa) /\ w'.cell? ⟨(Ad.add (j * 3)).block, (Ad.add (j * 3)).off + 1, none⟩ = some (.int .i64 xl)) (go_keep)
        (first | (go_at_call 142; refine hlog.out.mono ?_; rintro _ w7 hp7; (obtain ⟨_, rfl, -⟩ := id hp7); (obtain ⟨⟨u1, u2⟩, nx⟩ := HK2.out w7 hp7)))
       have NX := hide nx
       clear nx u1 u2 hp7 hlog HK2 a0 a1
       go_wp2
       exact ⟨NX.out, by simp [intOf]; omega⟩
      ·obtain rfl : j = cs.length := by omega
       have hac := HAC.out
       rw [List.take_length] at hac
       have HAC2 := hide hac
       have hov := hide (over_r wr y _ A' s.use hac.rt HG.out)
       obtain ⟨S2, hS2⟩ : ∃ S2, (s.lays ys).at (m.notes cs) = S2 := ⟨_, rfl⟩
       have hsb : S2.b = s.b := by rw [<- hS2]; rfl
       have HQ := hide (show ∀ W, Below wr.heap.size wr W -> (∃ la lc, W.cell? ⟨y, 11, none⟩ = some (.slice la (m.notes cs).lg.length lc)) /\ W.cell? ⟨y, 3, none⟩ = some (.int .i64 s.lim) /\ y < W.heap.size from fun W hW => by
        obtain ⟨d0, d1, d2, d3, d4, d5, h6, h7⟩ := (HAC2.out.later hW).rt
        obtain ⟨la, lc, hl⟩ := h6.lr.shape
        refine ⟨⟨la, lc, ?_⟩, h6.q3, h6.lt⟩
        rw [<- show d3 = .slice la (m.notes cs).lg.length lc from hl]
        exact h6.q11)
       have HBK := hide (show ∀ W, Below wr.heap.size wr W -> Calls Tryz.prog 109 #[ptrV y] W (RTurn W y A' (.tuple #[]) S2.back) from fun W hW => by rw [<- hS2]; exact back_r W y _ A' (HAC2.out.later hW).rt)
       have hback : S2.back = (s.lays ys).back := by rw [<- hS2]; rfl
       rw [hback] at HBK
       rw [hS2] at hov HAC2 HFO
       rw [hsb] at hov
       clear hac HAC hback
       go_wp2_with fail
       refine hov.out.mono ?_
       rintro _ w7 ⟨rfl, hb7⟩
       obtain ⟨⟨la, lc, q11⟩, q3, z7⟩ := HQ.out w7 hb7
       have HB7 := hide hb7
       clear hov hb7 HQ
       have hfollow := HFO.out
       have HBKW := hide (fun W (hW : Below w7.heap.size w7 W) => HBK.out W (HB7.out.trans (hW.mono HB7.out.size)))
       have HR7 := hide (HAC2.out.later HB7.out)
       clear HBK
       generalize S2.use = U at *
       by_cases o1 : s.b < U /\ s.use < U
       ·obtain ⟨o2, o3⟩ := o1
        rw [if_pos (.inr ⟨o2, o3⟩)] at hfollow
        have HF2 := hide hfollow
        have hob : (decide (s.b < U) && decide (s.use < U)) = true := by simp [o2, o3]
        rw [hob]
        clear hfollow HFO hob
        go_wp2
        go_quiet (fail)
        go_wp2_with fail
        refine (HBKW.out (w7.drewN nq) (by repeat (first | exact Below.refl _ _ | refine below_drewN ?_ _ | refine Below.drew ?_ | refine Below.trans ?_ (Below.mono (by assumption) ?_) | refine Below.alloc ?_ ?_ _ | refine Below.setCell ?_ ?_ _ | omega | (simp; omega) | simp))).mono ?_
        rintro _ w8 hp8
        obtain ⟨_, rfl, -⟩ := id hp8
        have fin := hide (show RTurn w y (refA y vr vc vl) (.tuple #[.int .i64 (s.apply cs).1, .int .i64 (s.apply cs).2.1]) (s.apply cs).2.2 (.returned (.tuple #[.int .i64 (cs.length : Int), .int .i64 0])) w8 from by
         rw [HAP.out, HF2.out]
         obtain ⟨_, A9, h9⟩ := (HR7.out.later (W := w7.drewN nq) (by repeat (first | exact Below.refl _ _ | refine below_drewN ?_ _ | refine Below.drew ?_ | refine Below.trans ?_ (Below.mono (by assumption) ?_) | refine Below.alloc ?_ ?_ _ | refine Below.setCell ?_ ?_ _ | omega | (simp; omega) | simp))).turn hp8
         exact h9.fin)
        clear hp8
        go_wp2
        go_ret2
        exact fin.out
       ·have hob : (decide (s.b < U) && decide (s.use < U)) = false := by
         rw [Bool.and_eq_false_iff, decide_eq_false_iff_not, decide_eq_false_iff_not]
         omega
        rw [hob]
        clear hob
        by_cases l1 : s.lim < (((m.notes cs).lg.length : Nat) : Int)
        ·rw [if_pos (.inl l1)] at hfollow
         have HF2 := hide hfollow
         clear hfollow HFO o1
         go_wp2
         go_quiet (fail)
         go_wp2_with fail
         refine (HBKW.out (w7.drewN nq) (by repeat (first | exact Below.refl _ _ | refine below_drewN ?_ _ | refine Below.drew ?_ | refine Below.trans ?_ (Below.mono (by assumption) ?_) | refine Below.alloc ?_ ?_ _ | refine Below.setCell ?_ ?_ _ | omega | (simp; omega) | simp))).mono ?_
         rintro _ w8 hp8
         obtain ⟨_, rfl, -⟩ := id hp8
         have fin := hide (show RTurn w y (refA y vr vc vl) (.tuple #[.int .i64 (s.apply cs).1, .int .i64 (s.apply cs).2.1]) (s.apply cs).2.2 (.returned (.tuple #[.int .i64 (cs.length : Int), .int .i64 0])) w8 from by
          rw [HAP.out, HF2.out]
          obtain ⟨_, A9, h9⟩ := (HR7.out.later (W := w7.drewN nq) (by repeat (first | exact Below.refl _ _ | refine below_drewN ?_ _ | refine Below.drew ?_ | refine Below.trans ?_ (Below.mono (by assumption) ?_) | refine Below.alloc ?_ ?_ _ | refine Below.setCell ?_ ?_ _ | omega | (simp; omega) | simp))).turn hp8
          exact h9.fin)
         clear hp8
         go_wp2
         go_ret2
         exact fin.out
        ·rw [if_neg (by omega)] at hfollow
         have dl : decide (s.lim < (((m.notes cs).lg.length : Nat) : Int)) = false := decide_eq_false l1
         have fin := hide (show ∀ W, Below w7.heap.size w7 W -> RTurn w y (refA y vr vc vl) (.tuple #[.int .i64 (s.apply cs).1, .int .i64 (s.apply cs).2.1]) (s.apply cs).2.2 (.returned (.tuple #[.int .i64 (cs.length : Int), .int .i64 0])) W from fun W hW => by
          rw [HAP.out, hfollow]
          exact (HR7.out.later hW).fin)
         clear hfollow HFO o1 l1 HBKW
         go_wp2
         go_quiet (fail)
         go_wp2
         go_ret2
         exact fin.out _ (by repeat (first | exact Below.refl _ _ | refine below_drewN ?_ _ | refine Below.drew ?_ | refine Below.trans ?_ (Below.mono (by assumption) ?_) | refine Below.alloc ?_ ?_ _ | refine Below.setCell ?_ ?_ _ | omega | (simp; omega) | simp))
end Go.Proofs.YtglbamalagacgaaGreat

namespace Go.Proofs.YtglbamalagacgaaGreat
open Go.RowKit Go.Shelf
attribute [local go_sem] Oper.semAt_some
theorem chgs_one (w : World) (a l n : Int) : ChgsAt (w.alloc (.cells #[.int .i64 a, .int .i64 l, .int .i64 n] 103)) (.slice (some ⟨w.heap.size, 0, none⟩) 1 1) [⟨a, l, n⟩] := by
 refine ⟨some ⟨w.heap.size, 0, none⟩, 1, rfl, by unfold maxLen; simp, fun i x hx => ?_⟩
 have hi : i = 0 := by
  have := (List.getElem?_eq_some_iff.1 hx).1
  simpa using this
 subst hi
 have hx' : (⟨a, l, n⟩ : Chg) = x := by simpa using hx
 subst hx'
 refine ⟨⟨w.heap.size, 0, none⟩, rfl, by simp, ?_, ?_, ?_⟩
 ·rw [Nat.zero_mul, addZ]; simp
 ·rw [Nat.zero_mul, addZ]; simp
 ·rw [Nat.zero_mul, addZ]; simp
theorem RTurn.up {w w1 w' : World} {y : Nat} {A : List Nat} {v : Value} {s' : TS} {r : Ending} (h : RTurn w1 y A v s' r w') (hB : Below w.heap.size w w1) : RTurn w y A v s' r w' := by
 obtain ⟨A', h1, h2, h3, h4⟩ := h
 have := hB.size
 exact ⟨A', h1, h2, fun k hk => (h3 k hk).imp id fun h => by omega, (Only.of_below _ hB).trans h4 fun x hx => .inl hx⟩
set_option maxHeartbeats 1000000 in
theorem del_r (w : World) (y : Nat) (s : TS) (A : List Nat) (a l : Int) (hT : RT w y s A) (hs : s.Ok) :
  Calls Tryz.prog 112 #[ptrV y, pfxV a l] w (RTurn w y A (.int .i64 (s.one a l 0).1) (s.one a l 0).2) := by
 have hB : Below w.heap.size w ((w.alloc (.cells #[.int .i64 a, .int .i64 l] 65)).alloc (.cells #[.int .i64 a, .int .i64 l, .int .i64 0] 103)) := (by repeat (first | exact Below.refl _ _ | refine below_drewN ?_ _ | refine Below.drew ?_ | refine Below.trans ?_ (Below.mono (by assumption) ?_) | refine Below.alloc ?_ ?_ _ | refine Below.setCell ?_ ?_ _ | omega | (simp; omega) | simp))
 have hch := chgs_one (w.alloc (.cells #[.int .i64 a, .int .i64 l] 65)) a l 0
 rw [World.size_alloc] at hch
 have hlt := hT.lt
 have hap := hide (apply_r _ y s A _ [⟨a, l, 0⟩] (hT.later hB) hs hch (fun B n cap he hn hF => by
  cases he
  have hlt2 : w.heap.size + 1 < w.heap.size := hlt _ hF
  omega))
 have HB := hide hB
 have HO := hide (show s.one a l 0 = (s.apply [⟨a, l, 0⟩]).2 from rfl)
 clear hB hch hlt hT hs
 rw [HO.out]
 generalize s.apply [⟨a, l, 0⟩] = R at *
 go_enter Tryz.func112, Tryz.ntmps112
 go_wp2_with fail
 refine hap.out.mono ?_
 rintro _ w2 hp
 obtain ⟨A', rfl, h2, h3, h4⟩ := hp.up HB.out
 have fin := hide (show RTurn w y A (.int .i64 R.2.1) R.2.2 (.returned (.int .i64 R.2.1)) w2 from ⟨A', rfl, h2, h3, h4⟩)
 clear h2 h3 h4 hp hap
 go_wp2
 go_ret
 exact fin.out
set_option maxHeartbeats 1000000 in
theorem add_r (w : World) (y : Nat) (s : TS) (A : List Nat) (a l n : Int) (hT : RT w y s A) (hs : s.Ok) :
  Calls Tryz.prog 111 #[ptrV y, pfxV a l, .int .i64 n] w (RTurn w y A (.int .i64 (s.add a l n).1) (s.add a l n).2) := by
 have hB0 : Below w.heap.size w (w.alloc (.cells #[.int .i64 a, .int .i64 l] 65)) := (Below.refl _ w).alloc (Nat.le_refl _) _
 have stay := hide (show ∀ e, RTurn w y A (.int .i64 e) s (.returned (.int .i64 e)) (w.alloc (.cells #[.int .i64 a, .int .i64 l] 65)) from fun e => ⟨A, rfl, hT.later hB0, NewF.refl _ _, Only.of_below _ hB0⟩)
 have hpr := hide (fun W => proper_r a l W)
 unfold TS.add
 by_cases h1 : isPfx a l = false
 ·rw [if_pos h1]
  rw [h1] at hpr
  clear hT hs hB0
  go_enter Tryz.func111, Tryz.ntmps111
  go_wp2_with fail
  refine (hpr.out _).mono ?_
  rintro _ _ ⟨rfl, rfl⟩
  go_wp2
  go_ret
  exact stay.out 2
 rw [if_neg h1]
 have hp : isPfx a l = true := by simpa using h1
 rw [hp] at hpr
 by_cases h2 : ¬ (1 <= n /\ n <= 255)
 ·rw [if_pos h2]
  have hcs : n < 1 ∨ (¬ n < 1 /\ 255 < n) := by omega
  clear hT hs hB0 h1 h2
  rcases hcs with c1 | ⟨c1, c2⟩
  case' inl => have d1 : decide (n < 1) = true := decide_eq_true c1
  case' inr => have d1 : decide (n < 1) = false := decide_eq_false c1
  case' inr => have d2 : decide (255 < n) = true := decide_eq_true c2
  all_goals
   go_enter Tryz.func111, Tryz.ntmps111
   go_wp2_with fail
   refine (hpr.out _).mono ?_
   rintro _ _ ⟨rfl, rfl⟩
   go_wp2
   go_ret
   exact stay.out 3
 rw [if_neg h2]
 have d1 : decide (n < 1) = false := decide_eq_false (by omega)
 have d2 : decide (255 < n) = false := decide_eq_false (by omega)
 have hB : Below w.heap.size w ((w.alloc (.cells #[.int .i64 a, .int .i64 l] 65)).alloc (.cells #[.int .i64 a, .int .i64 l, .int .i64 n] 103)) := (by repeat (first | exact Below.refl _ _ | refine below_drewN ?_ _ | refine Below.drew ?_ | refine Below.trans ?_ (Below.mono (by assumption) ?_) | refine Below.alloc ?_ ?_ _ | refine Below.setCell ?_ ?_ _ | omega | (simp; omega) | simp))
 have hch := chgs_one (w.alloc (.cells #[.int .i64 a, .int .i64 l] 65)) a l n
 rw [World.size_alloc] at hch
 have hlt := hT.lt
 have hap := hide (apply_r _ y s A _ [⟨a, l, n⟩] (hT.later hB) hs hch (fun B n cap he hn hF => by
  cases he
  have hlt2 : w.heap.size + 1 < w.heap.size := hlt _ hF
  omega))
 have HB := hide hB
 have HO := hide (show s.one a l n = (s.apply [⟨a, l, n⟩]).2 from rfl)
 clear hB hch hlt hT hs hB0 h1 h2 stay
 rw [HO.out]
 generalize s.apply [⟨a, l, n⟩] = R at *
 go_enter Tryz.func111, Tryz.ntmps111
 go_wp2_with fail
 refine (hpr.out _).mono ?_
 rintro _ _ ⟨rfl, rfl⟩
 go_wp2_with fail
 refine hap.out.mono ?_
 rintro _ w2 hp2
 obtain ⟨A', rfl, h2, h3, h4⟩ := hp2.up HB.out
 have fin := hide (show RTurn w y A (.int .i64 R.2.1) R.2.2 (.returned (.int .i64 R.2.1)) w2 from ⟨A', rfl, h2, h3, h4⟩)
 clear h2 h3 h4 hp2 hap
 go_wp2
 go_ret
 exact fin.out
end Go.Proofs.YtglbamalagacgaaGreat

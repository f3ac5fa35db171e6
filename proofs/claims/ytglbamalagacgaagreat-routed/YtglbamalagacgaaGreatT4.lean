import Derived.Test.YtglbamalagacgaaGreatT3
namespace Go.Proofs.YtglbamalagacgaaGreat
open Go.RowKit Go.Shelf
attribute [local go_sem] Oper.semAt_some
structure Mad (w wr : World) (bt : Nat) (e : Value) (xs ys : List Ent) (us : List Ud) (F F' G' : List Nat) (cs : List Chg) (i : Nat) : Prop where
 eng : EngF wr e ys F'
 bat : BatchF wr bt e us G'
 dis : Disj F' G'
 len : us.length <= i
 bck : back ys us = xs
 uok : ∀ u ∈ us, UdOk u
 nF : NewF w F F'
 nG : ∀ k ∈ G', w.heap.size <= k
 only : Only F w wr
 try_ : tryX cs xs 0 = tryX (cs.drop i) ys i
theorem Mad.later {w wr w2 : World} {bt : Nat} {e : Value} {xs ys : List Ent} {us : List Ud} {F F' G' : List Nat} {cs : List Chg} {i : Nat} (h : Mad w wr bt e xs ys us F F' G' cs i) (hB : Below wr.heap.size wr w2) : Mad w w2 bt e xs ys us F F' G' cs i :=
 ⟨h.eng.later hB, h.bat.later hB, h.dis, h.len, h.bck, h.uok, h.nF, h.nG, h.only.trans (Only.of_below [] hB) (by simp), h.try_⟩
theorem Mad.step {w w2 w3 : World} {bt : Nat} {e : Value} {xs ys : List Ent} {us : List Ud} {F F' G' : List Nat} {cs : List Chg} {i : Nat} {x : Chg} {r : Ending} (h : Mad w w2 bt e xs ys us F F' G' cs i) (hd : cs.drop i = x :: cs.drop (i + 1)) (hp : ChgPost bt e us G' ys F' x.a x.l x.n w2 r w3) :
  r = .returned (.int .i64 (chgE ys x.a x.l x.n)) /\ ∃ us' F'' G'', (chgE ys x.a x.l x.n = 0 /\ Mad w w3 bt e xs (setE ys x.a x.l x.n) us' F F'' G'' cs (i + 1)) ∨
   (chgE ys x.a x.l x.n ≠ 0 /\ tryX cs xs 0 = (ys, i, chgE ys x.a x.l x.n) /\ EngF w3 e ys F'' /\ BatchF w3 bt e us' G'' /\ Disj F'' G'' /\ us'.length <= i + 1 /\ back ys us' = xs /\ (∀ u ∈ us', UdOk u) /\ NewF w F F'' /\ Only F w w3) := by
 obtain ⟨hr, F'', G'', us', q1, q2, q3, q4, q5, q6, q7, q8, q9⟩ := hp
 have hs := h.only.size
 have hN : NewF w F F'' := h.nF.trans q3 hs
 have hO : Only F w w3 := h.only.trans q6 fun k hk => by
  rcases List.mem_append.1 hk with hk | hk
  ·exact h.nF k hk
  ·exact .inr (h.nG k hk)
 have hl : us'.length <= i + 1 := by have := h.len; omega
 refine ⟨hr, us', F'', G'', ?_⟩
 have htr := h.try_
 rw [hd, tryX_cons] at htr
 have hb := q8 xs h.bck
 by_cases h0 : chgE ys x.a x.l x.n = 0
 ·rw [if_pos h0] at q1 hb htr
  exact .inl ⟨h0, q1, q2, q5, hl, hb, q9 h.uok, hN, fun k hk => (q4 k hk).elim (h.nG k) (fun h => by omega), hO, htr⟩
 ·rw [if_neg h0] at q1 hb htr
  exact .inr ⟨h0, htr, q1, q2, q5, hl, hb, q9 h.uok, hN, hO⟩
def A3Post (w : World) (t : Nat) (e : Value) (F H : List Nat) (R : Int × Int × TS) (r : Ending) (w' : World) : Prop :=
 ∃ pm' F' H', r = .returned (.tuple #[.int .i64 R.1, .int .i64 R.2.1]) /\ Tab3 w' t e R.2.2 pm' F' H' /\ NewF w (t :: (F ++ H)) (t :: (F' ++ H')) /\ Only (t :: (F ++ H)) w w'
theorem A3Post.up {w w1 : World} {t : Nat} {e : Value} {F H : List Nat} {R : Int × Int × TS} {r : Ending} {w' : World} (hB : Below w.heap.size w w1) (h : A3Post w1 t e F H R r w') : A3Post w t e F H R r w' := by
 obtain ⟨pm', F', H', h1, h2, h3, h4⟩ := h
 exact ⟨pm', F', H', h1, h2, fun k hk => (h3 k hk).imp id (fun h => by have := hB.size; omega), (Only.of_below _ hB).trans h4 (fun x hx => .inl hx)⟩
theorem Tab3.mk3 {w w' : World} {t : Nat} {e : Value} {s : TS} {pm : Value} {F H F' : List Nat} {zs : List Ent} (h : Tab3 w t e s pm F H) (hE : EngF w' e zs F') (hN : NewF w F F') (hO : Only F w w') (n er : Int) : A3Post w t e F H (n, er, s.lays zs) (.returned (.tuple #[.int .i64 n, .int .i64 er])) w' :=
 ⟨pm, F', H, rfl, h.next hE hN hO, fun k hk => by
  simp only [List.mem_cons, List.mem_append] at hk ⊢
  rcases hk with h6 | h6 | h6
  ·exact .inl (.inl h6)
  ·exact (hN k h6).imp (fun h => .inr (.inl h)) id
  ·exact .inl (.inr (.inr h6)), hO.mono (fun x hx _ => by simp [hx])⟩
theorem ChgsAt.only {w w' : World} {v : Value} {cs : List Chg} {F L : List Nat} (h : ChgsAt w v cs) (hO : Only F w w') (hva : Apart v L) (hL : ∀ k ∈ F, k ∈ L) : ChgsAt w' v cs := by
 obtain ⟨a, cap, rfl, hl, h⟩ := h
 refine ⟨a, cap, rfl, hl, fun i x hx => ?_⟩
 obtain ⟨A, rfl, hA, h1, h2, h3⟩ := h i x hx
 have hi := (List.getElem?_eq_some_iff.1 hx).1
 have hkb := hO.block A.block hA (fun hk => hva A _ _ rfl (by omega) (hL _ hk))
 refine ⟨A, rfl, by have := hO.size; omega, ?_, ?_, ?_⟩
 ·exact (World.cell?_of_block (w := w) (a := A.add (i * 3)) (by rw [addB]; exact hkb)).trans h1
 ·exact (World.cell?_of_block (w := w) (a := ⟨(A.add (i * 3)).block, (A.add (i * 3)).off + 1, none⟩) (by simp only [addB]; exact hkb)).trans h2
 ·exact (World.cell?_of_block (w := w) (a := ⟨(A.add (i * 3)).block, (A.add (i * 3)).off + 2, none⟩) (by simp only [addB]; exact hkb)).trans h3
theorem Apart.new {w : World} {v : Value} {cs : List Chg} {t : Nat} {F H F' : List Nat} (h : ChgsAt w v cs) (hva : Apart v (t :: (F ++ H))) (hN : NewF w F F') : Apart v (t :: (F' ++ H)) := by
 intro A n cap he hn hk
 have hk2 := hva A n cap he hn
 simp only [List.mem_cons, List.mem_append] at hk hk2
 rcases hk with h6 | h6 | h6
 ·exact hk2 (.inl h6)
 ·rcases hN _ h6 with h7 | h7
  ·exact hk2 (.inr (.inl h7))
  ·obtain ⟨a, cap', he', _, hc⟩ := h
   rw [he'] at he
   cases he
   obtain ⟨x, hx⟩ : ∃ x, cs[0]? = some x := ⟨_, List.getElem?_eq_getElem hn⟩
   obtain ⟨A', hA', hlt, _⟩ := hc 0 x hx
   cases hA'
   omega
 ·exact hk2 (.inr (.inr h6))
theorem FoPost.up {w w4 w' : World} {t : Nat} {e : Value} {F F' H : List Nat} {s' : TS} {r : Ending} (h : FoPost w4 t e F' H s' r w') (hN : NewF w F F') (hO : Only F w w4) (n er : Int) : A3Post w t e F H (n, er, s') (.returned (.tuple #[.int .i64 n, .int .i64 er])) w' := by
 obtain ⟨pm', H', _, h2, h3, h4⟩ := h
 have hs := hO.size
 refine ⟨pm', F', H', rfl, h2, fun k hk => ?_, ⟨h4.os.trans hO.os, h4.tape.trans hO.tape, h4.output.trans hO.output, Nat.le_trans hs h4.size, fun k hk hn => ?_⟩⟩
 ·simp only [List.mem_cons, List.mem_append] at hk ⊢
  rcases hk with h6 | h6 | h6
  ·exact .inl (.inl h6)
  ·exact (hN k h6).imp (fun h => .inr (.inl h)) id
  ·rcases h3 k (by simp [h6]) with h7 | h7
   ·simp only [List.mem_cons] at h7
    exact .inl (h7.imp id .inr)
   ·exact .inr (by omega)
 ·simp only [List.mem_cons, List.mem_append, not_or] at hn
  exact (h4.block k (by omega) (by simp only [List.mem_cons, not_or]; exact ⟨hn.1, hn.2.2⟩)).trans (hO.block k hk hn.2.1)
set_option maxRecDepth 4000 in
set_option maxHeartbeats 2000000 in
theorem apply3_any (w0 : World) (t : Nat) (e : Value) (s : TS) (pm : Value) (F H : List Nat) (v : Value) (cs : List Chg) (hT : Tab3 w0 t e s pm F H) (hs : s.Ok) (hv : ChgsAt w0 v cs) (hva : Apart v (t :: (F ++ H))) :
  Calls Tryz.prog 22 #[ptrV t, v] w0 (A3Post w0 t e F H (s.apply cs)) := by
 have hv0 := hide hv
 obtain ⟨va, vc, rfl, hml, hcs⟩ := hv
 have Hva := hide hva
 have HT := hide hT
 unfold maxLen at hml
 clear hcs hva
 by_cases h16 : 16 < cs.length
 ·have e1 : s.apply cs = (0, 12, s) := by unfold TS.apply; rw [if_pos h16]
  rw [e1]
  have fin := hide (show A3Post w0 t e F H (0, 12, s) (.returned (.tuple #[.int .i64 0, .int .i64 12])) w0 from ⟨pm, F, H, rfl, hT, NewF.refl _ _, Only.refl _ _⟩)
  have h16' : (16 : Int) < (cs.length : Int) := by omega
  clear e1 hT
  go_enter Tryz.func22, Tryz.ntmps22
  go_wp2
  go_ret2
  exact fin.out
 have Hap := hide (show s.apply cs = if (tryX cs s.xs 0).2.2 ≠ 0 then ((((tryX cs s.xs 0).2.1 : Nat) : Int), (tryX cs s.xs 0).2.2, s) else
  if s.b < needK s.k (tryX cs s.xs 0).1 /\ needK s.k s.xs < needK s.k (tryX cs s.xs 0).1 then (((cs.length : Nat) : Int), 6, s) else (((cs.length : Nat) : Int), 0, (s.lays (tryX cs s.xs 0).1).follow cs s.use) by unfold TS.apply; rw [if_neg h16])
 have h16' : ¬ (16 : Int) < (cs.length : Int) := by omega
 have tl := hT.lt
 obtain ⟨T, p, fl, ft, fc, D⟩ := hT.eng.disp
 have mc := D.mc.m
 have nc := D.mc.n
 have cc := D.mc.c
 have eq := D.eq
 have HC := hide (show ∀ W ys F', EngF W e ys F' -> Calls Tryz.prog fc #[ptrV p] W fun r w' => Below W.heap.size W w' /\ r = .returned (.int .i64 (needK s.k ys)) from fun W ys F' hE => by
  have := D.cells W ys F' hE
  rwa [hT.kind] at this)
 have hcl := hide (tcells_any w0 t e s pm F H hT)
 have hnum := hT.nums (fun m hm => by have := (hs.mv m hm).2; have := hs.l16; omega)
 have hiu := hide (fun W => inUse_any W s.act (tgtM s.mv) (lgdM s.mv) s.b hnum.a0 hnum.a1 hnum.t0 hnum.t1 hnum.l0 hnum.l1)
 have eu : s.use = s.act + tgtM s.mv + lgdM s.mv := rfl
 rw [<- eu] at hiu
 have hact : needK s.k s.xs = s.act := rfl
 have HS := hide hs
 have Hact := hide hact
 generalize s.use = us0 at *
 generalize s.act = ac at *
 generalize tgtM s.mv = tg at *
 generalize lgdM s.mv = lgn at *
 clear hT D hs hnum eu hact
 subst eq
 go_enter Tryz.func22, Tryz.ntmps22
 go_wp2_with fail
 refine hcl.out.mono ?_
 rintro _ w1 ⟨rfl, hB1⟩
 obtain ⟨w, hw⟩ : ∃ w, w = w1.alloc (Obj.cells #[.int .i64 ac, .int .i64 tg, .int .i64 lgn, .int .i64 s.b] 49) := ⟨_, rfl⟩
 have hBw : Below w0.heap.size w0 w := by rw [hw]; exact hB1.alloc hB1.size _
 have hzw : w.heap.size = w1.heap.size + 1 := by rw [hw]; simp
 have HF0 := hide (show ∀ k ∈ F, k < w1.heap.size from fun k hk => by have := HT.out.eng.lt k hk; have := hB1.size; omega)
 have hbx : w.heap[w1.heap.size]? = some (.cells #[.int .i64 ac, .int .i64 tg, .int .i64 lgn, .int .i64 s.b] 49 (0, 0)) := by rw [hw]; exact World.alloc_heap_new w1 _
 have HUP := hide (show ∀ r w', A3Post w t (.iface T (ptrV p)) F H (s.apply cs) r w' -> A3Post w0 t (.iface T (ptrV p)) F H (s.apply cs) r w' from fun r w' h => h.up hBw)
 replace HT := hide (HT.out.later hBw)
 have HE := hide HT.out.eng
 have HV := hide (hv0.out.later hBw)
 have hv1 := hv0.out.later hBw
 obtain ⟨va', vc', hve, _, hcs1⟩ := hv1
 cases hve
 have Hcs := hide hcs1
 have t0 : w1.cell? ⟨t, 0, none⟩ = some (.iface T (ptrV p)) := by
  have h1 : w.cell? ⟨t, 0, none⟩ = some (.iface T (ptrV p)) := by simp [World.cell?, HT.out.blk]
  rw [hw] at h1
  rwa [((Below.refl _ w1).alloc (Nat.le_refl _) _).cell (p := ⟨t, 0, none⟩) (by have := hB1.size; simp only; omega)] at h1
 have tl1 : t < w1.heap.size := by have := hB1.size; omega
 have hB0 : Below w.heap.size w (w.alloc (.cells #[.iface T (ptrV p), .slice none 0 0] 106)) := (Below.refl _ w).alloc (Nat.le_refl _) _
 have hM0 : Mad w (w.alloc (.cells #[.iface T (ptrV p), .slice none 0 0] 106)) (w1.heap.size + 1) (.iface T (ptrV p)) s.xs s.xs [] F F [w1.heap.size + 1] cs 0 := by
  rw [<- hzw]
  exact ⟨HE.out.later hB0, ⟨.slice none 0 0, [], [], World.alloc_heap_new w _, RowG.nil _ _ _, rfl, by simp, by simp [Value.ownBlock], by simp [Value.ownBlock]⟩, fun k hk hg => by simp at hg; have := HE.out.lt k hk; omega, by simp, rfl, by simp, NewF.refl _ _, by simp, Only.of_below _ hB0, by simp⟩
 rw [hw] at hM0
 have HM0 := hide hM0
 have HW := hide hw
 have HZ := hide hzw
 have HBX := hide hbx
 clear hM0 hB0 hcl hcs1 hv0 hB1 hBw hw hzw hbx
 go_wp2
 go_loopw [23] (fun sl wr => ∃ (i : Nat) (ys : List Ent) (us : List Ud) (F' G' : List Nat), i <= cs.length /\ sl = .int .i64 (i : Int) /\ Hid (Mad w wr (w1.heap.size + 1) (.iface T (ptrV p)) s.xs ys us F F' G' cs i)) (fun s _ => cs.length - (intOf s).toNat)
 case atStart => exact ⟨0, s.xs, [], F, _, Nat.zero_le _, rfl, by rw [<- HW.out] at HM0 ⊢; exact HM0⟩
 case round =>
  obtain ⟨i, ys, us, F', G', hi, rfl, HM⟩ := hrel
  by_cases hlt : i < cs.length
  ·obtain ⟨x, hx⟩ : ∃ x, cs[i]? = some x := ⟨_, List.getElem?_eq_getElem hlt⟩
   obtain ⟨A, rfl, hA, ca, cl, cn⟩ := Hcs.out i x hx
   have hdr : cs.drop i = x :: cs.drop (i + 1) := by obtain ⟨h', he⟩ := List.getElem?_eq_some_iff.1 hx; rw [List.drop_eq_getElem_cons h', he]
   have hAF : A.block ∉ F := fun h => Hva.out A _ _ rfl (by omega) (by simp [h])
   have hkb := HM.out.only.block A.block hA hAF
   have ka : wr.cell? (A.add (i * 3)) = some (.int .i64 x.a) := (World.cell?_of_block (w := w) (a := A.add (i * 3)) (by rw [addB]; exact hkb)).trans ca
   have kl : wr.cell? ⟨(A.add (i * 3)).block, (A.add (i * 3)).off + 1, none⟩ = some (.int .i64 x.l) := (World.cell?_of_block (w := w) (a := ⟨(A.add (i * 3)).block, (A.add (i * 3)).off + 1, none⟩) (by simp only [addB]; exact hkb)).trans cl
   have kn : wr.cell? ⟨(A.add (i * 3)).block, (A.add (i * 3)).off + 2, none⟩ = some (.int .i64 x.n) := (World.cell?_of_block (w := w) (a := ⟨(A.add (i * 3)).block, (A.add (i * 3)).off + 2, none⟩) (by simp only [addB]; exact hkb)).trans cn
   have j0 : (0 : Int) <= (i : Int) := by omega
   have j1 : (i : Int) < (cs.length : Int) := by omega
   have hwr : IntKind.i64.wrap ((i : Int) + 1) = (i : Int) + 1 := by rw [IntKind.wrap_i64]; omega
   have Hd := hide hdr
   obtain ⟨xa, xl, xn⟩ := x
   simp only at ka kl kn
   have hM2 := HM.out.later ((Below.refl _ wr).alloc (Nat.le_refl _) (.cells #[.int .i64 xa, .int .i64 xl, .int .i64 xn] 103))
   have HM2 := hide hM2
   have hchg := hide (change_any (w1.heap.size + 1) _ us G' ys F' xa xl xn _ hM2.bat hM2.eng hM2.dis (by have := hM2.len; omega))
   clear hx hdr ca cl cn hkb hM2
   go_wp2_with fail
   refine hchg.out.mono ?_
   rintro r w3 hpost
   obtain ⟨rfl, us2, F2, G2, (⟨h0, hM3⟩ | ⟨h0, htr, r1, r2, r3, r4, r5, r6, r7, r8⟩)⟩ := HM2.out.step (x := ⟨xa, xl, xn⟩) Hd.out hpost
   ·simp only at h0
    rw [h0]
    have next := hide (show ∃ (i' : Nat) (ys : List Ent) (us : List Ud) (F' G' : List Nat), i' <= cs.length /\ Value.int .i64 ((i : Int) + 1) = .int .i64 (i' : Int) /\ Hid (Mad w w3 (w1.heap.size + 1) (.iface T (ptrV p)) s.xs ys us F F' G' cs i') from
     ⟨i + 1, _, us2, F2, G2, by omega, by simp, hM3⟩)
    clear hM3 hpost hchg HM2
    go_wp2
    exact ⟨next.out, by show cs.length - ((i : Int) + 1).toNat < cs.length - (i : Int).toNat; omega⟩
   ·simp only at h0 htr
    have hne : (chgE ys xa xl xn != 0) = true := by simpa using h0
    have htb := hide (takeBack_any (w1.heap.size + 1) _ us2 G2 ys F2 w3 r2 r1 r3 r6 (by omega))
    have fin := hide (show ∀ w4, ((∃ F', EngF w4 (.iface T (ptrV p)) (back ys us2) F' /\ NewF w3 F2 F') /\ Only F2 w3 w4) -> A3Post w t (.iface T (ptrV p)) F H (s.apply cs) (.returned (.tuple #[.int .i64 (i : Int), .int .i64 (chgE ys xa xl xn)])) w4 from by
     rintro w4 ⟨⟨F4, q1, q2⟩, q3⟩
     rw [r5] at q1
     have hN := r7.trans q2 r8.size
     have hO := r8.trans q3 r7
     have e1 : s.apply cs = (((i : Nat) : Int), chgE ys xa xl xn, s.lays s.xs) := by rw [Hap.out, htr, if_pos h0]; rfl
     rw [e1]
     exact HT.out.mk3 q1 hN hO _ _)
    clear hpost hchg HM2 htr r1 r2 r3 r4 r5 r6 r7 r8
    generalize chgE ys xa xl xn = er at *
    go_wp2_with fail
    refine htb.out.mono ?_
    rintro _ w4 ⟨q1, q2, rfl⟩
    have fin4 := hide (HUP.out _ _ (fin.out w4 ⟨q1, q2⟩))
    clear q1 q2 htb fin
    go_wp2
    go_ret2
    exact fin4.out
  ·obtain rfl : i = cs.length := by omega
   have hM := HM.out
   have hTr := HT.out.next hM.eng hM.nF hM.only
   have b0 : wr.cell? ⟨t, 0, none⟩ = some (.iface T (ptrV p)) := by simp [World.cell?, hTr.blk]
   have b1 : wr.cell? ⟨t, 1, none⟩ = some (.int .i64 s.b) := by simp [World.cell?, hTr.blk]; rfl
   have tlr := hTr.lt
   have nbF : w1.heap.size ∉ F := fun hk => by have := HF0.out _ hk; omega
   have hbox := (hM.only.block w1.heap.size (by have := HZ.out; omega) nbF).trans HBX.out
   have y0 : wr.cell? ⟨w1.heap.size, 0, none⟩ = some (.int .i64 ac) := by simp [World.cell?, hbox]
   have y1 : wr.cell? ⟨w1.heap.size, 1, none⟩ = some (.int .i64 tg) := by simp [World.cell?, hbox]
   have y2 : wr.cell? ⟨w1.heap.size, 2, none⟩ = some (.int .i64 lgn) := by simp [World.cell?, hbox]
   have y3 : wr.cell? ⟨w1.heap.size, 3, none⟩ = some (.int .i64 s.b) := by simp [World.cell?, hbox]
   have zb := (Array.getElem?_eq_some_iff.1 hbox).1
   have htr : tryX cs s.xs 0 = (ys, cs.length, 0) := by rw [hM.try_, List.drop_length, tryX]
   have hHC := hide (show ∀ W, Below wr.heap.size wr W -> Calls Tryz.prog fc #[ptrV p] W fun r w' => Below W.heap.size W w' /\ r = .returned (.int .i64 (needK s.k ys)) from fun W hW => HC.out W ys F' (hM.eng.later hW))
   have hov := hide (show ∀ W, Below wr.heap.size wr W -> Calls Tryz.prog 53 #[ptrV t, .int .i64 ac, .int .i64 (needK s.k ys)] W fun r w' => w' = W /\ r = .returned (.bool (decide (s.b < needK s.k ys) && decide (ac < needK s.k ys))) from fun W hW => isOver_any W t s.b ac (needK s.k ys) ((hW.cell (p := ⟨t, 1, none⟩) tlr).trans b1))
   have Htr := hide htr
   clear hM hTr htr hbox
   go_wp2
   go_region_held3 (fun w' => w'.cell? ⟨t, 0, none⟩ = some (.iface T (ptrV p)) /\ w'.cell? ⟨w1.heap.size, 0, none⟩ = some (.int .i64 ac)) (go_keep)
    (first
     | (go_at_call 53; refine (hov.out _ hB2).mono ?_; rintro _ w4 ⟨rfl, rfl⟩)
     | (refine (hHC.out _ (by repeat (first | exact Below.refl _ _ | refine below_drewN ?_ _ | refine Below.drew ?_ | refine Below.trans ?_ (Below.mono (by assumption) ?_) | refine Below.alloc ?_ ?_ _ | refine Below.setCell ?_ ?_ _ | omega | (simp; omega) | simp))).mono ?_; rintro _ w2 ⟨hb2, rfl⟩; (have hB2 : Below wr.heap.size wr w2 := (Below.refl _ wr).drew.trans hb2); (have hc2 : ∀ o, w2.cell? ⟨t, o, none⟩ = wr.cell? ⟨t, o, none⟩ := fun o => hB2.cell (p := ⟨t, o, none⟩) tlr); (have hd2 : ∀ o, w2.cell? ⟨w1.heap.size, o, none⟩ = wr.cell? ⟨w1.heap.size, o, none⟩ := fun o => hB2.cell (p := ⟨w1.heap.size, o, none⟩) zb)))
   have hM := HM.out.later hB2
   by_cases hover : s.b < needK s.k ys /\ ac < needK s.k ys
   ·have hd : (decide (s.b < needK s.k ys) && decide (ac < needK s.k ys)) = true := by rw [decide_eq_true hover.1, decide_eq_true hover.2]; rfl
    rw [hd]
    have htb := hide (takeBack_any (w1.heap.size + 1) _ us G' ys F' w4 hM.bat hM.eng hM.dis hM.uok (by have := hM.len; omega))
    have fin := hide (show ∀ w5, ((∃ F4, EngF w5 (.iface T (ptrV p)) (back ys us) F4 /\ NewF w4 F' F4) /\ Only F' w4 w5) -> A3Post w t (.iface T (ptrV p)) F H (s.apply cs) (.returned (.tuple #[.int .i64 (cs.length : Int), .int .i64 6])) w5 from by
     rintro w5 ⟨⟨F4, q1, q2⟩, q3⟩
     rw [hM.bck] at q1
     have hN := hM.nF.trans q2 hM.only.size
     have hO := hM.only.trans q3 hM.nF
     have e1 : s.apply cs = (((cs.length : Nat) : Int), 6, s.lays s.xs) := by rw [Hap.out, Htr.out, if_neg (by simp), Hact.out, if_pos hover]; rfl
     rw [e1]
     exact HT.out.mk3 q1 hN hO _ _)
    clear hM HM hover hd hov hHC hb2 hB2 hc2 hd2
    go_wp2_with fail
    refine htb.out.mono ?_
    rintro _ w5 ⟨q1, q2, rfl⟩
    have fin5 := hide (HUP.out _ _ (fin.out w5 ⟨q1, q2⟩))
    clear q1 q2 htb fin
    go_wp2
    go_ret2
    exact fin5.out
   ·have hd : (decide (s.b < needK s.k ys) && decide (ac < needK s.k ys)) = false := by
     rw [Bool.and_eq_false_iff, decide_eq_false_iff_not, decide_eq_false_iff_not]; omega
    rw [hd]
    have u0 := (hd2 0).trans y0
    have u1 := (hd2 1).trans y1
    have u2 := (hd2 2).trans y2
    have u3 := (hd2 3).trans y3
    have hfo := hide (show ∀ W, Below w4.heap.size w4 W -> Calls Tryz.prog 54 #[ptrV t, .slice va cs.length vc, .int .i64 us0] W (FoPost W t (.iface T (ptrV p)) F' H ((s.lays ys).follow cs us0)) from fun W hW => by
     have hMW := hM.later hW
     have hTW := HT.out.next hMW.eng hMW.nF hMW.only
     have hfc := tryX_facts cs s.xs 0 HS.out.sorted HS.out.ok (by rw [Htr.out])
     exact follow_any W t _ (s.lays ys) pm F' H _ cs us0 hTW (HV.out.only hMW.only Hva.out (fun k hk => by simp [hk])) (Apart.new HV.out Hva.out hMW.nF) (by omega) hfc.2.2.1 (fun m hm => by have := (HS.out.mv m hm).2; have := HS.out.l16; omega))
    have fin := hide (show ∀ W w5 r, Below w4.heap.size w4 W -> FoPost W t (.iface T (ptrV p)) F' H ((s.lays ys).follow cs us0) r w5 -> A3Post w t (.iface T (ptrV p)) F H (s.apply cs) (.returned (.tuple #[.int .i64 (cs.length : Int), .int .i64 0])) w5 from fun W w5 r hW hp => by
     have hMW := hM.later hW
     have e1 : s.apply cs = (((cs.length : Nat) : Int), 0, (s.lays ys).follow cs us0) := by rw [Hap.out, Htr.out, if_neg (by simp), Hact.out, if_neg hover]
     rw [e1]
     exact hp.up hMW.nF hMW.only _ _)
    clear hM HM hover hd hov hHC hb2 hc2 hd2
    go_wp2_with fail
    refine (hiu.out _).mono ?_
    rintro _ w5 ⟨rfl, hb5⟩
    have hfo5 := hide (hfo.out w5 hb5)
    have fin5 := hide (fun w6 r => fin.out w5 w6 r hb5)
    clear hb5 hfo fin hiu
    go_wp2_with fail
    refine hfo5.out.mono ?_
    rintro r w6 hp
    have Fin := hide (HUP.out _ _ (fin5.out w6 r hp))
    obtain ⟨_, _, rfl, _⟩ := hp
    clear hfo5 fin5
    go_wp2
    go_ret2
    exact Fin.out
end Go.Proofs.YtglbamalagacgaaGreat

namespace Go.Proofs.YtglbamalagacgaaGreat
open Go.RowKit Go.Shelf
attribute [local go_sem] Oper.semAt_some
def TS.one (s : TS) (a l n : Int) : Int × TS := (s.apply [⟨a, l, n⟩]).2
def TS.add (s : TS) (a l n : Int) : Int × TS := if isPfx a l = false then (2, s) else if ¬ (1 <= n /\ n <= 255) then (3, s) else s.one a l n
theorem StPost.up {w w1 w' : World} {t : Nat} {F H : List Nat} {c : Int} {s' : TS} {r : Ending} (h : StPost w1 t F H c s' r w') (hB : Below w.heap.size w w1) : StPost w t F H c s' r w' := by
 obtain ⟨e', pm', F', H', h1, h2, h3, h4⟩ := h
 have := hB.size
 exact ⟨e', pm', F', H', h1, h2, fun k hk => (h3 k hk).imp id fun h => by omega, (Only.of_below _ hB).trans h4 (fun x hx => .inl hx)⟩
theorem addZ (A : Addr) : A.add 0 = A := by unfold Addr.add; rw [if_pos rfl]
theorem Tab3.ltA {w : World} {t : Nat} {e : Value} {s : TS} {pm : Value} {F H : List Nat} (h : Tab3 w t e s pm F H) : ∀ k ∈ t :: (F ++ H), k < w.heap.size := fun k hk => by
 simp only [List.mem_cons, List.mem_append] at hk
 rcases hk with rfl | hk | hk
 ·exact h.lt
 ·exact h.eng.lt k hk
 ·exact h.mv.lt k hk
set_option maxHeartbeats 400000 in
theorem applyOne3_any (w : World) (t : Nat) (e : Value) (s : TS) (pm : Value) (F H : List Nat) (a l n : Int) (hT : Tab3 w t e s pm F H) (hs : s.Ok) :
  Calls Tryz.prog 99 #[ptrV t, pfxV a l, .int .i64 n] w (StPost w t F H (s.one a l n).1 (s.one a l n).2) := by
 have hB : Below w.heap.size w ((w.alloc (.cells #[.int .i64 a, .int .i64 l] 65)).alloc (.cells #[.int .i64 a, .int .i64 l, .int .i64 n] 103)) := ((Below.refl _ w).alloc (Nat.le_refl _) _).alloc (by simp) _
 have hAl := hT.ltA
 have hs1 : w.heap.size + 1 = (w.alloc (.cells #[.int .i64 a, .int .i64 l] 65)).heap.size := by simp
 have hap := hide (apply3_any _ t e s pm F H (.slice (some ⟨w.heap.size + 1, 0, none⟩) 1 1) [⟨a, l, n⟩] (hT.later hB) hs
  ⟨some ⟨w.heap.size + 1, 0, none⟩, 1, rfl, by unfold maxLen; simp, fun i x hx => by
   have hi : i = 0 := by have := (List.getElem?_eq_some_iff.1 hx).1; simpa using this
   subst hi
   simp at hx
   subst hx
   refine ⟨_, rfl, by simp, ?_, ?_, ?_⟩ <;> (simp only [Nat.zero_mul, addZ]; rw [hs1]; simp)⟩
  (fun A m cap h _ hk => by
   cases h
   have := hAl _ hk
   simp only at this
   omega))
 have HB := hide hB
 clear hB hT hs1 hs
 go_enter Tryz.func99, Tryz.ntmps99
 go_wp2_with fail
 refine hap.out.mono ?_
 rintro r w2 ⟨pm', F', H', rfl, h1, h2, h3⟩
 have fin := hide (show StPost w t F H (s.one a l n).1 (s.one a l n).2 (.returned (.int .i64 (s.apply [⟨a, l, n⟩]).2.1)) w2 from
  StPost.up ⟨e, pm', F', H', rfl, h1, h2, h3⟩ HB.out)
 clear h1 h2 h3 hap
 go_wp2
 go_ret
 exact fin.out
set_option maxHeartbeats 400000 in
theorem tabDelete3_any (w : World) (t : Nat) (e : Value) (s : TS) (pm : Value) (F H : List Nat) (a l : Int) (hT : Tab3 w t e s pm F H) (hs : s.Ok) :
  Calls Tryz.prog 60 #[ptrV t, pfxV a l] w (StPost w t F H (s.one a l 0).1 (s.one a l 0).2) := by
 have hB : Below w.heap.size w (w.alloc (.cells #[.int .i64 a, .int .i64 l] 65)) := (Below.refl _ w).alloc (Nat.le_refl _) _
 have h1 := hide (applyOne3_any _ t e s pm F H a l 0 (hT.later hB) hs)
 have HB := hide hB
 generalize s.one a l 0 = R at *
 clear hB hT hs
 go_enter Tryz.func60, Tryz.ntmps60
 go_wp2_with fail
 refine h1.out.mono ?_
 rintro r w2 hp
 have fin := hide (hp.up HB.out)
 obtain ⟨_, _, _, _, rfl, _⟩ := hp
 go_wp2
 go_ret
 exact fin.out
set_option maxHeartbeats 400000 in
theorem tabAdd3_any (w : World) (t : Nat) (e : Value) (s : TS) (pm : Value) (F H : List Nat) (a l n : Int) (hT : Tab3 w t e s pm F H) (hs : s.Ok) :
  Calls Tryz.prog 59 #[ptrV t, pfxV a l, .int .i64 n] w (StPost w t F H (s.add a l n).1 (s.add a l n).2) := by
 have hB : Below w.heap.size w (w.alloc (.cells #[.int .i64 a, .int .i64 l] 65)) := (Below.refl _ w).alloc (Nat.le_refl _) _
 have HB := hide hB
 have HT := hide hT
 by_cases h1 : isPfx a l = false
 ·have e1 : s.add a l n = (2, s) := by unfold TS.add; rw [if_pos h1]
  rw [e1]
  clear hB hT e1
  go_enter Tryz.func59, Tryz.ntmps59
  go_wp2_with fail
  refine (valid_no a l _ h1).mono ?_
  rintro _ w2 ⟨rfl, hb2⟩
  have fin := hide (StPost.same HT.out (HB.out.trans (hb2.mono HB.out.size)) 2)
  clear hb2
  go_wp2
  go_ret
  exact fin.out
 have hp : isPfx a l = true := by simpa using h1
 by_cases h2 : 1 <= n /\ n <= 255
 ·have e1 : s.add a l n = s.one a l n := by unfold TS.add; rw [if_neg h1, if_neg (fun h => h h2)]
  rw [e1]
  clear h1 e1
  have HO := hide (fun W (hW : Below w.heap.size w W) => applyOne3_any W t e s pm F H a l n (hT.later hW) hs)
  generalize s.one a l n = R at *
  clear hB hT hs
  go_enter Tryz.func59, Tryz.ntmps59
  go_wp2_with fail
  refine (valid_yes a l _ hp).mono ?_
  rintro _ w2 ⟨rfl, hb2⟩
  have hBw := HB.out.trans (hb2.mono HB.out.size)
  have HBw := hide hBw
  have p0 : w2.cell? ⟨w.heap.size, 0, none⟩ = some (.int .i64 a) := (hb2.cell (p := ⟨w.heap.size, 0, none⟩) (by simp)).trans (by simp)
  have p1 : w2.cell? ⟨w.heap.size, 1, none⟩ = some (.int .i64 l) := (hb2.cell (p := ⟨w.heap.size, 1, none⟩) (by simp)).trans (by simp)
  have hone := hide (HO.out w2 hBw)
  clear hb2 hBw HO
  go_wp2_with fail
  refine (isNext_yes n _ h2).mono ?_
  rintro _ w2 ⟨rfl, rfl⟩
  go_wp2_with fail
  refine hone.out.mono ?_
  rintro r w3 hq
  have fin := hide (hq.up HBw.out)
  obtain ⟨_, _, _, _, rfl, _⟩ := hq
  go_wp2
  go_ret
  exact fin.out
 ·have e1 : s.add a l n = (3, s) := by unfold TS.add; rw [if_neg h1, if_pos h2]
  rw [e1]
  clear hB hT h1 e1
  go_enter Tryz.func59, Tryz.ntmps59
  go_wp2_with fail
  refine (valid_yes a l _ hp).mono ?_
  rintro _ w2 ⟨rfl, hb2⟩
  have fin := hide (StPost.same HT.out (HB.out.trans (hb2.mono HB.out.size)) 3)
  clear hb2
  go_wp2_with fail
  refine (isNext_no n _ h2).mono ?_
  rintro _ w2 ⟨rfl, rfl⟩
  go_wp2
  go_ret
  exact fin.out
end Go.Proofs.YtglbamalagacgaaGreat

namespace Go.Proofs.YtglbamalagacgaaGreat
open Go.RowKit Go.Shelf
def tab3 : TabC where
 S := TS
 T w t s A := s.Ok /\ ∃ e pm F H, Tab3 w t e s pm F H /\ A = t :: (F ++ H)
 xs s := s.xs
 bud s := s.b
 act s := s.act
 tgt s := tgtM s.mv
 lgd s := lgdM s.mv
 log s := (s.lim, s.ch)
 cnt _ := 0
 lt := by
  rintro w t s A ⟨_, e, pm, F, H, h, rfl⟩
  exact h.ltA
 kept := by
  rintro w w' t s A ⟨hs, e, pm, F, H, h, rfl⟩ hk
  exact ⟨hs, e, pm, F, H, h.kept (hk t (by simp)) (fun k hk' => hk k (by simp [hk'])) (fun k hk' => hk k (by simp [hk'])), rfl⟩
 sorted := fun h => h.1.sorted
 ok := fun h => h.1.ok
 nums := by
  rintro w t s A ⟨hs, _⟩
  have := hs.use_nn
  have := hs.l16
  have := hs.b1
  have := hs.b4
  simp only
  omega
theorem apply_ch (s : TS) (cs : List Chg) : (s.apply cs).2.2.ch = s.ch := by
 unfold TS.apply
 split
 ·rfl
 split
 ·rfl
 split
 ·rfl
 ·exact (follow_same _ _ _).2.2.1
theorem one_ok {s : TS} (h : s.Ok) (a l n : Int) : (s.one a l n).2.Ok /\ fitsT s (s.one a l n).2 /\ (s.one a l n).2.b = s.b /\ ((s.one a l n).2.lim = s.lim /\ (s.one a l n).2.ch = s.ch) :=
 ⟨apply_ok h _, (apply_fits h _).1, (apply_fits h _).2.1, (apply_fits h _).2.2, apply_ch s _⟩
theorem setb_ok {s : TS} (hs : s.Ok) {n : Int} (h1 : 1 <= n) (h4 : n <= 400) : TS.Ok { s with b := n } :=
 ⟨hs.sorted, hs.ok, hs.k1, hs.k3, h1, h4, hs.ch1, hs.ch8, hs.l1, hs.l16, fun m hm => by
  obtain ⟨q, ql⟩ := hs.mv m hm
  exact ⟨⟨q.k1, q.k3, q.kne, q.sorted, q.ok, q.ph, q.cp0, q.cp1, q.c0, q.cur, q.nodup, q.pfx, q.eq, q.no⟩, ql⟩⟩
end Go.Proofs.YtglbamalagacgaaGreat

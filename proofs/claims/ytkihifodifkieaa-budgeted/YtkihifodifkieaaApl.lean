import Derived.Test.YtkihifodifkieaaCha
import Derived.Test.YtkihifodifkieaaCel
namespace Go.Proofs.Ytkihifodifkieaa
open Go.RowKit Go.Shelf

attribute [local go_sem] Oper.semAt_some

-- THE TABLE of stage 2
structure TabF (w : World) (t : Nat) (e : Value) (b : Int) (xs : List Ent) (F : List Nat) : Prop where
  blk : w.heap[t]? = some (.cells #[e, .int .i64 b] 49 (0, 0))
  eng : EngF w e xs F
  nt : t ∉ F
theorem TabF.kept {w w' : World} {t : Nat} {e : Value} {b : Int} {xs : List Ent} {F : List Nat} (h : TabF w t e b xs F) (h1 : w'.heap[t]? = w.heap[t]?) (h2 : ∀ k ∈ F, w'.heap[k]? = w.heap[k]?) : TabF w' t e b xs F :=
  ⟨h1.trans h.blk, h.eng.kept h2, h.nt⟩
theorem TabF.later0 {w w' : World} {t : Nat} {e : Value} {b : Int} {xs : List Ent} {F : List Nat} (h : TabF w t e b xs F) (hB : Below w.heap.size w w') : TabF w' t e b xs F := h.kept (hB.block _ (Array.getElem?_eq_some_iff.1 h.blk).1) fun k hk => hB.block k (h.eng.lt k hk)
theorem TabF.lt {w : World} {t : Nat} {e : Value} {b : Int} {xs : List Ent} {F : List Nat} (h : TabF w t e b xs F) : t < w.heap.size := (Array.getElem?_eq_some_iff.1 h.blk).1

set_option maxHeartbeats 400000 in
theorem isOver_any (w : World) (t : Nat) (b p q : Int) (h : w.cell? ⟨t, 1, none⟩ = some (.int .i64 b)) :
    Calls Try.prog 34 #[ptrV t, .int .i64 p, .int .i64 q] w fun r w' => w' = w ∧ r = .returned (.bool (decide (b < q) && decide (p < q))) := by
  by_cases h1 : b < q
  · go_enter Try.func34, Try.ntmps34
    go_wp2
    go_ret
    exact ⟨rfl, ret_bool (by simp [h1])⟩
  · have h2 : decide (b < q) = false := decide_eq_false h1
    go_enter Try.func34, Try.ntmps34
    go_wp2
    go_ret
    exact ⟨rfl, ret_bool (by simp)⟩

-- between two changes of a batch
structure Mad (w wr : World) (bt : Nat) (e : Value) (xs ys : List Ent) (us : List Ud) (F F' G' : List Nat) (cs : List Chg) (i : Nat) : Prop where
  eng : EngF wr e ys F'
  bat : BatchF wr bt e us G'
  dis : Disj F' G'
  len : us.length ≤ i
  bck : back ys us = xs
  uok : ∀ u ∈ us, UdOk u
  nF : NewF w F F'
  nG : ∀ k ∈ G', w.heap.size ≤ k
  only : Only F w wr
  try_ : tryX cs xs 0 = tryX (cs.drop i) ys i
theorem Mad.later {w wr w2 : World} {bt : Nat} {e : Value} {xs ys : List Ent} {us : List Ud} {F F' G' : List Nat} {cs : List Chg} {i : Nat} (h : Mad w wr bt e xs ys us F F' G' cs i) (hB : Below wr.heap.size wr w2) : Mad w w2 bt e xs ys us F F' G' cs i :=
  ⟨h.eng.later hB, h.bat.later hB, h.dis, h.len, h.bck, h.uok, h.nF, h.nG, h.only.trans (Only.of_below [] hB) (by simp), h.try_⟩

theorem Mad.step {w w2 w3 : World} {bt : Nat} {e : Value} {xs ys : List Ent} {us : List Ud} {F F' G' : List Nat} {cs : List Chg} {i : Nat} {x : Chg} {r : Ending} (h : Mad w w2 bt e xs ys us F F' G' cs i) (hd : cs.drop i = x :: cs.drop (i + 1)) (hp : ChgPost bt e us G' ys F' x.a x.l x.n w2 r w3) :
    r = .returned (.int .i64 (chgE ys x.a x.l x.n)) ∧ ∃ us' F'' G'', (chgE ys x.a x.l x.n = 0 ∧ Mad w w3 bt e xs (setE ys x.a x.l x.n) us' F F'' G'' cs (i + 1)) ∨
      (chgE ys x.a x.l x.n ≠ 0 ∧ tryX cs xs 0 = (ys, i, chgE ys x.a x.l x.n) ∧ EngF w3 e ys F'' ∧ BatchF w3 bt e us' G'' ∧ Disj F'' G'' ∧ us'.length ≤ i + 1 ∧ back ys us' = xs ∧ (∀ u ∈ us', UdOk u) ∧ NewF w F F'' ∧ Only F w w3) := by
  obtain ⟨hr, F'', G'', us', q1, q2, q3, q4, q5, q6, q7, q8, q9⟩ := hp
  have hs := h.only.size
  have hN : NewF w F F'' := h.nF.trans q3 hs
  have hO : Only F w w3 := h.only.trans q6 fun k hk => by
    rcases List.mem_append.1 hk with hk | hk
    · exact h.nF k hk
    · exact .inr (h.nG k hk)
  have hl : us'.length ≤ i + 1 := by have := h.len; omega
  refine ⟨hr, us', F'', G'', ?_⟩
  have htr := h.try_
  rw [hd, tryX_cons] at htr
  have hb := q8 xs h.bck
  by_cases h0 : chgE ys x.a x.l x.n = 0
  · rw [if_pos h0] at q1 hb htr
    exact .inl ⟨h0, q1, q2, q5, hl, hb, q9 h.uok, hN, fun k hk => (q4 k hk).elim (h.nG k) (fun h => by omega), hO, htr⟩
  · rw [if_neg h0] at q1 hb htr
    exact .inr ⟨h0, htr, q1, q2, q5, hl, hb, q9 h.uok, hN, hO⟩
theorem TabF.next {w w' : World} {t : Nat} {e : Value} {b : Int} {xs zs : List Ent} {F F' : List Nat} (h : TabF w t e b xs F) (hE : EngF w' e zs F') (hN : NewF w F F') (hO : Only F w w') : TabF w' t e b zs F' :=
  ⟨(hO.block t h.lt h.nt).trans h.blk, hE, fun hk => (hN t hk).elim h.nt (fun h1 => by have := h.lt; omega)⟩

def ApPost (w : World) (t : Nat) (e : Value) (b : Int) (xs : List Ent) (F : List Nat) (cs : List Chg) (r : Ending) (w' : World) : Prop :=
  ∃ n er ys F', r = .returned (.tuple #[.int .i64 n, .int .i64 er]) ∧ TabF w' t e b ys F' ∧ NewF w F F' ∧ Only F w w' ∧
    ((16 < cs.length ∧ n = 0 ∧ er = 12 ∧ ys = xs) ∨ (cs.length ≤ 16 ∧ (tryX cs xs 0).2.2 ≠ 0 ∧ n = ((tryX cs xs 0).2.1 : Nat) ∧ er = (tryX cs xs 0).2.2 ∧ ys = xs) ∨
      (cs.length ≤ 16 ∧ (tryX cs xs 0).2.2 = 0 ∧ n = (cs.length : Nat) ∧ er = 6 ∧ ys = xs ∧ needK (kindE e) xs < needK (kindE e) (tryX cs xs 0).1) ∨
      (cs.length ≤ 16 ∧ (tryX cs xs 0).2.2 = 0 ∧ n = (cs.length : Nat) ∧ er = 0 ∧ ys = (tryX cs xs 0).1 ∧ (needK (kindE e) ys ≤ needK (kindE e) xs ∨ needK (kindE e) ys ≤ b)))

theorem ApPost.up {w w1 : World} {t : Nat} {e : Value} {b : Int} {xs : List Ent} {F : List Nat} {cs : List Chg} {r : Ending} {w' : World} (hB : Below w.heap.size w w1) (h : ApPost w1 t e b xs F cs r w') : ApPost w t e b xs F cs r w' := by
  obtain ⟨n, er, ys, F', h1, h2, h3, h4, h5⟩ := h
  exact ⟨n, er, ys, F', h1, h2, fun k hk => (h3 k hk).imp id (fun h => by have := hB.size; omega), (Only.of_below F hB).trans h4 (fun x hx => .inl hx), h5⟩

set_option maxHeartbeats 2000000 in
theorem apply_any (w : World) (t : Nat) (e : Value) (b : Int) (xs : List Ent) (F : List Nat) (v : Value) (cs : List Chg) (hT : TabF w t e b xs F) (hv : ChgsAt w v cs) (hva : Apart v (t :: F)) :
    Calls Try.prog 23 #[ptrV t, v] w (ApPost w t e b xs F cs) := by
  have hv0 := hide hv
  obtain ⟨va, vc, rfl, hml, hcs⟩ := hv
  have Hcs := hide hcs
  have HT := hide hT
  have Hva := hide hva
  unfold maxLen at hml
  clear hcs hva
  by_cases h16 : 16 < cs.length
  · have fin := hide (show ApPost w t e b xs F cs (.returned (.tuple #[.int .i64 0, .int .i64 12])) w from ⟨0, 12, xs, F, rfl, hT, NewF.refl _ _, Only.refl _ _, .inl ⟨h16, rfl, rfl, rfl⟩⟩)
    have h16' : (16 : Int) < (cs.length : Int) := by omega
    go_enter Try.func23, Try.ntmps23
    go_wp2
    go_ret2
    exact fin.out
  have h16' : ¬ (16 : Int) < (cs.length : Int) := by omega
  have t0 : w.cell? ⟨t, 0, none⟩ = some e := by simp [World.cell?, hT.blk]
  have tl := hT.lt
  have hE := hT.eng
  obtain ⟨T, p, fl, ft, fc, D⟩ := hE.disp
  have mc := D.mc.m
  have cc := D.mc.c
  have eq := D.eq
  have HC := hide D.cells
  have hcl := hide (D.cells w xs F hE)
  have Hnb := hide (fun (ys : List Ent) (h1 : Sorted ys) (h2 : ∀ x ∈ ys, okE x) => needK_bd (k := kindE e) h1 h2)
  clear hT hE D
  subst eq
  obtain ⟨kk, hkk⟩ : ∃ kk, kindE (.iface T (ptrV p)) = kk := ⟨_, rfl⟩
  rw [hkk] at HC hcl
  have HKK := hide hkk
  clear hkk Hnb
  obtain ⟨w0, hw0⟩ : ∃ w0 : World, w0 = w := ⟨w, rfl⟩
  have HUP := hide (show ∀ W r w', Below w.heap.size w W → ApPost W t (.iface T (ptrV p)) b xs F cs r w' → ApPost w0 t (.iface T (ptrV p)) b xs F cs r w' from fun W r w' hB h => by rw [hw0]; exact h.up hB)
  suffices hs : Calls Try.prog 23 #[ptrV t, .slice va cs.length vc] w (ApPost w0 t (.iface T (ptrV p)) b xs F cs) by rw [hw0] at hs; exact hs
  clear hw0
  go_enter Try.func23, Try.ntmps23
  go_wp2_with fail
  refine hcl.out.mono ?_
  rintro _ w ⟨hB1, rfl⟩
  replace HUP := hide (fun r w' h => HUP.out w r w' hB1 h)
  replace HT := hide (HT.out.later0 hB1)
  have HE := hide HT.out.eng
  have hv1 := hv0.out.later hB1
  obtain ⟨va', vc', hve, _, hcs1⟩ := hv1
  cases hve
  replace Hcs := hide hcs1
  clear hcs1 hv0 hB1 t0 tl
  have t0 : w.cell? ⟨t, 0, none⟩ = some (.iface T (ptrV p)) := by simp [World.cell?, HT.out.blk]
  have tl := HT.out.lt
  have hB0 : Below w.heap.size w (w.alloc (.cells #[.iface T (ptrV p), .slice none 0 0] 75)) := (Below.refl _ w).alloc (Nat.le_refl _) _
  have hM0 : Mad w (w.alloc (.cells #[.iface T (ptrV p), .slice none 0 0] 75)) w.heap.size (.iface T (ptrV p)) xs xs [] F F [w.heap.size] cs 0 :=
    ⟨HE.out.later hB0, ⟨.slice none 0 0, [], [], World.alloc_heap_new w _, RowG.nil _ _ _, rfl, by simp, by simp [Value.ownBlock], by simp [Value.ownBlock]⟩, fun k hk hg => by simp at hg; have := HE.out.lt k hk; omega, by simp, rfl, by simp, NewF.refl _ _, by simp, Only.of_below _ hB0, by simp⟩
  have HM0 := hide hM0
  clear hM0 hB0 hcl
  go_wp2
  go_loopw [26] (fun sl wr => ∃ (i : Nat) (ys : List Ent) (us : List Ud) (F' G' : List Nat), i ≤ cs.length ∧ sl = .int .i64 (i : Int) ∧ Hid (Mad w wr w.heap.size (.iface T (ptrV p)) xs ys us F F' G' cs i)) (fun s _ => cs.length - (intOf s).toNat)
  case atStart => exact ⟨0, xs, [], F, _, Nat.zero_le _, rfl, HM0⟩
  case round =>
    obtain ⟨i, ys, us, F', G', hi, rfl, HM⟩ := hrel
    by_cases hlt : i < cs.length
    · obtain ⟨x, hx⟩ : ∃ x, cs[i]? = some x := ⟨_, List.getElem?_eq_getElem hlt⟩
      obtain ⟨A, rfl, hA, ca, cl, cn⟩ := Hcs.out i x hx
      have hdr : cs.drop i = x :: cs.drop (i + 1) := by obtain ⟨h', he⟩ := List.getElem?_eq_some_iff.1 hx; rw [List.drop_eq_getElem_cons h', he]
      have hAF : A.block ∉ F := fun h => Hva.out A _ _ rfl (by omega) (by simp [h])
      have hkp : ∀ o, wr.cell? ⟨A.block, o, none⟩ = w.cell? ⟨A.block, o, none⟩ := fun o => HM.out.only.cell hA hAF
      have hkb := HM.out.only.block A.block hA hAF
      have ka : wr.cell? (A.add (i * 3)) = some (.int .i64 x.a) := (World.cell?_of_block (w := w) (a := A.add (i * 3)) (by rw [addB]; exact hkb)).trans ca
      have kl : wr.cell? ⟨(A.add (i * 3)).block, (A.add (i * 3)).off + 1, none⟩ = some (.int .i64 x.l) := (World.cell?_of_block (w := w) (a := ⟨(A.add (i * 3)).block, (A.add (i * 3)).off + 1, none⟩) (by simp only [addB]; exact hkb)).trans cl
      have kn : wr.cell? ⟨(A.add (i * 3)).block, (A.add (i * 3)).off + 2, none⟩ = some (.int .i64 x.n) := (World.cell?_of_block (w := w) (a := ⟨(A.add (i * 3)).block, (A.add (i * 3)).off + 2, none⟩) (by simp only [addB]; exact hkb)).trans cn
      have j0 : (0 : Int) ≤ (i : Int) := by omega
      have j1 : (i : Int) < (cs.length : Int) := by omega
      have hwr : IntKind.i64.wrap ((i : Int) + 1) = (i : Int) + 1 := by rw [IntKind.wrap_i64]; omega
      have Hd := hide hdr
      obtain ⟨xa, xl, xn⟩ := x
      simp only at ka kl kn
      have hM2 := HM.out.later ((Below.refl _ wr).alloc (Nat.le_refl _) (.cells #[.int .i64 xa, .int .i64 xl, .int .i64 xn] 72))
      have HM2 := hide hM2
      have hchg := hide (change_any w.heap.size _ us G' ys F' xa xl xn _ hM2.bat hM2.eng hM2.dis (by have := hM2.len; omega))
      clear hx hdr ca cl cn hkp hkb hM2
      go_wp2_with fail
      refine hchg.out.mono ?_
      rintro r w3 hpost
      obtain ⟨rfl, us2, F2, G2, (⟨h0, hM3⟩ | ⟨h0, htr, r1, r2, r3, r4, r5, r6, r7, r8⟩)⟩ := HM2.out.step (x := ⟨xa, xl, xn⟩) Hd.out hpost
      · simp only at h0
        rw [h0]
        have next := hide (show ∃ (i' : Nat) (ys : List Ent) (us : List Ud) (F' G' : List Nat), i' ≤ cs.length ∧ Value.int .i64 ((i : Int) + 1) = .int .i64 (i' : Int) ∧ Hid (Mad w w3 w.heap.size (.iface T (ptrV p)) xs ys us F F' G' cs i') from
          ⟨i + 1, _, us2, F2, G2, by omega, by simp, hM3⟩)
        clear hM3 hpost hchg HM2
        go_wp2
        exact ⟨next.out, by show cs.length - ((i : Int) + 1).toNat < cs.length - (i : Int).toNat; omega⟩
      · simp only at h0 htr
        have hne : (chgE ys xa xl xn != 0) = true := by simpa using h0
        have htb := hide (takeBack_any w.heap.size _ us2 G2 ys F2 w3 r2 r1 r3 r6 (by omega))
        have fin := hide (show ∀ w4, ((∃ F', EngF w4 (.iface T (ptrV p)) (back ys us2) F' ∧ NewF w3 F2 F') ∧ Only F2 w3 w4) → ApPost w t (.iface T (ptrV p)) b xs F cs (.returned (.tuple #[.int .i64 (i : Int), .int .i64 (chgE ys xa xl xn)])) w4 from by
          rintro w4 ⟨⟨F4, q1, q2⟩, q3⟩
          rw [r5] at q1
          have hN := r7.trans q2 r8.size
          have hO := r8.trans q3 r7
          refine ⟨_, _, xs, F4, rfl, HT.out.next q1 hN hO, hN, hO, .inr (.inl ⟨by omega, ?_, ?_, ?_, rfl⟩)⟩
          · rw [htr]; exact h0
          · rw [htr]
          · rw [htr])
        clear hpost hchg HM2 htr r1 r2 r3 r4 r5 r6 r7 r8
        generalize chgE ys xa xl xn = er at *
        go_wp2_with fail
        refine htb.out.mono ?_
        rintro _ w4 ⟨q1, q2, rfl⟩
        have fin4 := hide (HUP.out _ _ (fin.out w4 ⟨q1, q2⟩))
        clear q1 q2 htb fin
        go_wp2
        go_ret2
        exact fin4.out
    · obtain rfl : i = cs.length := by omega
      have hT2a := HT.out.next HM.out.eng HM.out.nF HM.out.only
      have b0a : wr.cell? ⟨t, 0, none⟩ = some (.iface T (ptrV p)) := by simp [World.cell?, hT2a.blk]
      have tl2a := hT2a.lt
      have Hcl := hide (HC.out wr ys F' HM.out.eng)
      clear hT2a
      go_wp2_with fail
      refine Hcl.out.mono ?_
      rintro _ wr2 ⟨hBc, rfl⟩
      replace HM := hide (HM.out.later hBc)
      clear hBc Hcl b0a tl2a
      have hM := HM.out
      have htr : tryX cs xs 0 = (ys, cs.length, 0) := by rw [hM.try_, List.drop_length, tryX]
      have hT2 := HT.out.next hM.eng hM.nF hM.only
      have b0 : wr2.cell? ⟨t, 0, none⟩ = some (.iface T (ptrV p)) := by simp [World.cell?, hT2.blk]
      have b1 : wr2.cell? ⟨t, 1, none⟩ = some (.int .i64 b) := by simp [World.cell?, hT2.blk]
      have tl2 := hT2.lt
      have hov := hide (isOver_any wr2 t b (needK kk xs) (needK kk ys) b1)
      by_cases hover : b < needK kk ys ∧ needK kk xs < needK kk ys
      · have hb2 : (decide (b < needK kk ys) && decide (needK kk xs < needK kk ys)) = true := by simp [hover.1, hover.2]
        rw [hb2] at hov
        have htb := hide (takeBack_any w.heap.size _ us G' ys F' wr2 hM.bat hM.eng hM.dis hM.uok (by have := hM.len; omega))
        have fin := hide (show ∀ w4, ((∃ F4, EngF w4 (.iface T (ptrV p)) (back ys us) F4 ∧ NewF wr2 F' F4) ∧ Only F' wr2 w4) → ApPost w t (.iface T (ptrV p)) b xs F cs (.returned (.tuple #[.int .i64 (cs.length : Int), .int .i64 6])) w4 from by
          rintro w4 ⟨⟨F4, q1, q2⟩, q3⟩
          rw [hM.bck] at q1
          have hN := hM.nF.trans q2 hM.only.size
          have hO := hM.only.trans q3 hM.nF
          refine ⟨_, _, xs, F4, rfl, HT.out.next q1 hN hO, hN, hO, .inr (.inr (.inl ⟨by omega, ?_, rfl, rfl, rfl, ?_⟩))⟩
          · rw [htr]
          · rw [htr]; exact HKK.out ▸ hover.2)
        clear hM hT2 HM hover hb2
        go_wp2_with fail
        refine hov.out.mono ?_
        rintro _ wr ⟨rfl, rfl⟩
        go_wp2_with fail
        refine htb.out.mono ?_
        rintro _ w4 ⟨q1, q2, rfl⟩
        have fin4 := hide (HUP.out _ _ (fin.out w4 ⟨q1, q2⟩))
        clear q1 q2 htb fin
        go_wp2
        go_ret2
        exact fin4.out
      · have hb2 : (decide (b < needK kk ys) && decide (needK kk xs < needK kk ys)) = false := by
          rw [Bool.and_eq_false_iff, decide_eq_false_iff_not, decide_eq_false_iff_not]; omega
        rw [hb2] at hov
        have fin := hide (show ApPost w t (.iface T (ptrV p)) b xs F cs (.returned (.tuple #[.int .i64 (cs.length : Int), .int .i64 0])) wr2 from by
          refine ⟨_, _, ys, F', rfl, hT2, hM.nF, hM.only, .inr (.inr (.inr ⟨by omega, ?_, rfl, rfl, ?_, ?_⟩))⟩
          · rw [htr]
          · rw [htr]
          · rw [HKK.out]; omega)
        clear hM hT2 HM hover hb2
        go_wp2_with fail
        refine hov.out.mono ?_
        rintro _ wr ⟨rfl, rfl⟩
        have fin4 := hide (HUP.out _ _ fin.out)
        clear fin
        go_wp2
        go_ret2
        exact fin4.out

end Go.Proofs.Ytkihifodifkieaa

import Derived.Test.YtglbamalagacgaaGreatW1
namespace Go.Proofs.YtglbamalagacgaaGreat
open Go.RowKit Go.Shelf
attribute [local go_sem] Oper.semAt_some
set_option maxRecDepth 8000 in
set_option maxHeartbeats 4000000 in
theorem keep_any (w : World) (wb : Nat) (vs : Value) (no ni : Nat) (F : List Nat) (l : Value) (n : Nat) (cs : List Value) (hW : Wd w wb vs no ni F) (hl : RowG 90 3 w l n cs) (hn : n <= 32) (hf : ∀ g, l.ownBlock = some g -> g ∉ F) (hb : no <= 8999999999990) :
  Calls Tryz.prog 117 #[ptrV wb, l] w fun r w' => r = .returned (.tuple #[]) /\ ∃ F', Wd w' wb vs (no + 4) ni F' /\ NewF w (F ++ l.ownBlock.toList) F' /\ Only (F ++ l.ownBlock.toList) w w' := by
 obtain ⟨vo, vm, vi, vt, os, ms, is, ts, last, h, rfl, hms, hil, htl⟩ := hW
 have hmk := hide (mark_any h)
 obtain ⟨m, hm⟩ : ∃ m, wrap64 (last - 1) = m := ⟨_, rfl⟩
 have h1 := h.marked (wrap64 (last - 1))
 rw [hm] at hmk h1
 have hwl := h.wlt
 have hlw : l.ownBlock ≠ some wb := fun e => hf wb e h.fb
 have hO1 : Only F w (w.setCell ⟨wb, 5, none⟩ (.int .i64 m)) := ⟨rfl, rfl, rfl, by simp [World.setCell], fun k _ hn => Below.heap_setCell _ _ _ _ (by show k ≠ wb; exact fun e => hn (by rw [e]; exact h.fb))⟩
 have hl1 : RowG 90 3 (w.setCell ⟨wb, 5, none⟩ (.int .i64 m)) l n cs := hl.kept fun g hg => Below.heap_setCell _ _ _ _ (by show g ≠ wb; exact fun e => hlw (by rw [hg, e]))
 obtain ⟨w1, hw1⟩ : ∃ w1, w.setCell ⟨wb, 5, none⟩ (.int .i64 m) = w1 := ⟨_, rfl⟩
 have hz1 : w1.heap.size = w.heap.size := by rw [<- hw1]; simp [World.setCell]
 have hll := hl.lt
 rw [hw1] at hmk h1 hO1 hl1
 obtain ⟨la, lc, hlv⟩ := hl.shape
 have HF := hide hf
 have H1 := hide h1
 have HO1 := hide hO1
 have HL1 := hide hl1
 have HLL := hide hll
 clear h hl hf h1 hO1 hl1 hlw hm hll
 subst hlv
 go_enter Tryz.func117, Tryz.ntmps117
 go_wp2_with fail
 refine hmk.out.mono ?_
 rintro _ w1x ⟨rfl, e⟩
 obtain rfl : w1 = w1x := e.symm
 clear hmk
 have hB2 : Below w1.heap.size w1 (w1.alloc (.cells #[.int .i64 m, .int .i64 m, .int .i64 m] 90)) := (Below.refl _ w1).alloc (Nat.le_refl _) _
 have HR2 := hide (HL1.out.kept (w' := w1.alloc (.cells #[.int .i64 m, .int .i64 m, .int .i64 m] 90)) fun g hg => hB2.block g (HL1.out.lt g hg))
 have HB2 := hide hB2
 have hrb : (w1.alloc (.cells #[.int .i64 m, .int .i64 m, .int .i64 m] 90)).heap[w1.heap.size]? = some (.cells #[.int .i64 m, .int .i64 m, .int .i64 m] 90 (0, 0)) := World.alloc_heap_new w1 _
 have HRB := hide hrb
 have hz2 : (w1.alloc (.cells #[.int .i64 m, .int .i64 m, .int .i64 m] 90)).heap.size = w1.heap.size + 1 := by simp
 clear hB2 hrb
 obtain ⟨w2, hw2⟩ : ∃ w2, w1.alloc (.cells #[.int .i64 m, .int .i64 m, .int .i64 m] 90) = w2 := ⟨_, rfl⟩
 rw [hw2] at HR2 HB2 HRB hz2
 rw [hz1] at HRB hz2
 go_wp2
 go_loopw [6] (fun s6 wr => ∃ (i : Nat) (ys : List Value), i <= n /\ s6 = .int .i64 (i : Int) /\ Hid (RowG 90 3 wr (.slice la n lc) n ys /\ ∀ j, j < i * 3 -> ys[j]? = some (.int .i64 m)) /\ Hid (Only (Value.slice la n lc).ownBlock.toList w2 wr)) (fun s6 _ => n - (intOf s6).toNat)
 case atStart => exact ⟨0, cs, by omega, rfl, hide ⟨HR2.out, fun j hj => by omega⟩, hide (Only.refl _ _)⟩
 case round =>
  obtain ⟨i, ys, hi, rfl, HY, HO⟩ := hrel
  by_cases hlt : i < n
  ·obtain ⟨g, hla, hgl⟩ : ∃ g, la = some ⟨g, 0, none⟩ /\ g < w1.heap.size := by
    rcases HL1.out.2 with ⟨h0, h00⟩ | ⟨g, cap, sp, h0, hg, _⟩
    ·omega
    ·cases h0; exact ⟨g, rfl, (Array.getElem?_eq_some_iff.1 hg).1⟩
   subst hla
   have hgw : g < w.heap.size := by omega
   have hgz : g < wr.heap.size := by have := HO.out.size; omega
   have hrb := (HO.out.block w.heap.size (by omega) (by simp [Value.ownBlock]; omega)).trans HRB.out
   have c0 : wr.cell? ⟨w.heap.size, 0, none⟩ = some (.int .i64 m) := by simp [World.cell?, hrb]
   have c1 : wr.cell? ⟨w.heap.size, 1, none⟩ = some (.int .i64 m) := by simp [World.cell?, hrb]
   have c2 : wr.cell? ⟨w.heap.size, 2, none⟩ = some (.int .i64 m) := by simp [World.cell?, hrb]
   have zb : w.heap.size < wr.heap.size := by have := HO.out.size; omega
   have hyl : ys.length = n * 3 := HY.out.1.1
   have i0 : (0 : Int) <= (i : Int) := by omega
   have i1 : (i : Int) < (n : Int) := by omega
   have hwi : IntKind.i64.wrap ((i : Int) + 1) = (i : Int) + 1 := by rw [IntKind.wrap_i64]; omega
   obtain ⟨yc, hyc⟩ := HY.out.1.ty g rfl
   have gf : ∀ o, wr.frozen? ⟨g, o, none⟩ = false := fun o => by simp [World.frozen?, hyc]
   have k0 : ∃ u, wr.cell? ⟨g, i * 3, none⟩ = some u := ⟨_, HY.out.1.cell (List.getElem?_eq_getElem (by omega))⟩
   have k1 : ∃ u, wr.cell? ⟨g, i * 3 + 1, none⟩ = some u := ⟨_, HY.out.1.cell (List.getElem?_eq_getElem (by omega))⟩
   have k2 : ∃ u, wr.cell? ⟨g, i * 3 + 2, none⟩ = some u := ⟨_, HY.out.1.cell (List.getElem?_eq_getElem (by omega))⟩
   obtain ⟨u0, k0⟩ := k0
   obtain ⟨u1, k1⟩ := k1
   obtain ⟨u2, k2⟩ := k2
   have nx := hide (show ∃ (i' : Nat) (ys' : List Value), i' <= n /\ Value.int .i64 ((i : Int) + 1) = .int .i64 (i' : Int) /\ Hid (RowG 90 3 (((wr.setCell ⟨g, i * 3, none⟩ (.int .i64 m)).setCell ⟨g, i * 3 + 1, none⟩ (.int .i64 m)).setCell ⟨g, i * 3 + 2, none⟩ (.int .i64 m)) (.slice (some ⟨g, 0, none⟩) n lc) n ys' /\ ∀ j, j < i' * 3 -> ys'[j]? = some (.int .i64 m)) /\ Hid (Only (Value.slice (some ⟨g, 0, none⟩) n lc).ownBlock.toList w2 (((wr.setCell ⟨g, i * 3, none⟩ (.int .i64 m)).setCell ⟨g, i * 3 + 1, none⟩ (.int .i64 m)).setCell ⟨g, i * 3 + 2, none⟩ (.int .i64 m))) from by
    refine ⟨i + 1, _, by omega, by simp, hide ⟨((HY.out.1.set1 (j := i * 3) (by omega) (.int .i64 m)).set1 (j := i * 3 + 1) (by simp; omega) (.int .i64 m)).set1 (j := i * 3 + 2) (by simp; omega) (.int .i64 m), fun j hj => ?_⟩, hide ?_⟩
    ·rw [List.getElem?_set, List.getElem?_set, List.getElem?_set]
     simp only [List.length_set]
     by_cases e2 : i * 3 + 2 = j
     ·rw [if_pos e2, if_pos (by omega)]
     rw [if_neg e2]
     by_cases e1 : i * 3 + 1 = j
     ·rw [if_pos e1, if_pos (by omega)]
     rw [if_neg e1]
     by_cases e0 : i * 3 = j
     ·rw [if_pos e0, if_pos (by omega)]
     rw [if_neg e0]
     exact HY.out.2 j (by omega)
    ·have hg : g ∈ (Value.slice (some ⟨g, 0, none⟩) n lc).ownBlock.toList := by simp [Value.ownBlock]
     exact ((HO.out.trans (only_set hg) fun x hx => .inl hx).trans (only_set hg) fun x hx => .inl hx).trans (only_set hg) fun x hx => .inl hx)
   clear hyc hrb hyl
   go_wp2
   obtain ⟨i', ys', v1, v2, v3, v4⟩ := nx.out
   exact ⟨⟨i', ys', v1, v2, v3, v4⟩, by simp [intOf]; omega⟩
  ·obtain rfl : i = n := by omega
   have hrowm : RowM wr (.slice la i lc) i m := by
    have := HY.out.1
    rw [eq_replicate this.1 HY.out.2] at this
    exact this
   have hF0 : ∀ k ∈ F ++ (Value.slice la i lc).ownBlock.toList, k < wr.heap.size := fun k hk => by
    have := HO.out.size
    rcases List.mem_append.1 hk with h1 | h1
    ·have := H1.out.lt k h1; omega
    ·have := HLL.out k (by simpa using h1); omega
   have hkw : Kw w wr wb vs vi vt vo vm os ms is ts (F ++ (Value.slice la i lc).ownBlock.toList) (F ++ (Value.slice la i lc).ownBlock.toList) m i (.slice la i lc) := by
    have hW2 := H1.out.later HB2.out
    have hW3 := hW2.kept HO.out.size fun k hk => HO.out.block k (hW2.lt k hk) fun hm => HF.out k (by simpa using hm) hk
    refine ⟨hW3.wide (fun k hk => List.mem_append.2 (.inl hk)) hF0, hrowm, fun g hg => List.mem_append.2 (.inr (by simp [hg])), NewF.refl _ _, ?_, (HO.out.block w.heap.size (by omega) fun hm => ?_).trans HRB.out, fun hm => ?_⟩
    ·refine ((HO1.out.trans (Only.of_below [] HB2.out) fun x hx => by cases hx).mono fun x hx _ => List.mem_append.2 (.inl hx)).trans HO.out fun x hx => .inl (List.mem_append.2 (.inr hx))
    ·have := HLL.out w.heap.size (by simpa using hm); omega
    ·rcases List.mem_append.1 hm with h1 | h1
     ·have := H1.out.lt _ h1; omega
     ·have := HLL.out w.heap.size (by simpa using h1); omega
   have HK := hide hkw
   have HMX := hide (show ∀ v ∈ os, ∀ g, (Value.slice la i lc).ownBlock = some g -> v.ownBlock = some g -> lenV v <= i from fun v hv g h1 h2 => absurd (H1.out.ko v hv g h2) (HF.out g h1))
   have HMS := hide hms
   clear hkw hrowm hF0 HY HO H1 HF HLL HR2 HL1 HRB HB2 HO1 hms hw1 hw2
   go_wp2
   go_loopw [1, 7] (fun s1 s7 wr => ∃ (k : Nat) (a : Option Addr) (c : Nat) (vo' vm' : Value) (os' : List Value) (ms' : List Int) (F' : List Nat), k <= 4 /\ s7 = .int .i64 (k : Int) /\ s1 = .slice a (i + k) c /\ Hid (os'.length = os.length + k /\ ms'.length = os.length + k) /\ Hid (Kw w wr wb vs vi vt vo' vm' os' ms' is ts (F ++ (Value.slice la i lc).ownBlock.toList) F' m (i + k) (.slice a (i + k) c)) /\ Hid (∀ v ∈ os', ∀ g, (Value.slice a (i + k) c).ownBlock = some g -> v.ownBlock = some g -> lenV v <= i + k)) (fun _ s7 _ => 4 - (intOf s7).toNat)
   case atStart => exact ⟨0, la, lc, vo, vm, os, ms, _, by omega, rfl, rfl, hide ⟨rfl, HMS.out⟩, HK, HMX⟩
   case round =>
    clear HK HMX
    obtain ⟨k, a, c, vo', vm', os', ms', F', hk, rfl, rfl, HLN, HK, HMX⟩ := hrel
    by_cases hk4 : k < 4
    ·have hk1 : (k : Int) < 4 := by omega
     obtain ⟨hol, hml⟩ := HLN.out
     have HOL := hide hol
     have HML := hide hml
     obtain ⟨g1, cap1, W1, r1, K1, x1, x2, x3⟩ := HK.out.one hol (by omega) (by omega) 72
     obtain ⟨g2, cap2, W2, r2, K2, y1, y2, y3⟩ := K1.two hml (fun v hv => by rw [hml, <- hol] at hv; simpa [eq_comm] using hv) (by omega) (by omega) 41
     obtain ⟨g3, cap3, W3, r3, K3, z3⟩ := K2.three (by omega) (fun v hv g h1 h2 => by
      rcases List.mem_append.1 hv with h3 | h3
      ·exact HMX.out v h3 g h1 h2
      ·have : v = .slice a (i + k) c := by simpa using h3
       rw [this]
       exact Nat.le_refl _) 61
     have nx := hide (show ∃ (k' : Nat) (a' : Option Addr) (c' : Nat) (vo' vm' : Value) (os'' : List Value) (ms'' : List Int) (F'' : List Nat), k' <= 4 /\ Value.int .i64 ((k : Int) + 1) = .int .i64 (k' : Int) /\ Value.slice (some ⟨g3, 0, none⟩) (i + k + 1) cap3 = .slice a' (i + k') c' /\ Hid (os''.length = os.length + k' /\ ms''.length = os.length + k') /\ Hid (Kw w W3 wb vs vi vt vo' vm' os'' ms'' is ts (F ++ (Value.slice la i lc).ownBlock.toList) F'' m (i + k') (.slice a' (i + k') c')) /\ Hid (∀ v ∈ os'', ∀ g, (Value.slice a' (i + k') c').ownBlock = some g -> v.ownBlock = some g -> lenV v <= i + k') from
      ⟨k + 1, some ⟨g3, 0, none⟩, cap3, _, _, _, _, _, by omega, by simp, rfl, hide ⟨by rw [List.length_append, hol]; rfl, by rw [List.length_append, hml]; rfl⟩, hide K3, hide z3⟩)
     have wbl := HK.out.W.wlt
     have p1 := HK.out.W.p1
     obtain ⟨V1, hV1⟩ : ∃ V1, W1.setCell ⟨wb, 1, none⟩ (.slice (some ⟨g1, 0, none⟩) (os.length + k + 1) cap1) = V1 := ⟨_, rfl⟩
     rw [hV1] at K1 r2
     have wb1 := K1.W.wlt
     have p2 := K1.W.p2
     obtain ⟨V2, hV2⟩ : ∃ V2, W2.setCell ⟨wb, 2, none⟩ (.slice (some ⟨g2, 0, none⟩) (os.length + k + 1) cap2) = V2 := ⟨_, rfl⟩
     rw [hV2] at K2 r3
     have rb0 : V2.cell? ⟨w.heap.size, 0, none⟩ = some (.int .i64 m) := by simp [World.cell?, K2.rb]
     have rb1 : V2.cell? ⟨w.heap.size, 1, none⟩ = some (.int .i64 m) := by simp [World.cell?, K2.rb]
     have rb2 : V2.cell? ⟨w.heap.size, 2, none⟩ = some (.int .i64 m) := by simp [World.cell?, K2.rb]
     have rbl := K2.rbl
     have hwk : IntKind.i64.wrap ((k : Int) + 1) = (k : Int) + 1 := by rw [IntKind.wrap_i64]; omega
     obtain ⟨oa, oc, hvo⟩ := HK.out.W.ro.shape
     obtain ⟨ma, mc, hvm⟩ := HK.out.W.rm.shape
     rw [hvo] at p1 x1 r1
     rw [hvm] at p2 y1 r2
     have HR1 := hide r1
     have HR2 := hide r2
     have HR3 := hide r3
     clear K1 K2 K3 z3 r1 r2 r3 hol hml hvo hvm HK HMX HLN
     generalize os'.length = ol at *
     generalize (ms'.map fun m => Value.int .i64 m).length = ml at *
     go_wp2_with (at_builtin; first
      | (refine wpList_appendB rfl _ _ 72 72 rfl _ _ rfl rfl _ _ HR1.out ?_)
      | (refine wpList_appendB rfl _ _ 41 41 rfl _ _ rfl rfl _ _ HR2.out ?_)
      | (refine wpList_appendB rfl _ _ 61 61 rfl _ _ rfl rfl _ _ HR3.out ?_))
     exact ⟨nx.out, by simp [intOf]; omega⟩
    ·obtain rfl : k = 4 := by omega
     have fin := hide (show ∃ F'', Wd wr wb vs (os.length + 4) ni F'' /\ NewF w (F ++ (Value.slice la i lc).ownBlock.toList) F'' /\ Only (F ++ (Value.slice la i lc).ownBlock.toList) w wr from
      ⟨F', ⟨_, _, _, _, _, _, _, _, _, HK.out.W, HLN.out.1, HLN.out.2, hil, htl⟩, HK.out.new, HK.out.only⟩)
     clear HK HMX HLN
     go_wp2
     go_end0
     exact ⟨rfl, fin.out⟩
end Go.Proofs.YtglbamalagacgaaGreat

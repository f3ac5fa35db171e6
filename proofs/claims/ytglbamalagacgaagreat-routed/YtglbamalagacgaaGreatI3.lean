import Derived.Test.YtglbamalagacgaaGreatA9
import Derived.Test.YtglbamalagacgaaGreatI2
import Derived.Test.YtglbamalagacgaaGreatL2
namespace Go.Proofs.YtglbamalagacgaaGreat
open Go.RowKit
def subT (v : Nat -> Int) : Nat -> Int -> Int -> Nat -> List Ent
 | 0, a, i, c => if v c ≠ 0 then [⟨a, i, v c⟩] else []
 | k + 1, a, i, c => (if v c ≠ 0 then [⟨a, i, v c⟩] else []) ++ subT v k a (i + 1) (2 * c) ++ subT v k (a + wid (i + 1)) (i + 1) (2 * c + 1)
theorem wid_half {i : Int} (h0 : 0 <= i) (h8 : i < 8) : wid i = 2 * wid (i + 1) := by
 have : i = 0 ∨ i = 1 ∨ i = 2 ∨ i = 3 ∨ i = 4 ∨ i = 5 ∨ i = 6 ∨ i = 7 := by omega
 rcases this with rfl | rfl | rfl | rfl | rfl | rfl | rfl | rfl <;> rfl
theorem half_pfx {a i : Int} (h : isPfx a i = true) (h8 : i < 8) : isPfx a (i + 1) = true /\ isPfx (a + wid (i + 1)) (i + 1) = true /\ pcE a (i + 1) = 2 * pcE a i /\ pcE (a + wid (i + 1)) (i + 1) = 2 * pcE a i + 1 := by
 obtain ⟨i0, _, a0, a1, am⟩ := (isPfx_iff a i).1 h
 have htop := wid_top h
 obtain ⟨A, rfl⟩ : ∃ A : Nat, a = A := ⟨a.toNat, by omega⟩
 rw [isPfx_iff, isPfx_iff]
 unfold pcE pcn
 have : i = 0 ∨ i = 1 ∨ i = 2 ∨ i = 3 ∨ i = 4 ∨ i = 5 ∨ i = 6 ∨ i = 7 := by omega
 rcases this with rfl | rfl | rfl | rfl | rfl | rfl | rfl | rfl <;> simp [wid] at am htop ⊢ <;> omega
structure InT (v : Nat -> Int) (a i : Int) (x : Ent) : Prop where
 lo : a <= x.a
 hi : x.a < a + wid i
 len : i <= x.l
 pfx : isPfx x.a x.l = true
 val : x.n = v (pcE x.a x.l)
 nz : x.n ≠ 0
theorem subT_in (v : Nat -> Int) : ∀ (k : Nat) (a i : Int), i = 8 - (k : Int) -> isPfx a i = true -> ∀ x ∈ subT v k a i (pcE a i), InT v a i x
 | 0, a, i, hk, hp, x, hx => by
  have hw := (wid_bd i).1
  rw [subT] at hx
  split at hx
  ·simp at hx; subst hx; rename_i hv; exact ⟨Int.le_refl _, by show a < a + wid i; omega, Int.le_refl _, hp, rfl, hv⟩
  ·cases hx
 | k + 1, a, i, hk, hp, x, hx => by
  have i0 := ((isPfx_iff a i).1 hp).1
  have hw := (wid_bd i).1
  have hw2 := wid_half i0 (by omega)
  have hw3 := (wid_bd (i + 1)).1
  obtain ⟨h1, h2, h3, h4⟩ := half_pfx hp (by omega)
  rw [subT, List.mem_append, List.mem_append] at hx
  rcases hx with (hx | hx) | hx
  ·split at hx
   ·simp at hx; subst hx; rename_i hv; exact ⟨Int.le_refl _, by show a < a + wid i; omega, Int.le_refl _, hp, rfl, hv⟩
   ·cases hx
  ·rw [<- h3] at hx
   have := subT_in v k a (i + 1) (by omega) h1 x hx
   exact ⟨this.lo, by have := this.hi; omega, by have := this.len; omega, this.pfx, this.val, this.nz⟩
  ·rw [<- h4] at hx
   have := subT_in v k _ (i + 1) (by omega) h2 x hx
   exact ⟨by have := this.lo; omega, by have := this.hi; omega, by have := this.len; omega, this.pfx, this.val, this.nz⟩
theorem subT_sorted (v : Nat -> Int) : ∀ (k : Nat) (a i : Int), i = 8 - (k : Int) -> isPfx a i = true -> Sorted (subT v k a i (pcE a i))
 | 0, a, i, _, _ => by
  rw [subT]
  split
  ·exact List.pairwise_singleton _ _
  ·exact List.Pairwise.nil
 | k + 1, a, i, hk, hp => by
  have i0 := ((isPfx_iff a i).1 hp).1
  have hw2 := wid_half i0 (by omega)
  have hw3 := (wid_bd (i + 1)).1
  obtain ⟨h1, h2, h3, h4⟩ := half_pfx hp (by omega)
  rw [subT, <- h4, <- h3]
  have q1 := subT_in v k a (i + 1) (by omega) h1
  have q2 := subT_in v k (a + wid (i + 1)) (i + 1) (by omega) h2
  refine List.pairwise_append.2 ⟨List.pairwise_append.2 ⟨?_, subT_sorted v k a (i + 1) (by omega) h1, fun x hx y hy => ?_⟩, subT_sorted v k _ (i + 1) (by omega) h2, fun x hx y hy => ?_⟩
  ·split
   ·exact List.pairwise_singleton _ _
   ·exact List.Pairwise.nil
  ·have hy' := q1 y hy
   split at hx
   ·simp at hx; subst hx
    show klt a i y.a y.l
    have := hy'.lo; have := hy'.len
    unfold klt; omega
   ·cases hx
  ·have hy' := q2 y hy
   show klt x.a x.l y.a y.l
   have hlo := hy'.lo
   rcases List.mem_append.1 hx with hx | hx
   ·split at hx
    ·simp at hx; subst hx; unfold klt; show a < y.a ∨ _; omega
    ·cases hx
   ·have := (q1 x hx).hi; unfold klt; omega
theorem subT_all (v : Nat -> Int) : ∀ (k : Nat) (a i : Int), i = 8 - (k : Int) -> isPfx a i = true -> ∀ b m, isPfx b m = true -> a <= b -> b < a + wid i -> i <= m -> v (pcE b m) ≠ 0 -> (⟨b, m, v (pcE b m)⟩ : Ent) ∈ subT v k a i (pcE a i)
 | 0, a, i, hk, hp, b, m, hb, h1, h2, h3, hv => by
  obtain ⟨_, m8, _⟩ := (isPfx_iff b m).1 hb
  have hm : m = 8 := by omega
  have hi : i = 8 := by omega
  subst hm hi
  have : wid 8 = 1 := rfl
  have e : b = a := by omega
  subst e
  rw [subT, if_pos hv]; simp
 | k + 1, a, i, hk, hp, b, m, hb, h1, h2, h3, hv => by
  obtain ⟨i0, _, a0, a1, am⟩ := (isPfx_iff a i).1 hp
  have hw2 := wid_half i0 (by omega)
  obtain ⟨p1, p2, p3, p4⟩ := half_pfx hp (by omega)
  rw [subT, List.mem_append, List.mem_append, <- p4, <- p3]
  by_cases hm : m = i
  ·subst hm
   have e : b = a := by
    obtain ⟨_, _, _, _, bm⟩ := (isPfx_iff b m).1 hb
    have hw := (wid_bd m).1
    have e1 := Int.emod_add_mul_ediv a (wid m)
    have e2 := Int.emod_add_mul_ediv b (wid m)
    rw [am] at e1; rw [bm] at e2
    have : a / wid m = b / wid m := by
     have h4 : wid m * (a / wid m) <= wid m * (b / wid m) := by omega
     have h5 : wid m * (b / wid m) < wid m * (a / wid m + 1) := by rw [Int.mul_add]; omega
     have h6 := Int.le_of_mul_le_mul_left h4 hw
     have h7 := Int.lt_of_mul_lt_mul_left h5 (by omega)
     omega
    rw [this] at e1; omega
   subst e
   rw [if_pos hv]; simp
  ·by_cases hs : b < a + wid (i + 1)
   ·exact .inl (.inr (subT_all v k a (i + 1) (by omega) p1 b m hb h1 hs (by omega) hv))
   ·exact .inr (subT_all v k _ (i + 1) (by omega) p2 b m hb (by omega) (by omega) (by omega) hv)
theorem subT_nil {v : Nat -> Int} : ∀ (k : Nat) (a i : Int) (c : Nat), ¬ nd v c -> subT v k a i c = []
 | 0, a, i, c, h => by
  have : v c = 0 := Decidable.byContradiction fun e => h ((nd_iff v c).2 (.inl e))
  rw [subT, if_neg (by omega)]
 | k + 1, a, i, c, h => by
  have h1 : v c = 0 := Decidable.byContradiction fun e => h ((nd_iff v c).2 (.inl e))
  rw [subT, if_neg (by omega), subT_nil k _ _ _ (fun e => h ((nd_iff v c).2 (.inr (.inl e)))), subT_nil k _ _ _ (fun e => h ((nd_iff v c).2 (.inr (.inr e))))]
  rfl
theorem subT_xs {xs : List Ent} (hs : Sorted xs) (hk : ∀ x ∈ xs, okE x) : subT (vE xs) 8 0 0 1 = xs := by
 have hp : isPfx 0 0 = true := by simp [isPfx]
 have hc : pcE 0 0 = 1 := rfl
 have hsub := subT_sorted (vE xs) 8 0 0 (by omega) hp
 have hin := subT_in (vE xs) 8 0 0 (by omega) hp
 have hall := subT_all (vE xs) 8 0 0 (by omega) hp
 rw [hc] at hsub hin hall
 have hw0 : wid 0 = 256 := rfl
 refine sorted_ext hsub hs fun b m => ?_
 cases hg : getE xs b m with
 | some n =>
  have hm := getE_in hg
  have ho := hk _ hm
  have hb := (isPfx_iff b m).1 ho.1
  have hv : vE xs (pcE b m) = n := by rw [vE_get hk ho.1, hg]; rfl
  have := hall b m ho.1 (by omega) (by omega) (by omega) (by rw [hv]; have h2 : 1 <= n := ho.2.1; omega)
  rw [hv] at this
  exact getE_of hsub this
 | none =>
  cases hg2 : getE (subT (vE xs) 8 0 0 1) b m with
  | none => rfl
  | some n =>
   have q := hin _ (getE_in hg2)
   have hval : n = vE xs (pcE b m) := q.val
   have hnz : n ≠ 0 := q.nz
   rw [vE_get hk q.pfx] at hval
   have hval2 : n = orZ (getE xs b m) := hval
   rw [hg] at hval2
   exact absurd hval2 hnz
end Go.Proofs.YtglbamalagacgaaGreat

namespace Go.Proofs.YtglbamalagacgaaGreat
open Go.RowKit Go.Shelf
def keepF (fb fm : Int) (L : List Ent) : List Ent := L.filter fun x => !decide (klt x.a x.l fb fm)
theorem keepF_own (a i n fb fm : Int) : keepF fb fm (if n ≠ 0 then [⟨a, i, n⟩] else []) = own0 a i n fb fm := by
 unfold keepF own0
 by_cases h1 : n ≠ 0
 ·by_cases h2 : klt a i fb fm
  ·rw [if_pos h1, if_neg (fun h => h.2 h2)]; simp only [List.filter_cons, List.filter_nil, h2, decide_true, Bool.not_true, Bool.false_eq_true, if_false]
  ·rw [if_pos h1, if_pos ⟨h1, h2⟩]; simp only [List.filter_cons, List.filter_nil, h2, decide_false, Bool.not_false, if_true]
 ·rw [if_neg h1, if_neg (fun h => h1 h.1)]; rfl
theorem keepF_append (fb fm : Int) (L M : List Ent) : keepF fb fm (L ++ M) = keepF fb fm L ++ keepF fb fm M := List.filter_append _ _
theorem keepF_nil {fb fm : Int} {L : List Ent} (h : ∀ x ∈ L, klt x.a x.l fb fm) : keepF fb fm L = [] := List.filter_eq_nil_iff.2 fun x hx => by simp [h x hx]
theorem walk_any (p : Ent -> Prop) (N Bd l : Nat) (Own : World -> Nat -> Prop) (J Jx : List { x : Ent // p x } -> World -> Prop) (env : YEnv p N Bd l Own J Jx) (W0 : World) (B : Nat -> Option Nat) (v : Nat -> Int) (F : List Nat) (hM : TrM W0 B v) (hx : ExB B v) (hF : FpB B F) (fb fm : Int)
  (hpv : ∀ a i, isPfx a i = true -> v (pcE a i) ≠ 0 -> p ⟨a, i, v (pcE a i)⟩) :
  ∀ (k : Nat) (a i : Int) (b : Nat) (W1 : World) (pre : List { x : Ent // p x }), i = 8 - (k : Int) -> isPfx a i = true -> B (pcE a i) = some b -> Safe Own F W0 W1 -> J pre W1 -> pre.length + (keepF fb fm (subT v k a i (pcE a i))).length <= N →
   Calls Tryz.prog 197 #[ptrV b, pfxV a i, pfxV fb fm, yV l] W1 (WkP p Own J Jx (keepF fb fm (subT v k a i (pcE a i))) pre W1) := by
 have hFc : ∀ k ∈ F, ∃ o, W0.heap[k]? = some o /\ o.isCells = true := fun k hk => by
  obtain ⟨c, hc⟩ := (hF k).1 hk
  exact ⟨_, hM.node c k hc, rfl⟩
 intro k
 induction k with
 | zero =>
  intro a i b W1 pre hk hp hb hS hJ hlen
  obtain ⟨i0, i8, a0, a1, _⟩ := (isPfx_iff a i).1 hp
  have hbS := hS b ((hF b).2 ⟨_, hb⟩)
  have hc : 256 <= pcE a i := by
   unfold pcE pcn
   have : i.toNat = 8 := by omega
   rw [this]; simp
  have hz : ∀ d, 512 <= d -> B d = none := fun d hd => by
   cases e : B d with
   | none => rfl
   | some x => have := (hM.dom d x e).2; omega
  have e1 := hz (2 * pcE a i) (by omega)
  have e2 := hz (2 * pcE a i + 1) (by omega)
  have he : keepF fb fm (subT v 0 a i (pcE a i)) = own0 a i (v (pcE a i)) fb fm ++ [] ++ [] := by rw [subT, keepF_own]; simp
  have hin := subT_in v 0 a i hk hp
  rw [he] at hlen ⊢
  refine walk_node p N Bd l Own J Jx env W1 b (v (pcE a i)) (B (2 * pcE a i)) (B (2 * pcE a i + 1)) (tyC (pcE a i)) a i fb fm [] [] pre (hbS.2.trans (hM.node _ b hb)) hbS.1 hJ (hpv a i hp) i0 i8 (fun _ => ⟨e1, e2⟩) a0 a1 hlen (fun h => ?_) (fun _ => rfl) (fun _ => rfl) ?_
  ·rw [<- he]
   exact keepF_nil fun x hxm => by have := (hin x hxm).hi; unfold klt; omega
  ·rintro s o L (⟨_, rfl, _⟩ | ⟨_, rfl, _⟩) b1 ho
   ·rw [e1] at ho; cases ho
   ·rw [e2] at ho; cases ho
 | succ k ih =>
  intro a i b W1 pre hk hp hb hS hJ hlen
  obtain ⟨i0, i8, a0, a1, _⟩ := (isPfx_iff a i).1 hp
  obtain ⟨h1, h2, h3, h4⟩ := half_pfx hp (by omega)
  have hbS := hS b ((hF b).2 ⟨_, hb⟩)
  have hc1 := (hM.dom _ b hb).1
  have he : keepF fb fm (subT v (k + 1) a i (pcE a i)) = own0 a i (v (pcE a i)) fb fm ++ keepF fb fm (subT v k a (i + 1) (2 * pcE a i)) ++ keepF fb fm (subT v k (a + wid (i + 1)) (i + 1) (2 * pcE a i + 1)) := by
   rw [subT, keepF_append, keepF_append, keepF_own]
  have hin := subT_in v (k + 1) a i hk hp
  have hnil : ∀ d, 2 <= d -> B d = none -> ∀ a' i', keepF fb fm (subT v k a' i' d) = [] := fun d hd hn a' i' => by
   rw [subT_nil k a' i' d (fun e => by have := (hx d hd).2 e; rw [hn] at this; cases this)]; rfl
  rw [he] at hlen ⊢
  refine walk_node p N Bd l Own J Jx env W1 b (v (pcE a i)) (B (2 * pcE a i)) (B (2 * pcE a i + 1)) (tyC (pcE a i)) a i fb fm _ _ pre (hbS.2.trans (hM.node _ b hb)) hbS.1 hJ (hpv a i hp) i0 i8 (fun h => by omega) a0 a1 hlen (fun h => ?_) (fun hn => hnil _ (by omega) hn _ _) (fun hn => hnil _ (by omega) hn _ _) ?_
  ·rw [<- he]
   exact keepF_nil fun x hxm => by have := (hin x hxm).hi; unfold klt; omega
  ·rintro s o L (⟨rfl, rfl, rfl⟩ | ⟨rfl, rfl, rfl⟩) b1 ho W2 pre2 hK2 hJ2 hlen2
   ·rw [show a + 0 * wid (i + 1) = a by omega]
    rw [<- h3] at ho hlen2 ⊢
    exact ih a (i + 1) b1 W2 pre2 (by omega) h1 ho (hS.own hFc hK2) hJ2 hlen2
   ·rw [show a + 1 * wid (i + 1) = a + wid (i + 1) by omega]
    rw [<- h4] at ho hlen2 ⊢
    exact ih (a + wid (i + 1)) (i + 1) b1 W2 pre2 (by omega) h2 ho (hS.own hFc hK2) hJ2 hlen2
end Go.Proofs.YtglbamalagacgaaGreat

namespace Go.Proofs.YtglbamalagacgaaGreat
open Go.RowKit Go.Shelf
attribute [local go_sem] Oper.semAt_some
set_option maxHeartbeats 400000 in
theorem trFrom_any (tp : Nat) (b m : Int) (w : World) :
  Calls Tryz.prog 191 #[ptrV tp, pfxV b m] w fun r w' => MadeSeq w w' tp b m /\ r = .returned (.func (.func 196) #[] #[ptrV w.heap.size, ptrV (w.heap.size + 1)]) := by
 go_enter Tryz.func191, Tryz.ntmps191
 go_wp2
 go_ret
 exact ⟨MadeSeq.mk' _ _ _ _ _ _, rfl⟩
set_option linter.unusedSimpArgs false in
set_option maxHeartbeats 4000000 in
theorem trFrom1 (p : Ent -> Prop) (tp bt bk : Nat) (xs : List Ent) (F : List Nat) (b m : Int) (w0 : World) (hT : TrieF w0 tp xs F) (hs : Sorted xs) (hk : ∀ x ∈ xs, okE x) (hp : ∀ x ∈ xs, p x)
  (hbt : w0.cell? ⟨bt, 0, none⟩ = some (ptrV tp)) (hk0 : w0.cell? ⟨bk, 0, none⟩ = some (.int .i64 b)) (hk1 : w0.cell? ⟨bk, 1, none⟩ = some (.int .i64 m)) :
  SeqF 196 #[ptrV bt, ptrV bk] (encR (p := p)) F (fun ys => ys.map (·.1) = fromE xs b m) (fun pre => pre.map (·.1) <+: fromE xs b m) xs.length w0 := by
 intro l Own J Jx W hW hOF hOl hJ hJx hY h0
 have hTW := hT.later hW
 obtain ⟨B, hM, hr, hx, hF⟩ := hTW
 have lbt := World.block_lt_of_cell? w0 _ hbt
 have lbk := World.block_lt_of_cell? w0 _ hk0
 simp only at lbt lbk
 have hsz := hW.size
 have c0 := (hW.cell (p := ⟨bt, 0, none⟩) lbt).trans hbt
 have c1 := (hW.cell (p := ⟨bk, 0, none⟩) lbk).trans hk0
 have c2 := (hW.cell (p := ⟨bk, 1, none⟩) lbk).trans hk1
 have l1 : bt < W.heap.size := by omega
 have l2 : bk < W.heap.size := by omega
 have l3 := hM.lt hr
 have env : YEnv p xs.length W.heap.size l Own J Jx := ⟨hOl, hJ, hJx, hY⟩
 have hlist : keepF b m (subT (vE xs) 8 0 0 (pcE 0 0)) = fromE xs b m := by
  have : pcE 0 0 = 1 := rfl
  rw [this, subT_xs hs hk]; rfl
 have hwk := hide (show ∀ w5, Below W.heap.size W w5 -> Calls Tryz.prog 197 #[ptrV tp, pfxV 0 0, pfxV b m, yV l] w5 (WkP p Own J Jx (fromE xs b m) [] w5) from fun w5 hB5 => by
  obtain ⟨hJ5, hO5⟩ := hJ _ _ _ h0 (Soft.of_below hB5)
  have := walk_any p xs.length W.heap.size l Own J Jx env W B (vE xs) F hM hx hF b m (fun a i hpf hv => by
   rw [vE_get hk hpf] at hv ⊢
   cases hg : getE xs a i with
   | none => rw [hg] at hv; exact absurd rfl hv
   | some k => exact hp _ (getE_in hg)) 8 0 0 tp w5 [] (by omega) (by simp [isPfx]) hr (fun k hk' => ⟨fun h => hOF k hk' (hO5 k h), hB5.block k (by obtain ⟨c, hc⟩ := (hF k).1 hk'; exact hM.lt hc)⟩) hJ5 (by rw [hlist]; simp; exact List.length_filter_le _ _)
  rw [hlist] at this
  exact this)
 have Hgo := hide (show ∀ (W6 : World) (bb : Bool) (w5 : World), ((bb = true /\ (∃ ys : List { x : Ent // p x }, ys.map (·.1) = fromE xs b m /\ J ([] ++ ys) W6) /\ KOwn Own w5 W6) ∨ (bb = false /\ ∃ ys : List { x : Ent // p x }, ys.map (·.1) <+: fromE xs b m /\ Jx ([] ++ ys) W6)) →
   ((∃ ys : List { x : Ent // p x }, ys.map (·.1) = fromE xs b m /\ J ys W6) ∨ (∃ pre : List { x : Ent // p x }, pre.map (·.1) <+: fromE xs b m /\ Jx pre W6)) from by
  rintro W6 bb w5 (⟨_, ⟨ys, h1, h2⟩, _⟩ | ⟨_, ys, h1, h2⟩)
  ·exact .inl ⟨ys, h1, by simpa using h2⟩
  ·exact .inr ⟨ys, h1, by simpa using h2⟩)
 have hfs := hide (fun W => first_any W)
 refine callsIn_wide.2 ?_
 show Calls Tryz.prog 196 #[yV l, ptrV bt, ptrV bk] W _
 clear hM hx hF hr hT hW hOF hOl hJ hJx hY h0 env hlist hs hk hp hbt hk0 hk1
 go_enter Tryz.func196, Tryz.ntmps196
 go_wp2
 refine wp_region_any (by kernel_rfl) ?_
 change wpAny _ _ _ _ _ _ _ (World.drew _)
 refine wpAny_take (i := 5) (v := ?_) rfl (by kernel_rfl) (by kernel_rfl) (by kernel_rfl) (fun _ _ _ h => h) (Or.inl ⟨by kernel_rfl, ?_⟩) ?_
 rotate_left
 ·intro w; go_simp; first | done | with_reducible rfl
 try simp only [Act.put, List.setIfInBounds_toArray, List.set_cons_zero, List.set_cons_succ, List.getElem_toArray, List.getElem_cons_succ, List.getElem_cons_zero]
 refine wpAny_ready (rs := [0, 3, 4]) (by kernel_rfl) (by simp) ?_
 refine AllReady.cons rfl (fun K hK => ?_) (AllReady.cons rfl (fun K hK => ?_) (AllReady.cons rfl (fun K hK => ?_) AllReady.nil))
 ·go_simp
  refine hK _ _ ?_
  clear hK K
  try simp only [Act.put, List.setIfInBounds_toArray, List.set_cons_zero, List.set_cons_succ, List.getElem_toArray, List.getElem_cons_succ, List.getElem_cons_zero]
  refine wpAny_take (i := 1) (v := ?_) rfl (by kernel_rfl) (by kernel_rfl) (by kernel_rfl) (fun _ _ _ h => h) (Or.inl ⟨by kernel_rfl, ?_⟩) ?_
  rotate_left
  ·intro w; go_simp; first | done | with_reducible rfl
  try simp only [Act.put, List.setIfInBounds_toArray, List.set_cons_zero, List.set_cons_succ, List.getElem_toArray, List.getElem_cons_succ, List.getElem_cons_zero]
  refine wpAny_take (i := 2) (v := ?_) rfl (by kernel_rfl) (by kernel_rfl) (by kernel_rfl) (fun _ _ _ h => h) (Or.inl ⟨by kernel_rfl, ?_⟩) ?_
  rotate_left
  ·intro w; go_simp; first | done | with_reducible rfl
  try simp only [Act.put, List.setIfInBounds_toArray, List.set_cons_zero, List.set_cons_succ, List.getElem_toArray, List.getElem_cons_succ, List.getElem_cons_zero]
  refine wpAny_ready (rs := [3, 4]) (by kernel_rfl) (by simp) ?_
  refine AllReady.cons rfl (fun K hK => ?_) (AllReady.cons rfl (fun K hK => ?_) AllReady.nil)
  ·go_simp
   go_wp2_with fail
   refine (hfs.out _).mono ?_
   rintro e w5 ⟨rfl, hb5⟩
   have hB5 : Below W.heap.size W w5 := (Below.refl _ W).drew.trans hb5
   have v0 := (hB5.cell (p := ⟨bt, 0, none⟩) l1).trans c0
   have v1 := (hB5.cell (p := ⟨bk, 0, none⟩) l2).trans c1
   have v2 := (hB5.cell (p := ⟨bk, 1, none⟩) l2).trans c2
   refine hK _ _ ?_
   clear hK K
   try simp only [Act.put, List.setIfInBounds_toArray, List.set_cons_zero, List.set_cons_succ, List.getElem_toArray, List.getElem_cons_succ, List.getElem_cons_zero]
   refine wpAny_ready (rs := [4]) (by kernel_rfl) (by simp) ?_
   refine AllReady.cons rfl (fun K hK => ?_) AllReady.nil
   go_simp
   refine hK _ _ ?_
   clear hK K
   try simp only [Act.put, List.setIfInBounds_toArray, List.set_cons_zero, List.set_cons_succ, List.getElem_toArray, List.getElem_cons_succ, List.getElem_cons_zero]
   refine wpAny_ready (rs := [6]) (by kernel_rfl) (by simp) ?_
   refine AllReady.cons rfl (fun K hK => ?_) AllReady.nil
   go_simp
   go_wp2_with fail
   refine (hwk.out w5 hB5).mono ?_
   rintro e W6 ⟨bb, rfl, h6⟩
   have H6 := hide (Hgo.out W6 bb w5 h6)
   clear h6
   refine hK _ _ ?_
   clear hK K
   try simp only [Act.put, List.setIfInBounds_toArray, List.set_cons_zero, List.set_cons_succ, List.getElem_toArray, List.getElem_cons_succ, List.getElem_cons_zero]
   refine wpAny_done (by kernel_rfl) ?_ _
   clear hwk Hgo hfs c0 c1 c2 v0 v1 v2 hB5 hb5
   go_wp2
   go_end0
   exact ⟨⟨_, rfl⟩, H6.out⟩
  ·go_simp
   refine hK _ _ ?_
   clear hK K
   try simp only [Act.put, List.setIfInBounds_toArray, List.set_cons_zero, List.set_cons_succ, List.getElem_toArray, List.getElem_cons_succ, List.getElem_cons_zero]
   refine wpAny_ready (rs := [3]) (by kernel_rfl) (by simp) ?_
   refine AllReady.cons rfl (fun K hK => ?_) AllReady.nil
   go_simp
   go_wp2_with fail
   refine (hfs.out _).mono ?_
   rintro e w5 ⟨rfl, hb5⟩
   have hB5 : Below W.heap.size W w5 := (Below.refl _ W).drew.trans hb5
   have v0 := (hB5.cell (p := ⟨bt, 0, none⟩) l1).trans c0
   have v1 := (hB5.cell (p := ⟨bk, 0, none⟩) l2).trans c1
   have v2 := (hB5.cell (p := ⟨bk, 1, none⟩) l2).trans c2
   refine hK _ _ ?_
   clear hK K
   try simp only [Act.put, List.setIfInBounds_toArray, List.set_cons_zero, List.set_cons_succ, List.getElem_toArray, List.getElem_cons_succ, List.getElem_cons_zero]
   refine wpAny_ready (rs := [6]) (by kernel_rfl) (by simp) ?_
   refine AllReady.cons rfl (fun K hK => ?_) AllReady.nil
   go_simp
   go_wp2_with fail
   refine (hwk.out w5 hB5).mono ?_
   rintro e W6 ⟨bb, rfl, h6⟩
   have H6 := hide (Hgo.out W6 bb w5 h6)
   clear h6
   refine hK _ _ ?_
   clear hK K
   try simp only [Act.put, List.setIfInBounds_toArray, List.set_cons_zero, List.set_cons_succ, List.getElem_toArray, List.getElem_cons_succ, List.getElem_cons_zero]
   refine wpAny_done (by kernel_rfl) ?_ _
   clear hwk Hgo hfs c0 c1 c2 v0 v1 v2 hB5 hb5
   go_wp2
   go_end0
   exact ⟨⟨_, rfl⟩, H6.out⟩
 ·go_simp
  go_wp2_with fail
  refine (hfs.out _).mono ?_
  rintro e w5 ⟨rfl, hb5⟩
  have hB5 : Below W.heap.size W w5 := (Below.refl _ W).drew.trans hb5
  have v0 := (hB5.cell (p := ⟨bt, 0, none⟩) l1).trans c0
  have v1 := (hB5.cell (p := ⟨bk, 0, none⟩) l2).trans c1
  have v2 := (hB5.cell (p := ⟨bk, 1, none⟩) l2).trans c2
  refine hK _ _ ?_
  clear hK K
  try simp only [Act.put, List.setIfInBounds_toArray, List.set_cons_zero, List.set_cons_succ, List.getElem_toArray, List.getElem_cons_succ, List.getElem_cons_zero]
  refine wpAny_ready (rs := [0, 4]) (by kernel_rfl) (by simp) ?_
  refine AllReady.cons rfl (fun K hK => ?_) (AllReady.cons rfl (fun K hK => ?_) AllReady.nil)
  ·go_simp
   refine hK _ _ ?_
   clear hK K
   try simp only [Act.put, List.setIfInBounds_toArray, List.set_cons_zero, List.set_cons_succ, List.getElem_toArray, List.getElem_cons_succ, List.getElem_cons_zero]
   refine wpAny_take (i := 1) (v := ?_) rfl (by kernel_rfl) (by kernel_rfl) (by kernel_rfl) (fun _ _ _ h => h) (Or.inl ⟨by kernel_rfl, ?_⟩) ?_
   rotate_left
   ·intro w; go_simp; first | done | with_reducible rfl
   try simp only [Act.put, List.setIfInBounds_toArray, List.set_cons_zero, List.set_cons_succ, List.getElem_toArray, List.getElem_cons_succ, List.getElem_cons_zero]
   refine wpAny_take (i := 2) (v := ?_) rfl (by kernel_rfl) (by kernel_rfl) (by kernel_rfl) (fun _ _ _ h => h) (Or.inl ⟨by kernel_rfl, ?_⟩) ?_
   rotate_left
   ·intro w; go_simp; first | done | with_reducible rfl
   try simp only [Act.put, List.setIfInBounds_toArray, List.set_cons_zero, List.set_cons_succ, List.getElem_toArray, List.getElem_cons_succ, List.getElem_cons_zero]
   refine wpAny_ready (rs := [4]) (by kernel_rfl) (by simp) ?_
   refine AllReady.cons rfl (fun K hK => ?_) AllReady.nil
   go_simp
   refine hK _ _ ?_
   clear hK K
   try simp only [Act.put, List.setIfInBounds_toArray, List.set_cons_zero, List.set_cons_succ, List.getElem_toArray, List.getElem_cons_succ, List.getElem_cons_zero]
   refine wpAny_ready (rs := [6]) (by kernel_rfl) (by simp) ?_
   refine AllReady.cons rfl (fun K hK => ?_) AllReady.nil
   go_simp
   go_wp2_with fail
   refine (hwk.out w5 hB5).mono ?_
   rintro e W6 ⟨bb, rfl, h6⟩
   have H6 := hide (Hgo.out W6 bb w5 h6)
   clear h6
   refine hK _ _ ?_
   clear hK K
   try simp only [Act.put, List.setIfInBounds_toArray, List.set_cons_zero, List.set_cons_succ, List.getElem_toArray, List.getElem_cons_succ, List.getElem_cons_zero]
   refine wpAny_done (by kernel_rfl) ?_ _
   clear hwk Hgo hfs c0 c1 c2 v0 v1 v2 hB5 hb5
   go_wp2
   go_end0
   exact ⟨⟨_, rfl⟩, H6.out⟩
  ·go_simp
   refine hK _ _ ?_
   clear hK K
   try simp only [Act.put, List.setIfInBounds_toArray, List.set_cons_zero, List.set_cons_succ, List.getElem_toArray, List.getElem_cons_succ, List.getElem_cons_zero]
   refine wpAny_ready (rs := [0]) (by kernel_rfl) (by simp) ?_
   refine AllReady.cons rfl (fun K hK => ?_) AllReady.nil
   go_simp
   refine hK _ _ ?_
   clear hK K
   try simp only [Act.put, List.setIfInBounds_toArray, List.set_cons_zero, List.set_cons_succ, List.getElem_toArray, List.getElem_cons_succ, List.getElem_cons_zero]
   refine wpAny_take (i := 1) (v := ?_) rfl (by kernel_rfl) (by kernel_rfl) (by kernel_rfl) (fun _ _ _ h => h) (Or.inl ⟨by kernel_rfl, ?_⟩) ?_
   rotate_left
   ·intro w; go_simp; first | done | with_reducible rfl
   try simp only [Act.put, List.setIfInBounds_toArray, List.set_cons_zero, List.set_cons_succ, List.getElem_toArray, List.getElem_cons_succ, List.getElem_cons_zero]
   refine wpAny_take (i := 2) (v := ?_) rfl (by kernel_rfl) (by kernel_rfl) (by kernel_rfl) (fun _ _ _ h => h) (Or.inl ⟨by kernel_rfl, ?_⟩) ?_
   rotate_left
   ·intro w; go_simp; first | done | with_reducible rfl
   try simp only [Act.put, List.setIfInBounds_toArray, List.set_cons_zero, List.set_cons_succ, List.getElem_toArray, List.getElem_cons_succ, List.getElem_cons_zero]
   refine wpAny_ready (rs := [6]) (by kernel_rfl) (by simp) ?_
   refine AllReady.cons rfl (fun K hK => ?_) AllReady.nil
   go_simp
   go_wp2_with fail
   refine (hwk.out w5 hB5).mono ?_
   rintro e W6 ⟨bb, rfl, h6⟩
   have H6 := hide (Hgo.out W6 bb w5 h6)
   clear h6
   refine hK _ _ ?_
   clear hK K
   try simp only [Act.put, List.setIfInBounds_toArray, List.set_cons_zero, List.set_cons_succ, List.getElem_toArray, List.getElem_cons_succ, List.getElem_cons_zero]
   refine wpAny_done (by kernel_rfl) ?_ _
   clear hwk Hgo hfs c0 c1 c2 v0 v1 v2 hB5 hb5
   go_wp2
   go_end0
   exact ⟨⟨_, rfl⟩, H6.out⟩
 ·go_simp
  refine hK _ _ ?_
  clear hK K
  try simp only [Act.put, List.setIfInBounds_toArray, List.set_cons_zero, List.set_cons_succ, List.getElem_toArray, List.getElem_cons_succ, List.getElem_cons_zero]
  refine wpAny_ready (rs := [0, 3]) (by kernel_rfl) (by simp) ?_
  refine AllReady.cons rfl (fun K hK => ?_) (AllReady.cons rfl (fun K hK => ?_) AllReady.nil)
  ·go_simp
   refine hK _ _ ?_
   clear hK K
   try simp only [Act.put, List.setIfInBounds_toArray, List.set_cons_zero, List.set_cons_succ, List.getElem_toArray, List.getElem_cons_succ, List.getElem_cons_zero]
   refine wpAny_take (i := 1) (v := ?_) rfl (by kernel_rfl) (by kernel_rfl) (by kernel_rfl) (fun _ _ _ h => h) (Or.inl ⟨by kernel_rfl, ?_⟩) ?_
   rotate_left
   ·intro w; go_simp; first | done | with_reducible rfl
   try simp only [Act.put, List.setIfInBounds_toArray, List.set_cons_zero, List.set_cons_succ, List.getElem_toArray, List.getElem_cons_succ, List.getElem_cons_zero]
   refine wpAny_take (i := 2) (v := ?_) rfl (by kernel_rfl) (by kernel_rfl) (by kernel_rfl) (fun _ _ _ h => h) (Or.inl ⟨by kernel_rfl, ?_⟩) ?_
   rotate_left
   ·intro w; go_simp; first | done | with_reducible rfl
   try simp only [Act.put, List.setIfInBounds_toArray, List.set_cons_zero, List.set_cons_succ, List.getElem_toArray, List.getElem_cons_succ, List.getElem_cons_zero]
   refine wpAny_ready (rs := [3]) (by kernel_rfl) (by simp) ?_
   refine AllReady.cons rfl (fun K hK => ?_) AllReady.nil
   go_simp
   go_wp2_with fail
   refine (hfs.out _).mono ?_
   rintro e w5 ⟨rfl, hb5⟩
   have hB5 : Below W.heap.size W w5 := (Below.refl _ W).drew.trans hb5
   have v0 := (hB5.cell (p := ⟨bt, 0, none⟩) l1).trans c0
   have v1 := (hB5.cell (p := ⟨bk, 0, none⟩) l2).trans c1
   have v2 := (hB5.cell (p := ⟨bk, 1, none⟩) l2).trans c2
   refine hK _ _ ?_
   clear hK K
   try simp only [Act.put, List.setIfInBounds_toArray, List.set_cons_zero, List.set_cons_succ, List.getElem_toArray, List.getElem_cons_succ, List.getElem_cons_zero]
   refine wpAny_ready (rs := [6]) (by kernel_rfl) (by simp) ?_
   refine AllReady.cons rfl (fun K hK => ?_) AllReady.nil
   go_simp
   go_wp2_with fail
   refine (hwk.out w5 hB5).mono ?_
   rintro e W6 ⟨bb, rfl, h6⟩
   have H6 := hide (Hgo.out W6 bb w5 h6)
   clear h6
   refine hK _ _ ?_
   clear hK K
   try simp only [Act.put, List.setIfInBounds_toArray, List.set_cons_zero, List.set_cons_succ, List.getElem_toArray, List.getElem_cons_succ, List.getElem_cons_zero]
   refine wpAny_done (by kernel_rfl) ?_ _
   clear hwk Hgo hfs c0 c1 c2 v0 v1 v2 hB5 hb5
   go_wp2
   go_end0
   exact ⟨⟨_, rfl⟩, H6.out⟩
  ·go_simp
   go_wp2_with fail
   refine (hfs.out _).mono ?_
   rintro e w5 ⟨rfl, hb5⟩
   have hB5 : Below W.heap.size W w5 := (Below.refl _ W).drew.trans hb5
   have v0 := (hB5.cell (p := ⟨bt, 0, none⟩) l1).trans c0
   have v1 := (hB5.cell (p := ⟨bk, 0, none⟩) l2).trans c1
   have v2 := (hB5.cell (p := ⟨bk, 1, none⟩) l2).trans c2
   refine hK _ _ ?_
   clear hK K
   try simp only [Act.put, List.setIfInBounds_toArray, List.set_cons_zero, List.set_cons_succ, List.getElem_toArray, List.getElem_cons_succ, List.getElem_cons_zero]
   refine wpAny_ready (rs := [0]) (by kernel_rfl) (by simp) ?_
   refine AllReady.cons rfl (fun K hK => ?_) AllReady.nil
   go_simp
   refine hK _ _ ?_
   clear hK K
   try simp only [Act.put, List.setIfInBounds_toArray, List.set_cons_zero, List.set_cons_succ, List.getElem_toArray, List.getElem_cons_succ, List.getElem_cons_zero]
   refine wpAny_take (i := 1) (v := ?_) rfl (by kernel_rfl) (by kernel_rfl) (by kernel_rfl) (fun _ _ _ h => h) (Or.inl ⟨by kernel_rfl, ?_⟩) ?_
   rotate_left
   ·intro w; go_simp; first | done | with_reducible rfl
   try simp only [Act.put, List.setIfInBounds_toArray, List.set_cons_zero, List.set_cons_succ, List.getElem_toArray, List.getElem_cons_succ, List.getElem_cons_zero]
   refine wpAny_take (i := 2) (v := ?_) rfl (by kernel_rfl) (by kernel_rfl) (by kernel_rfl) (fun _ _ _ h => h) (Or.inl ⟨by kernel_rfl, ?_⟩) ?_
   rotate_left
   ·intro w; go_simp; first | done | with_reducible rfl
   try simp only [Act.put, List.setIfInBounds_toArray, List.set_cons_zero, List.set_cons_succ, List.getElem_toArray, List.getElem_cons_succ, List.getElem_cons_zero]
   refine wpAny_ready (rs := [6]) (by kernel_rfl) (by simp) ?_
   refine AllReady.cons rfl (fun K hK => ?_) AllReady.nil
   go_simp
   go_wp2_with fail
   refine (hwk.out w5 hB5).mono ?_
   rintro e W6 ⟨bb, rfl, h6⟩
   have H6 := hide (Hgo.out W6 bb w5 h6)
   clear h6
   refine hK _ _ ?_
   clear hK K
   try simp only [Act.put, List.setIfInBounds_toArray, List.set_cons_zero, List.set_cons_succ, List.getElem_toArray, List.getElem_cons_succ, List.getElem_cons_zero]
   refine wpAny_done (by kernel_rfl) ?_ _
   clear hwk Hgo hfs c0 c1 c2 v0 v1 v2 hB5 hb5
   go_wp2
   go_end0
   exact ⟨⟨_, rfl⟩, H6.out⟩
end Go.Proofs.YtglbamalagacgaaGreat

namespace Go.Proofs.YtglbamalagacgaaGreat
open Go.RowKit Go.Shelf
attribute [local go_sem] Oper.semAt_some
theorem SeqF.mono {α : Type} {g : Nat} {lb : Array Value} {encs : α -> Array Value} {F F' : List Nat} {S Sp : List α -> Prop} {N : Nat} {w : World} (h : SeqF g lb encs F S Sp N w) (hF : ∀ k ∈ F, k ∈ F') : SeqF g lb encs F' S Sp N w :=
 fun l Own J Jx W hW hO => h l Own J Jx W hW (fun k hk => hO k (hF k hk))
def FromP (xs : List Ent) (F : List Nat) (b m : Int) (w : World) (r : Ending) (w' : World) : Prop :=
 ∃ g lb, r = .returned (.func (.func g) #[] lb) /\ Below w.heap.size w w' /\ (∀ args W, (callFunc g args).run Tryz.prog W = .ok (.enter g args) W) ∧
  ∀ q : Ent -> Prop, (∀ x ∈ xs, q x) -> SeqF g lb (encR (p := q)) F (fun ys => ys.map (·.1) = fromE xs b m) (fun pre => pre.map (·.1) <+: fromE xs b m) xs.length w'
theorem lstFrom_P (lp : Nat) (xs : List Ent) (F : List Nat) (b m : Int) (w : World) (hL : ListF w lp xs F) : Calls Tryz.prog 174 #[ptrV lp, pfxV b m] w (FromP xs F b m w) := by
 refine (lstFrom_any lp b m w).mono ?_
 rintro _ w' ⟨hM, rfl⟩
 exact ⟨_, _, rfl, hM.below, enters_of Tryz.func178 (by kernel_rfl) rfl, fun q hq => lstFrom1 q lp _ _ xs F b m w' (hL.later hM.below) hq hM.c0 hM.c1 hM.c2⟩
theorem trFrom_P (tp : Nat) (xs : List Ent) (F : List Nat) (b m : Int) (w : World) (hT : TrieF w tp xs F) (hs : Sorted xs) (hk : ∀ x ∈ xs, okE x) : Calls Tryz.prog 191 #[ptrV tp, pfxV b m] w (FromP xs F b m w) := by
 refine (trFrom_any tp b m w).mono ?_
 rintro _ w' ⟨hM, rfl⟩
 exact ⟨_, _, rfl, hM.below, enters_of Tryz.func196 (by kernel_rfl) rfl, fun q hq => trFrom1 q tp _ _ xs F b m w' (hT.later hM.below) hs hk hq hM.c0 hM.c1 hM.c2⟩
set_option maxHeartbeats 400000 in
theorem rgsFrom_P (p : Nat) (xs : List Ent) (F : List Nat) (b m : Int) (w : World) (hR : RangesF w p xs F) : Calls Tryz.prog 203 #[ptrV p, pfxV b m] w (FromP xs F b m w) := by
 obtain ⟨lp, sp, F1, F2, h, rfl⟩ := hR
 have c0 : w.cell? ⟨p, 0, none⟩ = some (ptrV lp) := by simp [World.cell?, h.blk]
 have hpl := h.lt
 have hpl1 : p < w.heap.size + 1 := by omega
 have hB1 : Below w.heap.size w (w.alloc (.cells #[.int .i64 b, .int .i64 m] 65)).drew := ((Below.refl _ w).alloc (Nat.le_refl _) _).drew
 have hL1 := h.lst.later hB1
 have Hfr := hide (lstFrom_any lp b m (w.alloc (.cells #[.int .i64 b, .int .i64 m] 65)).drew)
 have fin := hide (show ∀ w2, MadeSeq (w.alloc (.cells #[.int .i64 b, .int .i64 m] 65)).drew w2 lp b m -> FromP xs (p :: (F1 ++ F2)) b m w (.returned (.func (.func 178) #[] #[ptrV (w.alloc (.cells #[.int .i64 b, .int .i64 m] 65)).drew.heap.size, ptrV ((w.alloc (.cells #[.int .i64 b, .int .i64 m] 65)).drew.heap.size + 1)])) w2 from fun w2 hM =>
  ⟨_, _, rfl, hB1.trans (hM.below.mono hB1.size), enters_of Tryz.func178 (by kernel_rfl) rfl, fun q hq => (lstFrom1 q lp _ _ xs F1 b m w2 (hL1.later hM.below) hq hM.c0 hM.c1 hM.c2).mono (fun k hk => by simp [hk])⟩)
 simp only [World.size_drew, World.size_alloc] at fin
 clear h hL1 hB1
 go_enter Tryz.func203, Tryz.ntmps203
 go_wp2
 go_region_held3 (fun w' => w'.cell? ⟨p, 0, none⟩ = some (ptrV lp) /\ w'.cell? ⟨w.heap.size, 0, none⟩ = some (.int .i64 b) /\ w'.cell? ⟨w.heap.size, 1, none⟩ = some (.int .i64 m)) (go_keep)
  ((go_at_call 174; refine Hfr.out.mono ?_; rintro _ w2 ⟨hM, rfl⟩; have hc := (bcell hM.below).1))
 have fin2 := hide (fin.out w2 hM)
 clear hc hM fin Hfr
 go_wp2
 go_ret
 exact fin2.out
theorem ml_f (p : Nat) : Meth 128 p "From" 174 := ⟨fun _ => by kernel_rfl, fun _ => by kernel_rfl, fun _ _ => by kernel_rfl⟩
theorem mt_f (p : Nat) : Meth 129 p "From" 191 := ⟨fun _ => by kernel_rfl, fun _ => by kernel_rfl, fun _ _ => by kernel_rfl⟩
theorem mr_f (p : Nat) : Meth 130 p "From" 203 := ⟨fun _ => by kernel_rfl, fun _ => by kernel_rfl, fun _ _ => by kernel_rfl⟩
structure EngI (e : Value) (T p ff : Nat) : Prop where
 eq : e = .iface T (ptrV p)
 mf : Meth T p "From" ff
 frm : ∀ w xs F b m, EngF w e xs F -> Calls Tryz.prog ff #[ptrV p, pfxV b m] w (FromP xs F b m w)
theorem EngF.dispI {w : World} {e : Value} {xs : List Ent} {F : List Nat} (h : EngF w e xs F) : ∃ T p ff, EngI e T p ff := by
 obtain ⟨_, _, T, p, rfl, (⟨rfl, _⟩ | ⟨rfl, _⟩ | ⟨rfl, _⟩)⟩ := h
 ·exact ⟨_, _, _, rfl, ml_f p, fun w xs F b m h => by obtain ⟨_, _, h3⟩ := h.list; exact lstFrom_P p xs F b m w h3⟩
 ·exact ⟨_, _, _, rfl, mt_f p, fun w xs F b m h => by obtain ⟨h1, h2, h3⟩ := h.trie; exact trFrom_P p xs F b m w h3 h1 h2⟩
 ·exact ⟨_, _, _, rfl, mr_f p, fun w xs F b m h => by obtain ⟨_, _, h3⟩ := h.ranges; exact rgsFrom_P p xs F b m w h3⟩
end Go.Proofs.YtglbamalagacgaaGreat

namespace Go.Proofs.YtglbamalagacgaaGreat
open Go.RowKit Go.Shelf
attribute [local go_sem] Oper.semAt_some
theorem from_nil {xs : List Ent} {a l : Int} (h : fromE xs a l = []) : getE xs a l = none := by
 refine getE_none fun y hy hh => ?_
 have := List.filter_eq_nil_iff.1 h y hy
 unfold klt at this
 simp at this
 omega
theorem from_head {xs ys : List Ent} {a l : Int} {x : Ent} (hs : Sorted xs) (h : fromE xs a l = x :: ys) : getE xs a l = if x.a = a /\ x.l = l then some x.n else none := by
 have hx : x ∈ fromE xs a l := by rw [h]; simp
 obtain ⟨hx1, hx2⟩ := List.mem_filter.1 hx
 have hsf : Sorted (x :: ys) := h ▸ List.Pairwise.filter _ hs
 obtain ⟨_, hsf2⟩ := sorted_tail hsf
 by_cases he : x.a = a /\ x.l = l
 ·rw [if_pos he, <- he.1, <- he.2]
  clear he h hx hx2 hsf hsf2
  induction xs with
  | nil => cases hx1
  | cons y ys' ih =>
   obtain ⟨h1, h2⟩ := sorted_tail hs
   rw [getE]
   rcases List.mem_cons.1 hx1 with rfl | hx1
   ·rw [if_pos ⟨rfl, rfl⟩]
   ·have := h2 x hx1
    rw [if_neg (by unfold klt at this; omega)]
    exact ih h1 hx1
 ·rw [if_neg he]
  refine getE_none fun y hy hh => ?_
  have hyf : y ∈ fromE xs a l := List.mem_filter.2 ⟨hy, by unfold klt; simp; omega⟩
  rw [h] at hyf
  have hx3 : ¬ klt x.a x.l a l := of_decide_eq_false (by simpa only [Bool.not_eq_true'] using hx2)
  rcases List.mem_cons.1 hyf with rfl | hyf
  ·exact he hh
  ·have := hsf2 y hyf
   unfold klt at this hx3
   omega
theorem Below.soft {n B : Nat} {w A A' : World} (h : Below n w A) (hs : Soft B A A') (hn : n <= B) (hw : n <= w.heap.size) : Below n w A' :=
 ⟨hs.os.trans h.os, hs.tape.trans h.tape, hs.output.trans h.output, Nat.le_trans h.size hs.size, fun k hk => by
  have hA := h.block k hk
  have hk' : k < w.heap.size := by omega
  rw [Array.getElem?_eq_some_iff.2 ⟨hk', rfl⟩] at hA ⊢
  exact hs.block k _ hA (.inl (by omega))⟩
def NxI (w : World) (a l : Int) (c : Code) (pre : List { _x : Ent // True }) (W : World) : Prop :=
 Below w.heap.size w W /\ ∃ x, pre = [x] /\ ((c = .ret /\ (x.1.a = a /\ x.1.l = l) /\ W.heap[w.heap.size + 1]? = some (.cells #[.int .i64 x.1.n] 3 (0, 0))) ∨ (c = .exit 0 /\ ¬ (x.1.a = a /\ x.1.l = l) /\ W.heap[w.heap.size + 1]? = some (.cells #[.int .i64 0] 3 (0, 0))))
set_option maxHeartbeats 1000000 in
theorem next_any (e : Value) (xs : List Ent) (F : List Nat) (a l : Int) (w : World) (hE : EngF w e xs F) :
  Calls Tryz.prog 100 #[e, pfxV a l] w fun r w' => r = .returned (.int .i64 (orZ (getE xs a l))) /\ Below w.heap.size w w' := by
 obtain ⟨T, p, ff, D⟩ := hE.dispI
 have eq := D.eq
 have mf := D.mf.m
 have nf := D.mf.n
 have cf := D.mf.c
 have hsd := hE.sorted
 have hB1 : Below w.heap.size w ((w.alloc (.cells #[.int .i64 a, .int .i64 l] 65)).alloc (.cells #[.int .i64 0] 3)) := ((Below.refl _ w).alloc (Nat.le_refl _) _).alloc (by simp) _
 have hfr := hide (D.frm _ xs F a l (hE.later hB1))
 have hFl := hE.lt
 clear D hE
 subst eq
 refine (callsIn_wide (n := 5)).1 ?_
 refine callsIn_of_wp_marks Tryz.func100 rfl trivial ?_ rfl
 refine wpIn_wide.2 ?_
 simp only [Tryz.ntmps100, List.size_toArray, List.length_cons, List.length_nil, Nat.reduceAdd, Nat.reduceSub, Array.replicate_succ, Array.replicate_zero, List.push_toArray, List.append_toArray, List.nil_append, List.cons_append]
 go_wp2_with fail
 refine hfr.out.mono ?_
 rintro _ w2 ⟨g, lb, rfl, hB2, eg, hseq⟩
 have hseq := hseq (fun _ => True) (fun _ _ => trivial)
 have hB12 : Below w.heap.size w w2 := hB1.trans (hB2.mono (by simp; omega))
 have b0 : w2.heap[w.heap.size]? = some (.cells #[.int .i64 a, .int .i64 l] 65 (0, 0)) := (hB2.block _ (by simp; omega)).trans ((Below.heap_alloc _ _ _ (by simp)).trans (World.alloc_heap_new w _))
 have b1 : w2.heap[w.heap.size + 1]? = some (.cells #[.int .i64 0] 3 (0, 0)) := (hB2.block _ (by simp)).trans (by have := World.alloc_heap_new (w.alloc (.cells #[.int .i64 a, .int .i64 l] 65)) (.cells #[.int .i64 0] 3); rwa [World.size_alloc] at this)
 have hsz : w.heap.size + 2 <= w2.heap.size := by have := hB2.size; simp at this; omega
 clear hfr hB1
 go_wp2
 refine wpIn_wide.1 (range_law (α := { x : Ent // True }) (gf := g) (lb := lb) rfl eg hseq (Below.refl _ _) (fun _ => rfl)
  (fun _ k => k = w.heap.size + 1)
  (fun pre W => pre = [] /\ Below w.heap.size w W /\ W.heap[w.heap.size]? = some (.cells #[.int .i64 a, .int .i64 l] 65 (0, 0)) /\ W.heap[w.heap.size + 1]? = some (.cells #[.int .i64 0] 3 (0, 0)))
  (NxI w a l)
  ?hF ?hOl ?hI ?hIx ⟨rfl, hB12, b0, b1⟩ ?hround ?hdone ?hstop)
 case hF =>
  rintro k hk rfl
  have := hFl _ hk
  omega
 case hOl =>
  rintro s A ⟨_, _, _, h⟩ k rfl
  exact (Array.getElem?_eq_some_iff.1 h).1
 case hI =>
  rintro s A B ⟨h1, h2, h3, h4⟩ hs
  exact ⟨⟨h1, Below.soft h2 hs (by omega) (Nat.le_refl _), hs.block _ _ h3 (.inr rfl), hs.block _ _ h4 (.inr rfl)⟩, fun k h => h⟩
 case hIx =>
  rintro c s A B ⟨h1, x, h2, h3⟩ hs
  refine ⟨Below.soft h1 hs (by omega) (Nat.le_refl _), x, h2, ?_⟩
  rcases h3 with ⟨q1, q2, q3⟩ | ⟨q1, q2, q3⟩
  ·exact .inl ⟨q1, q2, hs.block _ _ q3 (.inr rfl)⟩
  ·exact .inr ⟨q1, q2, hs.block _ _ q3 (.inr rfl)⟩
 case hround =>
  rintro l' pre x W3 hl1 hl2 ⟨rfl, i1, i2, i3⟩ hlen
  have hBq : Below W3.heap.size W3 (W3.alloc (Obj.cells #[.int .i64 x.1.a, .int .i64 x.1.l, .int .i64 x.1.n] 90)) := (Below.refl _ W3).alloc (Nat.le_refl _) _
  gi_wp2
  refine ⟨Soft.of_below hBq, Firm.of_below hBq, ?_⟩
  intro W4 hs4
  have hB4 : Below w.heap.size w W4 := Below.soft (i1.trans (hBq.mono i1.size)) hs4 (by omega) (Nat.le_refl _)
  have q0 : W4.heap[W3.heap.size]? = some (.cells #[.int .i64 x.1.a, .int .i64 x.1.l, .int .i64 x.1.n] 90 (0, 0)) := hs4.block _ _ (World.alloc_heap_new W3 _) (.inr rfl)
  have q1 : W4.heap[w.heap.size]? = some (.cells #[.int .i64 a, .int .i64 l] 65 (0, 0)) := hs4.block _ _ ((hBq.block _ (Array.getElem?_eq_some_iff.1 i2).1).trans i2) (.inr rfl)
  have q2 : W4.heap[w.heap.size + 1]? = some (.cells #[.int .i64 0] 3 (0, 0)) := hs4.block _ _ ((hBq.block _ (Array.getElem?_eq_some_iff.1 i3).1).trans i3) (.inr rfl)
  have r0 : W4.cell? ⟨W3.heap.size, 0, none⟩ = some (.int .i64 x.1.a) := by simp [World.cell?, q0]
  have r1 : W4.cell? ⟨W3.heap.size, 1, none⟩ = some (.int .i64 x.1.l) := by simp [World.cell?, q0]
  have r2 : W4.cell? ⟨W3.heap.size, 2, none⟩ = some (.int .i64 x.1.n) := by simp [World.cell?, q0]
  have r3 : W4.cell? ⟨w.heap.size, 0, none⟩ = some (.int .i64 a) := by simp [World.cell?, q1]
  have r4 : W4.cell? ⟨w.heap.size, 1, none⟩ = some (.int .i64 l) := by simp [World.cell?, q1]
  have r5 : W4.cell? ⟨w.heap.size + 1, 0, none⟩ = some (.int .i64 0) := by simp [World.cell?, q2]
  have z0 := (Array.getElem?_eq_some_iff.1 q0).1
  have z1 := (Array.getElem?_eq_some_iff.1 q1).1
  have z2 := (Array.getElem?_eq_some_iff.1 q2).1
  have hmx : Tryz.prog.follows .mixedOrders = true := by kernel_rfl
  obtain ⟨⟨xa, xl, xn⟩, hx⟩ := x
  simp only at r0 r1 r2 q0
  clear hs4 i1 i2 i3 hBq
  have r6 : W4.frozen? ⟨w.heap.size + 1, 0, none⟩ = false := by simp [World.frozen?, q2]
  have Hfin := hide (show ∀ w5, Below W4.heap.size W4 w5 -> ¬ (xa = a /\ xl = l) -> Firm w2.heap.size W4 w5 /\ NxI w a l (.exit 0) ([] ++ [(⟨⟨xa, xl, xn⟩, hx⟩ : { x : Ent // True })]) w5 from fun w5 hB5 hne =>
   ⟨Firm.of_below hB5, hB4.trans (hB5.mono hB4.size), ⟨⟨xa, xl, xn⟩, hx⟩, rfl, .inr ⟨rfl, hne, (hB5.block _ z2).trans q2⟩⟩)
  have Hfin2 := hide (show ∀ w5, Below W4.heap.size W4 w5 -> (xa = a /\ xl = l) -> Firm w2.heap.size W4 (w5.setCell ⟨w.heap.size + 1, 0, none⟩ (.int .i64 xn)) /\ NxI w a l .ret ([] ++ [(⟨⟨xa, xl, xn⟩, hx⟩ : { x : Ent // True })]) (w5.setCell ⟨w.heap.size + 1, 0, none⟩ (.int .i64 xn)) from fun w5 hB5 he =>
   ⟨(Firm.of_below hB5).trans (Firm.setCell _ _ _), (hB4.trans (hB5.mono hB4.size)).setCell (by simp) _, ⟨⟨xa, xl, xn⟩, hx⟩, rfl, .inl ⟨rfl, he, by
    have h := (hB5.block _ z2).trans q2
    rw [setCell_eq_setRow w5 (w.heap.size + 1) 0 _ _ _ (.int .i64 xn) h]
    exact setRow_heap w5 _ _ _ _ _ h⟩⟩)
  clear hB4 q0 q1 q2
  rcases (show (xa = a /\ xl = l) ∨ ¬ (xa = a) ∨ (xa = a /\ ¬ (xl = l)) by omega) with ⟨rfl, rfl⟩ | h1 | ⟨rfl, h1⟩
  ·gi_wp2
   gi_region_with_o ((refine ⟨trivial, ?_⟩; gi_at_call 79; refine (CallsIn.inRound l' (callsIn_wide.2 (of_any _ _ _ _))).mono ?_; rintro e w5 ⟨rfl, hb5⟩; (have hB5 : Below W4.heap.size W4 w5 := (Below.refl _ W4).drew.trans hb5); (have s3 := (hB5.cell (p := ⟨w.heap.size, 0, none⟩) z1).trans r3); (have s4 := (hB5.cell (p := ⟨w.heap.size, 1, none⟩) z1).trans r4); (have s2 := (hB5.cell (p := ⟨W3.heap.size, 2, none⟩) z0).trans r2); (have s5 := (hB5.cell (p := ⟨w.heap.size + 1, 0, none⟩) z2).trans r5); (have s6 := (hB5.frozen (p := ⟨w.heap.size + 1, 0, none⟩) z2).trans r6)))
   all_goals
    have fin := hide (Hfin2.out w5 hB5 (by simp))
    clear hB5 hb5 Hfin Hfin2
    gi_wp2
    exact fin.out
  ·gi_wp2
   gi_region_with_o ((refine ⟨trivial, ?_⟩; gi_at_call 79; refine (CallsIn.inRound l' (callsIn_wide.2 (of_any _ _ _ _))).mono ?_; rintro e w5 ⟨rfl, hb5⟩; (have hB5 : Below W4.heap.size W4 w5 := (Below.refl _ W4).drew.trans hb5); (have s3 := (hB5.cell (p := ⟨w.heap.size, 0, none⟩) z1).trans r3); (have s4 := (hB5.cell (p := ⟨w.heap.size, 1, none⟩) z1).trans r4)))
   all_goals
    have fin := hide (Hfin.out w5 hB5 (fun h => h1 h.1))
    clear hB5 hb5 Hfin Hfin2
    gi_wp2
    exact fin.out
  ·gi_wp2
   gi_region_with_o ((refine ⟨trivial, ?_⟩; gi_at_call 79; refine (CallsIn.inRound l' (callsIn_wide.2 (of_any _ _ _ _))).mono ?_; rintro e w5 ⟨rfl, hb5⟩; (have hB5 : Below W4.heap.size W4 w5 := (Below.refl _ W4).drew.trans hb5); (have s3 := (hB5.cell (p := ⟨w.heap.size, 0, none⟩) z1).trans r3); (have s4 := (hB5.cell (p := ⟨w.heap.size, 1, none⟩) z1).trans r4)))
   all_goals
    have fin := hide (Hfin.out w5 hB5 (fun h => h1 h.2))
    clear hB5 hb5 Hfin Hfin2
    gi_wp2
    exact fin.out
 case hdone =>
  rintro D ys W3 hD hS3 ⟨rfl, i1, i2, i3⟩ hK
  have hz := from_nil hS3.symm
  have d0 : W3.cell? ⟨w.heap.size + 1, 0, none⟩ = some (.int .i64 0) := by simp [World.cell?, i3]
  have d1 : W3.frozen? ⟨w.heap.size + 1, 0, none⟩ = false := by simp [World.frozen?, i3]
  have hBs : Soft w2.heap.size (W3.setCell ⟨w.heap.size + 1, 0, none⟩ (.int .i64 0)) ((W3.setCell ⟨w.heap.size + 1, 0, none⟩ (.int .i64 0)).putObj D (.deferred none)) := Soft.putObj _ ((Below.heap_setCell _ _ _ _ (by simp only; omega)).trans hK) hD rfl
  have hd3 : ((W3.setCell ⟨w.heap.size + 1, 0, none⟩ (.int .i64 0)).putObj D (.deferred none)).cell? ⟨w.heap.size + 1, 0, none⟩ = some (.int .i64 0) := hBs.cell (by
   rw [setCell_eq_setRow W3 (w.heap.size + 1) 0 _ _ _ (.int .i64 0) i3]; simp only [World.cell?]; rw [setRow_heap W3 _ _ _ _ _ i3]; rfl)
  have fin := hide (show Below w.heap.size w ((W3.setCell ⟨w.heap.size + 1, 0, none⟩ (.int .i64 0)).putObj D (.deferred none)) from Below.soft (i1.setCell (by simp) _) hBs (by omega) (Nat.le_refl _))
  have HK := hide (show (W3.setCell ⟨w.heap.size + 1, 0, none⟩ (.int .i64 0)).heap[D]? = some (.deferred (some [])) from (Below.heap_setCell _ _ _ _ (by simp only; omega)).trans hK)
  clear hK i1 i2 i3 hBs
  gi_wp2
  go_wp2
  refine ⟨by simp, .inl ⟨_, _, rfl, run_takeDeferred HK.out, ?_⟩⟩
  rw [hz]
  exact ⟨.int .i64 0, by simp [results, Tryz.results100, go_sem, *], rfl, fin.out⟩
 case hstop =>
  rintro D c pre W3 hD hS3 hI hK
  obtain ⟨i1, x, rfl, (⟨rfl, he, i3⟩ | ⟨rfl, he, i3⟩)⟩ := hI
  ·obtain ⟨ys, hys⟩ := hS3
   have hz := from_head hsd hys.symm
   rw [if_pos he] at hz
   have hBs : Soft w2.heap.size W3 (W3.putObj D (.deferred none)) := Soft.putObj _ hK hD rfl
   have hd3 : (W3.putObj D (.deferred none)).cell? ⟨w.heap.size + 1, 0, none⟩ = some (.int .i64 x.1.n) := hBs.cell (by simp [World.cell?, i3])
   have fin := hide (show Below w.heap.size w (W3.putObj D (.deferred none)) from Below.soft i1 hBs (by omega) (Nat.le_refl _))
   have HK := hide hK
   clear hK i1 i3 hBs
   gi_wp2
   refine ⟨by simp, .inl ⟨_, _, rfl, run_takeDeferred HK.out, ?_⟩⟩
   try rw [hz]
   exact ⟨.int .i64 x.1.n, by simp [results, Tryz.results100, go_sem, *], rfl, fin.out⟩
  ·obtain ⟨ys, hys⟩ := hS3
   have hz := from_head hsd hys.symm
   rw [if_neg he] at hz
   have d0 : W3.cell? ⟨w.heap.size + 1, 0, none⟩ = some (.int .i64 0) := by simp [World.cell?, i3]
   have d1 : W3.frozen? ⟨w.heap.size + 1, 0, none⟩ = false := by simp [World.frozen?, i3]
   have hBs : Soft w2.heap.size (W3.setCell ⟨w.heap.size + 1, 0, none⟩ (.int .i64 0)) ((W3.setCell ⟨w.heap.size + 1, 0, none⟩ (.int .i64 0)).putObj D (.deferred none)) := Soft.putObj _ ((Below.heap_setCell _ _ _ _ (by simp only; omega)).trans hK) hD rfl
   have hd3 : ((W3.setCell ⟨w.heap.size + 1, 0, none⟩ (.int .i64 0)).putObj D (.deferred none)).cell? ⟨w.heap.size + 1, 0, none⟩ = some (.int .i64 0) := hBs.cell (by
    rw [setCell_eq_setRow W3 (w.heap.size + 1) 0 _ _ _ (.int .i64 0) i3]; simp only [World.cell?]; rw [setRow_heap W3 _ _ _ _ _ i3]; rfl)
   have fin := hide (show Below w.heap.size w ((W3.setCell ⟨w.heap.size + 1, 0, none⟩ (.int .i64 0)).putObj D (.deferred none)) from Below.soft (i1.setCell (by simp) _) hBs (by omega) (Nat.le_refl _))
   have HK := hide (show (W3.setCell ⟨w.heap.size + 1, 0, none⟩ (.int .i64 0)).heap[D]? = some (.deferred (some [])) from (Below.heap_setCell _ _ _ _ (by simp only; omega)).trans hK)
   clear hK i1 i3 hBs
   gi_wp2
   go_wp2
   refine ⟨by simp, .inl ⟨_, _, rfl, run_takeDeferred HK.out, ?_⟩⟩
   rw [hz]
   exact ⟨.int .i64 0, by simp [results, Tryz.results100, go_sem, *], rfl, fin.out⟩
end Go.Proofs.YtglbamalagacgaaGreat

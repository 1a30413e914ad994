import PyProof.Rows.All
import Wide.All
import OpenK.AllK
import Wide.FinOn
import HandS.ForMost
import HandS.Flow
import HandS.Zip
import HandS.IsInst
import HandS.Deep
import HandS.Set
import HandS.SetFor
import HandS.Strs
import PyProof.SumAny
import PyProof.ListOps
import HandS.Dict
import HandS.Exc
import HandS.ExcInit
import HandS.ExcIs
import KE.KExcInit
import HandS.MakeKw
import KE.KExcMake
import HandS.ExcOwn
import HandS.SortRule
import HandS.TupAny
import HandS.WordsExc
import HandS.TryMany
import HandS.Conv
import KE.SortData
import KE.GoesEnum
import HandS.Iter
import KE.OsSortAny
import HandS.Style
import HandS.Words
import OpenK.KMore
import HandS.TupMul
import PySem.Challenge.RW_nosplit_k03_what_reads_see
set_option Elab.async false
set_option linter.all false
set_option maxRecDepth 100000
set_option maxHeartbeats 4000000
namespace Kz
open PySem PySem.Spec PyProof.Rows L2 RZ
theorem new_same {H : Hp} {p : Addr} {o : HO} (h : H p = none) : Same H (upd H p o) := fun b x e => (upd_ne (ne_of_none e h)).trans e
theorem seqT_same {K : PySem.W.Frag} {H H' : Hp} {a : Addr} {xs : List V} (e : Same H H') (h : SqT K H a xs) : SqT K H' a xs := by
  rcases h with (h | ⟨o, h⟩) | h
  · exact .inl (.inl (e _ _ h))
  · exact .inl (.inr ⟨o, e _ _ h⟩)
  · exact .inr h
mutual
theorem dp_same {K : PySem.W.Frag} {H H' : Hp} (e : Same H H') : ∀ {v : V} {d : PyData}, Dp K H v d → Dp K H' v d
  | _, _, .non => .non
  | _, _, .bl b => .bl b
  | _, _, .int i => .int i
  | _, _, .str x => .str x
  | _, _, .lst h r => .lst (e.seq h) (dpAll_same e r)
  | _, _, .tup h r => .tup (seqT_same e h) (dpAll_same e r)
theorem dpAll_same {K : PySem.W.Frag} {H H' : Hp} (e : Same H H') : ∀ {vs : List V} {ds : List PyData}, DpAll K H vs ds → DpAll K H' vs ds
  | _, _, .nil => .nil
  | _, _, .cons h r => .cons (dp_same e h) (dpAll_same e r)
end
theorem dpAll_len {K : PySem.W.Frag} {H : Hp} : ∀ {vs : List V} {ds : List PyData}, DpAll K H vs ds → vs.length = ds.length
  | _, _, .nil => rfl
  | _, _, .cons _ r => congrArg Nat.succ (dpAll_len r)
theorem dpAll_at {K : PySem.W.Frag} {H : Hp} : ∀ {vs : List V} {ds : List PyData} {i : Nat} {v : V}, DpAll K H vs ds → vs[i]? = some v → ∃ d, ds[i]? = some d ∧ Dp K H v d
  | _, _, _, _, .nil, h => by simp at h
  | _, _, 0, _, .cons (d := d) h _, e => by
    have e' := Option.some.inj e
    subst e'
    exact ⟨d, rfl, h⟩
  | _, _, i + 1, _, .cons _ r, e => dpAll_at (i := i) r e
/-- a loop over enumerate of a list that stands still -/
theorem for_en {K : PySem.W.Frag} {a : Addr} {xs : List V} {g : TG} {tb : TS} {D : Ends} {σ : L2.St} {H : Hp} (Pv : Nat → L2.St → Hp → Prop) (h0 : Pv 0 σ H) (hq : ∀ i σ H, Pv i σ H → SqL K H a xs)
    (hs : ∀ (i : Nat) (x : V) (T : Addr) (σ : L2.St) (H : Hp), xs[i]? = some x → Pv i σ H → H T = none → g (.ref T) σ (upd H T (.tup [.int (i : Nat), x])) fun σ2 H2 => tb { D with nx := Pv (i + 1), ct := Pv (i + 1), bk := D.nx } σ2 H2)
    (hd : ∀ σ H, Pv xs.length σ H → D.nx σ H) : ∃ W : Nat → Nat → L2.St → Hp → Prop, (∃ m, W 0 m σ H) ∧ ∀ i m σ H, W i m σ H →
      ((Ite K a).stop i H ∧ D.nx σ H) ∨ ((Ite K a).go i H ∧ ∃ N : L2.St → Hp → Prop, (∀ σ' H', N σ' H' → ∃ m', m' < m ∧ W (i + 1) m' σ' H') ∧ ∀ v H', (Ite K a).yld i H v H' → g v σ H' fun σ2 H2 => tb { D with nx := N, ct := N, bk := D.nx } σ2 H2) := by
  refine ⟨fun i m σ H => m = xs.length - i ∧ i ≤ xs.length ∧ Pv i σ H, ⟨xs.length, rfl, Nat.zero_le _, h0⟩, ?_⟩
  rintro i m σ H ⟨rfl, hi, p⟩
  have qx := hq i σ H p
  by_cases hlt : i < xs.length
  · have hx : xs[i]? = some xs[i] := List.getElem?_eq_getElem hlt
    refine .inr ⟨⟨xs, _, qx, hx⟩, Pv (i + 1), fun σ' H' p' => ⟨xs.length - (i + 1), by omega, rfl, hlt, p'⟩, fun v H' y => ?_⟩
    obtain ⟨T, x', rfl, hT, rfl, f1⟩ := y
    exact hs i x' T σ H (f1 xs qx) p hT
  · have e : i = xs.length := by omega
    subst e
    exact .inl ⟨⟨xs, qx, Nat.le_refl _⟩, hd σ H p⟩
/-- a comprehension over zip of two lists that stand still -/
theorem lc_zL {K : PySem.W.Frag} {a b : Addr} {xs ys : List V} {g : TG} {tt : TT} {te : TE} {vs : List Nat} {σ : L2.St} {H1 : Hp} {D : Addr} {Qd : Hp → Prop} (hl : xs.length = ys.length) (Pv : Nat → Hp → Prop) (h0 : Pv 0 (upd H1 D (.lst []))) (hq : ∀ i H, Pv i H → SqL K H a xs ∧ SqL K H b ys)
    (hs : ∀ i x y T H, xs[i]? = some x → ys[i]? = some y → Pv i H → H T = none → g (.ref T) (wipe σ vs) (upd H T (.tup [x, y])) fun σ2 H2 => wipe σ2 vs = wipe σ vs ∧ tt σ2 H2 fun b H3 =>
      if b = true then te σ2 H3 fun y H4 => ∃ acc, H4 D = some (.lst acc) ∧ acc.length < sizeLine ∧ Pv (i + 1) (upd H4 D (.lst (acc ++ [y]))) else Pv (i + 1) H3) (hd : ∀ H, Pv xs.length H → Qd H) :
    ∃ W : Nat → Nat → Hp → Prop, (∃ m, W 0 m (upd H1 D (.lst []))) ∧ ∀ i m H, W i m H →
      ((Itz K a b).stop i H ∧ Qd H) ∨ ((Itz K a b).go i H ∧ ∃ Nx : Hp → Prop, (∀ H', Nx H' → ∃ m', m' < m ∧ W (i + 1) m' H') ∧ ∀ x H', (Itz K a b).yld i H x H' → g x (wipe σ vs) H' fun σ2 H2 => wipe σ2 vs = wipe σ vs ∧ tt σ2 H2 fun b H3 =>
        if b = true then te σ2 H3 fun y H4 => ∃ acc, H4 D = some (.lst acc) ∧ acc.length < sizeLine ∧ Nx (upd H4 D (.lst (acc ++ [y]))) else Nx H3) := by
  refine ⟨fun i m H => m = xs.length - i ∧ i ≤ xs.length ∧ Pv i H, ⟨xs.length, rfl, Nat.zero_le _, h0⟩, ?_⟩
  rintro i m H ⟨rfl, hi, p⟩
  obtain ⟨qx, qy⟩ := hq i H p
  by_cases hlt : i < xs.length
  · have hx : xs[i]? = some xs[i] := List.getElem?_eq_getElem hlt
    have hlt2 : i < ys.length := by omega
    have hy : ys[i]? = some ys[i] := List.getElem?_eq_getElem hlt2
    refine .inr ⟨⟨xs, ys, _, _, qx, qy, hx, hy⟩, Pv (i + 1), fun H' p' => ⟨xs.length - (i + 1), by omega, rfl, hlt, p'⟩, fun v H' z => ?_⟩
    obtain ⟨T, x', y', rfl, hT, rfl, f1, f2⟩ := z
    exact hs i x' y' T H (f1 xs qx) (f2 ys qy) p hT
  · have e : i = xs.length := by omega
    subst e
    exact .inl ⟨⟨xs, ys, qx, qy, Or.inl (Nat.le_refl _)⟩, hd H p⟩
/-- .. of two tuples -/
theorem lc_zT {K : PySem.W.Frag} {a b : Addr} {xs ys : List V} {g : TG} {tt : TT} {te : TE} {vs : List Nat} {σ : L2.St} {H1 : Hp} {D : Addr} {Qd : Hp → Prop} (hl : xs.length = ys.length) (Pv : Nat → Hp → Prop) (h0 : Pv 0 (upd H1 D (.lst []))) (hq : ∀ i H, Pv i H → SqT K H a xs ∧ SqT K H b ys)
    (hs : ∀ i x y T H, xs[i]? = some x → ys[i]? = some y → Pv i H → H T = none → g (.ref T) (wipe σ vs) (upd H T (.tup [x, y])) fun σ2 H2 => wipe σ2 vs = wipe σ vs ∧ tt σ2 H2 fun b H3 =>
      if b = true then te σ2 H3 fun y H4 => ∃ acc, H4 D = some (.lst acc) ∧ acc.length < sizeLine ∧ Pv (i + 1) (upd H4 D (.lst (acc ++ [y]))) else Pv (i + 1) H3) (hd : ∀ H, Pv xs.length H → Qd H) :
    ∃ W : Nat → Nat → Hp → Prop, (∃ m, W 0 m (upd H1 D (.lst []))) ∧ ∀ i m H, W i m H →
      ((ItzT K a b).stop i H ∧ Qd H) ∨ ((ItzT K a b).go i H ∧ ∃ Nx : Hp → Prop, (∀ H', Nx H' → ∃ m', m' < m ∧ W (i + 1) m' H') ∧ ∀ x H', (ItzT K a b).yld i H x H' → g x (wipe σ vs) H' fun σ2 H2 => wipe σ2 vs = wipe σ vs ∧ tt σ2 H2 fun b H3 =>
        if b = true then te σ2 H3 fun y H4 => ∃ acc, H4 D = some (.lst acc) ∧ acc.length < sizeLine ∧ Nx (upd H4 D (.lst (acc ++ [y]))) else Nx H3) := by
  refine ⟨fun i m H => m = xs.length - i ∧ i ≤ xs.length ∧ Pv i H, ⟨xs.length, rfl, Nat.zero_le _, h0⟩, ?_⟩
  rintro i m H ⟨rfl, hi, p⟩
  obtain ⟨qx, qy⟩ := hq i H p
  by_cases hlt : i < xs.length
  · have hx : xs[i]? = some xs[i] := List.getElem?_eq_getElem hlt
    have hlt2 : i < ys.length := by omega
    have hy : ys[i]? = some ys[i] := List.getElem?_eq_getElem hlt2
    refine .inr ⟨⟨xs, ys, _, _, qx, qy, hx, hy⟩, Pv (i + 1), fun H' p' => ⟨xs.length - (i + 1), by omega, rfl, hlt, p'⟩, fun v H' z => ?_⟩
    obtain ⟨T, x', y', rfl, hT, rfl, f1, f2⟩ := z
    exact hs i x' y' T H (f1 xs qx) (f2 ys qy) p hT
  · have e : i = xs.length := by omega
    subst e
    exact .inl ⟨⟨xs, ys, qx, qy, Or.inl (Nat.le_refl _)⟩, hd H p⟩
theorem cut_take (xs : List V) (m : Nat) : cutV xs none (some (m : Int)) = xs.take m := by
  unfold cutV
  rw [HT.sIx_none, HT.sIx_nat, Nat.sub_zero, List.drop_zero]
  by_cases h : m ≤ xs.length
  · rw [Nat.min_eq_left h]
  · rw [Nat.min_eq_right (by omega), List.take_length, List.take_of_length_le (by omega)]
theorem cut_map {α : Type} (f : α → V) (xs : List α) (lo hi : Option Int) : ∃ ys : List α, cutV (xs.map f) lo hi = ys.map f ∧ ys.length ≤ xs.length := by
  refine ⟨(xs.drop (HT.sIx xs.length 0 lo)).take (HT.sIx xs.length xs.length hi - HT.sIx xs.length 0 lo), ?_, ?_⟩
  · unfold cutV
    rw [List.length_map, List.map_take, List.map_drop]
  · rw [List.length_take, List.length_drop]
    omega
theorem cut_past (xs : List V) (m : Nat) (hi : Option Int) (h : xs.length ≤ m) : cutV xs (some (m : Int)) hi = [] := by
  unfold cutV
  rw [HT.sIx_nat, Nat.min_eq_right h, List.drop_length, List.take_nil]
end Kz

namespace Kz
open PySem PySem.Spec PyProof.Rows L2
/-- x in t, x not in t: t a tuple of data of any depth -/
def rInDT (K : PySem.W.Frag) (neg : Bool) : R2 := fun x y H Q => ∃ d ds, Dp K H x d ∧ Dp K H y (.tuple ds) ∧ SeqAt.shaped d = true ∧ SeqAt.shaped (.tuple ds) = true ∧ Q (.bl (if neg then !(ds.any fun z => PyData.eqv z d) else ds.any fun z => PyData.eqv z d)) H
theorem op_inDT {X : Cx} (hu : X.A.units + 65 < cLine) : OpR X (compareOp .In) (rInDT X.K false) := by
  intro pins s σ H x y v u Q I rx ry ⟨d, ds, hx, hy, sx, sy, q⟩
  obtain ⟨as, ra⟩ := Dp.reads I _ _ _ hy ry
  obtain ⟨bs, rb⟩ := Dp.reads I _ _ _ hx rx
  exact SeqAt.in_tuple_reads ra rb (SeqAt.canLay_of_shaped sy) (SeqAt.canLay_of_shaped sx) (room_in_shaped sx hu) ⟨.bl (ds.any fun z => PyData.eqv z d), H, I, rfl, q⟩
theorem op_notInDT {X : Cx} (hu : X.A.units + 65 < cLine) : OpR X (compareOp .NotIn) (rInDT X.K true) := by
  intro pins s σ H x y v u Q I rx ry ⟨d, ds, hx, hy, sx, sy, q⟩
  obtain ⟨as, ra⟩ := Dp.reads I _ _ _ hy ry
  obtain ⟨bs, rb⟩ := Dp.reads I _ _ _ hx rx
  exact SeqAt.notIn_tuple_reads ra rb (SeqAt.canLay_of_shaped sy) (SeqAt.canLay_of_shaped sx) (room_in_shaped sx hu) ⟨.bl (!ds.any fun z => PyData.eqv z d), H, I, rfl, q⟩
end Kz

namespace Kt
open PySem PySem.Spec PyProof.Rows L2
/-! ### sets of texts, whose table can be walked -/
def tx (e : Int × Value) : Str := strOf e.2
def TxE (w : World) (e : Int × Value) : Prop := ∃ x t, e = (hashStr w x, Value.str x t)
abbrev Led (w : World) (b : Bool) : Prop := w.params.followText "set-order" = true ∨ b = true
/-- the set at a has just the texts of l -/
def TxR (w : World) (h : Heap) (a : Addr) (l : List Str) : Prop := ∃ o es ep t, h.get? a = some o ∧ o.ExactSet ∧ o.data = Data.set es ep t ∧
  (∀ e ∈ es.toList, TxE w e) ∧ es.toList.map tx = l ∧ l.Nodup ∧ es.size < scanBound ∧ t.fits es.size = true ∧ Ris t.place.toList ∧ Led w t.led
section
variable {P : Program} {w : World} {h h' : Heap} {a : Addr} {l : List Str}
theorem TxR.keep (R : TxR w h a l) (k : ∀ o, h.get? a = some o → h'.get? a = some o) : TxR w h' a l :=
  R.elim fun o z => z.elim fun es z => z.elim fun ep z => z.elim fun t z => ⟨o, es, ep, t, k o z.1, z.2⟩
theorem TxR.len (R : TxR w h a l) : l.length < scanBound := by
  obtain ⟨o, es, ep, t, _, _, _, _, q, _, b, _⟩ := R
  rw [← q, List.length_map, Array.length_toList]
  exact b
theorem txE_elems {m : List (Int × Value)} (g : ∀ e ∈ m, TxE w e) : ElemsOf (PySem.strKind P w) m := fun e he => by
  obtain ⟨x, t, rfl⟩ := g e he
  exact ⟨⟨x, strKind_is P w x t, rfl⟩, rfl⟩
theorem txE_is {e : Int × Value} (g : TxE w e) (x : Str) : (PySem.strKind P w).is x e.2 = true ↔ tx e = x := by
  obtain ⟨y, t, rfl⟩ := g
  show Value.isStrOf x (.str y t) = true ↔ y = x
  unfold Value.isStrOf
  simp
end

section
variable {P : Program} {w : World} {A : Around} {E : Value → Shared → Prop} {s : Shared} {a : Addr} {l : List Str}
/-- what stands behind a new one: it is stored, and all is laid anew where the table has become too full -/
theorem tx_tail {g : Bool → Sem Unit} (hg : ∀ (b : Bool) (r : Shared) (Z : Unit → Shared → Prop), Z () r → wpAny (model P w) A (g b) Z E r) {o : Obj} {es fs : Array (Int × Value)} {ep : Nat} {t u : SetTable}
    (e0 : s.heap.get? a = some o) (e1 : o.ExactSet) (e2 : o.data = Data.set es ep t) (b0 : ∀ e ∈ fs.toList, TxE w e) (b1 : (fs.toList.map tx).Nodup) (b2 : fs.size < scanBound)
    (b3 : u.fits fs.size = true) (b4 : Ris u.place.toList) (b5 : Led w u.led) {d : Bool} {Z : Option Bool → Shared → Prop}
    (z : ∀ h' m, Heap.SameBut a s.heap h' → TxR w h' a m → m.Perm (fs.toList.map tx) → Z (some true) { s with heap := h' }) :
    wpAny (model P w) A (do
      storeSet a fs u
      if (!d && u.tooFull) = true then do { g (relayAll u fs (SetTable.grown fs.size)).2.2; storeSet a (relayAll u fs (SetTable.grown fs.size)).1 (relayAll u fs (SetTable.grown fs.size)).2.1; pure (some true) }
      else pure (some true)) Z E s := by
  have f0 : (s.heap.update a (Obj.putSet fs u)).get? a = _ := L2.store_at (es' := fs) (t' := u) e0 e2
  have f1 := Heap.SameBut.update s.heap a (Obj.putSet fs u)
  apply wpAny_bind
  apply wpAny_storeSet_of e0 e2 (hz := fits_of_scanBound b2)
  by_cases c : (!d && u.tooFull) = true
  · rw [if_pos c]
    have r0 := relayAll_perm u fs (SetTable.grown fs.size)
    have r1 := relayAll_fits u fs (SetTable.grown fs.size)
    have r2 := L2.relayAll_ris u fs (SetTable.grown fs.size)
    have r3 := L2.relayAll_led u fs (SetTable.grown fs.size)
    revert r0 r1 r2 r3
    generalize relayAll u fs (SetTable.grown fs.size) = Y
    rcases Y with ⟨fs', u', gw⟩
    intro r0 r1 r2 r3
    have r4 : fs'.size = fs.size := by simpa using r0.length_eq
    have r5 : fs'.size < scanBound := r4 ▸ b2
    apply wpAny_bind
    apply hg
    apply wpAny_bind
    apply wpAny_storeSet_of f0 rfl (hz := fits_of_scanBound r5)
    apply wpAny_pure
    refine z _ (fs'.toList.map tx) (f1.trans (Heap.SameBut.update _ a _)) ⟨_, fs', _, u', L2.store_at (es' := fs') (t' := u') f0 rfl, e1, rfl, fun e he => b0 e (r0.mem_iff.mp he), rfl, ?_, r5, r1, r2, ?_⟩ (r0.map tx)
    · exact (r0.map tx).nodup_iff.mpr b1
    · exact b5.imp id fun q => r3.trans q
  · rw [if_neg c]
    apply wpAny_pure
    exact z _ _ f1 ⟨_, fs, _, u, f0, e1, rfl, b0, rfl, b1, b2, b3, b4, b5⟩ (List.Perm.refl _)
/-- a text is added -/
theorem tx_add {x : Str} {tk : Tok} {Z : Bool → Shared → Prop} (R : TxR w s.heap a l) (room : l.length + 1 < scanBound)
    (z : ∀ (b : Bool) h' m, Heap.SameBut a s.heap h' → TxR w h' a m → (x ∈ l → m = l) → (x ∉ l → m.Perm (x :: l)) → Z b { s with heap := h' }) :
    wpAny (model P w) A (setAddHashed a (.str x tk) (hashStr w x)) Z E s := by
  obtain ⟨o, es, ep, t, e0, e1, e2, g, el, nd, bd, ft, rs, ld⟩ := R
  have k0 : (PySem.strKind P w).is x (.str x tk) = true := strKind_is P w x tk
  have sc : (Value.str x tk).scannable = true := rfl
  have ee : ElemsOf (PySem.strKind P w) es.toList := txE_elems g
  have ln : l.length = es.size := by rw [← el, List.length_map, Array.length_toList]
  unfold setAddHashed setAddHashedIn
  apply wpAny_holding
  apply wpAny_bind
  apply wpAny_setState_of e0 e2 ft
  dsimp only
  rw [byScan_of sc bd ee]
  simp only [↓reduceIte]
  unfold setAddByScan
  apply wpAny_bind
  apply wpAny_bind
  apply wpAny_rule
  apply wpAny_bind
  apply wpAny_setScan_of k0 e0 e2 ft ee
  cases fi : List.findIdx? (fun e => (PySem.strKind P w).is x e.2) es.toList with
  | some j =>
    obtain ⟨hj, pj, _⟩ := List.findIdx?_eq_some_iff_getElem.mp fi
    have hin : x ∈ l := by
      rw [← el]
      exact List.mem_map.mpr ⟨es.toList[j], List.getElem_mem hj, (txE_is (P := P) (g _ (List.getElem_mem hj)) x).mp pj⟩
    dsimp only
    apply wpAny_pure
    apply wpAny_pure
    exact z _ s.heap l (Heap.SameBut.refl a s.heap) ⟨o, es, ep, t, e0, e1, e2, g, el, nd, bd, ft, rs, ld⟩ (fun _ => rfl) (fun q => absurd hin q)
  | none =>
    have hout : x ∉ l := by
      rw [← el]
      intro q
      obtain ⟨e, he, ex⟩ := List.mem_map.mp q
      exact Bool.false_ne_true ((List.findIdx?_eq_none_iff.mp fi e he).symm.trans ((txE_is (P := P) (g e he) x).mpr ex))
    dsimp only
    have y0 := layNew_perm t es ((PySem.strKind P w).hash x) (.str x tk)
    have y1 := layNew_fits t es ((PySem.strKind P w).hash x) (.str x tk)
    have y2 := L2.layNew_ris t es ((PySem.strKind P w).hash x) (.str x tk) rs
    have y3 := L2.layNew_led t es ((PySem.strKind P w).hash x) (.str x tk)
    revert y0 y1 y2 y3
    rw [show (PySem.strKind P w).hash x = hashStr w x from rfl]
    generalize layNew t es (hashStr w x) (.str x tk) = Y
    rcases Y with ⟨fs, u, wd, gw⟩
    intro y0 y1 y2 y3
    dsimp only at y0 y1 y2 y3 ⊢
    have y4 : fs.toList.Perm ((hashStr w x, Value.str x tk) :: es.toList) := y0.trans (by rw [Array.toList_push]; exact List.perm_append_singleton _ _)
    have y5 : (fs.toList.map tx).Perm (x :: l) := el ▸ y4.map tx
    have y6 : fs.size = es.size + 1 := by simpa using y4.length_eq
    have y7 : fs.size < scanBound := by omega
    have y8 : ∀ e ∈ fs.toList, TxE w e := fun e he => (List.mem_cons.mp (y4.mem_iff.mp he)).elim (fun q => ⟨x, tk, q⟩) (g e)
    have y9 : (fs.toList.map tx).Nodup := y5.nodup_iff.mpr (List.nodup_cons.mpr ⟨hout, nd⟩)
    have y10 : Led w u.led := ld.imp id fun q => y3.trans q
    have way : ∀ (b : Bool) (r : Shared) (Z' : Unit → Shared → Prop), Z' () r → wpAny (model P w) A (match b with | true => rule "set.scan.the-table-gave-way" | false => pure ()) Z' E r := by
      intro b r Z' q
      cases b
      · exact wpAny_pure q
      · exact wpAny_rule q
    have last : ∀ h' m, Heap.SameBut a s.heap h' → TxR w h' a m → m.Perm (fs.toList.map tx) → Z true { s with heap := h' } := fun h' m q r p => z true h' m q r (fun c => absurd c hout) (fun _ => p.trans y5)
    apply wpAny_bind
    apply way
    split
    · apply wpAny_bind
      rw [hashByValue_scannable 8 sc]
      apply wpAny_pure
      refine tx_tail way e0 e1 e2 y8 y9 y7 ?_ ?_ ?_ (fun h' m q r p => ?_)
      · first | (split <;> first | exact y1 | exact SetTable.fits_plain_off y1) | exact y1
      · first | (split <;> exact y2) | exact y2
      · first | (split <;> exact y10) | exact y10
      · exact wpAny_pure (last h' m q r p)
    · apply wpAny_bind
      apply wpAny_pure
      simp only [↓reduceIte]
      exact tx_tail way e0 e1 e2 y8 y9 y7 y1 y2 y10 (fun h' m q r p => wpAny_pure (last h' m q r p))
end
section
variable {P : Program} {w : World} {A : Around} {I : Addr} {fp wr : List Addr} {G : Array GenState → Array GenState → Prop} {n : Nat} {Pv : Nat → Value → Prop} {St : Nat → Shared → Prop} {R : Result → Shared → Prop}
/-- the set S has just the first i of xs -/
def TxI (w : World) (h : Heap) (S : Addr) (xs : List Str) (i : Nat) : Prop := ∃ l, TxR w h S l ∧ (∀ y, y ∈ l ↔ y ∈ xs.take i) ∧ l.length ≤ i
theorem tx_loop (W : WalksS P w A.in1 I fp wr G n Pv St) (S : Addr) (out : S ∉ fp) (xs : List Str) (en : xs.length = n) (bd : n + 1 < scanBound)
    (val : ∀ i v, Pv i v → ∃ x t, xs[i]? = some x ∧ v = Value.str x t) : ∀ (m i : Nat) (s : Shared), m + i = n → St i s → TxI w s.heap S xs i →
      (∀ s', Moved (S :: wr) G s s' → TxI w s'.heap S xs n → R (.ok (.ret Value.none)) s') → codeAny (model P w) A (Code.builtin "set.update.loop" ⟨[.ref S, .ref I], []⟩) R s := by
  have nw : S ∉ wr := fun q => out (W.sub S q)
  have up : ∀ b ∈ wr, b ∈ S :: wr := fun _ q => List.mem_cons_of_mem S q
  intro m
  induction m with
  | zero =>
    intro i s ei st ⟨l, r, mem, le⟩ fin
    have ei' : i = n := by omega
    subst ei'
    apply codeAny_builtin PyProof.Rows.F.entry_set_update_loop
    rw [Around.under_plainId PyProof.Rows.F.plain_set_update_loop]
    apply wpAny_bind
    apply W.done s _ _ st
    intro s' mv
    exact wpAny_pure (fin s' (mv.mono up) ⟨l, r.keep (fun o => mv.heap S o nw), mem, le⟩)
  | succ m ih =>
    intro i s ei st ⟨l, r, mem, le⟩ fin
    apply codeAny_builtin PyProof.Rows.F.entry_set_update_loop
    rw [Around.under_plainId PyProof.Rows.F.plain_set_update_loop]
    apply wpAny_bind
    apply W.item i s _ _ (by omega) st
    intro v s' pv st' mv
    obtain ⟨x, t, ex, rfl⟩ := val i v pv
    have r' : TxR w s'.heap S l := r.keep (fun o => mv.heap S o nw)
    show wpAny _ A.in1 (holding [Value.str x t] (setAdd S (.str x t)) >>= _) _ _ s'
    apply wpAny_bind
    apply wpAny_holding
    unfold setAdd
    apply wpAny_holding
    apply wpAny_bind
    apply (PySem.strKind P w).pyHash (strKind_is P w x t)
    apply tx_add (s := { s' with toks := s'.toks + 1 }) r' (by omega)
    intro b h' l' sb r2 c1 c2
    have tk : xs.take (i + 1) = xs.take i ++ [x] := by rw [List.take_add_one, ex]; rfl
    have inv : TxI w h' S xs (i + 1) := by
      refine ⟨l', r2, fun y => ?_, ?_⟩
      · rw [tk, List.mem_append, List.mem_singleton, ← mem y]
        by_cases c : x ∈ l
        · rw [c1 c]
          exact ⟨.inl, fun q => q.elim id fun e => e ▸ c⟩
        · rw [(c2 c).mem_iff, List.mem_cons]
          exact Or.comm
      · by_cases c : x ∈ l
        · rw [c1 c]; omega
        · rw [(c2 c).length_eq, List.length_cons]; omega
    have ot : ∀ b o, b ≠ S → s'.heap.get? b = some o → h'.get? b = some o := fun b o ne q => (sb.2 b ne).trans q
    refine wpAny_pure ⟨plainId_quiet PyProof.Rows.F.plain_set_update_loop _, ih (i + 1) _ (by omega) (W.frame _ s' _ _ st' (Nat.le_succ _) fun b hb o q => ot b o (fun z => out (z ▸ hb)) q) inv fun s2 mv2 r3 => ?_⟩
    exact fin s2 (Moved.trans W.gtrans ((mv.mono up).then_heap (Nat.le_succ _) fun b o nb q => ot b o (fun z => nb (z ▸ List.mem_cons_self)) q) mv2) r3
end
section
variable {P : Program} {w : World} {A : Around} {E : Value → Shared → Prop} {s : Shared}
/-- a new set, as set() lays it -/
abbrev oNew (w : World) : Obj := { cls := .type "set", dict := none, data := .set #[] 0 (SetTable.fresh 0 0 (!w.params.followText "set-order")) }
theorem txI_new {h : Heap} {a : Addr} (xs : List Str) (e : h.get? a = some (oNew w)) : TxI w h a xs 0 := by
  refine ⟨[], ⟨_, #[], 0, _, e, ⟨rfl, rfl, rfl⟩, rfl, fun e he => absurd he (by simp), rfl, List.nodup_nil, by decide, rfl, List.Pairwise.nil, ?_⟩, fun y => by simp, Nat.le_refl 0⟩
  show _ ∨ (!w.params.followText "set-order") = true
  cases w.params.followText "set-order"
  · exact .inr rfl
  · exact .inl rfl
theorem txs_at {us : List Value} {xs : List Str} (q : StrsAre us xs) : ∀ (i : Nat) (v : Value), us[i]? = some v → ∃ x t, xs[i]? = some x ∧ v = Value.str x t := by
  induction q with
  | nil => intro i v e; exact absurd e (by simp)
  | cons x t _ ih =>
    intro i v e
    cases i with
    | zero => exact ⟨x, t, rfl, by simpa using e.symm⟩
    | succ i => exact ih i v (by simpa using e)
/-- set(xs), xs a list of texts -/
theorem set_texts {p : Addr} {its : Array Value} {xs : List Str} {Z : Value → Shared → Prop} (hh : A.handled = none) (hp : s.heap.IsList p its) (hs : StrsAre its.toList xs) (bd : xs.length + 1 < scanBound)
    (z : ∀ (h' : Heap) (tk : Nat), TxI w h' s.heap.objs.size xs xs.length → (∀ b o, s.heap.get? b = some o → h'.get? b = some o) → Z (.ref s.heap.objs.size) { s with heap := h', toks := tk }) :
    wpAny (model P w) A (call (.type "set") [.ref p]) Z E s := by
  obtain ⟨c, tl, m0⟩ := PySem.F.called_set.mro
  have m1 := PySem.F.called_set.made
  have m2 := PySem.F.called_set.sub
  apply wpAny_call
  apply codeAny_of_tree
  show wpAny _ _ (callAny (.type "set") _) _ _ _
  refine wpAny_pure ⟨Code.quiet_builtin _ (by decide +kernel), codeAny_builtin PySem.F.entry_type_call ?_⟩
  rw [Around.under_plain (weight_type_call_type "set" [.ref p] []) rfl]
  have m3 := PySem.F.called_set.notType
  have m4 := PySem.F.called_set.canCreate
  have m5 := PySem.F.typeCall_set_1 (.ref p)
  repeat (any_goals (first | assumption | wp_step))
  generalize hN : s.heap.push (oNew w) = h1
  have s1 : ∀ b o, s.heap.get? b = some o → h1.get? b = some o := fun b o q => hN ▸ Heap.get?_push_of_some _ q
  have n1 : h1.get? s.heap.objs.size = some (oNew w) := hN ▸ Heap.get?_push_size _ rfl
  have z1 : h1.objs.size = s.heap.objs.size + 1 := hN ▸ Heap.size_push ..
  refine codeAny_mono (L2.code_set_led1 (.ref p) (E := E) (Q₁ := fun v r => v = .ref s.heap.objs.size ∧ r = { s with heap := h1 }) ⟨rfl, by rw [← hN]⟩) fun r s1' hr => ?_
  rcases r with e | f
  · exact hr
  rcases f with _ | _ | _ | v
  · exact hr.elim
  · exact hr.elim
  · exact hr.elim
  obtain ⟨rfl, rfl⟩ := hr
  have ty : Shared.TypeIs { s with heap := h1 } (.ref s.heap.objs.size) "set" := ⟨_, n1, rfl⟩
  have m6 := PySem.F.called_set.init.lookup
  have m7 := PySem.F.called_set.init.bind (.ref s.heap.objs.size)
  repeat (any_goals (first | assumption | wp_step))
  refine codeAny_mono (codeAny_call_builtin (R := wants (fun r s2 => r = Value.none ∧ ∃ h' tk, s2 = { s with heap := h', toks := tk } ∧ TxI w h' s.heap.objs.size xs xs.length ∧ ∀ b o, s.heap.get? b = some o → h'.get? b = some o) E)
    PySem.F.called_set.init.plain PySem.F.entry_set_init (check_set_init_1 ty ?_)) fun r2 s2 hr2 => ?_
  · obtain ⟨ol, gl, c0, nl, d0⟩ := hp
    obtain ⟨k0, k1, k2, k3⟩ := ol
    dsimp only at c0 d0
    subst c0 d0
    have gl1 := s1 p _ gl
    have m8 := PySem.F.sub_list_set
    have m9 := PySem.F.sub_list_frozenset
    have m10 : (Value.type "list" == Value.type "dict") = false := by decide
    have lt0 : p < s.heap.objs.size := Heap.lt_size gl
    have isl : h1.IsList p its := ⟨_, gl1, rfl, nl, rfl⟩
    unfold Builtin.«set.__init__» noKeywords Builtin.Frozenset.updateFrom
    generalize ePI : pyIter = PI
    wp_walk
    subst ePI
    apply wpAny_pyIter_list isl
    apply wpAny_bind
    apply wpAny_runValue
    have hh3 : A.in1.in1.in1.handled = none := by simp [hh]
    have ne1 : p ≠ h1.objs.size := Nat.ne_of_lt (z1 ▸ Nat.lt_succ_of_lt lt0)
    have ne2 : s.heap.objs.size ∉ [h1.objs.size, p] := by
      intro q
      rcases List.mem_cons.mp q with q | q
      · exact Nat.ne_of_lt (z1 ▸ Nat.lt_succ_self _) q
      · exact Nat.ne_of_gt lt0 (List.mem_singleton.mp q)
    have ln : xs.length = its.size := by rw [← StrsAre.len_eq hs, Array.length_toList]
    refine tx_loop (Walks.list hh3 _ p ne1 its).toS s.heap.objs.size ne2 xs ln (by omega) (fun i v q => txs_at hs i v (by rw [Array.getElem?_toList]; exact q)) its.size 0 _ (by omega)
      ⟨⟨_, Heap.get?_push_size _ rfl, rfl, rfl⟩, isl.push _⟩ (txI_new xs (Heap.get?_push_of_some _ n1)) ?_
    rintro ⟨h', g', d', tk', os'⟩ mv fin
    obtain rfl : g' = s.gens := mv.gens
    obtain rfl : d' = s.drawn := mv.drawn
    obtain rfl : os' = s.os := mv.os
    apply wpAny_pure
    show wpAny _ _ (ret Value.none) _ _ _
    refine wpAny_pure ⟨rfl, h', tk', rfl, by rw [ln]; exact fin, fun b o q => ?_⟩
    have lb : b < s.heap.objs.size := Heap.lt_size q
    refine mv.heap b o (fun z => ?_) (Heap.get?_push_of_some _ (s1 b o q))
    rcases List.mem_cons.mp z with z | z
    · exact Nat.ne_of_lt lb z
    · exact Nat.ne_of_lt (z1 ▸ Nat.lt_succ_of_lt lb) (List.mem_singleton.mp z)
  · rcases r2 with e | f
    · exact hr2
    rcases f with _ | _ | _ | v
    · exact hr2.elim
    · exact hr2.elim
    · exact hr2.elim
    obtain ⟨rfl, h', tk, rfl, fin, kp⟩ := hr2
    repeat (any_goals (first | assumption | wp_step))
    exact z h' tk fin kp
/-- sorted(a set of texts) -/
theorem sorted_texts {a : Addr} {l : List Str} {Z : Value → Shared → Prop} (R : TxR w s.heap a l) (hh : A.handled = none) (few : l.length < 64)
    (z : ∀ s' p (out : Array Value) (c : Nat) (ys : List Str), (∀ b o, s.heap.get? b = some o → s'.heap.get? b = some o) → s'.gens = s.gens → s'.os = s.os → s.heap.objs.size ≤ p →
      s'.heap.get? p = some (seqObj "list" out c) → StrsAre out.toList ys → ys.Perm l → sortedS ys = true → Z (.ref p) s') :
    wpAny (model P w) A (call (.builtin "sorted") [.ref a]) Z E s := by
  obtain ⟨o, es, ep, t, e0, e1, e2, g, el, nd, bd, ft, rs, ld⟩ := R
  refine Calls.call_function_entry kind_sorted plain_sorted entry_sorted (args_sorted1 (.ref a)) ?_
  unfold Builtin.«sorted»
  apply wpAny_bind (m := checkCount "sorted" 1 1 _)
  apply wpAny_pure
  apply wpAny_bind
  apply L2.collect_set (A := A.in1) hh ⟨o, e0, e1.1, e2⟩ ft bd rs ld
  intro s1 vs k1 z1 g1 o1 pm
  have len : vs.length = l.length := by rw [pm.length_eq, List.length_map, ← el, List.length_map]
  have sa : StrsAre vs (vs.map strOf) := strsAre_map vs fun v hv => by
    obtain ⟨e, he, q⟩ := List.mem_map.mp (pm.mem_iff.mp hv)
    obtain ⟨x, tk, rfl⟩ := g e he
    exact ⟨x, tk, q.symm⟩
  have pk : (vs.map strOf).Perm l := by
    have q := pm.map strOf
    rw [List.map_map] at q
    exact el ▸ q
  apply wpAny_bind
  refine wpAny_newList ?_ (by rw [len, sizeLine_eq]; omega)
  have gN : (s1.heap.push (seqObj "list" vs.toArray 0)).get? s1.heap.objs.size = some (seqObj "list" vs.toArray 0) := Heap.get?_push_size _ rfl
  apply wpAny_bind
  apply wpAny_holding
  refine wpAny_call_entry slot_list_sort ⟨_, gN, rfl⟩ entry_list_sort ?_ (args_list_sort _)
  refine list_sort_treeK strKind_oneLt gN sa.keysOf (fun v1 v2 rest e => keyKind_strs (by rw [← e]; exact sa)) (by omega) fun st' p1 p2 => ?_
  obtain ⟨ys, q1, q2, q3⟩ := sorted_out_str sa p1 p2
  generalize Array.map (fun x => x.snd) (arrOf st') = out at q1 ⊢
  obtain ⟨c, gc⟩ := sortedHeap_at (vs := vs) (out := out) gN
  refine ⟨_, rfl, wpAny_pure ⟨_, rfl, z _ s1.heap.objs.size out c ys (fun b u q => ?_) g1 o1 z1 gc q1 (q2.trans pk) q3⟩⟩
  have lb := Heap.lt_size (k1 b u q)
  show (sortedHeap (s1.heap.push (seqObj "list" vs.toArray 0)) s1.heap.objs.size vs out).get? b = some u
  rw [sortedHeap_old (Nat.ne_of_lt lb) (by rw [size_push']; exact Nat.lt_succ_of_lt lb)]
  exact Heap.get?_push_of_some _ (k1 b u q)
end
section
variable {X : Cx}
/-- the set of texts at a, as a thing of the heap -/
def TxO (w : World) (a : Addr) (l : List Str) : HO := HO.ext fun h => TxR w h a l
theorem txO_ok {P : Program} {w : World} {H : Hp} {h : Heap} {a : Addr} {l : List Str} (R : TxR w h a l) : ObjOk P w H h a (TxO w a l) :=
  ⟨R, R.elim fun o q => ⟨o, q.elim fun _ q => q.elim fun _ q => q.elim fun _ q => q.1⟩, fun _ _ R' k => TxR.keep R' k⟩
/-- set(xs), xs a list of texts -/
def rSetTx (K : PySem.W.Frag) (w : World) : List V → Hp → VK → Prop := fun vs H Q => ∃ (p : Addr) (xs : List Str), vs = [V.ref p] ∧ SqL K H p (xs.map V.str) ∧ xs.length < 4000 ∧
  ∀ (a : Addr) (l : List Str), H a = none → l.Nodup → (∀ y, y ∈ l ↔ y ∈ xs) → l.length ≤ xs.length → Q (V.ref a) (upd H a (TxO w a l))
theorem cr_setTx (hc : X.calm = true) : CallR X (.type "set") (rSetTx X.K X.w) := by
  intro pins s σ H vs us Q I r h
  obtain ⟨p, xs, rfl, hp, bd, q⟩ := h
  rw [Vals.ref1 r]
  obtain ⟨its, rv, pl, hz⟩ := I.list hp
  refine set_texts (I.ok.hd hc) pl.isList (by simpa using Vals.strs rv) (by unfold scanBound; omega) fun h' tk inv k => ?_
  obtain ⟨l, R, mem, le⟩ := inv
  have nd : l.Nodup := by obtain ⟨_, _, _, _, _, _, _, _, _, nd, _⟩ := R; exact nd
  exact ⟨.ref s.heap.objs.size, _, I.laid (t' := tk) k (Nat.le_refl _) (txO_ok R), rfl, q _ l (I.hok.fresh (Nat.le_refl _)) nd (fun y => by rw [mem y, List.take_length]) le⟩
/-- sorted(a set of texts) -/
def rSortedTx (w : World) : List V → Hp → VK → Prop := fun vs H Q => ∃ (a : Addr) (l : List Str), vs = [V.ref a] ∧ H a = some (TxO w a l) ∧ l.length < 64 ∧
  ∀ (ys : List Str) (p : Addr), ys.Perm l → sortedS ys = true → H p = none → Q (V.ref p) (upd H p (.lst (ys.map V.str)))
theorem cr_sortedTx (hc : X.calm = true) : CallR X (.builtin "sorted") (rSortedTx X.w) := by
  intro pins s σ H vs us Q I r h
  obtain ⟨a, l, rfl, ha, few, q⟩ := h
  have R : TxR X.w s.heap a l := (I.hok a _ ha).1
  rw [Vals.ref1 r]
  refine sorted_texts R (I.ok.hd hc) few fun s' p out c ys k g o hp hg hs pm so => ?_
  have hn : H p = none := I.hok.fresh hp
  have ll : (ys.map V.str).length ≤ sizeLine := by rw [List.length_map, pm.length_eq, sizeLine_eq]; omega
  have J : Inv X pins σ (upd H p (.lst (ys.map V.str))) { s with heap := s'.heap, gens := s'.gens, drawn := s'.drawn, toks := s'.toks } :=
    I.call (ch := []) (Un.laid k hp hn) (I.hok.laid k hp ⟨ll, out.toList, c, vals_of_strs hs, hg⟩) (g ▸ I.bare) (fun _ z => nomatch z)
  have e : s' = { s with heap := s'.heap, gens := s'.gens, drawn := s'.drawn, toks := s'.toks } := by
    rcases s with ⟨_, _, _, _, _⟩
    rcases s' with ⟨_, _, _, _, _⟩
    dsimp only at o
    subst o
    rfl
  rw [e]
  exact ⟨.ref p, _, J, rfl, q ys p pm so hn⟩
end
end Kt

namespace Kz
open PySem PySem.Spec PyProof.Rows L2
/-- either of two walks -/
theorem pi_or {X : Cx} {tg l : Expr} {w1 w2 : TI} (h1 : PI X tg l w1) (h2 : PI X tg l w2) : PI X tg l (fun σ H R => w1 σ H R ∨ w2 σ H R) :=
  ⟨fun pins s σ H R I h => h.elim (h1.run pins s σ H R I) (h2.run pins s σ H R I)⟩
/-! ### data without lists: what is no tuple may change beside it -/
mutual
def onlyT : PyData → Bool
  | .list _ => false
  | .dict _ => false
  | .tuple xs => onlyTs xs
  | .none => true
  | .bool _ => true
  | .int _ => true
  | .str _ => true
def onlyTs : List PyData → Bool
  | [] => true
  | x :: r => onlyT x && onlyTs r
end
def NoTup (H : Hp) (D : Addr) : Prop := (∀ xs, H D ≠ some (.tup xs)) ∧ ∀ o xs, H D ≠ some (.frz o (.tup xs))
theorem noTup_lst {H : Hp} {D : Addr} {l : List V} (h : H D = some (.lst l)) : NoTup H D := ⟨fun _ e => (by rw [h] at e; cases e), fun _ _ e => (by rw [h] at e; cases e)⟩
theorem noTup_new {H : Hp} {D : Addr} (h : H D = none) : NoTup H D := ⟨fun _ e => (by rw [h] at e; cases e), fun _ _ e => (by rw [h] at e; cases e)⟩
theorem sqT_put {K : PySem.W.Frag} {H : Hp} {a D : Addr} {o : HO} {xs : List V} (n : NoTup H D) (h : SqT K H a xs) : SqT K (upd H D o) a xs := by
  rcases h with (h | ⟨u, h⟩) | h
  · exact .inl (.inl ((upd_ne (fun e : a = D => n.1 xs (by rw [← e]; exact h))).trans h))
  · exact .inl (.inr ⟨u, (upd_ne (fun e : a = D => n.2 u xs (by rw [← e]; exact h))).trans h⟩)
  · exact .inr h
mutual
theorem dp_put {K : PySem.W.Frag} {H : Hp} {D : Addr} {o : HO} (n : NoTup H D) : ∀ {v : V} {d : PyData}, Dp K H v d → onlyT d = true → Dp K (upd H D o) v d
  | _, _, .non, _ => .non
  | _, _, .bl b, _ => .bl b
  | _, _, .int i, _ => .int i
  | _, _, .str x, _ => .str x
  | _, _, .lst _ _, q => by rw [onlyT] at q; cases q
  | _, _, .tup h r, q => .tup (sqT_put n h) (dpAll_put n r (by rw [onlyT] at q; exact q))
theorem dpAll_put {K : PySem.W.Frag} {H : Hp} {D : Addr} {o : HO} (n : NoTup H D) : ∀ {vs : List V} {ds : List PyData}, DpAll K H vs ds → onlyTs ds = true → DpAll K (upd H D o) vs ds
  | _, _, .nil, _ => .nil
  | _, _, .cons h r, q => by
    rw [onlyTs, Bool.and_eq_true] at q
    exact .cons (dp_put n h q.1) (dpAll_put n r q.2)
end
theorem dpAll_snoc {K : PySem.W.Frag} {H : Hp} : ∀ {vs : List V} {ds : List PyData} {v : V} {d : PyData}, DpAll K H vs ds → Dp K H v d → DpAll K H (vs ++ [v]) (ds ++ [d])
  | _, _, _, _, .nil, h => .cons h .nil
  | _, _, _, _, .cons a r, h => .cons a (dpAll_snoc r h)
theorem onlyTs_app : ∀ (xs ys : List PyData), onlyTs (xs ++ ys) = (onlyTs xs && onlyTs ys)
  | [], ys => by rw [List.nil_append, onlyTs, Bool.true_and]
  | x :: r, ys => by rw [List.cons_append, onlyTs, onlyTs, onlyTs_app r ys, Bool.and_assoc]
theorem onlyTs_of : ∀ {xs : List PyData}, (∀ x ∈ xs, onlyT x = true) → onlyTs xs = true
  | [], _ => by rw [onlyTs]
  | x :: r, h => by rw [onlyTs, h x List.mem_cons_self, onlyTs_of fun y q => h y (List.mem_cons_of_mem _ q)]; rfl
theorem onlyTs_mem : ∀ {xs : List PyData}, onlyTs xs = true → ∀ x ∈ xs, onlyT x = true
  | y :: r, h, x, q => by
    rw [onlyTs, Bool.and_eq_true] at h
    rcases List.mem_cons.mp q with e | e
    · exact e ▸ h.1
    · exact onlyTs_mem h.2 x e
/-! ### comprehensions that make data without lists: os says of each item what it gives, or none -/
abbrev kept (os : List (Option PyData)) : List PyData := os.filterMap id
/-- where such a list stands: D is new since H0 -/
def Got (K : PySem.W.Frag) (H0 : Hp) (D : Addr) (ds : List PyData) (H : Hp) : Prop := Same H0 H ∧ ∃ ys, H D = some (.lst ys) ∧ DpAll K H ys ds
/-- one turn, told for whatever comes behind it -/
def Turn (K : PySem.W.Frag) (H0 : Hp) (g : TG) (tt : TT) (te : TE) (vs : List Nat) (σ : L2.St) (x : V) (o : Option PyData) : Prop := ∀ (H : Hp) (N : V → Hp → Prop) (Z : Hp → Prop), Same H0 H →
  (∀ e y H4, o = some e → Same H H4 → Dp K H4 y e → N y H4) → (o = none → ∀ H3, Same H H3 → Z H3) →
  g x (wipe σ vs) H fun σ2 H2 => wipe σ2 vs = wipe σ vs ∧ tt σ2 H2 fun b H3 => if b = true then te σ2 H3 N else Z H3
theorem got_step {K : PySem.W.Frag} {H0 H : Hp} {D : Addr} {os : List (Option PyData)} {i : Nat} {o : Option PyData} (hD : H0 D = none) (ot : ∀ e ∈ kept os, onlyT e = true) (few : os.length < sizeLine) (ho : os[i]? = some o) (p : Got K H0 D (kept (os.take i)) H) {g : TG} {tt : TT} {te : TE} {vs : List Nat} {σ : L2.St} {x : V}
    (t : Turn K H0 g tt te vs σ x o) : g x (wipe σ vs) H fun σ2 H2 => wipe σ2 vs = wipe σ vs ∧ tt σ2 H2 fun b H3 => if b = true then te σ2 H3 fun y H4 => ∃ acc, H4 D = some (.lst acc) ∧ acc.length < sizeLine ∧ Got K H0 D (kept (os.take (i + 1))) (upd H4 D (.lst (acc ++ [y]))) else Got K H0 D (kept (os.take (i + 1))) H3 := by
  obtain ⟨s0, ys, hy, hd⟩ := p
  have tk : os.take (i + 1) = os.take i ++ [o] := by rw [List.take_add_one, ho]; rfl
  have ot' : onlyTs (kept (os.take i)) = true := onlyTs_of fun e q => ot e ((List.Sublist.filterMap id (List.take_sublist i os)).subset q)
  refine t H _ _ s0 (fun e y H4 eo s4 d4 => ?_) (fun eo H3 s3 => ?_)
  · subst eo
    have hy4 : H4 D = some (.lst ys) := s4 _ _ hy
    have e1 : onlyT e = true := ot e (List.mem_filterMap.mpr ⟨some e, List.mem_of_getElem? ho, rfl⟩)
    refine ⟨ys, hy4, ?_, fun b u q => (upd_ne (ne_of_none q hD)).trans (s4 _ _ (s0 _ _ q)), ys ++ [y], upd_same, ?_⟩
    · rw [dpAll_len hd]
      refine Nat.lt_of_le_of_lt (List.length_filterMap_le ..) (Nat.lt_of_le_of_lt ?_ few)
      rw [List.length_take]
      exact Nat.min_le_right ..
    · rw [tk, kept, List.filterMap_append]
      exact dpAll_snoc (dpAll_put (noTup_lst hy4) (dpAll_same s4 hd) ot') (dp_put (noTup_lst hy4) d4 e1)
  · subst eo
    refine ⟨s0.trans s3, ys, s3 _ _ hy, ?_⟩
    rw [tk, kept, List.filterMap_append]
    simpa using dpAll_same s3 hd
theorem got_new {K : PySem.W.Frag} {H0 : Hp} {D : Addr} (hD : H0 D = none) : Got K H0 D [] (upd H0 D (.lst [])) := ⟨new_same hD, [], upd_same, .nil⟩
section
variable {K : PySem.W.Frag} {g : TG} {tt : TT} {te : TE} {vs : List Nat} {σ : L2.St} {H0 : Hp} {D a : Addr} {xs : List V} {os : List (Option PyData)} {Qd : Hp → Prop}
theorem os_at (e : n = os.length) {i : Nat} (h : i < n) : ∃ o, os[i]? = some o := ⟨os[i], List.getElem?_eq_getElem (e ▸ h)⟩
/-- the walk of a comprehension, over a list, a tuple, a range -/
theorem lc_gotL (hD : H0 D = none) (hl : SqL K H0 a xs) (len : xs.length = os.length) (ot : ∀ e ∈ kept os, onlyT e = true) (few : os.length < sizeLine) (t : ∀ (i : Nat) (x : V) (o : Option PyData), xs[i]? = some x → os[i]? = some o → Turn K H0 g tt te vs σ x o) (fin : ∀ H, Got K H0 D (kept os) H → Qd H) :
    ∃ W : Nat → Nat → Hp → Prop, (∃ m, W 0 m (upd H0 D (.lst []))) ∧ ∀ i m H, W i m H → ((Itl K a).stop i H ∧ Qd H) ∨ ((Itl K a).go i H ∧ ∃ Nx : Hp → Prop, (∀ H', Nx H' → ∃ m', m' < m ∧ W (i + 1) m' H') ∧ ∀ x H', (Itl K a).yld i H x H' →
      g x (wipe σ vs) H' fun σ2 H2 => wipe σ2 vs = wipe σ vs ∧ tt σ2 H2 fun b H3 => if b = true then te σ2 H3 fun y H4 => ∃ acc, H4 D = some (.lst acc) ∧ acc.length < sizeLine ∧ Nx (upd H4 D (.lst (acc ++ [y]))) else Nx H3) := by
  refine lc_list (fun i H => Got K H0 D (kept (os.take i)) H) (got_new hD) (fun i H _ p => p.1.seq hl) (fun i x H hx p => ?_) (fun H p => fin H (by rw [len, List.take_length] at p; exact p))
  obtain ⟨o, ho⟩ := os_at len (List.getElem?_eq_some_iff.mp hx).1
  exact got_step hD ot few ho p (t i x o hx ho)
theorem lc_gotT (hD : H0 D = none) (hl : SqT K H0 a xs) (len : xs.length = os.length) (ot : ∀ e ∈ kept os, onlyT e = true) (few : os.length < sizeLine) (t : ∀ (i : Nat) (x : V) (o : Option PyData), xs[i]? = some x → os[i]? = some o → Turn K H0 g tt te vs σ x o) (fin : ∀ H, Got K H0 D (kept os) H → Qd H) :
    ∃ W : Nat → Nat → Hp → Prop, (∃ m, W 0 m (upd H0 D (.lst []))) ∧ ∀ i m H, W i m H → ((Itt K a).stop i H ∧ Qd H) ∨ ((Itt K a).go i H ∧ ∃ Nx : Hp → Prop, (∀ H', Nx H' → ∃ m', m' < m ∧ W (i + 1) m' H') ∧ ∀ x H', (Itt K a).yld i H x H' →
      g x (wipe σ vs) H' fun σ2 H2 => wipe σ2 vs = wipe σ vs ∧ tt σ2 H2 fun b H3 => if b = true then te σ2 H3 fun y H4 => ∃ acc, H4 D = some (.lst acc) ∧ acc.length < sizeLine ∧ Nx (upd H4 D (.lst (acc ++ [y]))) else Nx H3) := by
  refine lc_tup (fun i H => Got K H0 D (kept (os.take i)) H) (got_new hD) (fun i H _ p => seqT_same p.1 hl) (fun i x H hx p => ?_) (fun H p => fin H (by rw [len, List.take_length] at p; exact p))
  obtain ⟨o, ho⟩ := os_at len (List.getElem?_eq_some_iff.mp hx).1
  exact got_step hD ot few ho p (t i x o hx ho)
theorem lc_gotR {lo : Int} (hD : H0 D = none) (ot : ∀ e ∈ kept os, onlyT e = true) (few : os.length < sizeLine) (t : ∀ (i : Nat) (o : Option PyData), os[i]? = some o → Turn K H0 g tt te vs σ (.int (lo + (i : Nat))) o) (fin : ∀ H, Got K H0 D (kept os) H → Qd H) :
    ∃ W : Nat → Nat → Hp → Prop, (∃ m, W 0 m (upd H0 D (.lst []))) ∧ ∀ i m H, W i m H → ((Itr lo os.length).stop i H ∧ Qd H) ∨ ((Itr lo os.length).go i H ∧ ∃ Nx : Hp → Prop, (∀ H', Nx H' → ∃ m', m' < m ∧ W (i + 1) m' H') ∧ ∀ x H', (Itr lo os.length).yld i H x H' →
      g x (wipe σ vs) H' fun σ2 H2 => wipe σ2 vs = wipe σ vs ∧ tt σ2 H2 fun b H3 => if b = true then te σ2 H3 fun y H4 => ∃ acc, H4 D = some (.lst acc) ∧ acc.length < sizeLine ∧ Nx (upd H4 D (.lst (acc ++ [y]))) else Nx H3) := by
  refine lc_range (lo := lo) (n := os.length) (fun i H => Got K H0 D (kept (os.take i)) H) (got_new hD) (fun i H hi p => ?_) (fun H p => fin H (by rw [List.take_length] at p; exact p))
  obtain ⟨o, ho⟩ := os_at rfl hi
  exact got_step hD ot few ho p (t i o ho)
end
/-! ### lists told as tuples -/
mutual
def tupD : PyData → PyData
  | .list xs => .tuple (tupDs xs)
  | .tuple xs => .tuple (tupDs xs)
  | .dict kvs => .dict kvs
  | .none => .none
  | .bool b => .bool b
  | .int i => .int i
  | .str x => .str x
def tupDs : List PyData → List PyData
  | [] => []
  | x :: r => tupD x :: tupDs r
end
theorem tupDs_map : ∀ xs : List PyData, tupDs xs = xs.map tupD
  | [] => by rw [tupDs]; rfl
  | x :: r => by rw [tupDs, tupDs_map r]; rfl
mutual
theorem onlyT_tupD {K : PySem.W.Frag} {H : Hp} : ∀ {v : V} {d : PyData}, Dp K H v d → onlyT (tupD d) = true
  | _, _, .non => by simp [tupD, onlyT]
  | _, _, .bl b => by simp [tupD, onlyT]
  | _, _, .int i => by simp [tupD, onlyT]
  | _, _, .str x => by simp [tupD, onlyT]
  | _, _, .lst _ r => by rw [tupD, onlyT]; exact onlyTs_tupDs r
  | _, _, .tup _ r => by rw [tupD, onlyT]; exact onlyTs_tupDs r
theorem onlyTs_tupDs {K : PySem.W.Frag} {H : Hp} : ∀ {vs : List V} {ds : List PyData}, DpAll K H vs ds → onlyTs (tupDs ds) = true
  | _, _, .nil => by rw [tupDs, onlyTs]
  | _, _, .cons h r => by rw [tupDs, onlyTs, onlyT_tupD h, onlyTs_tupDs r]; rfl
end
theorem kept_some (xs : List PyData) (f : PyData → PyData) : kept (xs.map fun d => some (f d)) = xs.map f := by
  rw [kept, List.filterMap_map]
  induction xs with
  | nil => rfl
  | cons x r ih => rw [List.filterMap_cons, ih]; rfl
end Kz

namespace Kz
open PySem PySem.Spec PyProof.Rows L2
/-! ### texts in ascending order, each once -/
def ltS (a b : Str) : Prop := a.cps.toList < b.cps.toList
instance (a b : Str) : Decidable (ltS a b) := inferInstanceAs (Decidable (_ < _))
theorem ltS_trans {a b c : Str} (h : ltS a b) (k : ltS b c) : ltS a c := List.lt_trans h k
theorem ltS_irrefl (a : Str) : ¬ ltS a a := List.lt_irrefl _
theorem str_ext {a b : Str} (h : a.cps.toList = b.cps.toList) : a = b := by
  cases a; cases b
  simp only at h
  rw [Array.toList_inj.mp h]
theorem ltS_tri {a b : Str} (h : ¬ ltS a b) (n : a ≠ b) : ltS b a := Decidable.byContradiction fun k => n (str_ext (List.le_antisymm (List.not_lt.mp k) (List.not_lt.mp h)))
theorem ltCps_ltS (a b : Str) : ltCps a.cps.toList b.cps.toList = decide (ltS a b) := ltCps_eq _ _
def insS (x : Str) : List Str → List Str
  | [] => [x]
  | y :: r => if x = y then y :: r else if ltS x y then x :: y :: r else y :: insS x r
def ascS (xs : List Str) : List Str := xs.foldr insS []
theorem mem_insS {x y : Str} : ∀ {l : List Str}, y ∈ insS x l ↔ y = x ∨ y ∈ l
  | [] => by simp [insS]
  | z :: r => by
    unfold insS
    by_cases e : x = z
    · rw [if_pos e]
      subst e
      simp
    · rw [if_neg e]
      by_cases c : ltS x z
      · rw [if_pos c]; simp
      · rw [if_neg c, List.mem_cons, mem_insS, List.mem_cons]
        constructor
        · rintro (h | h | h)
          · exact .inr (.inl h)
          · exact .inl h
          · exact .inr (.inr h)
        · rintro (h | h | h)
          · exact .inr (.inl h)
          · exact .inl h
          · exact .inr (.inr h)
theorem inc_insS {x : Str} : ∀ {l : List Str}, l.Pairwise ltS → (insS x l).Pairwise ltS
  | [], _ => by simp [insS]
  | z :: r, h => by
    obtain ⟨h1, h2⟩ := List.pairwise_cons.mp h
    unfold insS
    by_cases e : x = z
    · rw [if_pos e]; exact h
    · rw [if_neg e]
      by_cases c : ltS x z
      · rw [if_pos c]
        refine List.pairwise_cons.mpr ⟨fun y hy => ?_, h⟩
        rcases List.mem_cons.mp hy with q | q
        · rw [q]; exact c
        · exact ltS_trans c (h1 y q)
      · rw [if_neg c]
        refine List.pairwise_cons.mpr ⟨fun y hy => ?_, inc_insS h2⟩
        rcases mem_insS.mp hy with q | q
        · rw [q]; exact ltS_tri c e
        · exact h1 y q
theorem mem_ascS {y : Str} : ∀ {xs : List Str}, y ∈ ascS xs ↔ y ∈ xs
  | [] => by simp [ascS]
  | x :: r => by
    show y ∈ insS x (ascS r) ↔ _
    rw [mem_insS, mem_ascS (xs := r), List.mem_cons]
theorem inc_ascS : ∀ (xs : List Str), (ascS xs).Pairwise ltS
  | [] => List.Pairwise.nil
  | x :: r => inc_insS (inc_ascS r)
theorem inc_nodup {l : List Str} (h : l.Pairwise ltS) : l.Nodup := List.Pairwise.imp (S := (· ≠ ·)) (fun {a b} (q : ltS a b) (e : a = b) => ltS_irrefl a (by rw [← e] at q; exact q)) h
theorem rising_inc : ∀ (l : List Str) (p : Str), risingS p l = true → (p :: l).Nodup → (p :: l).Pairwise ltS
  | [], p, _, _ => by simp
  | x :: r, p, h, nd => by
    have h' : (!ltCps x.cps.toList p.cps.toList && risingS x r) = true := h
    rw [Bool.and_eq_true, ltCps_ltS] at h'
    have h1 : ¬ ltS x p := by simpa using h'.1
    obtain ⟨n1, n2⟩ := List.nodup_cons.mp nd
    have q := rising_inc r x h'.2 n2
    have c : ltS p x := ltS_tri h1 (fun e => n1 (by rw [e]; exact List.mem_cons_self))
    refine List.pairwise_cons.mpr ⟨fun y hy => ?_, q⟩
    rcases List.mem_cons.mp hy with e | e
    · rw [e]; exact c
    · exact ltS_trans c ((List.pairwise_cons.mp q).1 y e)
theorem sorted_inc {l : List Str} (h : sortedS l = true) (nd : l.Nodup) : l.Pairwise ltS := by
  cases l with
  | nil => exact List.Pairwise.nil
  | cons x r => exact rising_inc r x h nd
theorem inc_eq {l m : List Str} (hl : l.Pairwise ltS) (hm : m.Pairwise ltS) (e : ∀ y, y ∈ l ↔ y ∈ m) : l = m :=
  List.Perm.eq_of_pairwise (fun a b _ _ p q => absurd (ltS_trans p q) (ltS_irrefl a)) hl hm ((List.perm_ext_iff_of_nodup (inc_nodup hl) (inc_nodup hm)).mpr e)
theorem asc_of {ys l xs : List Str} (pm : ys.Perm l) (so : sortedS ys = true) (nd : l.Nodup) (mem : ∀ y, y ∈ l ↔ y ∈ xs) : ys = ascS xs :=
  inc_eq (sorted_inc so (pm.nodup_iff.mpr nd)) (inc_ascS xs) fun y => by rw [pm.mem_iff, mem y, mem_ascS]
theorem len_insS (x : Str) : ∀ l : List Str, (insS x l).length ≤ l.length + 1
  | [] => by simp [insS]
  | y :: r => by
    unfold insS
    split
    · simp
    · split
      · simp
      · have := len_insS x r
        simp only [List.length_cons]
        omega
theorem len_ascS : ∀ xs : List Str, (ascS xs).length ≤ xs.length
  | [] => Nat.le_refl _
  | x :: r => Nat.le_trans (len_insS x (ascS r)) (Nat.succ_le_succ (len_ascS r))
/-- texts as data -/
theorem dp_strs {K : PySem.W.Frag} {H : Hp} : ∀ ys : List Str, DpAll K H (ys.map V.str) (ys.map PyData.str)
  | [] => .nil
  | y :: r => .cons (.str y) (dp_strs r)
theorem strs_dp {K : PySem.W.Frag} {H : Hp} : ∀ {ys : List Str} {vs : List V}, DpAll K H vs (ys.map PyData.str) → vs = ys.map V.str
  | [], _, .nil => rfl
  | y :: r, _, .cons (.str _) h => by rw [strs_dp h]; rfl
end Kz

namespace Kz
open PySem PySem.Spec PyProof.Rows L2
theorem room65 {k : Nat} {A : Around} (r : Room k A) : A.units + 65 < cLine := by have := r.un; omega
/-- J walks n things while what stood in H0 stands; R says what the i-th one is -/
structure Wk (J : It) (H0 : Hp) (n : Nat) (R : Nat → V → Hp → Prop) : Prop where
  stop : ∀ H, Same H0 H → J.stop n H
  go : ∀ i H, Same H0 H → i < n → J.go i H
  yld : ∀ i H x H', Same H0 H → i < n → J.yld i H x H' → Same H H' ∧ R i x H'
theorem wk_tup {K : PySem.W.Frag} {H0 : Hp} {a : Addr} {xs : List V} (h : SqT K H0 a xs) : Wk (Itt K a) H0 xs.length (fun i x _ => xs[i]? = some x) where
  stop H s := ⟨xs, seqT_same s h, Nat.le_refl _⟩
  go i H s hi := ⟨xs, xs[i], seqT_same s h, List.getElem?_eq_getElem hi⟩
  yld i H x H' s hi y := ⟨by rw [y.1]; exact fun _ _ q => q, y.2 xs (seqT_same s h)⟩
theorem wk_list {K : PySem.W.Frag} {H0 : Hp} {a : Addr} {xs : List V} (h : SqL K H0 a xs) : Wk (Itl K a) H0 xs.length (fun i x _ => xs[i]? = some x) where
  stop H s := ⟨xs, s.seq h, Nat.le_refl _⟩
  go i H s hi := ⟨xs, xs[i], s.seq h, List.getElem?_eq_getElem hi⟩
  yld i H x H' s hi y := ⟨by rw [y.1]; exact fun _ _ q => q, y.2 xs (s.seq h)⟩
theorem wk_rng {H0 : Hp} (lo : Int) (n : Nat) : Wk (Itr lo n) H0 n (fun i x _ => x = .int (lo + (i : Nat))) where
  stop H s := Nat.le_refl _
  go i H s hi := hi
  yld i H x H' s hi y := ⟨by rw [y.1]; exact fun _ _ q => q, y.2⟩
theorem wk_enum {K : PySem.W.Frag} {H0 : Hp} {a : Addr} {xs : List V} (h : SqL K H0 a xs) : Wk (Ite K a) H0 xs.length (fun i x H' => ∃ T y, x = .ref T ∧ H' T = some (.tup [.int (i : Nat), y]) ∧ xs[i]? = some y) where
  stop H s := ⟨xs, s.seq h, Nat.le_refl _⟩
  go i H s hi := ⟨xs, xs[i], s.seq h, List.getElem?_eq_getElem hi⟩
  yld i H x H' s hi y := by
    obtain ⟨T, y, rfl, hT, rfl, f⟩ := y
    exact ⟨new_same hT, T, y, rfl, upd_same, f xs (s.seq h)⟩
/-- one turn, told for whatever comes behind it -/
def TurnI (K : PySem.W.Frag) (H0 : Hp) (g : TG) (tt : TT) (te : TE) (vs : List Nat) (σ : L2.St) (R : V → Hp → Prop) (o : Option PyData) : Prop := ∀ (x : V) (H : Hp) (N : V → Hp → Prop) (Z : Hp → Prop), R x H → Same H0 H →
  (∀ e y H4, o = some e → Same H H4 → Dp K H4 y e → N y H4) → (o = none → ∀ H3, Same H H3 → Z H3) →
  g x (wipe σ vs) H fun σ2 H2 => wipe σ2 vs = wipe σ vs ∧ tt σ2 H2 fun b H3 => if b = true then te σ2 H3 N else Z H3
theorem got_more {K : PySem.W.Frag} {H0 H H1 : Hp} {D : Addr} {ds : List PyData} (s : Same H H1) (p : Got K H0 D ds H) : Got K H0 D ds H1 := by
  obtain ⟨s0, ys, hy, hd⟩ := p
  exact ⟨s0.trans s, ys, s _ _ hy, dpAll_same s hd⟩
theorem got_put {K : PySem.W.Frag} {H0 H H4 : Hp} {D : Addr} {ds : List PyData} {e : PyData} {y : V} (hD : H0 D = none) (p : Got K H0 D ds H) (ot : onlyTs ds = true) (oe : onlyT e = true) (few : ds.length < sizeLine) (s4 : Same H H4) (d4 : Dp K H4 y e) :
    ∃ acc, H4 D = some (.lst acc) ∧ acc.length < sizeLine ∧ Got K H0 D (ds ++ [e]) (upd H4 D (.lst (acc ++ [y]))) := by
  obtain ⟨s0, ys, hy, hd⟩ := got_more s4 p
  exact ⟨ys, hy, by rw [dpAll_len hd]; exact few, fun b u q => (upd_ne (ne_of_none q hD)).trans (s0 _ _ q), ys ++ [y], upd_same, dpAll_snoc (dpAll_put (noTup_lst hy) hd ot) (dp_put (noTup_lst hy) d4 oe)⟩
theorem kept_snoc (pre : List PyData) (os : List (Option PyData)) {i : Nat} {o : Option PyData} (ho : os[i]? = some o) : pre ++ kept (os.take (i + 1)) = (pre ++ kept (os.take i)) ++ o.toList := by
  rw [List.take_add_one, ho]
  unfold kept
  rw [List.filterMap_append, List.append_assoc]
  cases o <;> rfl
/-- the turns of a walk, from what is there already on -/
theorem walk_got {K : PySem.W.Frag} {J : It} {H0 H1 : Hp} {n : Nat} {R : Nat → V → Hp → Prop} {D : Addr} {pre : List PyData} {os : List (Option PyData)} {g : TG} {tt : TT} {te : TE} {vs : List Nat} {σ : L2.St} {Qd : Hp → Prop}
    (hD : H0 D = none) (s01 : Same H0 H1) (wk1 : Wk J (fun b => if b = D then none else H1 b) n R) (len : n = os.length) (p0 : Got K H0 D pre H1) (ot : ∀ e ∈ pre ++ kept os, onlyT e = true) (few : pre.length + os.length < sizeLine)
    (t : ∀ (i : Nat) (o : Option PyData), os[i]? = some o → TurnI K (fun b => if b = D then none else H1 b) g tt te vs σ (R i) o) (fin : ∀ H, Same (fun b => if b = D then none else H1 b) H → Got K H0 D (pre ++ kept os) H → Qd H) :
    ∃ W : Nat → Nat → Hp → Prop, (∃ m, W 0 m H1) ∧ ∀ i m H, W i m H → (J.stop i H ∧ Qd H) ∨ (J.go i H ∧ ∃ Nx : Hp → Prop, (∀ H', Nx H' → ∃ m', m' < m ∧ W (i + 1) m' H') ∧ ∀ x H', J.yld i H x H' →
      g x (wipe σ vs) H' fun σ2 H2 => wipe σ2 vs = wipe σ vs ∧ tt σ2 H2 fun b H3 => if b = true then te σ2 H3 fun y H4 => ∃ acc, H4 D = some (.lst acc) ∧ acc.length < sizeLine ∧ Nx (upd H4 D (.lst (acc ++ [y]))) else Nx H3) := by
  generalize hB : (fun b => if b = D then none else H1 b) = B at wk1 t fin
  have bD : B D = none := by rw [← hB]; simp
  have bS : Same B H1 := fun b u q => by
    rw [← hB] at q
    by_cases e : b = D
    · simp [e] at q
    · simpa [e] using q
  refine ⟨fun i m H => m = n - i ∧ i ≤ n ∧ Same B H ∧ Got K H0 D (pre ++ kept (os.take i)) H, ⟨n, rfl, Nat.zero_le _, bS, by simpa [kept] using p0⟩, ?_⟩
  rintro i m H ⟨rfl, hi, sB, p⟩
  by_cases hlt : i < n
  · obtain ⟨o, ho⟩ := os_at len hlt
    refine .inr ⟨wk1.go i H sB hlt, fun H' => i + 1 ≤ n ∧ Same B H' ∧ Got K H0 D (pre ++ kept (os.take (i + 1))) H', fun H' q => ⟨n - (i + 1), by omega, rfl, q⟩, fun x H' y => ?_⟩
    obtain ⟨s1, r1⟩ := wk1.yld i H x H' sB hlt y
    have p1 := got_more s1 p
    have ot' : onlyTs (pre ++ kept (os.take i)) = true := onlyTs_of fun e q => ot e (by
      rcases List.mem_append.mp q with q | q
      · exact List.mem_append_left _ q
      · exact List.mem_append_right _ ((List.Sublist.filterMap id (List.take_sublist i os)).subset q))
    refine t i o ho x H' _ _ r1 (sB.trans s1) (fun e y2 H4 eo s4 d4 => ?_) (fun eo H3 s3 => ?_)
    · subst eo
      have oe : onlyT e = true := ot e (List.mem_append_right _ (List.mem_filterMap.mpr ⟨some e, List.mem_of_getElem? ho, rfl⟩))
      obtain ⟨acc, a1, a2, a3⟩ := got_put hD p1 ot' oe (by
        rw [List.length_append]
        have l1 : (kept (os.take i)).length ≤ (os.take i).length := List.length_filterMap_le ..
        have l2 : (os.take i).length ≤ os.length := by rw [List.length_take]; exact Nat.min_le_right ..
        omega) s4 d4
      refine ⟨acc, a1, a2, hlt, fun b u q => (upd_ne (ne_of_none q bD)).trans (s4 _ _ (s1 _ _ (sB _ _ q))), ?_⟩
      rw [kept_snoc pre os ho]
      exact a3
    · subst eo
      refine ⟨hlt, (sB.trans s1).trans s3, ?_⟩
      rw [kept_snoc pre os ho]
      simpa using got_more s3 p1
  · have e : i = n := by omega
    subst e
    exact .inl ⟨wk1.stop H sB, fin H sB (by rw [len, List.take_length] at p; exact p)⟩

theorem base_new {H0 : Hp} {D : Addr} {o : HO} (h : H0 D = none) : (fun b => if b = D then none else (upd H0 D o) b) = H0 := funext fun b => by
  by_cases e : b = D
  · subst e; simp [h]
  · simp only [if_neg e]; exact upd_ne e
/-- the reading of a comprehension of one walk -/
theorem lc_got {K : PySem.W.Frag} {J : It} {H0 : Hp} {n : Nat} {R : Nat → V → Hp → Prop} {D : Addr} {os : List (Option PyData)} {g : TG} {tt : TT} {te : TE} {vs : List Nat} {σ : L2.St} {Qd : Hp → Prop} (wk : Wk J H0 n R) (len : n = os.length) (hD : H0 D = none) (ot : ∀ e ∈ kept os, onlyT e = true) (few : os.length < sizeLine)
    (t : ∀ (i : Nat) (o : Option PyData), os[i]? = some o → TurnI K H0 g tt te vs σ (R i) o) (fin : ∀ H, Got K H0 D (kept os) H → Qd H) :
    ∃ W : Nat → Nat → Hp → Prop, (∃ m, W 0 m (upd H0 D (.lst []))) ∧ ∀ i m H, W i m H → (J.stop i H ∧ Qd H) ∨ (J.go i H ∧ ∃ Nx : Hp → Prop, (∀ H', Nx H' → ∃ m', m' < m ∧ W (i + 1) m' H') ∧ ∀ x H', J.yld i H x H' →
      g x (wipe σ vs) H' fun σ2 H2 => wipe σ2 vs = wipe σ vs ∧ tt σ2 H2 fun b H3 => if b = true then te σ2 H3 fun y H4 => ∃ acc, H4 D = some (.lst acc) ∧ acc.length < sizeLine ∧ Nx (upd H4 D (.lst (acc ++ [y]))) else Nx H3) :=
  walk_got hD (new_same hD) (by rw [base_new hD]; exact wk) len (got_new hD) (by simpa using ot) (by simpa using few) (by rw [base_new hD]; exact t) (fun H _ p => fin H (by simpa using p))
/-- what is a tuple in H is so in B -/
def TS0 (K : PySem.W.Frag) (H B : Hp) : Prop := ∀ a xs, SqT K H a xs → SqT K B a xs
mutual
theorem dp_ts {K : PySem.W.Frag} {H B : Hp} (n : TS0 K H B) : ∀ {v : V} {d : PyData}, Dp K H v d → onlyT d = true → Dp K B v d
  | _, _, .non, _ => .non
  | _, _, .bl b, _ => .bl b
  | _, _, .int i, _ => .int i
  | _, _, .str x, _ => .str x
  | _, _, .lst _ _, q => by rw [onlyT] at q; cases q
  | _, _, .tup h r, q => .tup (n _ _ h) (dpAll_ts n r (by rw [onlyT] at q; exact q))
theorem dpAll_ts {K : PySem.W.Frag} {H B : Hp} (n : TS0 K H B) : ∀ {vs : List V} {ds : List PyData}, DpAll K H vs ds → onlyTs ds = true → DpAll K B vs ds
  | _, _, .nil, _ => .nil
  | _, _, .cons h r, q => by
    rw [onlyTs, Bool.and_eq_true] at q
    exact .cons (dp_ts n h q.1) (dpAll_ts n r q.2)
end
theorem ts_del {K : PySem.W.Frag} {H : Hp} {D : Addr} (n : NoTup H D) : TS0 K H (fun b => if b = D then none else H b) := fun a xs h => by
  rcases h with (h | ⟨u, h⟩) | h
  · have ne : a ≠ D := fun e => n.1 xs (by rw [← e]; exact h)
    exact .inl (.inl (by simp only [if_neg ne]; exact h))
  · have ne : a ≠ D := fun e => n.2 u xs (by rw [← e]; exact h)
    exact .inl (.inr ⟨u, by simp only [if_neg ne]; exact h⟩)
  · exact .inr h
/-- one outer turn of a comprehension of two walks -/
def TurnO (K : PySem.W.Frag) (H0 : Hp) (g : TG) (tt : TT) (wi1 : TI) (g1 : TG) (tt1 : TT) (te : TE) (vs vs1 : List Nat) (σ : L2.St) (R : V → Hp → Prop) (cs : List (Option PyData)) : Prop := ∀ (x : V) (H : Hp) (RR : L2.St → It → Hp → Prop) (Z : Hp → Prop), R x H → Same H0 H →
  (∀ σ2 J1 H4 R1, Same H H4 → (∀ B, TS0 K H4 B → Wk J1 B cs.length R1 ∧ ∀ (j : Nat) (o : Option PyData), cs[j]? = some o → TurnI K B g1 tt1 te vs1 σ2 (R1 j) o) → RR σ2 J1 H4) →
  g x (wipe σ vs) H fun σ2 H2 => wipe σ2 vs = wipe σ vs ∧ tt σ2 H2 fun b H3 => if b = true then wi1 σ2 H3 (RR σ2) else Z H3
theorem kept_flat (css : List (List (Option PyData))) {i : Nat} {cs : List (Option PyData)} (h : css[i]? = some cs) : kept (css.take (i + 1)).flatten = kept (css.take i).flatten ++ kept cs := by
  rw [List.take_add_one, h]
  unfold kept
  rw [Option.toList_some, List.flatten_append, List.filterMap_append]
  simp
theorem flat_cut (css : List (List (Option PyData))) {i : Nat} {cs : List (Option PyData)} (h : css[i]? = some cs) : (kept (css.take i).flatten).length + cs.length ≤ css.flatten.length := by
  have e : css = css.take i ++ cs :: css.drop (i + 1) := by
    obtain ⟨hi, rfl⟩ := List.getElem?_eq_some_iff.mp h
    rw [← List.drop_eq_getElem_cons hi, List.take_append_drop]
  have l : (kept (css.take i).flatten).length ≤ (css.take i).flatten.length := List.length_filterMap_le ..
  have q := congrArg (fun z => (List.flatten z).length) e
  simp only [List.flatten_append, List.flatten_cons, List.length_append] at q
  omega
/-- the reading of a comprehension of two walks -/
theorem lc2_got {K : PySem.W.Frag} {J : It} {H0 : Hp} {n : Nat} {R : Nat → V → Hp → Prop} {D : Addr} {css : List (List (Option PyData))} {g : TG} {tt : TT} {wi1 : TI} {g1 : TG} {tt1 : TT} {te : TE} {vs vs1 : List Nat} {σ : L2.St} {Qd : Hp → Prop} (wk : Wk J H0 n R) (len : n = css.length) (hD : H0 D = none) (ot : ∀ e ∈ kept css.flatten, onlyT e = true) (few : css.flatten.length < sizeLine)
    (t : ∀ (i : Nat) (cs : List (Option PyData)), css[i]? = some cs → TurnO K H0 g tt wi1 g1 tt1 te vs vs1 σ (R i) cs) (fin : ∀ H, Got K H0 D (kept css.flatten) H → Qd H) :
    ∃ W : Nat → Nat → Hp → Prop, (∃ m, W 0 m (upd H0 D (.lst []))) ∧ ∀ i m H, W i m H → (J.stop i H ∧ Qd H) ∨ (J.go i H ∧ ∃ Nx : Hp → Prop, (∀ H', Nx H' → ∃ m', m' < m ∧ W (i + 1) m' H') ∧ ∀ x H', J.yld i H x H' →
      g x (wipe σ vs) H' fun σ2 H2 => wipe σ2 vs = wipe σ vs ∧ tt σ2 H2 fun b H3 => if b = true then wi1 σ2 H3 fun J1 H4 => ∃ W1 : Nat → Nat → Hp → Prop, (∃ m, W1 0 m H4) ∧ ∀ j k H, W1 j k H → (J1.stop j H ∧ Nx H) ∨ (J1.go j H ∧ ∃ Nx1 : Hp → Prop, (∀ H', Nx1 H' → ∃ k', k' < k ∧ W1 (j + 1) k' H') ∧ ∀ x H', J1.yld j H x H' →
        g1 x (wipe σ2 vs1) H' fun σ3 H5 => wipe σ3 vs1 = wipe σ2 vs1 ∧ tt1 σ3 H5 fun b H6 => if b = true then te σ3 H6 fun y H7 => ∃ acc, H7 D = some (.lst acc) ∧ acc.length < sizeLine ∧ Nx1 (upd H7 D (.lst (acc ++ [y]))) else Nx1 H6)
      else Nx H3) := by
  refine ⟨fun i m H => m = n - i ∧ i ≤ n ∧ Got K H0 D (kept (css.take i).flatten) H, ⟨n, rfl, Nat.zero_le _, by simpa [kept] using got_new hD⟩, ?_⟩
  rintro i m H ⟨rfl, hi, p⟩
  by_cases hlt : i < n
  · obtain ⟨cs, ho⟩ : ∃ cs, css[i]? = some cs := ⟨css[i]'(len ▸ hlt), List.getElem?_eq_getElem (len ▸ hlt)⟩
    refine .inr ⟨wk.go i H p.1 hlt, fun H' => i + 1 ≤ n ∧ Got K H0 D (kept (css.take (i + 1)).flatten) H', fun H' q => ⟨n - (i + 1), by omega, rfl, q⟩, fun x H' y => ?_⟩
    obtain ⟨s1, r1⟩ := wk.yld i H x H' p.1 hlt y
    have p1 := got_more s1 p
    refine t i cs ho x H' (fun σ2 J1 H4 => _) _ r1 (p.1.trans s1) (fun σ2 J1 H4 R1 s4 ww => ?_)
    have p4 := got_more s4 p1
    obtain ⟨s04, ys, hy, hd⟩ := p4
    obtain ⟨w1, t1⟩ := ww _ (ts_del (noTup_lst hy))
    have fc := flat_cut css ho
    refine walk_got (pre := kept (css.take i).flatten) hD s04 w1 rfl ⟨s04, ys, hy, hd⟩ (fun e he => ot e ?_) (by omega) t1 (fun H5 _ p5 => ⟨hlt, by rw [kept_flat css ho]; exact p5⟩)
    rw [← kept_flat css ho] at he
    have sub : (css.take (i + 1)).flatten.Sublist css.flatten := by
      have q : css.flatten = (css.take (i + 1)).flatten ++ (css.drop (i + 1)).flatten := by rw [← List.flatten_append, List.take_append_drop]
      rw [q]
      exact List.sublist_append_left _ _
    exact (List.Sublist.filterMap id sub).subset he
  · have e : i = n := by omega
    subst e
    exact .inl ⟨wk.stop H p.1, fin H (by rw [len, List.take_length] at p; exact p)⟩
end Kz

namespace Kz
open PySem PySem.Spec PyProof.Rows L2
/-- one outer turn, where the inner one may look at what stood there at the beginning -/
def TurnP (K : PySem.W.Frag) (H0 : Hp) (g : TG) (tt : TT) (wi1 : TI) (g1 : TG) (tt1 : TT) (te : TE) (vs vs1 : List Nat) (σ : L2.St) (R : V → Hp → Prop) (cs : List (Option PyData)) : Prop := ∀ (x : V) (H : Hp) (RR : L2.St → It → Hp → Prop) (Z : Hp → Prop), R x H → Same H0 H →
  (∀ σ2 J1 H4 R1, Same H H4 → (∀ B, TS0 K H4 B → Same H0 B → Wk J1 B cs.length R1 ∧ ∀ (j : Nat) (o : Option PyData), cs[j]? = some o → TurnI K B g1 tt1 te vs1 σ2 (R1 j) o) → RR σ2 J1 H4) →
  g x (wipe σ vs) H fun σ2 H2 => wipe σ2 vs = wipe σ vs ∧ tt σ2 H2 fun b H3 => if b = true then wi1 σ2 H3 (RR σ2) else Z H3
/-- .. by such turns -/
theorem lc2_gotP {K : PySem.W.Frag} {J : It} {H0 : Hp} {n : Nat} {R : Nat → V → Hp → Prop} {D : Addr} {css : List (List (Option PyData))} {g : TG} {tt : TT} {wi1 : TI} {g1 : TG} {tt1 : TT} {te : TE} {vs vs1 : List Nat} {σ : L2.St} {Qd : Hp → Prop} (wk : Wk J H0 n R) (len : n = css.length) (hD : H0 D = none) (ot : ∀ e ∈ kept css.flatten, onlyT e = true) (few : css.flatten.length < sizeLine)
    (t : ∀ (i : Nat) (cs : List (Option PyData)), css[i]? = some cs → TurnP K H0 g tt wi1 g1 tt1 te vs vs1 σ (R i) cs) (fin : ∀ H, Got K H0 D (kept css.flatten) H → Qd H) :
    ∃ W : Nat → Nat → Hp → Prop, (∃ m, W 0 m (upd H0 D (.lst []))) ∧ ∀ i m H, W i m H → (J.stop i H ∧ Qd H) ∨ (J.go i H ∧ ∃ Nx : Hp → Prop, (∀ H', Nx H' → ∃ m', m' < m ∧ W (i + 1) m' H') ∧ ∀ x H', J.yld i H x H' →
      g x (wipe σ vs) H' fun σ2 H2 => wipe σ2 vs = wipe σ vs ∧ tt σ2 H2 fun b H3 => if b = true then wi1 σ2 H3 fun J1 H4 => ∃ W1 : Nat → Nat → Hp → Prop, (∃ m, W1 0 m H4) ∧ ∀ j k H, W1 j k H → (J1.stop j H ∧ Nx H) ∨ (J1.go j H ∧ ∃ Nx1 : Hp → Prop, (∀ H', Nx1 H' → ∃ k', k' < k ∧ W1 (j + 1) k' H') ∧ ∀ x H', J1.yld j H x H' →
        g1 x (wipe σ2 vs1) H' fun σ3 H5 => wipe σ3 vs1 = wipe σ2 vs1 ∧ tt1 σ3 H5 fun b H6 => if b = true then te σ3 H6 fun y H7 => ∃ acc, H7 D = some (.lst acc) ∧ acc.length < sizeLine ∧ Nx1 (upd H7 D (.lst (acc ++ [y]))) else Nx1 H6)
      else Nx H3) := by
  refine ⟨fun i m H => m = n - i ∧ i ≤ n ∧ Got K H0 D (kept (css.take i).flatten) H, ⟨n, rfl, Nat.zero_le _, by simpa [kept] using got_new hD⟩, ?_⟩
  rintro i m H ⟨rfl, hi, p⟩
  by_cases hlt : i < n
  · obtain ⟨cs, ho⟩ : ∃ cs, css[i]? = some cs := ⟨css[i]'(len ▸ hlt), List.getElem?_eq_getElem (len ▸ hlt)⟩
    refine .inr ⟨wk.go i H p.1 hlt, fun H' => i + 1 ≤ n ∧ Got K H0 D (kept (css.take (i + 1)).flatten) H', fun H' q => ⟨n - (i + 1), by omega, rfl, q⟩, fun x H' y => ?_⟩
    obtain ⟨s1, r1⟩ := wk.yld i H x H' p.1 hlt y
    have p1 := got_more s1 p
    refine t i cs ho x H' (fun σ2 J1 H4 => _) _ r1 (p.1.trans s1) (fun σ2 J1 H4 R1 s4 ww => ?_)
    have p4 := got_more s4 p1
    obtain ⟨s04, ys, hy, hd⟩ := p4
    obtain ⟨w1, t1⟩ := ww _ (ts_del (noTup_lst hy)) (fun b o q => by
      have nb : b ≠ D := ne_of_none q hD
      simp only [if_neg nb]
      exact s04 _ _ q)
    have fc := flat_cut css ho
    refine walk_got (pre := kept (css.take i).flatten) hD s04 w1 rfl ⟨s04, ys, hy, hd⟩ (fun e he => ot e ?_) (by omega) t1 (fun H5 _ p5 => ⟨hlt, by rw [kept_flat css ho]; exact p5⟩)
    rw [← kept_flat css ho] at he
    have sub : (css.take (i + 1)).flatten.Sublist css.flatten := by
      have q : css.flatten = (css.take (i + 1)).flatten ++ (css.drop (i + 1)).flatten := by rw [← List.flatten_append, List.take_append_drop]
      rw [q]
      exact List.sublist_append_left _ _
    exact (List.Sublist.filterMap id sub).subset he
  · have e : i = n := by omega
    subst e
    exact .inl ⟨wk.stop H p.1, fin H (by rw [len, List.take_length] at p; exact p)⟩
end Kz

namespace Kt
open PySem PySem.Spec PyProof.Rows L2
/-! ### sum of lists, from a list on -/
abbrev lob (its : List Value) (c : Nat) : Obj := { cls := .type "list", dict := none, data := .seq its.toArray c, slots := #[] }
section
variable {P : Program} {w : World} {A : Around} {I : Addr} {fp wr : List Addr} {G : Array GenState → Array GenState → Prop} {n : Nat} {Pv : Nat → Value → Prop} {St : Nat → Shared → Prop} {R : Result → Shared → Prop}
theorem sumL_loop (W : WalksS P w A.in1 I fp wr G n Pv St) (S : Addr) (out : S ∉ fp) (wrl : ∀ i s, St i s → ∀ b ∈ wr, b < s.heap.objs.size) (ls : List (List Value)) (en : ls.length = n) (h0 : Heap) (hS0 : h0.objs.size ≤ S) (nS : ∀ b ∈ S :: wr, h0.get? b = none) (st0 : List Value) (bd : (st0 ++ ls.flatten).length ≤ sizeLine)
    (val : ∀ i v, Pv i v → ∃ b its c, v = Value.ref b ∧ ls[i]? = some its ∧ h0.get? b = some (lob its c)) : ∀ (m i : Nat) (s : Shared) (t : Addr) (c ct : Nat), m + i = n → St i s → (∀ b o, h0.get? b = some o → s.heap.get? b = some o) →
      s.heap.get? S = some (lob [.ref t] c) → s.heap.get? t = some (lob (st0 ++ (ls.take i).flatten) ct) → t ∉ S :: wr →
      (∀ s' t' ct', Moved (S :: wr) G s s' → s'.heap.get? t' = some (lob (st0 ++ ls.flatten) ct') → (t' = t ∧ i = n ∨ h0.objs.size ≤ t') → R (.ok (.ret (.ref t'))) s') →
      codeAny (model P w) A (Code.builtin "sum.loop" ⟨[.ref I, .ref S, rawInt 2, rawInt 0], []⟩) R s := by
  have nw : S ∉ wr := fun q => out (W.sub S q)
  have up : ∀ b ∈ wr, b ∈ S :: wr := fun _ q => List.mem_cons_of_mem S q
  intro m
  induction m with
  | zero =>
    intro i s t c ct ei st k0 eS et nt fin
    have ei' : i = n := by omega
    subst ei'
    apply codeAny_builtin PySem.F.entry_sum_loop
    rw [Around.under_plainId PySem.F.plain_sum_loop]
    show wpAny _ A.in1 (seqItems? (.ref S) >>= _) _ _ s
    apply wpAny_bind
    apply wpAny_seqItems eS rfl
    show wpAny _ A.in1 (tryCatch (pyNext (.ref I)) _ >>= _) _ _ s
    apply wpAny_bind
    apply wpAny_tryCatch
    apply W.done s _ _ st
    intro s' mv
    refine wpAny_pure (fin s' t ct (mv.mono up) ?_ (.inl ⟨rfl, rfl⟩))
    have := mv.heap t _ (fun q => nt (up t q)) et
    rw [this, ← en, List.take_length]
  | succ m ih =>
    intro i s t c ct ei st k0 eS et nt fin
    apply codeAny_builtin PySem.F.entry_sum_loop
    rw [Around.under_plainId PySem.F.plain_sum_loop]
    show wpAny _ A.in1 (seqItems? (.ref S) >>= _) _ _ s
    apply wpAny_bind
    apply wpAny_seqItems eS rfl
    show wpAny _ A.in1 (tryCatch (pyNext (.ref I)) _ >>= _) _ _ s
    apply wpAny_bind
    apply wpAny_tryCatch
    apply W.item i s _ _ (by omega) st
    intro v s' pv st' mv
    obtain ⟨b, its, cb, rfl, hl, hb⟩ := val i v pv
    have eS' := mv.heap S _ nw eS
    have et' := mv.heap t _ (fun q => nt (up t q)) et
    have nb : b ∉ S :: wr := fun q => by have := nS b q; rw [hb] at this; cases this
    have eb' := mv.heap b _ (fun q => nb (up b q)) (k0 b _ hb)
    have tk : (ls.take (i + 1)).flatten = (ls.take i).flatten ++ its := by rw [List.take_add_one, hl, Option.toList_some, List.flatten_append]; simp
    have sz : ((st0 ++ (ls.take i).flatten) ++ its).length ≤ sizeLine := by
      refine Nat.le_trans ?_ bd
      have q : ls.flatten = (ls.take (i + 1)).flatten ++ (ls.drop (i + 1)).flatten := by rw [← List.flatten_append, List.take_append_drop]
      rw [q, tk]
      simp only [List.length_append]
      omega
    show wpAny _ A.in1 ((holding [Value.ref b] (binaryOp .Add (.ref t) (.ref b))).attempt >>= _) _ _ _
    apply wpAny_bind
    apply wpAny_attempt
    apply wpAny_holding
    refine PySem.P.add_list et' eb' ?_ (by rw [List.size_toArray, List.size_toArray, ← List.length_append]; exact sz)
    generalize hr : s'.heap.objs.size = r
    have eo : (its.toArray) = its.toArray := rfl
    have ea : (st0 ++ (ls.take i).flatten).toArray ++ its.toArray = (st0 ++ (ls.take (i + 1)).flatten).toArray := by rw [tk]; simp
    rw [ea]
    generalize h1e : s'.heap.push ({ cls := .type "list", data := .seq (st0 ++ (ls.take (i + 1)).flatten).toArray } : Obj) = h1
    have k1 : ∀ b o, s'.heap.get? b = some o → h1.get? b = some o := fun b o q => by rw [← h1e]; exact Heap.get?_push_of_some _ q
    have er : h1.get? r = some (lob (st0 ++ (ls.take (i + 1)).flatten) 0) := by rw [← h1e, ← hr]; exact Heap.get?_push_size _ rfl
    have lS : S < r := by rw [← hr]; exact Heap.lt_size eS'
    have nr : r ∉ S :: wr := fun q => by
      rcases List.mem_cons.mp q with q | q
      · exact Nat.ne_of_gt lS q
      · have := wrl _ s' st' r q
        rw [hr] at this
        exact Nat.lt_irrefl _ this
    have eS1 := k1 _ _ eS'
    show wpAny _ A.in1 (updateSeq S (fun _ => #[Value.ref r]) >>= _) _ _ _
    apply wpAny_bind
    apply wpAny_updateSeq (s := { s' with heap := h1 }) eS1 rfl
    have eS2 : (h1.update S (Obj.mapSeq fun _ => #[Value.ref r])).get? S = _ := Heap.get?_update_self _ eS1 rfl
    apply wpAny_bind
    apply wpAny_letGo
    apply wpAny_bind
    apply wpAny_updateSeq (s := { s' with heap := h1.update S (Obj.mapSeq fun _ => #[Value.ref r]) }) eS2 rfl
    have eS3 : ((h1.update S (Obj.mapSeq fun _ => #[Value.ref r])).update S (Obj.mapSeq fun _ => #[Value.ref r])).get? S = _ := Heap.get?_update_self _ eS2 rfl
    have ot : ∀ b o, b ≠ S → s'.heap.get? b = some o → ((h1.update S (Obj.mapSeq fun _ => #[Value.ref r])).update S (Obj.mapSeq fun _ => #[Value.ref r])).get? b = some o := fun b o ne q =>
      (Heap.get?_update_other _ _ (Ne.symm ne)).trans ((Heap.get?_update_other _ _ (Ne.symm ne)).trans (k1 _ _ q))
    have er3 : ((h1.update S (Obj.mapSeq fun _ => #[Value.ref r])).update S (Obj.mapSeq fun _ => #[Value.ref r])).get? r = some (lob (st0 ++ (ls.take (i + 1)).flatten) 0) :=
      (Heap.get?_update_other _ _ (Nat.ne_of_lt lS)).trans ((Heap.get?_update_other _ _ (Nat.ne_of_lt lS)).trans er)
    refine wpAny_pure ⟨plainId_quiet PySem.F.plain_sum_loop _, ih (i + 1) _ r _ 0 (by omega) (W.frame _ s' _ _ st' (Nat.le_refl _) fun b hb o q => ot b o (fun z => out (z ▸ hb)) q) (fun b o q => ?_) eS3 er3 nr fun s2 t2 ct2 mv2 e2 i2 => ?_⟩
    · have nb2 : b ∉ S :: wr := fun z => by have := nS b z; rw [q] at this; cases this
      exact ot b o (fun z => nb2 (z ▸ List.mem_cons_self)) (mv.heap b o (fun z => nb2 (up b z)) (k0 b o q))
    · refine fin s2 t2 ct2 (Moved.trans W.gtrans ((mv.mono up).then_heap (Nat.le_refl _) fun b o nb q => ot b o (fun z => nb (z ▸ List.mem_cons_self)) q) mv2) e2 (.inr ?_)
      rcases i2 with ⟨e, _⟩ | q
      · rw [e]
        exact Nat.le_of_lt (Nat.lt_of_le_of_lt hS0 lS)
      · exact q
end
section
variable {P : Program} {w : World} {A : Around} {E : Value → Shared → Prop} {s : Shared}
theorem l_no_bytes : isSubtype (.type "list") (.type "bytes") = pure false := by
  rw [isSubtype_type]
  kernel_rfl
theorem l_no_bytearray : isSubtype (.type "list") (.type "bytearray") = pure false := by
  rw [isSubtype_type]
  kernel_rfl
theorem args_sum2 (a b : Value) : argsOk "sum" ⟨[a, b], []⟩ := by unfold argsOk; kernel_rfl
theorem call_sumL {p q : Addr} {bs : List Addr} {ls : List (List Value)} {st0 : List Value} {cp cq : Nat} {Z : Value → Shared → Prop} (hh : A.handled = none) (hp : s.heap.get? p = some (lob (bs.map Value.ref) cp)) (hq : s.heap.get? q = some (lob st0 cq)) (len : bs.length = ls.length)
    (val : ∀ (i : Nat) b, bs[i]? = some b → ∃ its c, ls[i]? = some its ∧ s.heap.get? b = some (lob its c)) (bd : (st0 ++ ls.flatten).length ≤ sizeLine)
    (z : ∀ (h' : Heap) (tk : Nat) (t : Addr) (ct : Nat), (∀ b o, s.heap.get? b = some o → h'.get? b = some o) → h'.get? t = some (lob (st0 ++ ls.flatten) ct) → (t = q ∧ ls = [] ∨ s.heap.objs.size ≤ t) → Z (.ref t) { s with heap := h', toks := tk }) :
    wpAny (model P w) A (call (.builtin "sum") [.ref p, .ref q]) Z E s := by
  refine call_function_tree PySem.F.kind_sum PySem.F.plain_sum PySem.F.entry_sum (args_sum2 _ _) ?_
  unfold Builtin.«sum»
  simp only [List.length_cons, List.length_nil]
  rw [if_neg (by decide)]
  refine wpAny_bind (wpAny_of_eq (show Builtin.Builtins.bindParams "sum" ["start"] 0 ⟨[.ref q], []⟩ = pure [some (.ref q)] from rfl) ?_)
  apply wpAny_bind
  have ip : s.heap.IsList p (bs.map Value.ref).toArray := ⟨_, hp, rfl, cp, rfl⟩
  apply wpAny_pyIter_list ip
  apply wpAny_bind
  apply wpAny_pure
  simp only [List.forIn_cons, List.forIn_nil]
  have tq : Shared.TypeIs { s with heap := s.heap.push { cls := .type "list_iterator", data := .fields #[.ref p, .int 0 0] } } (.ref q) "list" := ⟨_, Heap.get?_push_of_some _ hq, rfl⟩
  refine wpAny_bind (wpAny_bind (wpAny_bind (wpAny_isInstance (T := "list") (b := false) tq sub_list_str ?_)))
  simp only [Bool.false_eq_true, if_false]
  refine wpAny_pure (wpAny_bind (wpAny_bind (wpAny_isInstance (T := "list") (b := false) tq l_no_bytes ?_)))
  simp only [Bool.false_eq_true, if_false]
  refine wpAny_pure (wpAny_bind (wpAny_bind (wpAny_isInstance (T := "list") (b := false) tq l_no_bytearray ?_)))
  simp only [Bool.false_eq_true, if_false]
  refine wpAny_pure (wpAny_pure ?_)
  apply wpAny_bind
  refine wpAny_newList ?_ (by show 1 ≤ sizeLine; decide)
  have lp : p < s.heap.objs.size := Heap.lt_size hp
  have lq : q < s.heap.objs.size := Heap.lt_size hq
  generalize hI : s.heap.push ({ cls := .type "list_iterator", data := .fields #[.ref p, .int 0 0] } : Obj) = g1
  have z1 : g1.objs.size = s.heap.objs.size + 1 := by rw [← hI]; exact Heap.size_push ..
  have k1 : ∀ b o, s.heap.get? b = some o → g1.get? b = some o := fun b o e => by rw [← hI]; exact Heap.get?_push_of_some _ e
  have eI : g1.get? s.heap.objs.size = some { cls := .type "list_iterator", data := .fields #[.ref p, .int 0 0] } := by rw [← hI]; exact Heap.get?_push_size _ rfl
  show (fun fin s' => _) _ _
  rw [z1]
  generalize hS : g1.push ({ cls := .type "list", data := .seq [Value.ref q].toArray } : Obj) = g2
  have z2 : g2.objs.size = s.heap.objs.size + 1 + 1 := by rw [← hS, Heap.size_push, z1]
  have k2 : ∀ b o, g1.get? b = some o → g2.get? b = some o := fun b o e => by rw [← hS]; exact Heap.get?_push_of_some _ e
  have eS : g2.get? (s.heap.objs.size + 1) = some (lob [.ref q] 0) := by rw [← hS, ← z1]; exact Heap.get?_push_size _ rfl
  have hh1 : A.in1.handled = none := by simp [hh]
  have fr : ∀ b ∈ [s.heap.objs.size + 1, s.heap.objs.size], s.heap.get? b = none := fun b hb => by
    cases e : s.heap.get? b with
    | none => rfl
    | some o =>
      have lb := Heap.lt_size e
      rcases List.mem_cons.mp hb with e1 | e1
      · rw [e1] at lb; exact absurd lb (Nat.not_lt_of_le (Nat.le_succ _))
      · rw [List.mem_singleton.mp e1] at lb; exact absurd lb (Nat.lt_irrefl _)
  refine wpAny_pure ⟨plainId_quiet PySem.F.plain_sum_loop _, ?_⟩
  have kk : ∀ b o, s.heap.get? b = some o → g2.get? b = some o := fun b o e => k2 _ _ (k1 _ _ e)
  have npS : p ≠ s.heap.objs.size := Nat.ne_of_lt lp
  have sizeIt : (bs.map Value.ref).toArray.size = ls.length := by rw [List.size_toArray, List.length_map, len]
  refine sumL_loop (s := { s with heap := g2 }) (Walks.list hh1 _ p npS (bs.map Value.ref).toArray).toS (s.heap.objs.size + 1) (fun e => ?_) (fun i r st b hb => ?_) ls sizeIt.symm s.heap (Nat.le_succ _) fr st0 bd (fun i v e => ?_) ls.length 0 q 0 cq (by rw [sizeIt]; rfl) ?_ kk eS (by rw [List.take_zero, List.flatten_nil, List.append_nil]; exact kk _ _ hq) (fun e => ?_) ?_
  · rcases List.mem_cons.mp e with e | e
    · exact Nat.succ_ne_self _ e
    · have := List.mem_singleton.mp e
      rw [← this] at lp
      exact Nat.not_lt_of_le (Nat.le_succ _) lp
  · rw [List.mem_singleton.mp hb]
    obtain ⟨o, ho, _⟩ := st.1
    exact Heap.lt_size ho
  · have e' : (bs.map Value.ref)[i]? = some v := by simpa using e
    rw [List.getElem?_map] at e'
    cases hb : bs[i]? with
    | none => rw [hb] at e'; cases e'
    | some b =>
      rw [hb] at e'
      obtain rfl := Option.some.inj e'
      obtain ⟨its, c, a1, a2⟩ := val i b hb
      exact ⟨b, its, c, rfl, a1, a2⟩
  · exact ⟨⟨_, k2 _ _ eI, rfl, rfl⟩, ⟨_, kk _ _ hp, rfl, cp, rfl⟩⟩
  · rcases List.mem_cons.mp e with e | e
    · rw [e] at lq
      exact Nat.not_lt_of_le (Nat.le_succ _) lq
    · rw [List.mem_singleton.mp e] at lq
      exact Nat.lt_irrefl _ lq
  · rintro ⟨h', g', d', tk', os'⟩ t ct mv et ht
    obtain rfl : g' = s.gens := mv.gens
    obtain rfl : d' = s.drawn := mv.drawn
    obtain rfl : os' = s.os := mv.os
    refine z h' tk' t ct (fun b o e => mv.heap b o (fun q' => ?_) (kk _ _ e)) et (ht.imp (fun e => ⟨e.1, List.length_eq_zero_iff.mp (by rw [← sizeIt]; exact e.2.symm)⟩) id)
    have := fr b q'
    rw [e] at this
    cases this
end
section
variable {X : Cx}
/-- sum(xs, start): lists, all of them such as stand in the heap -/
def rSumL : List V → Hp → VK → Prop := fun vs H Q => ∃ (p q : Addr) (bs : List Addr) (ls : List (List V)) (st0 : List V), vs = [V.ref p, V.ref q] ∧ H p = some (.lst (bs.map V.ref)) ∧ H q = some (.lst st0) ∧ bs.length = ls.length ∧
  (∀ (i : Nat) b, bs[i]? = some b → ∃ xs, ls[i]? = some xs ∧ H b = some (.lst xs)) ∧ (st0 ++ ls.flatten).length ≤ sizeLine ∧ (ls = [] → Q (V.ref q) H) ∧ ∀ t, H t = none → Q (V.ref t) (upd H t (.lst (st0 ++ ls.flatten)))
theorem cr_sumL (hc : X.calm = true) : CallR X (.builtin "sum") rSumL := by
  intro pins s σ H vs us Q I r h
  obtain ⟨p, q, bs, ls, st0, rfl, hp, hq, len, it, bd, q0, q1⟩ := h
  cases r with
  | cons r1 r2 =>
  cases r2 with
  | cons r2 r3 =>
  cases r3
  cases r1
  cases r2
  obtain ⟨zp, ip, np, rp, lp, ep⟩ := I.lstM hp
  obtain ⟨zq, iq, nq, rq, lq, eq⟩ := I.lstM hq
  have refs : ∀ (bs : List Addr) (ip : List Value), Vals (bs.map V.ref) ip → ip = bs.map Value.ref := by
    intro bs
    induction bs with
    | nil => intro ip h; cases h; rfl
    | cons b t ih =>
      intro ip h
      cases h with
      | cons a c =>
        cases a
        rw [List.map_cons, ih _ c]
  have eip : ip = bs.map Value.ref := refs bs ip rp
  have gen : ∀ (bs : List Addr) (ls : List (List V)), bs.length = ls.length → (∀ (i : Nat) b, bs[i]? = some b → ∃ xs, ls[i]? = some xs ∧ H b = some (.lst xs)) →
      ∃ lv : List (List Value), bs.length = lv.length ∧ (∀ (i : Nat) b, bs[i]? = some b → ∃ its c, lv[i]? = some its ∧ s.heap.get? b = some (lob its c)) ∧ Vals ls.flatten lv.flatten := by
    intro bs
    induction bs with
    | nil =>
      intro ls e _
      cases ls with
      | nil => exact ⟨[], rfl, fun i b h => by simp at h, .nil⟩
      | cons _ _ => cases e
    | cons b t ih =>
      intro ls e h
      cases ls with
      | nil => cases e
      | cons x ls =>
        obtain ⟨xs, e1, e2⟩ := h 0 b rfl
        obtain rfl : x = xs := Option.some.inj e1
        obtain ⟨zz, its, n, rr, ll, ee⟩ := I.lstM e2
        obtain ⟨lv, a1, a2, a3⟩ := ih ls (Nat.succ.inj e) (fun i b' hb => h (i + 1) b' hb)
        refine ⟨its :: lv, by rw [List.length_cons, List.length_cons, a1], fun i b' hb => ?_, by rw [List.flatten_cons, List.flatten_cons]; exact rr.append a3⟩
        cases i with
        | zero =>
          obtain rfl : b = b' := Option.some.inj hb
          exact ⟨its, n, rfl, ee⟩
        | succ i => exact a2 i b' hb
  obtain ⟨lv, a1, a2, a3⟩ := gen bs ls len it
  rw [eip] at ep
  have va := rq.append a3
  have bd2 : (iq ++ lv.flatten).length ≤ sizeLine := by rw [← Paired.length va]; exact bd
  refine call_sumL (bs := bs) (ls := lv) (st0 := iq) (I.ok.hd hc) ep eq a1 a2 bd2 fun h' tk t ct k et ht => ?_
  by_cases c : lv = []
  · have el : ls = [] := List.length_eq_zero_iff.mp (by rw [← len, a1, c]; rfl)
    rcases ht with ⟨rfl, _⟩ | ht
    · exact ⟨.ref t, H, I.kept (t' := tk) k, rfl, q0 el⟩
    · exact ⟨.ref t, _, I.laid (t' := tk) k ht (show ObjOk X.prog X.w (upd H t (.lst (st0 ++ ls.flatten))) h' t (.lst (st0 ++ ls.flatten)) from ⟨bd, _, ct, va, et⟩), rfl, q1 t (I.hok.fresh ht)⟩
  · rcases ht with ⟨_, e⟩ | ht
    · exact absurd e c
    · exact ⟨.ref t, _, I.laid (t' := tk) k ht (show ObjOk X.prog X.w (upd H t (.lst (st0 ++ ls.flatten))) h' t (.lst (st0 ++ ls.flatten)) from ⟨bd, _, ct, va, et⟩), rfl, q1 t (I.hok.fresh ht)⟩
end
end Kt

namespace Kt
open PySem PySem.Spec PyProof.Rows L2
section
variable {X : Cx}
/-- dict(d), d a dict by ints and texts: a new one with the same entries -/
def rDictOf : List V → Hp → VK → Prop := fun vs H Q => ∃ (d : Addr) (kvs : List (L2.Key × V)), vs = [V.ref d] ∧ H d = some (.dK kvs) ∧ ∀ p, H p = none → Q (V.ref p) (upd H p (.dK kvs))
theorem cr_dictOf : CallR X (.type "dict") rDictOf := by
  intro pins s σ H vs us Q I r h
  obtain ⟨d, kvs, rfl, hd, q⟩ := h
  rw [Vals.ref1 r]
  exact d_copyOf I (.inl hd) fun p s' hp J => ⟨.ref p, _, J, rfl, q p hp⟩
end
end Kt

namespace Kt
open PySem PySem.Spec PyProof.Rows L2
section
variable {X : Cx}
/-- t.count(k), t a tuple of whole numbers -/
def rCntT (K : PySem.W.Frag) : V → List V → Hp → VK → Prop := fun x xs H Q => ∃ (p : Addr) (ns : List Int) (k : Int), x = V.ref p ∧ xs = [V.int k] ∧ SqT K H p (ns.map V.int) ∧ Q (V.int ((ns.count k : Nat) : Int)) H
theorem mt_tcount : MtR X "tuple.count" (rCntT X.K) := by
  intro pins s σ H x xs v us Q I rx rxs h
  obtain ⟨p, ns, k, rfl, rfl, hs, q⟩ := h
  cases rx
  obtain ⟨u, rfl, ru⟩ := Vals.one rxs
  obtain ⟨t, rfl⟩ := ru
  obtain ⟨its, rv, pl, hlen⟩ := I.tuple hs
  obtain ⟨⟨cls, dd, data, sl⟩, ho, hc, n, hd⟩ := pl
  dsimp only at hc hd
  subst hc hd
  have hi := L2.ints_of_vals rv
  have cnt : its.toArray.toList.countP (L2.eqk k) = ns.count k := L2.eqk_count hi
  refine call_meets PySem.F.slot_tuple_count ⟨_, ho, rfl⟩ PySem.F.entry_tuple_count (PySem.F.args_tuple_count_2 _ _) (SeqAt.tuple_countAt p its.toArray n dd sl (.int k t) (L2.eqk k))
    ⟨ho, fun y hy => (L2.eqk_gives hi y (by simpa using hy)).at _ _, V.int ((ns.count k : Nat) : Int), H, I.tok _, ⟨s.toks, ?_⟩, q⟩
  rw [cnt]
end
end Kt

/-! own exceptions held as values: made with or without keywords, asked for a field, asked by isinstance -/
namespace Kx
open PySem PySem.Spec PySem.W PySem.Calls PyProof.Rows
abbrev tl (B : String) : List Value := [.type B, .type "Exception", .type "BaseException", .type "object"]
/-- the object of a class over B with the full chain written -/
abbrev cob (nm q : Str) (C N : Addr) (bs : List Value) (B : String) (sn : List Str) (sub : List Value) (ab : Bool) (col : Option Bool) (dd : Option Addr) (k0 k1 k2 k3 k5 : Option Value) (newId : String) : Obj :=
  excClassObj nm q C N bs (tl B) true sn sub ab col dd k0 k1 k2 k3 k5 newId
section
variable {prog : Program} {w : World} {M : Model} {A : Around} {E : Value → Shared → Prop} {R : Result → Shared → Prop} {h : Heap} {g : Array GenState} {d : Drawn} {t : Nat} {os : OsState}
variable {nm q : Str} {C N : Addr} {bs : List Value} {sn : List Str} {sub : List Value} {ab : Bool} {col : Option Bool} {dd : Option Addr} {k0 k1 k2 k3 k5 : Option Value} {B newId initId : String} {us : List Value} {ks : List (Str × Value)}
theorem new_checked (F : ExcBaseFacts B newId initId (tl B)) (hC : h.get? C = some (cob nm q C N bs B sn sub ab col dd k0 k1 k2 k3 k5 newId)) {Q : Unit → Shared → Prop} (hq : Q () ⟨h, g, d, t, os⟩) :
    wpAny M A (checkBuiltinCall newId ⟨.ref C :: us, ks⟩) Q E ⟨h, g, d, t, os⟩ := by
  have c1 : (Value.ref C :: tl B).contains (.type B) = true := by rw [List.contains_cons, F.hasB, Bool.or_true]
  have st := F.noStar
  simp only [checkBuiltinCall, F.newKind, F.newSplit, F.newRow]
  repeat (first
    | refine wpAny_loadPart_at hC ?_
    | (refine wpAny_isSubtype_exc hC ?_; rw [c1])
    | refine wpAny_staticBase_exc hC ?_
    | refine wpAny_madeBy_exc hC ?_
    | simp only [bne_self_eq_false, Bool.false_eq_true, if_false]
    | wp_step)
  exact hq
theorem type_checked (hC : h.get? C = some (cob nm q C N bs B sn sub ab col dd k0 k1 k2 k3 k5 newId)) {Q : Unit → Shared → Prop} (hq : Q () ⟨h, g, d, t, os⟩) :
    wpAny M A (checkBuiltinCall "type.__call__" ⟨.ref C :: us, ks⟩) Q E ⟨h, g, d, t, os⟩ := by
  have ty : Looks M h (isInstance (.ref C) (.type "type")) true := by
    have l0 : Looks M h (typeOf (.ref C)) (.type "type") := fun A Q E s k q => wpAny_typeOf_ref (k _ _ hC) q
    exact l0.andThen (Looks.of_pure tc_sub)
  exact check_slot tc_kind tc_split ty (tc_args _ _ _) hq
end
section
variable {prog : Program} {w : World} {A : Around} {E : Value → Shared → Prop} {R : Result → Shared → Prop} {h : Heap} {g : Array GenState} {d : Drawn} {t : Nat} {os : OsState}
variable {nm q : Str} {C N : Addr} {bs : List Value} {sn : List Str} {sub : List Value} {ab : Bool} {col : Option Bool} {dd : Option Addr} {k0 k1 k2 k3 k5 : Option Value} {B newId initId : String} {us : List Value} {ks : List (Str × Value)}
abbrev born (h : Heap) (C : Addr) (us : List Value) : Heap := (h.push (kdv_tup us)).push (PySem.HandSPX.excO C h.objs.size)
theorem born_keeps {b : Addr} {o : Obj} (e : h.get? b = some o) : (born h C us).get? b = some o := Heap.get?_push_of_some _ (Heap.get?_push_of_some _ e)
theorem born_at : (born h C us).get? (h.objs.size + 1) = some (PySem.HandSPX.excO C h.objs.size) := by heap_get
theorem new_runs (F : ExcBaseFacts B newId initId (tl B)) (hC : h.get? C = some (cob nm q C N bs B sn sub ab col dd k0 k1 k2 k3 k5 newId)) (hl : us.length ≤ sizeLine)
    (hq : R (.ok (.ret (.ref (h.objs.size + 1)))) ⟨born h C us, g, d, t, os⟩) : codeAny (model prog w) A (.builtin newId ⟨.ref C :: us, ks⟩) R ⟨h, g, d, t, os⟩ := by
  have en := F.ends
  have c1 : (Value.ref C :: tl B).contains (.type B) = true := by rw [List.contains_cons, F.hasB, Bool.or_true]
  have c2 : (Value.ref C :: tl B).contains (.type "AttributeError") = false := by rw [List.contains_cons, F.noAttr]; rfl
  have c3 : (Value.ref C :: tl B).contains (.type "NameError") = false := by rw [List.contains_cons, F.noName]; rfl
  refine codeAny_builtinAt F.entry ?_
  unfold Builtin.«BaseException.__new__»
  refine PySem.wpAt_bind ?_
  show PySem.wpAt _ _ _ (stack >>= _) _ _ _
  refine PySem.wpAt_bind (PySem.wpAt_stack fun p below => PySem.wpAt_of_wpAny ?_)
  wp_walk
  refine PySem.wpAt_of_wpAny ?_
  rw [F.owner]
  repeat (first
    | with_reducible refine wpAny_madeHere_exc F.canon hC ?_
    | with_reducible refine wpAny_loadPart_at hC ?_
    | (with_reducible refine wpAny_isSubtype_exc hC ?_; first | rw [c1] | rw [c2] | rw [c3])
    | wp_step)
  show R _ _
  rw [Heap.size_push]
  exact hq
theorem type_calls {fI : Addr} {Q : Fin → Shared → Prop} (F : ExcBaseFacts B newId initId (tl B)) (hC : h.get? C = some (cob nm q C N bs B sn sub ab col dd k0 k1 k2 k3 k5 newId)) (hl : us.length ≤ sizeLine)
    (hi : Looks (model prog w) h (typeLookup (.ref C) "__init__") (some (.ref fI))) (hb : ∀ self, Looks (model prog w) h (bindSpecial (.ref fI) self) (.ref fI, [self]))
    (hq : codeAny (model prog w) A (.call (.ref fI) ⟨.ref (h.objs.size + 1) :: us, ks⟩)
      (fun r s' => match r with | .ok (.ret v) => v = .none ∧ Q (.done (.ret (.ref (h.objs.size + 1)))) s' | .ok _ => False | .error e => E e s') ⟨born h C us, g, d, t, os⟩) :
    wpAny (model prog w) A (Builtin.«type.__call__» ⟨.ref C :: us, ks⟩) Q E ⟨h, g, d, t, os⟩ := by
  repeat (first | with_reducible refine wpAny_loadPart_at hC ?_ | with_reducible refine wpAny_madeBy_exc hC ?_ | wp_step)
  refine codeAny_call_builtin_code (Code.quiet_builtin _ F.quiet) (new_checked F hC (new_runs F hC hl ?_))
  show wpAny _ _ _ _ _ _
  have kC := born_keeps (C := C) (us := us) hC
  have ga := born_at (h := h) (C := C) (us := us)
  have cc : (Value.ref C :: tl B).contains (.ref C) = true := by simp
  have hi' := hi.keeps (h' := born h C us) fun b o e => born_keeps e
  have hb' := (hb (.ref (h.objs.size + 1))).keeps (h' := born h C us) fun b o e => born_keeps e
  unfold isInstance
  repeat (first | with_reducible refine wpAny_loadPart_at ga ?_ | (with_reducible refine wpAny_isSubtype_exc kC ?_; rw [cc]) | wp_step)
  show wpAny _ _ (typeLookup (.ref C) _) _ _ _
  refine hi'.at (wpAny_holding (wpAny_bind (hb'.at (wpAny_bind (wpAny_call (codeAny_mono hq fun r s' z => ?_))))))
  rcases r with e | (v | _ | _ | _) <;> first | exact z | exact z.elim | skip
  obtain ⟨ev, z⟩ := z
  subst ev
  first
    | exact wpAny_pure (wpAny_pure z)
    | (wp_walk; exact z)
/-- C(.., k = v): the object is laid, then its own __init__ runs -/
theorem exc_called {fI : Addr} (F : ExcBaseFacts B newId initId (tl B)) (hC : h.get? C = some (cob nm q C N bs B sn sub ab col dd k0 k1 k2 k3 k5 newId)) (hl : us.length ≤ sizeLine)
    (hi : Looks (model prog w) h (typeLookup (.ref C) "__init__") (some (.ref fI))) (hb : ∀ self, Looks (model prog w) h (bindSpecial (.ref fI) self) (.ref fI, [self]))
    (hq : codeAny (model prog w) (A.under (.builtin "type.__call__" ⟨.ref C :: us, ks⟩)) (.call (.ref fI) ⟨.ref (h.objs.size + 1) :: us, ks⟩) (InitBack (h.objs.size + 1) R) ⟨born h C us, g, d, t, os⟩) :
    codeAny (model prog w) A (.call (.ref C) ⟨us, ks⟩) R ⟨h, g, d, t, os⟩ := by
  have f1 := tc_lookup
  have f2 := tc_bind (.ref C)
  have ty : (⟨h, g, d, t, os⟩ : Shared).TypeIs (.ref C) "type" := ⟨_, hC, rfl⟩
  refine codeAny_of_tree ?_
  show wpAny _ _ (callAny (.ref C) _) _ _ _
  repeat (any_goals (first | assumption | with_reducible refine wpAny_loadPart_at hC ?_ | wp_step))
  refine ⟨rfl, codeAny_call_builtin_at (Code.quiet_builtin _ (by decide +kernel)) entry_typeCall (type_checked hC (type_calls F hC hl hi hb (codeAny_mono hq fun r s' z => ?_)))⟩
  rcases r with e | (v | _ | _ | _) <;> exact z
end
end Kx

namespace Kx
open PySem PySem.Spec PySem.W PySem.Calls PyProof.Rows Builtin Builtin.ObjectAttr
section
variable {prog : Program} {w : World} {A : Around} {E : Value → Shared → Prop} {R : Result → Shared → Prop} {hp : Heap} {g : Array GenState} {d : Drawn} {t : Nat} {os : OsState} {B : String}
/-- what is asked of a base: that it lets fields be stored by object's way -/
structure Stores (B : String) : Prop where
  pass : ∀ self, refuseLoop self "__setattr__" (tl B) = pure ()
  has : (tl B).contains (.type "object") = true
theorem stores_V : Stores "ValueError" := ⟨PySem.F.store_ValueError.passes, by decide +kernel⟩
theorem stores_L : Stores "LookupError" := ⟨PySem.F.store_LookupError.passes, by decide +kernel⟩
/-- the first field of an exception that was just laid -/
theorem field_first {K : PySem.W.Frag} {name : Str} {tk : Tok} {v : Value} {x C : Addr} {fv : Array Value} {cd : ClassData} (S : Stores B)
    (X : K.In hp) (hx : hp.get? x = some { cls := .ref C, data := .fields fv }) (hcd : clsIn K C = some cd) (hm : cd.mro = .ref C :: tl B) (hh : cd.hasDict = true) (ha : findIn K (.ref C) name = some none)
    (hq : ∀ h' tk' dx, (∀ b o, b ≠ x → hp.get? b = some o → h'.get? b = some o) → hp.objs.size ≤ dx → dx ≠ x → h'.get? x = some { cls := .ref C, dict := some dx, data := .fields fv } →
      h'.Ns1 dx (fun y => if y = name then some v else none) → R (.ok (.ret .none)) ⟨h', g, d, tk', os⟩) :
    codeAny (model prog w) A (.call (.builtin "object.__setattr__") ⟨[.ref x, .str name tk, v], []⟩) R ⟨hp, g, d, t, os⟩ := by
  have I : InstAt hp x { cls := .ref C, data := .fields fv } C none := ⟨hx, rfl, rfl, trivial⟩
  have so := F.store_object
  have em : cd.mro.isEmpty = false := by rw [hm]; rfl
  have ob : cd.mro.contains (.type "object") = true := by rw [hm, List.contains_cons, S.has, Bool.or_true]
  have xs : x ≠ hp.objs.size := Nat.ne_of_lt (Heap.lt_size hx)
  have isO : Looks (model prog w) hp (isInstance (.ref x) (.type "object")) true := I.type.andThen (looks_mroIn X (by unfold mroIn; rw [hcd, Option.bind_some, if_neg (by rw [em]; decide), ob]))
  refine codeAny_call_builtin so.slot.plain so.entry (@check_slot (model prog w) _ _ ⟨hp, g, d, t, os⟩ "object.__setattr__" "object" "__setattr__" (.ref x) [.str name tk, v] [] _ so.kind so.split isO (so.args (.ref x) (.str name tk) v) ?_)
  have hmr : Looks (model prog w) hp (mroOf (.ref C)) cd.mro := (looks_clsIn X hcd).andThen .now
  have noT : Looks (model prog w) hp (storeTaker? none) none := .now
  have cdL : Looks (model prog w) hp (classData C) cd := looks_clsIn X hcd
  rw [osa_eq, refuse_eq]
  refine wpAny_bind (wpAny_bind (I.type.at (wpAny_bind (hmr.at ?_))))
  rw [hm, refuseLoop_ref, S.pass]
  refine wpAny_pure (wpAny_bind (I.type.at (wpAny_bind ((looks_findIn X ha).at (wpAny_bind (noT.at ?_))))))
  show wpAny _ _ (storeInOwnDict (.ref x) (.ref C) (.str name tk) name v false) _ _ _
  obtain ⟨nm, bs, mro, ns, qn, hd, sn, sb, ab, col, del⟩ := cd
  dsimp only at hh
  subst hh
  unfold storeInOwnDict ownDictForStores
  repeat (first
    | with_reducible refine PySem.HandSPX.store_in_new ?_ ?_
    | with_reducible refine wpAny_loadPart_at hx ?_
    | with_reducible refine cdL.at ?_
    | wp_step)
  · exact ⟨_, #[], _, (Heap.get?_update_ne _ _ _ _ xs.symm).trans (Heap.get?_push_at rfl rfl), rfl, fun e he => absurd he (by simp), fun _ => rfl⟩
  · intro h' tk' hn' hs
    have hx₁ : (hp.push { cls := .type "dict", data := .dict #[] }).get? x = some { cls := .ref C, data := .fields fv } := Heap.get?_push_of_some _ hx
    exact hq h' tk' hp.objs.size (fun b o hb ho => (hs.2 b (Nat.ne_of_lt (Heap.lt_size ho))).trans ((Heap.get?_update_ne _ _ _ _ hb).trans (Heap.get?_push_of_some _ ho)))
      (Nat.le_refl _) xs.symm ((hs.2 x xs).trans (Heap.get?_update_self _ hx₁ rfl)) hn'
end
/-! ### isinstance -/
section
variable {prog : Program} {w : World} {A : Around} {E : Value → Shared → Prop} {s : Shared} {K : Frag} {x D : Addr} {ox : Obj} {od : Option Obj}
theorem find_descr {C : Addr} {name : Str} {a g : Value} (hc : (clsIn K C).isSome = true) (ha : findIn K (.ref C) name = some (some a)) (hg : specialIn K a "__get__" = some (some g)) (ht : takesIn K a = some true) : findObj K C od name = some (.bind g a) := by
  obtain ⟨cd, hc⟩ := Option.isSome_iff_exists.mp hc
  unfold findObj
  rw [hc, Option.bind_some, ha, Option.bind_some]
  simp [hg, ht]
theorem asks_class {Q : Option Value → Shared → Prop} (C : L2.ExcC K D) (X : K.In s.heap) (I : InstAt s.heap x ox D od) (h : Q (some (.ref D)) { s with toks := s.toks + 1 }) : wpAny (model prog w) A (getAttr? (.ref x) "__class__") Q E s := by
  have hf : findObj K D od "__class__" = some (.bind (.builtin "getset_descriptor.__get__") (.builtin "object.__class__")) := find_descr (by obtain ⟨cd, hc, _⟩ := any_some C.hd; rw [hc]; rfl) C.ha C.hn C.ht
  obtain ⟨hp, g, d, t, os⟩ := s
  have l0 := I.type (M := model prog w)
  have l1 := looks_findIn (M := model prog w) X C.hg
  have l2 := looks_findIn (M := model prog w) X C.hk
  have l3 := looks_find (M := model prog w) X I hf
  have isE : Looks (model prog w) hp (isInstance (.ref x) (.type "BaseException")) true := l0.andThen (looks_subIn X C.hs)
  have e0 : (false && onTheHeap (Value.builtin "BaseException.__getattribute__")) = false := rfl
  have e2 : (Value.builtin "BaseException.__getattribute__" == Value.builtin "object.__getattribute__") = false := by decide +kernel
  have e1 : (onTheHeap (Value.ref D) && Value.builtin "BaseException.__getattribute__" == Value.builtin "object.__getattribute__") = false := by rw [e2]; rfl
  unfold getAttr? getAttrBy? getAttrBy
  refine wpAny_bind (wpAny_mkText (wpAny_bind (wpAny_attempt (wpAny_holding (wpAny_bind (l0.at (wpAny_bind (l1.at ?_))))))))
  show wpAny _ _ (if (onTheHeap (Value.ref D) && Value.builtin "BaseException.__getattribute__" == Value.builtin "object.__getattribute__") = true then _ else _) _ _ _
  rw [e1, if_neg Bool.false_ne_true]
  unfold getAttrByItsOwn hookBefore
  refine wpAny_bind ?_
  rw [if_pos (show onTheHeap (Value.ref D) = true from rfl)]
  refine l2.at (wpAny_bind (wpAny_attempt (wpAny_holding ?_)))
  unfold callGetattribute
  rw [e0, if_neg Bool.false_ne_true]
  unfold boundAndCalled
  rw [PySem.F.excAttr_ValueError.ga.bind (.ref x)]
  refine wpAny_bind (wpAny_pure ?_)
  show wpAny _ _ (call (.builtin "BaseException.__getattribute__") [.ref x, .str "__class__" t]) _ _ _
  refine wpAny_call (codeAny_call_builtin PySem.F.excAttr_ValueError.ga.plain PySem.F.entry_bexc_ga ?_)
  refine @check_slot (model prog w) _ _ ⟨hp, g, d, t + 1, os⟩ "BaseException.__getattribute__" "BaseException" "__getattribute__" (.ref x) [.str "__class__" t] [] _ (by decide +kernel) (by decide +kernel) isE (PySem.F.args_bexc_ga (.ref x) (.str "__class__" t)) ?_
  unfold Builtin.«object.__getattribute__»
  refine wpAny_bind (wpAny_of_eq (a := ((Value.ref x : Value), [Value.str "__class__" t])) (by first | rfl | (simp only [slotArgs]; rfl)) ?_)
  refine wpAny_bind (wpAny_pure (wpAny_bind (l0.at (wpAny_bind (l3.at ?_)))))
  show wpAny _ _ (holding [Value.builtin "object.__class__"] (call (.builtin "getset_descriptor.__get__") [.builtin "object.__class__", .ref x, .ref D]) >>= ret) _ _ _
  refine wpAny_bind (wpAny_holding (wpAny_call (class_get (s := ⟨hp, g, d, t + 1, os⟩) (ox := ox) (od := od) X I C.hm ?_)))
  refine wpAny_pure ?_
  show wpAny _ _ (handedOut (.ref D)) _ _ _
  rw [handedOut_of (v := .ref D) rfl]
  first
    | exact wpAny_pure (wpAny_pure h)
    | exact wpAny_pure h
    | exact wpAny_pure (wpAny_bind (wpAny_pure (wpAny_pure h)))
theorem kit_exc (C : L2.ExcC K D) : KitX K (.ref x) (.ref D) (fun h => InstAt h x ox D od) where
  ty := fun _ _ _ I => I.type
  it := fun _ _ X _ => by
    obtain ⟨cdD, hcD, _⟩ := any_some C.hd
    unfold clsIn at hcD
    split at hcD
    · rename_i ho
      intro A' Q' E' s' k q
      unfold isType loadHead
      exact wpAny_bind (wpAny_loadPart (k _ _ (X _ _ ho)) (wpAny_pure q))
    · cases hcD
  ne := fun h tp dd its n sl X htp => by
    obtain ⟨cdD, hcD, _⟩ := any_some C.hd
    refine Bool.eq_false_iff.mpr fun q => ?_
    have e : D = tp := Value.ref.inj (beq_iff_eq.mp q)
    subst e
    unfold clsIn at hcD
    split at hcD
    · rename_i ho
      have z := (X _ _ ho).symm.trans htp
      cases z
    · cases hcD
  ca := fun X I k => asks_class C X I k
end
end Kx

namespace Kx
open PySem PySem.Spec PyProof.Rows L2
/-- what the written part says of an own class over B, at C, by the name x -/
structure EC (K : PySem.W.Frag) (mg : Str → Option Value) (x : Str) (C : Addr) (B newId : String) : Prop where
  g : mg x = some (.ref C)
  cls : ∃ nm q N bs sn sub ab col dd k0 k1 k2 k3 k5, K.lookup C = some (cob nm q C N bs B sn sub ab col dd k0 k1 k2 k3 k5 newId)
  sa : PySem.W.findIn K (.ref C) "__setattr__" = some (some (.builtin "object.__setattr__"))
  ex : ExcC K C
  ty : PySem.W.typeIn K (.ref C) = some (.type "type")
  kC : PySem.W.keepIn K (.ref C) = true
/-- .. whose __init__ is its own, at fI -/
structure Own (K : PySem.W.Frag) (C fI : Addr) : Prop where
  i : PySem.W.findIn K (.ref C) "__init__" = some (some (.ref fI))
  t : PySem.W.typeIn K (.ref fI) = some (.type "function")
section
variable {X : Cx} {pins : List (Addr × Obj)} {σ : L2.St} {H : Hp} {s : Shared} {a C fI dx : Addr} {f x : Str} {y : V} {u : Value} {fs : List (Str × V)} {B newId initId : String}
/-- self.f = y, the first one -/
theorem put_first {A : Around} {E : Value → Shared → Prop} {Q : Unit → Shared → Prop} (S : Stores B) (T : EC X.K X.mg x C B newId) (I : Inv X pins σ H s) (e : H a = some (exo a C none)) (hno : PySem.W.findIn X.K (.ref C) f = some none) (ry : RelV y u)
    (h : ∀ dx s', H dx = none → dx ≠ a → Inv X pins σ (upd (upd H dx (exd dx [(f, y)])) a (exo a C (some dx))) s' → Q () s') : wpAny (model X.prog X.w) A (setAttr (.ref a) f u) Q E s := by
  obtain ⟨nm, q, N, bs, sn, sub, ab, col, dd, k0, k1, k2, k3, k5, hC⟩ := T.cls
  have hcl : PySem.W.clsIn X.K C = some { name := nm, bases := bs, mro := .ref C :: tl B, ns := N, qualname := q, hasDict := true, slotNames := sn, subclasses := sub, abstract := ab, collection := col, hasDel := false } := by unfold PySem.W.clsIn; rw [hC] <;> rfl
  obtain ⟨t1, ho⟩ := exo_at I.hok e
  obtain ⟨hp, g, d, t, os⟩ := s
  refine PySem.W.set_plain I.kIn (ox := { cls := .ref C, dict := none, data := .fields #[.ref t1, .none, .none, .none, .bool false, .none] }) (od := none) ⟨ho, rfl, rfl, trivial⟩ T.sa ?_
  refine field_first S I.kIn ho hcl rfl rfl hno (fun h' tk' dx k dn dne hx hn => ?_)
  have hnd : H dx = none := I.hok.fresh dn
  have nd : ∀ {b : Addr} {o : Obj}, hp.get? b = some o → b ≠ dx := fun {b o} q => Nat.ne_of_lt (Nat.lt_of_lt_of_le (Heap.lt_size q) dn)
  have na : ∀ {b : Addr}, H b = none → b ≠ a := fun {b} n z => by rw [z, e] at n; cases n
  have U : Un X.fs [] H (upd (upd H dx (exd dx [(f, y)])) a (exo a C (some dx))) hp h' := ⟨fun b o q n _ _ => k b o (na n) q, fun b o q n _ _ => ⟨o.slots, k b o (na n) q⟩,
    fun b o q n _ => by rw [upd_ne (na n), upd_ne (nd q)]; exact n,
    fun b o q _ => by
      by_cases hb : b = a
      · exact ⟨_, by rw [hb]; exact hx⟩
      · exact ⟨o, k b o hb q⟩,
    fun b xs q => by rw [upd_ne (at_ne e q exo_tup), upd_ne (ne_of_none q hnd)]; exact q,
    fun b o v q => by rw [upd_ne (at_ne e q exo_frz), upd_ne (ne_of_none q hnd)]; exact q,
    fun b ps q => ⟨#[], by rw [upd_ne (at_ne e q exo_tbl), upd_ne (ne_of_none q hnd), q]; simp⟩⟩
  refine h dx _ hnd dne (I.un (t' := tk') U fun b o q => ?_)
  by_cases hb : b = a
  · subst hb
    rw [upd_same] at q
    cases q
    exact exo_ok hx
  · rw [upd_ne hb] at q
    by_cases hd : b = dx
    · subst hd
      rw [upd_same] at q
      cases q
      exact exd_ok hn (relO_put (fs := []) ry fun g => True.intro)
    · rw [upd_ne hd] at q
      refine (I.hok b o q).stay (fun c v hc z => k c v ?_ z) (fun c hc => by rw [upd_ne (at_ne e hc exo_own), upd_ne (ne_of_none hc hnd)]; exact hc) (fun c xs hc => by rw [upd_ne (at_ne e hc exo_tup), upd_ne (ne_of_none hc hnd)]; exact hc)
      rcases hc with hc | hc
      · rw [hc]; exact hb
      · exact at_ne e hc exo_own
/-- self.f = e in an __init__ -/
def tPut (K : PySem.W.Frag) (mg : Str → Option Value) (x : Str) (C : Addr) (B newId : String) (f : Str) (to te : TE) : TS := fun D σ H => te σ H fun y H1 => to σ H1 fun v H2 => ∃ a, v = .ref a ∧ H2 a = some (exo a C none) ∧
  ∀ dx, H2 dx = none → dx ≠ a → D.nx σ (upd (upd H2 dx (exd dx [(f, y)])) a (exo a C (some dx)))
theorem ps_put {o e : Expr} {to te : TE} {p' pos : Pos} (S : Stores B) (T : EC X.K X.mg x C B newId) (hno : PySem.W.findIn X.K (.ref C) f = some none) (ho : PE X o to) (he : PE X e te) (hs : swapsWith e (some (.Attribute o f p')) pos.line X.env = pure false := by rfl) :
    PS X (.Assign [.Attribute o f p'] e pos) (tPut X.K X.mg x C B newId f to te) := by
  refine ⟨fun pins s σ H D I h => ?_⟩
  refine plainObj_wpAny_Assign_Attribute (thn (he.run pins s σ H _ I h) fun v s1 ⟨y, H1, I1, r1, q1⟩ => thn (ho.run pins s1 σ H1 _ I1 q1) fun u s2 ⟨z, H2, I2, r2, a, ez, ea, q⟩ => ?_) hs
  subst ez
  obtain rfl : u = Value.ref a := r2
  exact put_first S T I2 ea hno r1 fun dx s' n ne J => ⟨σ, _, J, q dx n ne⟩
end
/-! ### C(e), C(k = e), C() as values -/
/-- an exception of the class at C, laid at a, that went through its __init__ -/
@[irreducible] def tMkV (C : Addr) (sp : Sp) (t : TA) : TE := fun σ H Q => t σ H fun vs H1 => vs.length ≤ 1000 ∧ ∀ a, H1 a = none → sp (.ref a :: vs) (upd H1 a (exo a C none)) (fun v H2 => v = .non ∧ Q (.ref a) H2) (fun _ _ _ => False)
theorem tMkV_is {C : Addr} {sp : Sp} {t : TA} {σ : L2.St} {H : Hp} {Q : VK} : tMkV C sp t σ H Q = t σ H fun vs H1 => vs.length ≤ 1000 ∧ ∀ a, H1 a = none → sp (.ref a :: vs) (upd H1 a (exo a C none)) (fun v H2 => v = .non ∧ Q (.ref a) H2) (fun _ _ _ => False) := by unfold tMkV; rfl
section
variable {X : Cx} {C fI : Addr} {x : Str} {B newId initId : String} {CX : CXT} {k : Nat} {fd : FuncData} {ps ks : List Str} {sp : Sp} {p pos : Pos} {e : Expr} {es : List Expr} {kws : List Keyword} {t : TA}
theorem run_mkV {pins : List (Addr × Obj)} {σ : L2.St} {H : Hp} {s : Shared} {Q : VK} {us : List Value} {ws : List (Str × Value)} {vs : List V} {as : List Value} (FB : PySem.ExcBaseFacts B newId initId (tl B)) (T : EC X.K X.mg x C B newId) (O : Own X.K C fI) (F : FnOk X.prog X.w X.K X.mg X.base CX k fI fd ps sp)
    (hr : Room (k + 1) X.A) (hx : Passes CX X (fun _ _ _ => False)) (hl : us.length ≤ sizeLine) (hb : ∀ (s : Shared) (v : Value), X.K.In s.heap → BindsTo s fd ⟨v :: us, ws⟩ (ps.zip (v :: as))) (I : Inv X pins σ H s) (r : Vals vs as)
    (h : ∀ a, H a = none → sp (.ref a :: vs) (upd H a (exo a C none)) (fun v H2 => v = .non ∧ Q (.ref a) H2) (fun _ _ _ => False)) : wpAny (model X.prog X.w) X.A (call (.ref C) us ws) (EP X pins σ Q) X.xe s := by
  obtain ⟨nm, q, N, bs, sn, sub, ab, col, dd, k0, k1, k2, k3, k5, hC⟩ := T.cls
  obtain ⟨hp, g, dr, tk, os⟩ := s
  have hsz : hp.objs.size ≤ hp.objs.size + 1 := Nat.le_succ _
  have hq := h (hp.objs.size + 1) (I.hok.fresh hsz)
  have I2 : Inv X pins σ (upd H (hp.objs.size + 1) (exo (hp.objs.size + 1) C none)) ⟨born hp C us, g, dr, tk, os⟩ :=
    I.laid (t' := tk) (a := hp.objs.size + 1) (o := exo (hp.objs.size + 1) C none) (h' := born hp C us) (fun b o e => born_keeps e) hsz (exo_ok born_at)
  have r2 : Vals (V.ref (hp.objs.size + 1) :: vs) (Value.ref (hp.objs.size + 1) :: as) := .cons rfl r
  refine wpAny_call (exc_called FB (I.kIn _ _ hC) hl (PySem.W.looks_findIn I.kIn O.i) (fun self => PySem.W.bind_fn I.kIn self O.t)
    (codeAny_mono (F.run _ X.stack _ _ ⟨Value.ref (hp.objs.size + 1) :: us, ws⟩ (Value.ref (hp.objs.size + 1) :: as) _ _ (fun _ _ _ => False) (hr.make C us ws) (I2.env0.make C us ws) (hb _ _ I2.kIn) r2 hq) fun r s' hq' => ?_))
  cases r with
  | error er => exact hx pins σ _ _ er s' I2 hq'
  | ok fl =>
    cases fl with
    | ret u =>
      obtain ⟨v, H', I3, rv, ev, q3⟩ := I2.after hq'
      subst ev
      exact ⟨rv, ⟨V.ref (hp.objs.size + 1), H', I3, rfl, q3⟩⟩
    | next => exact False.elim hq'
    | brk => exact False.elim hq'
    | cont => exact False.elim hq'
theorem pe_mkV (FB : PySem.ExcBaseFacts B newId initId (tl B)) (T : EC X.K X.mg x C B newId) (O : Own X.K C fI) (F : FnOk X.prog X.w X.K X.mg X.base CX k fI fd ps sp) (hr : Room (k + 1) X.A) (hb : Binds X.K fd ps []) (hx : Passes CX X (fun _ _ _ => False)) (hg : Gl X x) (ha : PA X (e :: es) t)
    (hdb : (x == ("__debug__" : Str)) = false := by decide) (he : starEach (e :: es) X.env = (false, eval e X.env) :: starEach es X.env := by rfl) (hpl : (backTo pos (starEach es X.env)).any (·.1) = false := by rfl) :
    PE X (.Call (.Name x p) (e :: es) [] pos) (tMkV C sp t) := by
  refine ⟨fun pins s σ H Q I h => ?_⟩
  rw [tMkV_is] at h
  refine wpAny_Call_Name_kw (ld_glob I hg T.g ?_ hdb)
  refine PySem.W.callWith_K (h₀ := X.base) I.ok.mod.kin T.kC (thn (ha.run pos pins s σ H _ I h) fun us s1 ⟨vs, H1, I1, r1, hz, q1⟩ => ⟨I1.kIn, ?_⟩) he hpl
  have hl : us.length ≤ sizeLine := by rw [← Paired.length r1, sizeLine_eq]; omega
  refine run_mkV (as := us) FB T O F hr hx hl (fun s v Y => ?_) I1 r1 q1
  have hn : H1 (s1.heap.objs.size + 1) = none := I1.hok.fresh (Nat.le_succ _)
  have e1 := F.len _ _ _ _ (q1 _ hn)
  have b := hb s (v :: us) Y (by rw [List.append_nil, List.length_cons, ← Paired.length r1]; exact e1)
  rw [List.append_nil] at b
  exact b
theorem pe_mkK (FB : PySem.ExcBaseFacts B newId initId (tl B)) (T : EC X.K X.mg x C B newId) (O : Own X.K C fI) (F : FnOk X.prog X.w X.K X.mg X.base CX k fI fd ps sp) (hr : Room (k + 1) X.A)
    (hb : ∀ (s : Shared) (v : Value) (ws : List Value), X.K.In s.heap → ws.length + 1 = ps.length → BindsTo s fd ⟨[v], ks.zip ws⟩ (ps.zip (v :: ws))) (hx : Passes CX X (fun _ _ _ => False)) (hg : Gl X x) (hkw : PK X kws t)
    (hall : (backToKw pos (keywordEach kws X.env)).all (·.1.isSome) = true := by rfl) (hks : (backToKw pos (keywordEach kws X.env)).filterMap (·.1) = ks := by rfl) (hdb : (x == ("__debug__" : Str)) = false := by decide)
    (hpl : ((backTo pos (starEach [] X.env)).any (·.1) || (backToKw pos (keywordEach kws X.env)).any (·.1.isNone)) = false := by rfl) : PE X (.Call (.Name x p) [] kws pos) (tMkV C sp t) := by
  refine ⟨fun pins s σ H Q I h => ?_⟩
  rw [tMkV_is] at h
  refine wpAny_Call_Name_kw (ld_glob I hg T.g ?_ hdb)
  refine PySem.W.callWith_KW0 (h₀ := X.base) I.ok.mod.kin T.kC hall (thn (hkw.run pos pins s σ H _ I h) fun ws s1 ⟨vs, H1, I1, r1, hz, q1⟩ => ⟨I1.kIn, ?_⟩) hpl
  rw [hks]
  have hn : H1 (s1.heap.objs.size + 1) = none := I1.hok.fresh (Nat.le_succ _)
  have e1 := F.len _ _ _ _ (q1 _ hn)
  exact run_mkV (us := []) (as := ws) FB T O F hr hx (Nat.zero_le _) (fun s v Y => hb s v ws Y (by rw [← Paired.length r1]; exact e1)) I1 r1 q1
/-- C(), its __init__ the base's -/
@[irreducible] def tMk0 (C : Addr) : TE := fun _ H Q => ∀ a, H a = none → Q (.ref a) (upd H a (exo a C none))
theorem tMk0_is {C : Addr} {σ : L2.St} {H : Hp} {Q : VK} : tMk0 C σ H Q = ∀ a, H a = none → Q (.ref a) (upd H a (exo a C none)) := by unfold tMk0; rfl
theorem pe_mk0 (FB : PySem.ExcBaseFacts B newId initId (tl B)) (T : EC X.K X.mg x C B newId) (hi : PySem.W.findIn X.K (.ref C) "__init__" = some (some (.builtin initId))) (hg : Gl X x) (hdb : (x == ("__debug__" : Str)) = false := by decide) : PE X (.Call (.Name x p) [] [] pos) (tMk0 C) := by
  refine ⟨fun pins s σ H Q I h => ?_⟩
  rw [tMk0_is] at h
  refine wpAny_Call_Name_kw (ld_glob I hg T.g ?_ hdb)
  refine PySem.W.callWith_K0 I.kIn T.kC ?_
  obtain ⟨nm, q, N, bs, sn, sub, ab, col, dd, k0, k1, k2, k3, k5, hC⟩ := T.cls
  obtain ⟨hp, g, dr, tk, os⟩ := s
  show wpAny _ _ (call (.ref C) []) _ _ _
  refine PySem.W.call_B FB (fun _ => rfl) (I.kIn _ _ hC) (PySem.W.looks_findIn I.kIn hi) (Nat.zero_le _) (fun h' k he _ => ?_)
  have hsz : hp.objs.size ≤ hp.objs.size + 1 := Nat.le_succ _
  exact ⟨V.ref (hp.objs.size + 1), _, I.laid (t' := tk) (a := hp.objs.size + 1) (o := exo (hp.objs.size + 1) C none) (h' := h') k hsz (exo_ok he), rfl, h _ (I.hok.fresh hsz)⟩
end
/-! ### e.f, isinstance(e, c) -/
section
variable {X : Cx} {f x : Str} {B newId : String}
/-- an exception at a: its class, its fields -/
def ExAt (H : Hp) (a C : Addr) (fs : List (Str × V)) : Prop := (fs = [] ∧ H a = some (exo a C none)) ∨ ∃ dx, H a = some (exo a C (some dx)) ∧ H dx = some (exd dx fs)
@[irreducible] def tGetX (K : PySem.W.Frag) (f : Str) (te : TE) : TE := fun σ H Q => te σ H fun y H1 => ∃ (a C dx : Addr) (fs : List (Str × V)) (v : V), y = .ref a ∧ H1 a = some (exo a C (some dx)) ∧ H1 dx = some (exd dx fs) ∧ ExcC K C ∧ PySem.W.findIn K (.ref C) f = some none ∧ fs.lookup f = some v ∧ Q v H1
theorem tGetX_is {K : PySem.W.Frag} {f : Str} {te : TE} {σ : L2.St} {H : Hp} {Q : VK} : tGetX K f te σ H Q = (te σ H fun y H1 => ∃ (a C dx : Addr) (fs : List (Str × V)) (v : V), y = .ref a ∧ H1 a = some (exo a C (some dx)) ∧ H1 dx = some (exd dx fs) ∧ ExcC K C ∧ PySem.W.findIn K (.ref C) f = some none ∧ fs.lookup f = some v ∧ Q v H1) := by unfold tGetX; rfl
theorem pe_getX {e : Expr} {te : TE} {pos : Pos} (he : PE X e te) (hb : attributeBase e f X.env (eval e X.env) = eval e X.env := by rfl) : PE X (.Attribute e f pos) (tGetX X.K f te) := by
  refine ⟨fun pins s σ H Q I h => ?_⟩
  rw [tGetX_is] at h
  refine attr_of hb (thn (he.run pins s σ H _ I h) fun u s1 hh => ?_)
  obtain ⟨y, H1, I1, rx, a, C, dx, fs, v, ey, ea, ed, T, hno, hl, q⟩ := hh
  subst ey
  obtain rfl : u = Value.ref a := rx
  obtain ⟨t1, ho⟩ := exo_at I1.hok ea
  obtain ⟨mA, hns, hr⟩ := exd_at I1.hok ed
  obtain ⟨od, hod, hlk⟩ := lookIn_ns hns
  obtain ⟨w', hu, ru⟩ := RelO.some_of (v := v) (o := mA f) (by rw [← hl]; exact hr f)
  have J : PySem.W.InstAt s1.heap a { cls := .ref C, dict := some dx, data := .fields #[.ref t1, .none, .none, .none, .bool false, .none] } C (some od) := ⟨ho, rfl, rfl, hod⟩
  exact PySem.HandSPX.exc_get I1.kIn J T.hg T.hk T.hs (PySem.W.findObj_own T.hd hno rfl (by rw [hlk, hu])) (handed_of ru) ⟨v, H1, I1.tok _, ru, q⟩
theorem pe_getK {K : PySem.W.Frag} {e : Expr} {te : TE} {pos : Pos} (hK : X.K = K) (he : PE X e te) (hb : attributeBase e f X.env (eval e X.env) = eval e X.env := by rfl) : PE X (.Attribute e f pos) (tGetX K f te) := by
  subst hK
  exact pe_getX he hb
def rIsX (K : PySem.W.Frag) : List V → Hp → VK → Prop := fun xs H Q => ∃ (a C : Addr) (fs : List (Str × V)) (c : V) (cv : Value) (b : Bool), xs = [.ref a, c] ∧ ClsV c cv ∧ ExcC K C ∧ ExAt H a C fs ∧ PySem.W.kitOne K (.ref C) cv = some b ∧ Q (.bl b) H
theorem call_isX : CallR X (.builtin "isinstance") (rIsX X.K) := by
  intro pins s σ H xs us Q I r h
  obtain ⟨a, C, fs, c, cv, b, rfl, kc, T, hx, e, q⟩ := h
  obtain ⟨u1, u2, rfl, r1, r2⟩ := vals2 r
  cases r1
  have e2 := kc.eq r2
  subst e2
  rcases hx with ⟨_, ha⟩ | ⟨dx, ha, hd⟩
  · obtain ⟨t1, ho⟩ := exo_at I.hok ha
    exact PySem.W.kia_one (kit_exc (ox := { cls := .ref C, dict := none, data := .fields #[.ref t1, .none, .none, .none, .bool false, .none] }) (od := none) T) I.kIn ⟨ho, rfl, rfl, trivial⟩ e (fun z => nomatch z) fun tk => ⟨.bl b, H, I.tok tk, rfl, q⟩
  · obtain ⟨t1, ho⟩ := exo_at I.hok ha
    obtain ⟨mA, ⟨od, _, _, hod, _⟩, _⟩ := exd_at I.hok hd
    exact PySem.W.kia_one (kit_exc (ox := { cls := .ref C, dict := some dx, data := .fields #[.ref t1, .none, .none, .none, .bool false, .none] }) (od := some od) T) I.kIn ⟨ho, rfl, rfl, hod⟩ e (fun z => nomatch z) fun tk => ⟨.bl b, H, I.tok tk, rfl, q⟩
end
end Kx

namespace Kx
open PySem PySem.Spec PySem.Calls PyProof.Rows L2
/-! an own exception with an own __init__, over any base, raised -/
@[irreducible] def tMkR (C : Addr) (sp : Sp) (t : TA) : L2.St → Hp → XK → Prop := fun σ H Q => t σ H fun vs H1 => vs.length ≤ 1000 ∧ ∀ a, H1 a = none → sp (.ref a :: vs) (upd H1 a (exo a C none))
  (fun v H2 => v = .non ∧ ∃ (d : Addr) (fs : List (Str × V)), H2 a = some (exo a C (some d)) ∧ H2 d = some (exd d fs) ∧ H1 d = none ∧ Q (.ref C) (some d) (upd (L2.del H2 a) d (.xd fs))) (fun _ _ _ => False)
theorem tMkR_is {C : Addr} {sp : Sp} {t : TA} {σ : L2.St} {H : Hp} {Q : XK} : tMkR C sp t σ H Q = t σ H fun vs H1 => vs.length ≤ 1000 ∧ ∀ a, H1 a = none → sp (.ref a :: vs) (upd H1 a (exo a C none))
  (fun v H2 => v = .non ∧ ∃ (d : Addr) (fs : List (Str × V)), H2 a = some (exo a C (some d)) ∧ H2 d = some (exd d fs) ∧ H1 d = none ∧ Q (.ref C) (some d) (upd (L2.del H2 a) d (.xd fs))) (fun _ _ _ => False) := by unfold tMkR; rfl
section
variable {X : Cx} {C fI : Addr} {x : Str} {B newId initId : String} {CX : CXT} {k : Nat} {fd : FuncData} {ps : List Str} {sp : Sp} {p pos : Pos} {e : Expr} {es : List Expr} {t : TA}
theorem pmk_mkV (FB : PySem.ExcBaseFacts B newId initId (tl B)) (T : EC X.K X.mg x C B newId) (hs : PySem.W.subIn X.K (.ref C) (.type "BaseException") = some true) (O : Own X.K C fI) (F : FnOk X.prog X.w X.K X.mg X.base CX k fI fd ps sp) (hr : Room (k + 1) X.A) (hb : Binds X.K fd ps [])
    (hx : Passes CX X (fun _ _ _ => False)) (hg : Gl X x) (ha : PA X (e :: es) t) (hdb : (x == ("__debug__" : Str)) = false := by decide) (he : starEach (e :: es) X.env = (false, eval e X.env) :: starEach es X.env := by rfl) (hpl : (backTo pos (starEach es X.env)).any (·.1) = false := by rfl) :
    PMk X (.Call (.Name x p) (e :: es) [] pos) (tMkR C sp t) := by
  intro pins s σ H Q I h
  rw [tMkR_is] at h
  refine wpAny_Call_Name_kw (ld_glob I hg T.g ?_ hdb)
  refine PySem.W.callWith_K (h₀ := X.base) I.ok.mod.kin T.kC (thn (ha.run pos pins s σ H _ I h) fun us s1 ⟨vs, H1, I1, r1, hz, q1⟩ => ⟨I1.kIn, ?_⟩) he hpl
  have hl : us.length ≤ sizeLine := by rw [← Paired.length r1, sizeLine_eq]; omega
  obtain ⟨nm, q, N, bs, sn, sub, ab, col, dd, k0, k1, k2, k3, k5, hC⟩ := T.cls
  obtain ⟨hp, g, dr, tk, os⟩ := s1
  have hsz : hp.objs.size ≤ hp.objs.size + 1 := Nat.le_succ _
  have hq := q1 (hp.objs.size + 1) (I1.hok.fresh hsz)
  have e1 := F.len _ _ _ _ hq
  have I2 : Inv X pins σ (upd H1 (hp.objs.size + 1) (exo (hp.objs.size + 1) C none)) ⟨born hp C us, g, dr, tk, os⟩ :=
    I1.laid (t' := tk) (a := hp.objs.size + 1) (o := exo (hp.objs.size + 1) C none) (h' := born hp C us) (fun b o e => born_keeps e) hsz (exo_ok born_at)
  have r2 : Vals (V.ref (hp.objs.size + 1) :: vs) (Value.ref (hp.objs.size + 1) :: us) := .cons rfl r1
  have bd := hb ⟨born hp C us, g, dr, tk, os⟩ (Value.ref (hp.objs.size + 1) :: us) I2.kIn (by rw [List.append_nil, List.length_cons, ← Paired.length r1]; exact e1)
  rw [List.append_nil] at bd
  refine wpAny_call (exc_called FB (I1.kIn _ _ hC) hl (PySem.W.looks_findIn I1.kIn O.i) (fun self => PySem.W.bind_fn I1.kIn self O.t)
    (codeAny_mono (F.run _ X.stack _ _ ⟨Value.ref (hp.objs.size + 1) :: us, []⟩ (Value.ref (hp.objs.size + 1) :: us) _ _ (fun _ _ _ => False) (hr.make C us []) (I2.env0.make C us []) bd r2 hq) fun r s' hq' => ?_))
  cases r with
  | error er => exact hx pins σ _ _ er s' I2 hq'
  | ok fl =>
    cases fl with
    | ret u =>
      obtain ⟨v, H2, os2, bare2, un2, hok2, rv, ev, d, fs, ea, ed, hd1, q2⟩ := hq'
      subst ev
      obtain ⟨h2, g2, d2, t2, os'⟩ := s'
      exact ⟨rv, mk_end (raises_own hs T.ty) I1 hsz (fun b o e => born_keeps e) un2 hok2 os2 bare2 ea ed hd1 q2⟩
    | next => exact False.elim hq'
    | brk => exact False.elim hq'
    | cont => exact False.elim hq'
end
end Kx

namespace Kx
open PySem PySem.Spec PySem.Calls PyProof.Rows L2
section
variable {X : Cx} {C : Addr} {x : Str} {B newId initId : String} {p pos : Pos}
/-- raise C(), its __init__ the base's -/
theorem pmk_mk0 (FB : PySem.ExcBaseFacts B newId initId (tl B)) (T : EC X.K X.mg x C B newId) (hi : PySem.W.findIn X.K (.ref C) "__init__" = some (some (.builtin initId))) (hg : Gl X x) (hdb : (x == ("__debug__" : Str)) = false := by decide) :
    PMk X (.Call (.Name x p) [] [] pos) (fun _ H Q => Q (.ref C) none H) := by
  intro pins s σ H Q I h
  refine wpAny_Call_Name_kw (ld_glob I hg T.g ?_ hdb)
  refine PySem.W.callWith_K0 I.kIn T.kC ?_
  obtain ⟨nm, q, N, bs, sn, sub, ab, col, dd, k0, k1, k2, k3, k5, hC⟩ := T.cls
  obtain ⟨hp, g, dr, tk, os⟩ := s
  show wpAny _ _ (call (.ref C) []) _ _ _
  refine PySem.W.call_B FB (fun _ => rfl) (I.kIn _ _ hC) (PySem.W.looks_findIn I.kIn hi) (Nat.zero_le _) (fun h' k he _ => ?_)
  have hsz : hp.objs.size ≤ hp.objs.size + 1 := Nat.le_succ _
  have none_ : hp.get? (hp.objs.size + 1) = none := by
    cases e : hp.get? (hp.objs.size + 1) with
    | none => rfl
    | some o => exact absurd (Heap.lt_size e) (Nat.not_lt_of_le hsz)
  exact ⟨hp.objs.size + 1, _, _, ⟨hp, g, dr, tk, os⟩, H, .ref C, none, rfl, I, k, none_, he, ⟨rfl, rfl⟩, rfl, rfl, I.hok.fresh hsz, rfl, I.bare, raises_own T.ex.hs T.ty, h⟩
end
end Kx

namespace Kz
open PySem PySem.Spec PyProof.Rows L2
def topS (i : Nat) : Stmt := PySem.Challenge.pw_nosplit_k03_what_reads_see.main.body.getD i (.Pass ⟨0, 0, 0, 0⟩)
abbrev sBox : Stmt := topS 32
abbrev sTake : Stmt := topS 33
abbrev sCells : Stmt := topS 34
abbrev sSame : Stmt := topS 35
abbrev sOf : Stmt := topS 37
abbrev sTupled : Stmt := topS 5
abbrev sIsNum : Stmt := topS 6
abbrev sIsBelow : Stmt := topS 7
abbrev sAsc : Stmt := topS 8
abbrev sNeedNum : Stmt := topS 10
abbrev sNeedMove : Stmt := topS 11
abbrev sNeedRow : Stmt := topS 12
abbrev sWrites : Stmt := topS 14
abbrev sRowsOf : Stmt := topS 16
abbrev sRun : Stmt := topS 18
abbrev sRunOf : Stmt := topS 19
abbrev sWrAhead : Stmt := topS 20
abbrev sVerSeen : Stmt := topS 21
abbrev sReadMoves : Stmt := topS 22
abbrev sHolds : Stmt := topS 23
abbrev sHeldAt : Stmt := topS 25
abbrev sVersAt : Stmt := topS 26
abbrev sSeenAt : Stmt := topS 27
abbrev sSeen0 : Stmt := topS 28
abbrev sSeenBy : Stmt := topS 29
abbrev sOutcome : Stmt := topS 30
abbrev sLists : Stmt := topS 36
abbrev sPick : Stmt := topS 38
abbrev sJob : Stmt := topS 39
abbrev sNeed : Stmt := topS 40
abbrev sWeb : Stmt := topS 41
abbrev sDrawn : Stmt := topS 42
abbrev sPlayed : Stmt := topS 43
abbrev sHeard : Stmt := topS 44
abbrev sNames : Stmt := topS 45
abbrev sMovesR : Stmt := topS 46
abbrev sCaseR : Stmt := topS 47
abbrev sHandR : Stmt := topS 48
abbrev sRight : Stmt := topS 49
abbrev sLaw : Stmt := topS 50
/-- the built-in names that the module leaves alone -/
structure Nat0 (mg : Str → Option Value) : Prop where
  int : mg "int" = none
  len : mg "len" = none
  abs : mg "abs" = none
  list : mg "list" = none
  tuple : mg "tuple" = none
  bool : mg "bool" = none
  str : mg "str" = none
  enumerate : mg "enumerate" = none
  isinstance : mg "isinstance" = none
  all : mg "all" = none
  zip : mg "zip" = none
  range : mg "range" = none
  set : mg "set" = none
  sorted : mg "sorted" = none
  any : mg "any" = none
  sum : mg "sum" = none
  dict : mg "dict" = none
  min : mg "min" = none
section
variable {P : Program} {w : World} {K : PySem.W.Frag} {mg : Str → Option Value} {base : Heap}
/-! ### a draw -/
def spTake : Sp := fun vs H Q _ => ∃ (l : Addr) (a b c n : Int), vs = [.ref l, .int n] ∧ H l = some (.lst [.int a, .int b, .int c]) ∧ 0 ≤ b ∧ b < 2 ^ 62 ∧ 0 ≤ c ∧ c < 2 ^ 30 ∧ 0 < n ∧ n < 2 ^ 30 ∧
  ∀ (a' c' d : Int), 0 ≤ d → d < n → c ≤ c' → c' ≤ c + 1 → Q (.int d) (upd H l (.lst [.int a', .int b, .int c']))
theorem scTake : FnScope ["_law_box_here", "_law_below_so", "_law_drawn_here", "_law_once", "_law_far", "_law_twice"] ["_law_box_here", "_law_below_so"] (defScope sTake) := ⟨rfl, rfl, rfl, by decide +kernel, rfl, by decide +kernel, by decide +kernel⟩
theorem ok_take {f : Addr} {fd : FuncData} {k : Nat} (F : Fun K "_law_take" "_law_take" sTake f fd) (T : Nat0 mg) : FnOk P w K mg base CX0 (k + 1) f fd ["_law_box_here", "_law_below_so"] spTake := by
  refine F.ok scTake (fun vs H Q E h => ?_) (fun cdv A outer s H vs Q E hr h => ?_)
  · obtain ⟨l, a, b, c, n, rfl, _⟩ := h
    rfl
  · obtain ⟨l, a, b, c, n, rfl, hl, hb0, hb1, hc0, hc1, hn0, hn1, q⟩ := h
    refine ⟨_, pss_cons (ps_if (pt_cmpR op_gt (pe_ix ix_list (pv 0) pe_int (fun _ _ => rfl)) pe_int (nomark _))
        (pss_cons (ps_set (i := 2) scTake.nd rfl (.inl rfl) (pe_op op_mod (pe_callTy call_int1 (by rfl) T.int (by decide +kernel) (pa_cons (pe_ix ix_list (pv 0) pe_int (fun _ _ => rfl)) pa_nil)) (pv 1)))
        (pss_cons (ps_asg (pe_op op_fdiv (pe_ix ix_list (pv 0) pe_int (fun _ _ => rfl)) (pv 1)) (pg_sub (pv 0) pe_int set_list))
        (pss_one (ps_ret (pv 2))))) pss_nil)
      (pss_cons (ps_asg (pe_op op_add (pe_ix ix_list (pv 0) pe_int (fun _ _ => rfl)) pe_int) (pg_sub (pv 0) pe_int set_list))
      (pss_cons (ps_set (i := 3) scTake.nd rfl (.inl rfl) (pe_op op_mod (pe_callTy call_int1 (by rfl) T.int (by decide +kernel) (pa_cons
          (pe_op op_mul (pe_op op_add (pe_ix ix_list (pv 0) pe_int (fun _ _ => rfl)) (pe_op op_mul pe_int (pe_ix ix_list (pv 0) pe_int (fun _ _ => rfl))))
            (pe_op op_add pe_int (pe_ix ix_list (pv 0) pe_int (fun _ _ => rfl)))) pa_nil)) pe_int))
      (pss_cons (ps_set (i := 4) scTake.nd rfl (.inl rfl) (pe_op op_add (pe_op op_mod (pe_callTy call_int1 (by rfl) T.int (by decide +kernel) (pa_cons (pv 3) pa_nil)) pe_int) pe_int))
      (pss_cons (ps_set (i := 5) scTake.nd rfl (.inl rfl) (pe_op op_mod (pe_callTy call_int1 (by rfl) T.int (by decide +kernel) (pa_cons
          (pe_op op_mul (pe_op op_add (pe_op op_add (pv 3) (pe_ix ix_list (pv 0) pe_int (fun _ _ => rfl))) (pe_op op_fdiv (pe_ix ix_list (pv 0) pe_int (fun _ _ => rfl)) pe_int)) (pv 4)) pa_nil)) pe_int))
      (pss_one (ps_ret (pe_op op_mod (pe_callTy call_int1 (by rfl) T.int (by decide +kernel) (pa_cons
          (pe_op op_fdiv (pe_op op_mod (pe_callTy call_int1 (by rfl) T.int (by decide +kernel) (pa_cons (pe_op op_add (pe_op op_mul (pv 5) pe_int) (pv 3)) pa_nil)) pe_int) pe_int) pa_nil)) (pv 1)))))))), ?_⟩
    refine ⟨.ref l, rfl, l, _, 0, .int a, rfl, rfl, SqL.of hl, atI_nat (j := 0) rfl, a, 0, rfl, rfl, _, rfl, ite2 (fun _ => ?_) (fun _ => ?_)⟩
    · refine ⟨.ref l, rfl, l, _, 0, .int a, rfl, rfl, SqL.of hl, atI_nat (j := 0) rfl, .inl ⟨a, rfl, _, rfl, a, n, rfl, rfl, hn0, ?_⟩⟩
      refine ⟨.ref l, rfl, l, _, 0, .int a, rfl, rfl, SqL.of hl, atI_nat (j := 0) rfl, _, rfl, a, n, rfl, rfl, ⟨hn0, hn1⟩, _, rfl, l, _, 0, 0, rfl, rfl, hl, rfl, ?_⟩
      exact ⟨_, rfl, q (a / n) c (a % n) (Int.emod_nonneg _ (by omega)) (Int.emod_lt_of_pos _ hn0) (Int.le_refl _) (by omega)⟩
    · refine ⟨.ref l, rfl, l, _, 2, .int c, rfl, rfl, SqL.of hl, atI_nat (j := 2) rfl, c, 1, rfl, rfl, _, rfl, l, _, 2, 2, rfl, rfl, hl, rfl, ?_⟩
      have hl2 : upd H l (.lst [.int a, .int b, .int (c + 1)]) l = some (.lst [.int a, .int b, .int (c + 1)]) := upd_same
      refine ⟨.ref l, rfl, l, _, 1, .int b, rfl, rfl, SqL.of hl2, atI_nat (j := 1) rfl, .ref l, rfl, l, _, 2, .int (c + 1), rfl, rfl, SqL.of hl2, atI_nat (j := 2) rfl, _, _, rfl, rfl, .inl (by decide), _, _, rfl, rfl, .ref l, rfl, l, _, 2, .int (c + 1), rfl, rfl, SqL.of hl2, atI_nat (j := 2) rfl, _, _, rfl, rfl, _, _, rfl, rfl, .inr ⟨by omega, by omega⟩, .inl ⟨_, rfl, _, _, rfl, rfl, (by show (0 : Int) < 2147483647; decide), ?_⟩⟩
      generalize hX : (b + 48271 * (c + 1)) * (39373 + (c + 1)) = X
      have x0 : 0 ≤ X % 2147483647 := Int.emod_nonneg _ (by decide)
      have x1 : X % 2147483647 < 2147483647 := Int.emod_lt_of_pos _ (by decide)
      refine ⟨_, rfl, .inl ⟨_, rfl, _, _, rfl, rfl, (by show (0 : Int) < 40009; decide), _, _, rfl, rfl, ?_⟩⟩
      refine ⟨_, rfl, .ref l, rfl, l, _, 2, .int (c + 1), rfl, rfl, SqL.of hl2, atI_nat (j := 2) rfl, _, _, rfl, rfl, .ref l, rfl, l, _, 1, .int b, rfl, rfl, SqL.of hl2, atI_nat (j := 1) rfl, _, _, rfl, rfl, ⟨by decide, by decide⟩, _, _, rfl, rfl, _, rfl, _, _, rfl, rfl, .inr ⟨by omega, by omega⟩, .inl ⟨_, rfl, _, _, rfl, rfl, (by show (0 : Int) < 2147483629; decide), ?_⟩⟩
      refine ⟨_, rfl, _, _, rfl, rfl, .inr ⟨by decide, by decide⟩, _, rfl, _, _, rfl, rfl,   .inl ⟨_, rfl, _, _, rfl, rfl, (by show (0 : Int) < 2147483587; decide), _, _, rfl, rfl, ⟨by decide, by decide⟩, .inl ⟨_, rfl, _, rfl, _, _, rfl, rfl, hn0, ?_⟩⟩⟩
      exact q a (c + 1) _ (Int.emod_nonneg _ (by omega)) (Int.emod_lt_of_pos _ hn0) (by omega) (Int.le_refl _)
end
end Kz

namespace Kz
open PySem PySem.Spec PyProof.Rows L2
section
variable {P : Program} {w : World} {K : PySem.W.Frag} {mg : Str → Option Value} {base : Heap}
/-- a source of draws at l, n draws done at the most -/
def BoxAt (H : Hp) (l : Addr) (n : Int) : Prop := ∃ a b c : Int, H l = some (.lst [.int a, .int b, .int c]) ∧ 0 ≤ b ∧ b < 2 ^ 62 ∧ 0 ≤ c ∧ c ≤ n
/-- all but the source stays -/
def But (l : Addr) (H H' : Hp) : Prop := ∀ b o, b ≠ l → H b = some o → H' b = some o
theorem But.refl (l : Addr) (H : Hp) : But l H H := fun _ _ _ h => h
theorem But.trans {l : Addr} {H H1 H2 : Hp} (a : But l H H1) (b : But l H1 H2) : But l H H2 := fun x o n h => b x o n (a x o n h)
theorem But.of {l : Addr} {H H' : Hp} (h : Same H H') : But l H H' := fun b o _ e => h b o e
theorem but_upd {l : Addr} {H : Hp} {o : HO} : But l H (upd H l o) := fun b u n e => (upd_ne n).trans e
theorem but_new {l p : Addr} {H : Hp} {o : HO} (h : H p = none) : But l H (upd H p o) := .of (new_same h)
/-- a draw below n, told by what stays -/
def spTake2 : Sp := fun vs H Q _ => ∃ (l : Addr) (m n : Int), vs = [.ref l, .int n] ∧ BoxAt H l m ∧ m < 2 ^ 30 ∧ 0 < n ∧ n < 2 ^ 30 ∧ ∀ (H' : Hp) (d : Int), 0 ≤ d → d < n → But l H H' → BoxAt H' l (m + 1) → Q (.int d) H'
theorem ok_take2 {f : Addr} {fd : FuncData} {k : Nat} (F : Fun K "_law_take" "_law_take" sTake f fd) (T : Nat0 mg) : FnOk P w K mg base CX0 (k + 1) f fd ["_law_box_here", "_law_below_so"] spTake2 :=
  (ok_take F T).imp fun vs H Q E h => by
    obtain ⟨l, m, n, rfl, ⟨a, b, c, hl, b0, b1, c0, c1⟩, hm, n0, n1, q⟩ := h
    exact ⟨l, a, b, c, n, rfl, hl, b0, b1, c0, by omega, n0, n1, fun a' c' d d0 d1 e0 e1 => q _ d d0 d1 but_upd ⟨a', b, c', upd_same, b0, b1, by omega, by omega⟩⟩
/-! ### one of a pool -/
def spOf : Sp := fun vs H Q _ => ∃ (l pl : Addr) (m : Int) (xs : List V), vs = [.ref l, .ref pl] ∧ BoxAt H l m ∧ m < 2 ^ 30 ∧ l ≠ pl ∧ H pl = some (.lst xs) ∧ xs ≠ [] ∧ xs.length < 2 ^ 30 ∧
  ∀ (H' : Hp) (i : Nat) (v : V), xs[i]? = some v → But l H H' → BoxAt H' l (m + 1) → Q v H'
theorem scOf : FnScope ["_law_box_here", "_law_pool_so"] ["_law_box_here", "_law_pool_so"] (defScope sOf) := ⟨rfl, rfl, rfl, by decide +kernel, rfl, by decide +kernel, by decide +kernel⟩
theorem ok_of {f fT : Addr} {fd fdT : FuncData} {k : Nat} (F : Fun K "_law_of" "_law_of" sOf f fd) (T : Nat0 mg) (FT : Fun K "_law_take" "_law_take" sTake fT fdT) (bT : Binds K fdT ["_law_box_here", "_law_below_so"] []) (gT : mg "_law_take" = some (.ref fT)) :
    FnOk P w K mg base CX0 (k + 2) f fd ["_law_box_here", "_law_pool_so"] spOf := by
  have GT : FnOk P w K mg base CX0 (k + 1) fT fdT ["_law_box_here", "_law_below_so"] spTake2 := ok_take2 FT T
  refine F.ok scOf (fun vs H Q E h => ?_) (fun cdv A outer s H vs Q E hr h => ?_)
  · obtain ⟨l, pl, m, xs, rfl, _⟩ := h
    rfl
  · obtain ⟨l, pl, m, xs, rfl, hb, hm, hne, hp, h0, h1, q⟩ := h
    refine ⟨_, pss_one (ps_ret (pe_ix ix_list (pv 1) (pe_call GT hr (by rfl) gT FT.kp bT .nil pass0 (pa_cons (pv 0) (pa_cons (pe_callB call_len_seq (by rfl) T.len PySem.boot_len (pa_cons (pv 1) pa_nil)) pa_nil))) (fun _ _ => rfl))), ?_⟩
    refine ⟨_, rfl, _, rfl, _, rfl, pl, xs, rfl, .inl (SqL.of hp), l, m, _, rfl, hb, hm, ?_, ?_, fun H' d d0 d1 hB hb' => ?_⟩
    · have : 0 < xs.length := List.length_pos_iff.mpr h0
      omega
    · omega
    · have hi : d.toNat < xs.length := by omega
      refine ⟨pl, xs, d, xs[d.toNat], rfl, rfl, SqL.of (hB _ _ hne.symm hp), at_of (j := d.toNat) (by omega) (List.getElem?_eq_getElem hi), ?_⟩
      exact q H' d.toNat _ (List.getElem?_eq_getElem hi) hB hb'
theorem bit01 : ∀ b : Bool, -(2 ^ 64) < (if b = true then (1 : Int) else 0) ∧ (if b = true then (1 : Int) else 0) < 2 ^ 64
  | true => ⟨by decide, by decide⟩
  | false => ⟨by decide, by decide⟩
/-! ### a source -/
def spBox (K : PySem.W.Frag) : Sp := fun vs H Q _ => ∃ (a : Addr) (cs : List Int) (n : Nat), vs = [.ref a, .int n] ∧ SqL K H a (cs.map V.int) ∧ n ≤ 1000 ∧ ∀ (H' : Hp) (l : Addr), Same H H' → H l = none → BoxAt H' l 0 → Q (.ref l) H'
theorem scBox : FnScope ["_law_script", "_law_nth_so", "_law_cell"] ["_law_script", "_law_nth_so"] (defScope sBox) := ⟨rfl, rfl, rfl, by decide +kernel, rfl, by decide +kernel, by decide +kernel⟩
theorem ok_box {f : Addr} {fd : FuncData} {k : Nat} (F : Fun K "_law_box" "_law_box" sBox f fd) (T : Nat0 mg) : FnOk P w K mg base CX0 (k + 1) f fd ["_law_script", "_law_nth_so"] (spBox K) := by
  refine F.ok scBox (fun vs H Q E h => ?_) (fun cdv A outer s H vs Q E hr h => ?_)
  · obtain ⟨a, cs, n, rfl, _⟩ := h
    rfl
  · obtain ⟨a, cs, n, rfl, hS, hn, q⟩ := h
    refine ⟨_, pss_cons (ps_set (i := 2) scBox.nd rfl (.inl rfl) (pe_ifExp (pt_cmpR op_lt (pv 1) (pe_callB call_len_seq (by rfl) T.len PySem.boot_len (pa_cons (pv 0) pa_nil)) (nomark _)) (pe_ix ix_list (pv 0) (pv 1) (fun _ _ => rfl)) pe_int))
      (pss_one (ps_ret (pe_lst (pa_cons (pe_op op_mul (pe_callB call_abs (by rfl) T.abs (by decide +kernel) (pa_cons (pv 2) pa_nil))
          (pe_callTy call_int1 (by rfl) T.int (by decide +kernel) (pa_cons (pe_cmpR op_ge (pe_callB call_abs (by rfl) T.abs (by decide +kernel) (pa_cons (pv 2) pa_nil)) (pe_op op_pow pe_int pe_int) (nomark _)) pa_nil)))
        (pa_cons (pe_op op_add (pe_op op_add (pe_op op_mod (pe_callTy call_int1 (by rfl) T.int (by decide +kernel) (pa_cons (pv 2) pa_nil)) pe_int) (pe_op op_mul pe_int (pv 1))) pe_int)
        (pa_cons pe_int pa_nil)))))), ?_⟩
    have fin : ∀ c : Int, tRet (tLst (tCons (tOp (rI CMul fun i j => .int (i * j)) (tCB (fun xs H Q => ∃ i, xs = [.int i] ∧ Q (.int (if i < 0 then -i else i)) H) (tCons (tVar 2) tNil))
          (tCB (fun xs H Q => (∃ i, xs = [.int i] ∧ Q (.int i) H) ∨ ∃ k, xs = [.bl k] ∧ Q (.int (if k then 1 else 0)) H) (tCons (tOp (rI0 fun i j => .bl (decide (j ≤ i))) (tCB (fun xs H Q => ∃ i, xs = [.int i] ∧ Q (.int (if i < 0 then -i else i)) H) (tCons (tVar 2) tNil)) (tOp (rI CPow fun i j => .int (i ^ j.toNat)) (tC (.int 10)) (tC (.int 18)))) tNil)))
        (tCons (tOp (rI0 fun i j => .int (i + j)) (tOp (rI0 fun i j => .int (i + j)) (tOp (rI (fun _ j => 0 < j) fun i j => .int (i % j)) (tCB (fun xs H Q => (∃ i, xs = [.int i] ∧ Q (.int i) H) ∨ ∃ k, xs = [.bl k] ∧ Q (.int (if k then 1 else 0)) H) (tCons (tVar 2) tNil)) (tC (.int 2305843009213693951))) (tOp (rI CMul fun i j => .int (i * j)) (tC (.int 39373)) (tVar 1))) (tC (.int 1935003)))
        (tCons (tC (.int 0)) tNil)))) { nx := fun _ H' => Q .non H', rt := Q } [some (.ref a), some (.int (n : Int)), some (.int c)] H := by
      intro c
      refine ⟨_, rfl, c, rfl, _, rfl, c, rfl, 10, 18, rfl, rfl, ⟨by decide, by decide, by decide⟩, _, _, rfl, rfl, .inr ⟨_, rfl, _, _, rfl, rfl, .inr ?_, ?_⟩⟩
      · exact bit01 _
      · refine ⟨_, rfl, .inl ⟨c, rfl, _, _, rfl, rfl, (by show (0 : Int) < 2305843009213693951; decide), _, rfl, _, _, rfl, rfl, .inl ⟨by decide, by decide⟩, _, _, rfl, rfl, _, _, rfl, rfl, ?_⟩⟩
        refine ⟨(by show 3 ≤ sizeLine; decide), fun l hl => ?_⟩
        have x0 : 0 ≤ c % 2305843009213693951 := Int.emod_nonneg _ (by decide)
        have x1 : c % 2305843009213693951 < 2305843009213693951 := Int.emod_lt_of_pos _ (by decide)
        exact q _ l (new_same hl) hl ⟨_, _, 0, upd_same, by omega, by omega, Int.le_refl _, Int.le_refl _⟩
    refine ⟨_, rfl, _, rfl, a, _, rfl, .inl hS, _, _, rfl, rfl, _, rfl, ite2 (fun e => ?_) (fun _ => fin 0)⟩
    have e1 : (n : Int) < ((cs.map V.int).length : Int) := of_decide_eq_true e
    rw [List.length_map] at e1
    have hi : n < cs.length := by omega
    refine ⟨_, rfl, _, rfl, a, _, n, .int cs[n], rfl, rfl, hS, atI_nat (j := n) ?_, fin cs[n]⟩
    rw [List.getElem?_map, List.getElem?_eq_getElem hi]
    rfl
/-! ### the cells -/
def spCells (K : PySem.W.Frag) : Sp := fun vs H Q _ => ∃ (a : Addr) (ns : List Int) (m : Nat), vs = [.ref a, .int m] ∧ SqL K H a (ns.map V.int) ∧ ns.length ≤ 63 ∧ 0 < m ∧ m ≤ 63 ∧
  ∀ (H' : Hp) (p : Addr) (cs : List Int), Same H H' → H p = none → H' p = some (.lst (cs.map V.int)) → 1 ≤ cs.length → cs.length ≤ m → Q (.ref p) H'
theorem scCells : FnScope ["_law_script", "_law_top_so", "_law_cells_so", "_law_nth_so", "_law_cell_so", "_law_at_so"] ["_law_script", "_law_top_so"] (defScope sCells) := ⟨rfl, rfl, rfl, by decide +kernel, rfl, by decide +kernel, by decide +kernel⟩
theorem ok_cells {f : Addr} {fd : FuncData} {k : Nat} (F : Fun K "_law_cells" "_law_cells" sCells f fd) (T : Nat0 mg) : FnOk P w K mg base CX0 (k + 1) f fd ["_law_script", "_law_top_so"] (spCells K) := by
  refine F.ok scCells (fun vs H Q E h => ?_) (fun cdv A outer s H vs Q E hr h => ?_)
  · obtain ⟨a, ns, m, rfl, _⟩ := h
    rfl
  · obtain ⟨a, ns, m, rfl, hS, hn, hm0, hm1, q⟩ := h
    refine ⟨_, pss_cons (ps_set (i := 2) scCells.nd rfl (.inl rfl) (pe_orT (pe_callTy call_list_of (by rfl) T.list (by decide +kernel) (pa_cons (pe_slice sl_list (pv 0) po_none (po_some (pv 1))) pa_nil)) (pe_one (pe_lst (pa_cons pe_int pa_nil)))))
      (pss_cons (ps_for PassesOwn.never rfl (pi_enum (by rfl) T.enumerate (pa_cons (pe_slice sl_list (pv 0) (po_some (pv 1)) (po_some pe_int)) pa_nil))
          (pg_tup rfl (pgs_cons (pg_name (i := 3) scCells.nd rfl (.inl rfl)) (pgs_cons (pg_name (i := 4) scCells.nd rfl (.inl rfl)) pgs_nil)))
        (pss_cons (ps_set (i := 5) scCells.nd rfl (.inl rfl) (pe_op op_mod (pe_callTy call_int1 (by rfl) T.int (by decide +kernel) (pa_cons (pv 3) pa_nil)) (pv 1)))
        (pss_one (ps_asg (pe_op op_add (pe_ix ix_list (pv 2) (pv 5) (fun _ _ => rfl)) (pe_op op_mul (pv 4) (pe_op op_add (pv 3) pe_int))) (pg_sub (pv 2) (pv 5) set_list)))))
      (pss_one (ps_ret (pv 2)))), ?_⟩
    have hlen : (ns.map V.int).length = ns.length := List.length_map ..
    obtain ⟨zs, ez, hz⟩ := cut_map V.int ns (some (m : Int)) (some 63)
    have hpast : ns.length ≤ m → zs = [] := fun h => by
      have e := cut_past (ns.map V.int) m (some 63) (by rw [hlen]; exact h)
      rw [ez] at e
      exact List.map_eq_nil_iff.mp e
    -- behind the first statement: the cells at p
    have rest : ∀ (H1 : Hp) (p : Addr) (c0 : List Int), Same H H1 → H p = none → H1 p = some (.lst (c0.map V.int)) → 1 ≤ c0.length → c0.length ≤ m → (m < ns.length → c0.length = m) →
        tSeq (tFor (iEnum K (tCons (tSl (rSlL K) (tVar 0) (tPart (tVar 1)) (tPart (tC (.int 63)))) tNil)) (gTup K 2 (gCons (gName 3) (gCons (gName 4) gNil)))
          (tSeq (tAsg (tOp (rI (fun _ j => 0 < j) fun i j => .int (i % j)) (tCB (fun xs H Q => (∃ i, xs = [.int i] ∧ Q (.int i) H) ∨ ∃ k, xs = [.bl k] ∧ Q (.int (if k then 1 else 0)) H) (tCons (tVar 3) tNil)) (tVar 1)) (gName 5))
            (tAsg (tOp (rI0 fun i j => .int (i + j)) (tOp (rIxL K) (tVar 2) (tVar 5)) (tOp (rI CMul fun i j => .int (i * j)) (tVar 4) (tOp (rI0 fun i j => .int (i + j)) (tVar 3) (tC (.int 2))))) (gSub (tVar 2) (tVar 5) rSetL))))
          (tRet (tVar 2)) { nx := fun _ H' => Q .non H', rt := Q } [some (.ref a), some (.int (m : Int)), some (.ref p), none, none, none] H1 := by
      intro H1 p c0 s1 hp hc h1 h2 h3
      refine ⟨_, rfl, _, rfl, _, rfl, 63, rfl, a, _, rfl, s1.seq hS, fun d hd => ?_⟩
      have s2 : Same H1 (upd H1 d (.lst (cutV (ns.map V.int) (some (m : Int)) (some 63)))) := new_same hd
      refine ⟨d, _, rfl, SqL.of upd_same, for_en (K := K) (a := d) (xs := cutV (ns.map V.int) (some (m : Int)) (some 63))
        (fun i σ H' => ∃ (v3 v4 v5 : Option V) (cs : List Int), σ = [some (.ref a), some (.int (m : Int)), some (.ref p), v3, v4, v5] ∧ Same H H' ∧ H' d = some (.lst (cutV (ns.map V.int) (some (m : Int)) (some 63))) ∧ H' p = some (.lst (cs.map V.int)) ∧ cs.length = c0.length)
        ⟨none, none, none, c0, rfl, s1.trans s2, upd_same, s2 _ _ hc, rfl⟩ (fun i σ H' ⟨_, _, _, _, _, _, e, _⟩ => SqL.of e) ?_ ?_⟩
      · rintro i x t σ H' hx ⟨v3, v4, v5, cs, rfl, s3, e1, e2, e3⟩ ht
        rw [ez, List.getElem?_map] at hx
        obtain ⟨z, hz1, rfl⟩ : ∃ z, zs[i]? = some z ∧ x = V.int z := by
          cases e : zs[i]? with
          | none => rw [e] at hx; cases hx
          | some z =>
            rw [e] at hx
            exact ⟨z, rfl, (Option.some.inj hx).symm⟩
        have hil : i < zs.length := (List.getElem?_eq_some_iff.mp hz1).1
        have hml : m < ns.length := by
          rcases Nat.lt_or_ge m ns.length with h | h
          · exact h
          · rw [hpast h] at hil
            exact absurd hil (Nat.not_lt_zero _)
        have hcl : cs.length = m := by rw [e3]; exact h3 hml
        have ntp : p ≠ t := ne_of_none e2 ht
        have ntd : d ≠ t := ne_of_none e1 ht
        have npd : d ≠ p := fun q => by
          rw [q] at hd
          rw [hc] at hd
          cases hd
        refine ⟨t, _, rfl, SqT.of upd_same, rfl, _, _, rfl, _, _, rfl, rfl, ?_⟩
        have hat : ((i : Int) % (m : Int)).toNat < cs.length := by
          have a0 : 0 ≤ (i : Int) % (m : Int) := Int.emod_nonneg _ (by omega)
          have a1 : (i : Int) % (m : Int) < m := Int.emod_lt_of_pos _ (by omega)
          omega
        have h0 : 0 ≤ (i : Int) % (m : Int) := Int.emod_nonneg _ (by omega)
        refine ⟨_, rfl, .inl ⟨_, rfl, _, rfl, _, _, rfl, rfl, (show (0 : Int) < (m : Int) by omega), ?_⟩⟩
        have e2' : (upd H' t (.tup [.int (i : Nat), .int z])) p = some (.lst (cs.map V.int)) := (upd_ne ntp).trans e2
        have gc : (cs.map V.int)[((i : Int) % (m : Int)).toNat]? = some (.int cs[((i : Int) % (m : Int)).toNat]) := by
          rw [List.getElem?_map, List.getElem?_eq_getElem hat]
          rfl
        refine ⟨_, rfl, _, rfl, p, _, _, _, rfl, rfl, SqL.of e2', at_of (j := ((i : Int) % (m : Int)).toNat) (by omega) gc, _, rfl, _, rfl, _, _, rfl, rfl, _, _, rfl, rfl, .inr ⟨by omega, by omega⟩, _, _, rfl, rfl, _, rfl, _, rfl, p, _, _, ((i : Int) % (m : Int)).toNat, rfl, rfl, e2', ?_, ?_⟩
        · unfold ixN
          rw [if_pos h0, if_pos (by rw [List.length_map]; omega)]
        · refine ⟨_, _, _, cs.set ((i : Int) % (m : Int)).toNat (cs[((i : Int) % (m : Int)).toNat] + z * ((i : Int) + 2)), rfl, fun b o e => ?_, ?_, ?_, ?_⟩
          · have nb : b ≠ p := fun q => by rw [q, hp] at e; cases e
            rw [upd_ne nb, upd_ne (ne_of_none (s3 _ _ e) ht)]
            exact s3 _ _ e
          · rw [upd_ne npd, upd_ne ntd]
            exact e1
          · rw [upd_same, List.map_set]
          · rw [List.length_set, e3]
      · rintro σ H' ⟨v3, v4, v5, cs, rfl, s3, e1, e2, e3⟩
        exact ⟨_, rfl, q H' p cs s3 hp e2 (by omega) (by omega)⟩
    refine ⟨_, rfl, _, rfl, _, rfl, a, _, rfl, hS, fun c hc => ?_⟩
    refine ⟨c, _, rfl, .inl (SqL.of upd_same), fun l hl => ?_⟩
    have hl0 : H l = none := (new_same hc).free hl
    have et : cutV (ns.map V.int) none (some (m : Int)) = (ns.take m).map V.int := by rw [cut_take, List.map_take]
    refine ⟨_, .inl ⟨_, SqL.of upd_same, rfl⟩, ?_⟩
    rw [et] at hl ⊢
    by_cases h0 : ns = []
    · subst h0
      rw [List.take_nil] at hl ⊢
      refine iteF ⟨by decide, fun p hp => ?_⟩
      have hp2 : (upd H c (.lst [])) p = none := (new_same hl).free hp
      exact rest _ p [0] (((new_same hc).trans (new_same hl)).trans (new_same hp)) ((new_same hc).free hp2) upd_same (by simp) (by show 1 ≤ m; omega) (fun h => absurd h (by simp))
    · have hne : ns.take m ≠ [] := fun e => by
        rcases List.take_eq_nil_iff.mp e with h | h
        · omega
        · exact h0 h
      have hte : (!((ns.take m).map V.int).isEmpty) = true := by
        cases e : ns.take m with
        | nil => exact absurd e hne
        | cons _ _ => rfl
      rw [hte]
      refine iteT (rest _ l (ns.take m) ((new_same hc).trans (new_same hl)) hl0 upd_same ?_ ?_ ?_)
      · exact List.length_pos_iff.mpr hne
      · rw [List.length_take]; omega
      · intro h; rw [List.length_take]; omega
end
end Kz

namespace Kz
open PySem PySem.Spec PyProof.Rows L2 RZ
/-! ### data, its type by name -/
def tyN : PyData → String
  | .none => "NoneType"
  | .bool _ => "bool"
  | .int _ => "int"
  | .str _ => "str"
  | .list _ => "list"
  | .tuple _ => "tuple"
  | .dict _ => "dict"
def isSq : PyData → Bool
  | .list _ => true
  | .tuple _ => true
  | _ => false
section
variable {P : Program} {w : World} {K : PySem.W.Frag} {mg : Str → Option Value} {base : Heap}
theorem ty_list {H : Hp} {a : Addr} {xs : List V} (h : SqL K H a xs) : TyX K H (.ref a) (.type "list") := by
  rcases h with (h | ⟨o, h⟩) | ⟨o, its, n, h, c, _⟩
  · exact .base (.lst h)
  · exact .base (.frz h)
  · exact .kList h c
theorem ty_tup {H : Hp} {a : Addr} {xs : List V} (h : SqT K H a xs) : TyX K H (.ref a) (.type "tuple") := by
  rcases h with (h | ⟨o, h⟩) | ⟨o, its, n, h, c, _⟩
  · exact .base (.tup h)
  · exact .fTuple h
  · exact .kTuple h c
theorem ty_dp {H : Hp} : ∀ {v : V} {d : PyData}, Dp K H v d → TyX K H v (.type (tyN d))
  | _, _, .non => .base .non
  | _, _, .bl b => .base (.bl b)
  | _, _, .int i => .base (.int i)
  | _, _, .str x => .base (.str x)
  | _, _, .lst h _ => ty_list h
  | _, _, .tup h _ => ty_tup h
theorem no_dict {H : Hp} {v : V} {kvs : List (PyData × PyData)} (h : Dp K H v (.dict kvs)) : False := by cases h
/-- the answers of isinstance for such data, one class or two -/
def isN (n : String) (d : PyData) : Bool := (kitB (tyN d) n).getD false
theorem kit_dp {n : String} {H : Hp} {v : V} {d : PyData} (h : Dp K H v d) (hn : ∀ s ∈ ["NoneType", "bool", "int", "str", "list", "tuple"], kitB s n ≠ none) : PySem.W.kitOne K (.type (tyN d)) (.type n) = some (isN n d) := by
  have q : kitB (tyN d) n ≠ none := hn _ (by cases h <;> simp [tyN])
  unfold isN
  cases e : kitB (tyN d) n with
  | none => exact absurd e q
  | some b => exact kit_ty e
mutual
/-- no list or tuple of more than a million items -/
def small : PyData → Prop
  | .list xs => xs.length ≤ 1000000 ∧ smallAll xs
  | .tuple xs => xs.length ≤ 1000000 ∧ smallAll xs
  | _ => True
def smallAll : List PyData → Prop
  | [] => True
  | x :: r => small x ∧ smallAll r
end
theorem small_at : ∀ {ds : List PyData} {i : Nat} {d : PyData}, smallAll ds → ds[i]? = some d → small d ∧ d.depth ≤ PyData.depthAll ds
  | [], _, _, _, h => by simp at h
  | x :: r, 0, d, h, e => by
    have e' := Option.some.inj e
    subst e'
    refine ⟨h.1, ?_⟩
    rw [PyData.depthAll]
    exact Nat.le_max_left _ _
  | x :: r, i + 1, d, h, e => by
    obtain ⟨a, b⟩ := small_at (ds := r) (i := i) h.2 e
    refine ⟨a, ?_⟩
    rw [PyData.depthAll]
    exact Nat.le_trans b (Nat.le_max_right _ _)
/-! ### equal, and of the same kinds at every depth -/
def spSame (K : PySem.W.Frag) (n : Nat) : Sp := fun vs H Q _ => ∃ (v u : V) (d : PyData), vs = [v, u] ∧ Dp K H v d ∧ Dp K H u d ∧ d.depth ≤ n ∧ small d ∧ ∀ H', Same H H' → Q (.bl true) H'
abbrev nSame : List Str := ["_law_got", "_law_due", "_law_mine", "_law_its"]
theorem scSame : FnScope nSame ["_law_got", "_law_due"] (defScope sSame) := ⟨rfl, rfl, rfl, by decide +kernel, rfl, by decide +kernel, by decide +kernel⟩
theorem k_nb : ∀ s ∈ ["NoneType", "bool", "int", "str", "list", "tuple"], kitB s "bool" ≠ none := by decide +kernel
theorem k_ni : ∀ s ∈ ["NoneType", "bool", "int", "str", "list", "tuple"], kitB s "int" ≠ none := by decide +kernel
theorem k_ns : ∀ s ∈ ["NoneType", "bool", "int", "str", "list", "tuple"], kitB s "str" ≠ none := by decide +kernel
theorem k_nl : ∀ s ∈ ["NoneType", "bool", "int", "str", "list", "tuple"], kitB s "list" ≠ none := by decide +kernel
theorem k_nt : ∀ s ∈ ["NoneType", "bool", "int", "str", "list", "tuple"], kitB s "tuple" ≠ none := by decide +kernel
theorem two_kit {n m : String} {t : Value} {a b : Bool} (h1 : PySem.W.kitOne K t (.type n) = some a) (h2 : PySem.W.kitOne K t (.type m) = some b) : PySem.W.kitAny K t [.type n, .type m] = some (a || b) := by
  refine kitAny_cons h1 (fun e => ?_) (fun e => by rw [e]; rfl)
  subst e
  exact kitAny_cons h2 (fun e => by subst e; exact kitAny_nil) (fun e => by rw [e]; rfl)

/-- the names of built-in classes as values -/
theorem bt_list : bootBuiltins "list" = some (.type "list") := by decide +kernel
theorem bt_tuple : bootBuiltins "tuple" = some (.type "tuple") := by decide +kernel
theorem bt_bool : bootBuiltins "bool" = some (.type "bool") := by decide +kernel
theorem bt_str : bootBuiltins "str" = some (.type "str") := by decide +kernel
theorem bt_int : bootBuiltins "int" = some (.type "int") := by decide +kernel
theorem bt_isi : bootBuiltins "isinstance" = some (.builtin "isinstance") := by decide +kernel
theorem bt_all : bootBuiltins "all" = some (.builtin "all") := by decide +kernel
/-- isinstance(x, n), isinstance(x, (n, m)): the readings -/
def tI (K : PySem.W.Frag) (i : Nat) (n : String) : TE := tCB (rIsi K) (tCons (tVar i) (tCons (tC (.ty n)) tNil))
def tI2 (K : PySem.W.Frag) (i : Nat) (n m : String) : TE := tCB (rIsiT K) (tCons (tVar i) (tCons (tTup (tCons (tC (.ty n)) (tCons (tC (.ty m)) tNil))) tNil))
theorem rd_I {K : PySem.W.Frag} {i : Nat} {n : String} {σ : L2.St} {H : Hp} {Q : VK} {v : V} {d : PyData} (hv : σ[i]? = some (some v)) (hd : Dp K H v d) (hn : ∀ s ∈ ["NoneType", "bool", "int", "str", "list", "tuple"], kitB s n ≠ none) (q : Q (.bl (isN n d)) H) : tI K i n σ H Q :=
  ⟨v, hv, v, .ty n, _, _, _, rfl, .ty n, ty_dp hd, kit_dp hd hn, q⟩
theorem rd_I2 {K : PySem.W.Frag} {i : Nat} {n m : String} {σ : L2.St} {H : Hp} {Q : VK} {v : V} {d : PyData} (hv : σ[i]? = some (some v)) (hd : Dp K H v d) (hn : ∀ s ∈ ["NoneType", "bool", "int", "str", "list", "tuple"], kitB s n ≠ none) (hm : ∀ s ∈ ["NoneType", "bool", "int", "str", "list", "tuple"], kitB s m ≠ none)
    (q : ∀ H', Same H H' → Q (.bl (isN n d || isN m d)) H') : tI2 K i n m σ H Q :=
  ⟨v, hv, (by show 2 ≤ sizeLine; decide), fun p hp => ⟨v, p, [.ty n, .ty m], _, _, _, rfl, upd_same, .cons (.ty n) (.cons (.ty m) .nil), ty_dp (dp_same (new_same hp) hd), two_kit (kit_dp hd hn) (kit_dp hd hm), q _ (new_same hp)⟩⟩
def tSq (K : PySem.W.Frag) (call : TE) : TE := tAndV (tOp rEq (tCB (fun xs H Q => ∃ p ys, xs = [.ref p] ∧ (SqL K H p ys ∨ SqT K H p ys) ∧ Q (.int ys.length) H) (tCons (tVar 0) tNil)) (tCB (fun xs H Q => ∃ p ys, xs = [.ref p] ∧ (SqL K H p ys ∨ SqT K H p ys) ∧ Q (.int ys.length) H) (tCons (tVar 1) tNil)))
  (tCB (rAll K) (tCons (tLc (iZipA K (tCons (tVar 0) (tCons (tVar 1) tNil))) (gTup K 2 (gCons (gName 2) (gCons (gName 3) gNil))) tYes call [2, 3]) tNil))
def t_same (K : PySem.W.Frag) (lb : TS) : TS :=
  tSeq (tIfS (tB (tI2 K 1 "list" "tuple")) lb tNext)
  (tSeq (tIfS (tOr (tTest (tOp (fun x y H Q => y = .non ∧ Q (.bl (decide (x = .non))) H) (tVar 1) (tC .non))) (tB (tI2 K 1 "bool" "str")))
    (tRet (tAndV (tOp rEq (tVar 0) (tVar 1)) (tAndV (tOp rEq (tI K 0 "bool") (tI K 1 "bool")) (tOp rEq (tOp (fun x y H Q => y = .non ∧ Q (.bl (decide (x = .non))) H) (tVar 0) (tC .non)) (tOp (fun x y H Q => y = .non ∧ Q (.bl (decide (x = .non))) H) (tVar 1) (tC .non)))))) tNext)
  (tRet (tAndV (tI K 0 "int") (tAndV (tNotV (tI K 0 "bool")) (tOp rEq (tVar 0) (tVar 1))))))
def t_list (K : PySem.W.Frag) (call : TE) : TS := tSeq (tIfS (tOr (tTest (tOp rNe (tI K 0 "list") (tI K 1 "list"))) (tTest (tOp rNe (tI K 0 "tuple") (tI K 1 "tuple")))) (tRet (tC (.bl false))) tNext) (tRet (tSq K call))
theorem decT {α : Type} [DecidableEq α] (x : α) : decide (x = x) = true := decide_eq_true rfl
theorem dp_scal {H : Hp} : ∀ {v u : V} {d : PyData}, Dp K H v d → Dp K H u d → isSq d = false → v = u ∧ scal v u = true
  | _, _, _, .non, .non, _ => ⟨rfl, rfl⟩
  | _, _, _, .bl _, .bl _, _ => ⟨rfl, rfl⟩
  | _, _, _, .int _, .int _, _ => ⟨rfl, rfl⟩
  | _, _, _, .str _, .str _, _ => ⟨rfl, rfl⟩
  | _, _, _, .lst _ _, _, h => by cases h
  | _, _, _, .tup _ _, _, h => by cases h
theorem rd_same {n : Nat} {lb : TS} (vs : List V) (H : Hp) (Q : VK) (E : XK) (h : spSame K n vs H Q E)
    (hl : ∀ (v u : V) (d : PyData) (H' : Hp), Dp K H' v d → Dp K H' u d → d.depth ≤ n → small d → isSq d = true → (∀ H2, Same H' H2 → Q (.bl true) H2) → ∀ N, lb { nx := N, rt := Q } [some v, some u, none, none] H') :
    t_same K lb { nx := fun _ H' => Q .non H', rt := Q } (start nSame vs) H := by
  obtain ⟨v, u, d, rfl, dv, du, hdep, hsm, q⟩ := h
  refine rd_I2 (v := u) rfl du k_nl k_nt fun H1 s1 => ⟨_, rfl, ?_⟩
  have dv1 := dp_same s1 dv
  have du1 := dp_same s1 du
  cases hq : isSq d with
  | true =>
    have e : (isN "list" d || isN "tuple" d) = true := by cases d <;> first | rfl | cases hq
    rw [e]
    exact iteT (hl v u d H1 dv1 du1 hdep hsm hq (fun H2 s2 => q H2 (s1.trans s2)) _)
  | false =>
    obtain ⟨rfl, sc⟩ := dp_scal dv1 du1 hq
    have e : (isN "list" d || isN "tuple" d) = false := by cases d <;> first | rfl | cases hq | exact (no_dict dv).elim
    rw [e]
    refine iteF ⟨_, rfl, rfl, _, rfl, ?_⟩
    -- what is told of none, bools, texts; of ints
    have fin2 : ∀ H2, Same H H2 → Dp K H2 v d → tRet (tAndV (tOp rEq (tVar 0) (tVar 1)) (tAndV (tOp rEq (tI K 0 "bool") (tI K 1 "bool")) (tOp rEq (tOp (fun x y H Q => y = .non ∧ Q (.bl (decide (x = .non))) H) (tVar 0) (tC .non)) (tOp (fun x y H Q => y = .non ∧ Q (.bl (decide (x = .non))) H) (tVar 1) (tC .non)))))
        { nx := fun _ H' => Q .non H', rt := Q } [some v, some v, none, none] H2 := fun H2 s2 d2 => by
      refine ⟨_, rfl, _, rfl, sc, _, rfl, ?_⟩
      rw [decT]
      refine iteT (rd_I (v := v) rfl d2 k_nb (rd_I (v := v) rfl d2 k_nb ⟨rfl, _, rfl, ?_⟩))
      rw [decT]
      refine iteT ⟨_, rfl, rfl, _, rfl, rfl, rfl, ?_⟩
      rw [decT]
      exact q H2 s2
    cases hd : d with
    | list _ => rw [hd] at hq; cases hq
    | tuple _ => rw [hd] at hq; cases hq
    | dict _ => rw [hd] at dv; exact (no_dict dv).elim
    | none =>
      subst hd
      cases dv1
      exact iteT (iteT (fin2 H1 s1 du1))
    | bool b =>
      subst hd
      have en : decide (v = V.non) = false := by cases dv1; rfl
      rw [en]
      refine iteF (rd_I2 (v := v) rfl dv1 k_nb k_ns fun H2 s2 => ⟨_, rfl, iteT (fin2 H2 (s1.trans s2) (dp_same s2 dv1))⟩)
    | str b =>
      subst hd
      have en : decide (v = V.non) = false := by cases dv1; rfl
      rw [en]
      refine iteF (rd_I2 (v := v) rfl dv1 k_nb k_ns fun H2 s2 => ⟨_, rfl, iteT (fin2 H2 (s1.trans s2) (dp_same s2 dv1))⟩)
    | int i =>
      subst hd
      have en : decide (v = V.non) = false := by cases dv1; rfl
      rw [en]
      refine iteF (rd_I2 (v := v) rfl dv1 k_nb k_ns fun H2 s2 => ⟨_, rfl, iteF ?_⟩)
      have d2 := dp_same s2 dv1
      refine rd_I (v := v) rfl d2 k_ni ⟨_, rfl, iteT (rd_I (v := v) rfl d2 k_nb ⟨_, rfl, _, rfl, iteT ⟨_, rfl, _, rfl, sc, ?_⟩⟩)⟩
      rw [decT]
      exact q H2 (s1.trans s2)

theorem rep_bl (n : Nat) : List.replicate n (V.bl true) = (List.replicate n true).map V.bl := by rw [List.map_replicate]
theorem rep_all (n : Nat) : (List.replicate n true).all id = true := by
  induction n with
  | zero => rfl
  | succ n ih => rw [List.replicate_succ, List.all_cons, ih]; rfl
/-- what one turn of the comprehension asks, for lists and for tuples alike -/
theorem rd_turn {n : Nat} {v u x y : V} {i : Nat} {T D : Addr} {H0 H : Hp} {ds : List PyData} {xs ys : List V} (dx : DpAll K H0 xs ds) (dy : DpAll K H0 ys ds) (hsm : smallAll ds) (hlen : ds.length ≤ 1000000) (hd : PyData.depthAll ds ≤ n) (hx : xs[i]? = some x) (hy : ys[i]? = some y)
    (h0 : H0 D = none) (s : Same H0 H) (hD : H D = some (.lst (List.replicate i (V.bl true)))) (hT : H T = none) :
    gTup K 2 (gCons (gName 2) (gCons (gName 3) gNil)) (.ref T) (wipe [some v, some u, none, none] [2, 3]) (upd H T (.tup [x, y])) fun σ2 H2 => wipe σ2 [2, 3] = wipe [some v, some u, none, none] [2, 3] ∧ tYes σ2 H2 fun b H3 =>
      if b = true then tCall (spSame K n) [] E0 (tCons (tVar 2) (tCons (tVar 3) tNil)) σ2 H3 fun y H4 => ∃ acc, H4 D = some (.lst acc) ∧ acc.length < sizeLine ∧ (Same H0 (upd H4 D (.lst (acc ++ [y]))) ∧ (upd H4 D (.lst (acc ++ [y]))) D = some (.lst (List.replicate (i + 1) (V.bl true))))
      else (Same H0 H3 ∧ H3 D = some (.lst (List.replicate (i + 1) (V.bl true)))) := by
  refine ⟨T, _, rfl, SqT.of upd_same, rfl, _, _, rfl, _, _, rfl, rfl, rfl, ?_⟩
  unfold tYes
  dsimp only
  rw [if_pos rfl]
  obtain ⟨d, hd1, d1⟩ := dpAll_at dx hx
  obtain ⟨d', hd2, d2⟩ := dpAll_at dy hy
  rw [hd1] at hd2
  obtain rfl := Option.some.inj hd2
  obtain ⟨z1, z2⟩ := small_at hsm hd1
  have sT : Same H0 (upd H T (.tup [x, y])) := s.trans (new_same hT)
  have hi : i < 1000000 := by
    have := (List.getElem?_eq_some_iff.mp hd1).1
    omega
  refine ⟨_, rfl, _, rfl, x, y, d, rfl, dp_same sT d1, dp_same sT d2, Nat.le_trans z2 hd, z1, fun H3 s3 => ?_⟩
  have eD : H3 D = some (.lst (List.replicate i (V.bl true))) := s3 _ _ ((upd_ne (ne_of_none hD hT)).trans hD)
  refine ⟨_, eD, ?_, fun b o e => (upd_ne (ne_of_none e h0)).trans (s3 _ _ (sT _ _ e)), ?_⟩
  · rw [List.length_replicate]
    exact Nat.lt_of_lt_of_le hi (by decide)
  · rw [upd_same, List.replicate_succ']
theorem rd_list {n : Nat} {v u : V} {d : PyData} {H : Hp} {Q : VK} {N : L2.St → Hp → Prop} (dv : Dp K H v d) (du : Dp K H u d) (hdep : d.depth ≤ n + 1) (hsm : small d) (hq : isSq d = true) (q : ∀ H2, Same H H2 → Q (.bl true) H2) :
    t_list K (tCall (spSame K n) [] E0 (tCons (tVar 2) (tCons (tVar 3) tNil))) { nx := N, rt := Q } [some v, some u, none, none] H := by
  refine rd_I (v := v) rfl dv k_nl (rd_I (v := u) rfl du k_nl ⟨rfl, _, rfl, ?_⟩)
  rw [decT]
  refine iteF (rd_I (v := v) rfl dv k_nt (rd_I (v := u) rfl du k_nt ⟨rfl, _, rfl, ?_⟩))
  rw [decT]
  refine iteF ?_
  have fin : ∀ (m : Nat) (D : Addr) (H2 : Hp), Same H H2 → H2 D = some (.lst (List.replicate m (V.bl true))) → rAll K [.ref D] H2 Q := fun m D H2 s e =>
    ⟨D, List.replicate m true, rfl, SqL.of (by rw [← rep_bl]; exact e), by rw [rep_all]; exact q H2 s⟩
  cases dv with
  | non => cases hq
  | bl _ => cases hq
  | int _ => cases hq
  | str _ => cases hq
  | @lst a xs ds hs dx =>
    cases du with
    | @lst b ys _ ht dy =>
      have lx := dpAll_len dx
      have ly := dpAll_len dy
      have hd : PyData.depthAll ds ≤ n := by rw [PyData.depth] at hdep; omega
      refine ⟨_, rfl, a, xs, rfl, .inl hs, _, rfl, b, ys, rfl, .inl ht, rfl, _, rfl, ?_⟩
      rw [lx, ly, decT]
      refine iteT ⟨_, rfl, _, rfl, a, b, xs, ys, rfl, .inl ⟨hs, ht, fun D hD => lc_zL (by rw [lx, ly]) (fun i H2 => Same H H2 ∧ H2 D = some (.lst (List.replicate i (V.bl true)))) ⟨new_same hD, upd_same⟩ (fun i H2 p => ⟨p.1.seq hs, p.1.seq ht⟩) (fun i x y T H2 hx hy p hT => ?_) fun H2 p => fin _ D H2 p.1 p.2⟩⟩
      exact rd_turn (n := n) dx dy hsm.2 hsm.1 hd hx hy hD p.1 p.2 hT
  | @tup a xs ds hs dx =>
    cases du with
    | @tup b ys _ ht dy =>
      have lx := dpAll_len dx
      have ly := dpAll_len dy
      have hd : PyData.depthAll ds ≤ n := by rw [PyData.depth] at hdep; omega
      refine ⟨_, rfl, a, xs, rfl, .inr hs, _, rfl, b, ys, rfl, .inr ht, rfl, _, rfl, ?_⟩
      rw [lx, ly, decT]
      refine iteT ⟨_, rfl, _, rfl, a, b, xs, ys, rfl, .inr ⟨hs, ht, fun D hD => lc_zT (by rw [lx, ly]) (fun i H2 => Same H H2 ∧ H2 D = some (.lst (List.replicate i (V.bl true)))) ⟨new_same hD, upd_same⟩ (fun i H2 p => ⟨seqT_same p.1 hs, seqT_same p.1 ht⟩) (fun i x y T H2 hx hy p hT => ?_) fun H2 p => fin _ D H2 p.1 p.2⟩⟩
      exact rd_turn (n := n) dx dy hsm.2 hsm.1 hd hx hy hD p.1 p.2 hT
theorem isSq_depth : ∀ {d : PyData}, isSq d = true → d.depth ≠ 0
  | .list xs, _ => by rw [PyData.depth]; exact Nat.succ_ne_zero _
  | .tuple xs, _ => by rw [PyData.depth]; exact Nat.succ_ne_zero _
theorem ok_same {f : Addr} {fd : FuncData} (F : Fun K "_law_same" "_law_same" sSame f fd) (T : Nat0 mg) (bS : Binds K fd ["_law_got", "_law_due"] []) (gS : mg "_law_same" = some (.ref f)) : ∀ n : Nat, FnOk P w K mg base CX0 (n + 1) f fd ["_law_got", "_law_due"] (spSame K n)
  | 0 => by
    refine F.ok scSame (fun vs H Q E h => ?_) (fun cdv A outer s H vs Q E hr h => ?_)
    · obtain ⟨v, u, d, rfl, _⟩ := h
      rfl
    · refine ⟨t_same K tNever, ?_, rd_same vs H Q E h fun v u d H' dv du hdep _ hq _ _ => absurd (Nat.le_zero.mp hdep) (isSq_depth hq)⟩
      exact pss_cons (ps_if (pt_val (pe_callB call_isiT (by rfl) T.isinstance bt_isi (pa_cons (pv 1) (pa_cons (pe_tup (pa_cons (pe_bltn (v := .ty "list") (by rfl) T.list bt_list rfl) (pa_cons (pe_bltn (v := .ty "tuple") (by rfl) T.tuple bt_tuple rfl) pa_nil))) pa_nil)))) pss_never pss_nil)
        (pss_cons (ps_if (PW.pt (pw_or (pt_cmpR op_isN (pv 1) pe_non (nomark _)) (pw_or1 (pt_val (pe_callB call_isiT (by rfl) T.isinstance bt_isi (pa_cons (pv 1) (pa_cons (pe_tup (pa_cons (pe_bltn (v := .ty "bool") (by rfl) T.bool bt_bool rfl) (pa_cons (pe_bltn (v := .ty "str") (by rfl) T.str bt_str rfl) pa_nil))) pa_nil)))))))
          (pss_one (ps_ret (pe_and (pe_cmpR op_eq (pv 0) (pv 1) (nomark _)) (pe_and (pe_cmpR op_eq (pe_callB call_isi (by rfl) T.isinstance bt_isi (pa_cons (pv 0) (pa_cons (pe_bltn (v := .ty "bool") (by rfl) T.bool bt_bool rfl) pa_nil))) (pe_callB call_isi (by rfl) T.isinstance bt_isi (pa_cons (pv 1) (pa_cons (pe_bltn (v := .ty "bool") (by rfl) T.bool bt_bool rfl) pa_nil))) (nomark _))
            (pe_one (pe_cmpR op_eq (pe_cmpR op_isN (pv 0) pe_non (nomark _)) (pe_cmpR op_isN (pv 1) pe_non (nomark _)) (nomark _))))))) pss_nil)
        (pss_one (ps_ret (pe_and (pe_callB call_isi (by rfl) T.isinstance bt_isi (pa_cons (pv 0) (pa_cons (pe_bltn (v := .ty "int") (by rfl) T.int bt_int rfl) pa_nil))) (pe_and (pe_not (pe_callB call_isi (by rfl) T.isinstance bt_isi (pa_cons (pv 0) (pa_cons (pe_bltn (v := .ty "bool") (by rfl) T.bool bt_bool rfl) pa_nil)))) (pe_one (pe_cmpR op_eq (pv 0) (pv 1) (nomark _))))))))
  | n + 1 => by
    have G : FnOk P w K mg base CX0 (n + 1) f fd ["_law_got", "_law_due"] (spSame K n) := ok_same F T bS gS n
    refine F.ok scSame (fun vs H Q E h => ?_) (fun cdv A outer s H vs Q E hr h => ?_)
    · obtain ⟨v, u, d, rfl, _⟩ := h
      rfl
    · refine ⟨t_same K (t_list K (tCall (spSame K n) [] E0 (tCons (tVar 2) (tCons (tVar 3) tNil)))), ?_, rd_same vs H Q E h fun v u d H' dv du hdep hsm hq q N => rd_list dv du hdep hsm hq q⟩
      exact pss_cons (ps_if (pt_val (pe_callB call_isiT (by rfl) T.isinstance bt_isi (pa_cons (pv 1) (pa_cons (pe_tup (pa_cons (pe_bltn (v := .ty "list") (by rfl) T.list bt_list rfl) (pa_cons (pe_bltn (v := .ty "tuple") (by rfl) T.tuple bt_tuple rfl) pa_nil))) pa_nil))))
          (pss_cons (ps_if (PW.pt (pw_or (pt_cmpR op_ne (pe_callB call_isi (by rfl) T.isinstance bt_isi (pa_cons (pv 0) (pa_cons (pe_bltn (v := .ty "list") (by rfl) T.list bt_list rfl) pa_nil))) (pe_callB call_isi (by rfl) T.isinstance bt_isi (pa_cons (pv 1) (pa_cons (pe_bltn (v := .ty "list") (by rfl) T.list bt_list rfl) pa_nil))) (nomark _))
              (pw_or1 (pt_cmpR op_ne (pe_callB call_isi (by rfl) T.isinstance bt_isi (pa_cons (pv 0) (pa_cons (pe_bltn (v := .ty "tuple") (by rfl) T.tuple bt_tuple rfl) pa_nil))) (pe_callB call_isi (by rfl) T.isinstance bt_isi (pa_cons (pv 1) (pa_cons (pe_bltn (v := .ty "tuple") (by rfl) T.tuple bt_tuple rfl) pa_nil))) (nomark _)))))
              (pss_one (ps_ret pe_bl)) pss_nil)
            (pss_one (ps_ret (pe_and (pe_cmpR op_eq (pe_callB call_len_seq (by rfl) T.len PySem.boot_len (pa_cons (pv 0) pa_nil)) (pe_callB call_len_seq (by rfl) T.len PySem.boot_len (pa_cons (pv 1) pa_nil)) (nomark _))
              (pe_one (pe_callB (cr_all rfl) (by rfl) T.all bt_all (pa_cons (pe_lc (own := [("_law_mine", 2), ("_law_its", 3)]) (g := gTup K 2 (gCons (gName 2) (gCons (gName 3) gNil))) (tt := tYes) rfl scSame.nd (pi_zipA (by rfl) T.zip (pa_cons (pv 0) (pa_cons (pv 1) pa_nil))) (blkOk_by (own := [("_law_mine", 2), ("_law_its", 3)]) (N := nSame) (sc := defScope sSame) (by decide +kernel))
                (fun _ _ _ _ _ => pg_tup rfl (pgs_cons (pg_name (i := 2) scSame.nd rfl (Or.inl rfl)) (pgs_cons (pg_name (i := 3) scSame.nd rfl (Or.inl rfl)) pgs_nil))) (fun _ _ _ _ _ => pts_nil)
                (fun _ _ _ _ _ => pe_call G hr (by rfl) gS F.kp bS .nil pass0 (pa_cons (pv 2) (pa_cons (pv 3) pa_nil)))) pa_nil)))))))
          pss_nil)
        (pss_cons (ps_if (PW.pt (pw_or (pt_cmpR op_isN (pv 1) pe_non (nomark _)) (pw_or1 (pt_val (pe_callB call_isiT (by rfl) T.isinstance bt_isi (pa_cons (pv 1) (pa_cons (pe_tup (pa_cons (pe_bltn (v := .ty "bool") (by rfl) T.bool bt_bool rfl) (pa_cons (pe_bltn (v := .ty "str") (by rfl) T.str bt_str rfl) pa_nil))) pa_nil)))))))
          (pss_one (ps_ret (pe_and (pe_cmpR op_eq (pv 0) (pv 1) (nomark _)) (pe_and (pe_cmpR op_eq (pe_callB call_isi (by rfl) T.isinstance bt_isi (pa_cons (pv 0) (pa_cons (pe_bltn (v := .ty "bool") (by rfl) T.bool bt_bool rfl) pa_nil))) (pe_callB call_isi (by rfl) T.isinstance bt_isi (pa_cons (pv 1) (pa_cons (pe_bltn (v := .ty "bool") (by rfl) T.bool bt_bool rfl) pa_nil))) (nomark _))
            (pe_one (pe_cmpR op_eq (pe_cmpR op_isN (pv 0) pe_non (nomark _)) (pe_cmpR op_isN (pv 1) pe_non (nomark _)) (nomark _))))))) pss_nil)
        (pss_one (ps_ret (pe_and (pe_callB call_isi (by rfl) T.isinstance bt_isi (pa_cons (pv 0) (pa_cons (pe_bltn (v := .ty "int") (by rfl) T.int bt_int rfl) pa_nil))) (pe_and (pe_not (pe_callB call_isi (by rfl) T.isinstance bt_isi (pa_cons (pv 0) (pa_cons (pe_bltn (v := .ty "bool") (by rfl) T.bool bt_bool rfl) pa_nil)))) (pe_one (pe_cmpR op_eq (pv 0) (pv 1) (nomark _))))))))
end
end Kz

namespace Kz
open PySem PySem.Spec PyProof.Rows L2 RZ
section
variable {P : Program} {w : World} {K : PySem.W.Frag} {mg : Str → Option Value} {base : Heap}
/-! ### lists told as tuples -/
def spTupled (K : PySem.W.Frag) (n : Nat) : Sp := fun vs H Q _ => ∃ (v : V) (d : PyData), vs = [v] ∧ Dp K H v d ∧ d.depth ≤ n ∧ small d ∧ ∀ H' u, Same H H' → Dp K H' u (tupD d) → Q u H'
abbrev nTupled : List Str := ["value", "part"]
theorem scTupled : FnScope nTupled ["value"] (defScope sTupled) := ⟨rfl, rfl, rfl, by decide +kernel, rfl, by decide +kernel, by decide +kernel⟩
abbrev isiT2 (X : Cx) := @call_isiT X
theorem tupD_scal {H : Hp} {v : V} {d : PyData} (h : Dp K H v d) (q : isSq d = false) : tupD d = d := by
  cases h <;> first | rfl | cases q | simp [tupD]
theorem rd_tupled {n : Nat} {v : V} {d : PyData} {H : Hp} {Q : VK} {N : L2.St → Hp → Prop} (dv : Dp K H v d) (hdep : d.depth ≤ n + 1) (hsm : small d) (hq : isSq d = true) (q : ∀ H' u, Same H H' → Dp K H' u (tupD d) → Q u H') :
    tRet (tCB (fun xs H Q => ∃ p ys, xs = [.ref p] ∧ ((SqL K H p ys ∧ ∀ l, H l = none → Q (.ref l) (upd H l (.tup ys))) ∨ (SqT K H p ys ∧ Q (.ref p) H)))
      (tCons (tLc (fun σ H R => iList K (tVar 0) σ H R ∨ iTup K (tVar 0) σ H R) (gName 1) tYes (tCall (spTupled K n) [] E0 (tCons (tVar 1) tNil)) [1]) tNil)) { nx := N, rt := Q } [some v, none] H := by
  have main : ∀ (xs : List V) (ds : List PyData), d = .list ds ∨ d = .tuple ds → DpAll K H xs ds → ds.length ≤ 1000000 → smallAll ds → PyData.depthAll ds ≤ n → ∀ (D : Addr), H D = none →
      (ds.map fun e => some (tupD e)).length < sizeLine ∧ xs.length = (ds.map fun e => some (tupD e)).length ∧ (∀ e ∈ kept (ds.map fun e => some (tupD e)), onlyT e = true) ∧
      (∀ (i : Nat) (x : V) (o : Option PyData), xs[i]? = some x → (ds.map fun e => some (tupD e))[i]? = some o → Turn K H (gName 1) tYes (tCall (spTupled K n) [] E0 (tCons (tVar 1) tNil)) [1] [some v, none] x o) ∧
      ∀ H', Got K H D (kept (ds.map fun e => some (tupD e))) H' → ∃ p ys, [V.ref D] = [.ref p] ∧ ((SqL K H' p ys ∧ ∀ l, H' l = none → Q (.ref l) (upd H' l (.tup ys))) ∨ (SqT K H' p ys ∧ Q (.ref p) H')) := by
    intro xs ds ed da l1 sm dp D hD
    refine ⟨?_, by rw [List.length_map]; exact dpAll_len da, fun e he => ?_, fun i x o hx ho => ?_, fun H' g => ?_⟩
    · rw [List.length_map, sizeLine_eq]
      omega
    · rw [kept_some] at he
      refine onlyTs_mem (onlyTs_tupDs da) e ?_
      rw [tupDs_map]
      exact he
    · rw [List.getElem?_map] at ho
      obtain ⟨e, he, de⟩ := dpAll_at da hx
      rw [he] at ho
      obtain rfl := Option.some.inj ho
      obtain ⟨z1, z2⟩ := small_at sm he
      intro H3 N Z s y1 _
      refine ⟨rfl, ?_⟩
      unfold tYes
      dsimp only
      rw [if_pos rfl]
      refine ⟨_, rfl, x, e, rfl, dp_same s de, Nat.le_trans z2 dp, z1, fun H4 u s4 d4 => y1 _ u H4 rfl s4 d4⟩
    · obtain ⟨s, ys, hy, dy⟩ := g
      refine ⟨D, ys, rfl, .inl ⟨SqL.of hy, fun l hl => q _ _ (s.trans (new_same hl)) ?_⟩⟩
      have dy' := dpAll_same (new_same (o := .tup ys) hl) dy
      rw [kept_some] at dy'
      rcases ed with rfl | rfl
      · rw [tupD, tupDs_map]
        exact .tup (SqT.of upd_same) dy'
      · rw [tupD, tupDs_map]
        exact .tup (SqT.of upd_same) dy'
  cases dv with
  | non => cases hq
  | bl _ => cases hq
  | int _ => cases hq
  | str _ => cases hq
  | @lst a xs ds hs dx =>
    refine .inl ⟨_, rfl, a, rfl, ⟨xs, hs⟩, fun D hD => ?_⟩
    obtain ⟨m1, m2, m3, m4, m5⟩ := main xs ds (.inl rfl) dx hsm.1 hsm.2 (by rw [PyData.depth] at hdep; omega) D hD
    exact lc_gotL hD hs m2 m3 m1 m4 m5
  | @tup a xs ds hs dx =>
    refine .inr ⟨_, rfl, a, rfl, ⟨xs, hs⟩, fun D hD => ?_⟩
    obtain ⟨m1, m2, m3, m4, m5⟩ := main xs ds (.inr rfl) dx hsm.1 hsm.2 (by rw [PyData.depth] at hdep; omega) D hD
    exact lc_gotT hD hs m2 m3 m1 m4 m5
theorem ok_tupled {f : Addr} {fd : FuncData} (F : Fun K "tupled" "tupled" sTupled f fd) (T : Nat0 mg) (bS : Binds K fd ["value"] []) (gS : mg "tupled" = some (.ref f)) : ∀ n : Nat, FnOk P w K mg base CX0 (n + 1) f fd ["value"] (spTupled K n)
  | 0 => by
    refine F.ok scTupled (fun vs H Q E h => ?_) (fun cdv A outer s H vs Q E hr h => ?_)
    · obtain ⟨v, d, rfl, _⟩ := h
      rfl
    · refine ⟨_, pss_cons (ps_if (pt_val (pe_callB call_isiT (by rfl) T.isinstance bt_isi (pa_cons (pv 0) (pa_cons (pe_tup (pa_cons (pe_bltn (v := .ty "list") (by rfl) T.list bt_list rfl) (pa_cons (pe_bltn (v := .ty "tuple") (by rfl) T.tuple bt_tuple rfl) pa_nil))) pa_nil)))) pss_never pss_nil) (pss_one (ps_ret (pv 0))), ?_⟩
      obtain ⟨v, d, rfl, dv, hdep, hsm, q⟩ := h
      refine rd_I2 (v := v) rfl dv k_nl k_nt fun H1 s1 => ⟨_, rfl, ?_⟩
      cases hq : isSq d with
      | true => exact absurd (Nat.le_zero.mp hdep) (isSq_depth hq)
      | false =>
        have e : (isN "list" d || isN "tuple" d) = false := by cases d <;> first | rfl | cases hq | exact (no_dict dv).elim
        rw [e]
        exact iteF ⟨_, rfl, q H1 v s1 (by rw [tupD_scal dv hq]; exact dp_same s1 dv)⟩
  | n + 1 => by
    have G : FnOk P w K mg base CX0 (n + 1) f fd ["value"] (spTupled K n) := ok_tupled F T bS gS n
    refine F.ok scTupled (fun vs H Q E h => ?_) (fun cdv A outer s H vs Q E hr h => ?_)
    · obtain ⟨v, d, rfl, _⟩ := h
      rfl
    · refine ⟨_, pss_cons (ps_if (pt_val (pe_callB call_isiT (by rfl) T.isinstance bt_isi (pa_cons (pv 0) (pa_cons (pe_tup (pa_cons (pe_bltn (v := .ty "list") (by rfl) T.list bt_list rfl) (pa_cons (pe_bltn (v := .ty "tuple") (by rfl) T.tuple bt_tuple rfl) pa_nil))) pa_nil))))
          (pss_one (ps_ret (pe_callTy call_tuple_of (by rfl) T.tuple bt_tuple (pa_cons (pe_lc (own := [("part", 1)]) (g := gName 1) (tt := tYes) rfl scTupled.nd (pi_or (pi_list (pv 0)) (pi_tup (pv 0))) (blkOk_by (own := [("part", 1)]) (N := nTupled) (sc := defScope sTupled) (by decide +kernel))
            (fun _ _ _ _ _ => pg_name (i := 1) scTupled.nd rfl (Or.inl rfl)) (fun _ _ _ _ _ => pts_nil) (fun _ _ _ _ _ => pe_call G hr (by rfl) gS F.kp bS .nil pass0 (pa_cons (pv 1) pa_nil))) pa_nil)))) pss_nil) (pss_one (ps_ret (pv 0))), ?_⟩
      obtain ⟨v, d, rfl, dv, hdep, hsm, q⟩ := h
      refine rd_I2 (v := v) rfl dv k_nl k_nt fun H1 s1 => ⟨_, rfl, ?_⟩
      cases hq : isSq d with
      | true =>
        have e : (isN "list" d || isN "tuple" d) = true := by cases d <;> first | rfl | cases hq
        rw [e]
        exact iteT (rd_tupled (dp_same s1 dv) hdep hsm hq fun H' u s2 du => q H' u (s1.trans s2) du)
      | false =>
        have e : (isN "list" d || isN "tuple" d) = false := by cases d <;> first | rfl | cases hq | exact (no_dict dv).elim
        rw [e]
        exact iteF ⟨_, rfl, q H1 v s1 (by rw [tupD_scal dv hq]; exact dp_same s1 dv)⟩
/-! ### numbers -/
def spIsNum : Sp := fun vs H Q _ => ∃ i : Int, vs = [.int i] ∧ Q (.bl true) H
theorem scIsNum : FnScope ["thing"] ["thing"] (defScope sIsNum) := ⟨rfl, rfl, rfl, by decide +kernel, rfl, by decide +kernel, by decide +kernel⟩
theorem ok_isNum {f : Addr} {fd : FuncData} {k : Nat} (F : Fun K "is_number" "is_number" sIsNum f fd) (T : Nat0 mg) : FnOk P w K mg base CX0 (k + 1) f fd ["thing"] spIsNum := by
  refine F.ok scIsNum (fun vs H Q E h => ?_) (fun cdv A outer s H vs Q E hr h => ?_)
  · obtain ⟨i, rfl, _⟩ := h
    rfl
  · obtain ⟨i, rfl, q⟩ := h
    refine ⟨_, pss_one (ps_ret (pe_and (pe_callB call_isi (by rfl) T.isinstance bt_isi (pa_cons (pv 0) (pa_cons (pe_bltn (v := .ty "int") (by rfl) T.int bt_int rfl) pa_nil))) (pe_one (pe_not (pe_callB call_isi (by rfl) T.isinstance bt_isi (pa_cons (pv 0) (pa_cons (pe_bltn (v := .ty "bool") (by rfl) T.bool bt_bool rfl) pa_nil))))))), ?_⟩
    refine rd_I (v := .int i) rfl (.int i) k_ni ⟨_, rfl, iteT (rd_I (v := .int i) rfl (.int i) k_nb ⟨_, rfl, q⟩)⟩
def spIsBelow : Sp := fun vs H Q _ => ∃ i m : Int, vs = [.int i, .int m] ∧ Q (.bl (decide (0 ≤ i ∧ i < m))) H
theorem scIsBelow : FnScope ["thing", "many"] ["thing", "many"] (defScope sIsBelow) := ⟨rfl, rfl, rfl, by decide +kernel, rfl, by decide +kernel, by decide +kernel⟩
theorem ok_isBelow {f fN : Addr} {fd fdN : FuncData} {k : Nat} (F : Fun K "is_number_below" "is_number_below" sIsBelow f fd) (T : Nat0 mg) (FN : Fun K "is_number" "is_number" sIsNum fN fdN) (bN : Binds K fdN ["thing"] []) (gN : mg "is_number" = some (.ref fN)) :
    FnOk P w K mg base CX0 (k + 2) f fd ["thing", "many"] spIsBelow := by
  have GN : FnOk P w K mg base CX0 (k + 1) fN fdN ["thing"] spIsNum := ok_isNum FN T
  refine F.ok scIsBelow (fun vs H Q E h => ?_) (fun cdv A outer s H vs Q E hr h => ?_)
  · obtain ⟨i, m, rfl, _⟩ := h
    rfl
  · obtain ⟨i, m, rfl, q⟩ := h
    refine ⟨_, pss_one (ps_ret (pe_and (pe_call GN hr (by rfl) gN FN.kp bN .nil pass0 (pa_cons (pv 0) pa_nil)) (pe_one (pe_chain op_le op_lt pe_int (pv 0) (pv 1))))), ?_⟩
    refine ⟨_, rfl, i, rfl, true, rfl, iteT ⟨_, rfl, _, _, rfl, rfl, _, rfl, ite2 (fun h1 => ?_) (fun h1 => ?_)⟩⟩
    · refine ⟨_, rfl, _, _, rfl, rfl, ?_⟩
      have e : decide (i < m) = decide (0 ≤ i ∧ i < m) := by
        have := of_decide_eq_true h1
        simp [this]
      show Q (.bl (decide (i < m))) H
      rw [e]
      exact q
    · have e : false = decide (0 ≤ i ∧ i < m) := by
        have : ¬ (0 ≤ i) := fun z => h1 (decide_eq_true z)
        simp [this]
      show Q (.bl false) H
      rw [e]
      exact q
end
end Kz

theorem Kz.ix_tupK {X : L2.Cx} {K : PySem.W.Frag} (hK : X.K = K) : L2.IxR X (L2.rIxT K) := by subst hK; exact L2.ix_tup
namespace Kz
open PySem PySem.Spec PyProof.Rows L2 RZ Kt
theorem bt_set : bootBuiltins "set" = some (.type "set") := by decide +kernel
theorem bt_sorted : bootBuiltins "sorted" = some (.builtin "sorted") := by decide +kernel
section
variable {P : Program} {w : World} {K : PySem.W.Frag} {mg : Str → Option Value} {base : Heap}
/-! ### texts in ascending order -/
def spAsc (K : PySem.W.Frag) : Sp := fun vs H Q _ => ∃ (p : Addr) (xs : List Str), vs = [.ref p] ∧ SqL K H p (xs.map V.str) ∧ xs.length < 4000 ∧ (ascS xs).length < 64 ∧ ∀ H' u, Same H H' → Dp K H' u (.tuple ((ascS xs).map .str)) → Q u H'
theorem scAsc : FnScope ["values"] ["values"] (defScope sAsc) := ⟨rfl, rfl, rfl, by decide +kernel, rfl, by decide +kernel, by decide +kernel⟩
theorem ok_asc {f : Addr} {fd : FuncData} {k : Nat} (F : Fun K "ascending" "ascending" sAsc f fd) (T : Nat0 mg) : FnOk P w K mg base CX0 (k + 1) f fd ["values"] (spAsc K) := by
  refine F.ok scAsc (fun vs H Q E h => ?_) (fun cdv A outer s H vs Q E hr h => ?_)
  · obtain ⟨p, xs, rfl, _⟩ := h
    rfl
  · obtain ⟨p, xs, rfl, hp, b1, b2, q⟩ := h
    refine ⟨_, pss_one (ps_ret (pe_callTy call_tuple_of (by rfl) T.tuple bt_tuple (pa_cons (pe_callB (cr_sortedTx rfl) (by rfl) T.sorted bt_sorted (pa_cons (pe_callTy (cr_setTx rfl) (by rfl) T.set bt_set (pa_cons (pv 0) pa_nil)) pa_nil)) pa_nil))), ?_⟩
    refine ⟨_, rfl, p, xs, rfl, hp, b1, fun a l ha nd mem le => ?_⟩
    have el : l.length = (ascS xs).length := ((List.perm_ext_iff_of_nodup nd (inc_nodup (inc_ascS xs))).mpr fun y => by rw [mem y, mem_ascS]).length_eq
    refine ⟨a, l, rfl, upd_same, by omega, fun ys b pm so hb => ?_⟩
    obtain rfl := asc_of pm so nd mem
    refine ⟨b, _, rfl, .inl ⟨SqL.of upd_same, fun c hc => ?_⟩⟩
    exact q _ _ (((new_same ha).trans (new_same hb)).trans (new_same hc)) (.tup (SqT.of upd_same) (dp_strs _))
/-! ### JOBS as data -/
structure JobM where
  lv : Str
  st : List (Bool × Str)
def kindS (b : Bool) : Str := if b then "write" else "read"
def dStep (s : Bool × Str) : PyData := .tuple [.str (kindS s.1), .str s.2]
def dJob (j : JobM) : PyData := .tuple [.str j.lv, .tuple (j.st.map dStep)]
def dJobs (js : List JobM) : PyData := .tuple (js.map dJob)
def dMix (m : List Nat) : PyData := .tuple (m.map fun p => .int (p : Nat))
theorem oT_step (s : Bool × Str) : onlyT (dStep s) = true := by simp [dStep, onlyT, onlyTs]
theorem oT_job (j : JobM) : onlyT (dJob j) = true := by
  have : onlyTs (j.st.map dStep) = true := onlyTs_of fun x hx => by
    obtain ⟨s, _, rfl⟩ := List.mem_map.mp hx
    exact oT_step s
  simp [dJob, onlyT, onlyTs, this]
theorem oT_jobs (js : List JobM) : onlyT (dJobs js) = true := by
  rw [dJobs, onlyT]
  exact onlyTs_of fun x hx => by
    obtain ⟨s, _, rfl⟩ := List.mem_map.mp hx
    exact oT_job s
theorem eqv_step (a b : Bool × Str) : PyData.eqv (dStep a) (dStep b) = decide (a = b) := by
  obtain ⟨a1, a2⟩ := a
  obtain ⟨b1, b2⟩ := b
  have e : ∀ x y : Str, (x == y) = decide (x = y) := fun x y => by
    by_cases q : x = y
    · simp [q]
    · simp [q]
  simp only [dStep, PyData.eqv, PyData.eqvAll, Bool.and_true, e]
  have k : (kindS a1 = kindS b1) ↔ a1 = b1 := by cases a1 <;> cases b1 <;> decide
  rw [Bool.eq_iff_iff]
  simp [k]
theorem any_step (st : List (Bool × Str)) (s : Bool × Str) : ((st.map dStep).any fun z => PyData.eqv z (dStep s)) = decide (s ∈ st) := by
  rw [List.any_map]
  rw [Bool.eq_iff_iff]
  simp only [List.any_eq_true, Function.comp, eqv_step, decide_eq_true_eq]
  exact ⟨fun ⟨x, h, e⟩ => e ▸ h, fun h => ⟨s, h, rfl⟩⟩
/-- JOBS whose texts and sizes are such as all is of -/
def okJ (j : JobM) : Prop := PyData.strOk j.lv = true ∧ j.st.length ≤ 1000 ∧ ∀ s ∈ j.st, PyData.strOk s.2 = true
def okJs (js : List JobM) : Prop := js.length ≤ 1000 ∧ ∀ j ∈ js, okJ j
theorem canLay_all : ∀ {xs : List PyData}, (∀ x ∈ xs, x.canLay0 = true) → PyData.canLayAll0 xs = true
  | [], _ => by rw [PyData.canLayAll0]
  | x :: r, h => by rw [PyData.canLayAll0, h x List.mem_cons_self, canLay_all fun y q => h y (List.mem_cons_of_mem _ q)]; rfl
theorem depth_all {n : Nat} : ∀ {xs : List PyData}, (∀ x ∈ xs, x.depth ≤ n) → PyData.depthAll xs ≤ n
  | [], _ => by rw [PyData.depthAll]; exact Nat.zero_le _
  | x :: r, h => by rw [PyData.depthAll]; exact Nat.max_le.mpr ⟨h x List.mem_cons_self, depth_all fun y q => h y (List.mem_cons_of_mem _ q)⟩
theorem strOk_kind (b : Bool) : PyData.strOk (kindS b) = true := by cases b <;> decide +kernel
theorem lay_step {s : Bool × Str} (h : PyData.strOk s.2 = true) : (dStep s).canLay0 = true := by
  simp only [dStep, PyData.canLay0, PyData.canLayAll0, strOk_kind, h, Bool.and_true]
theorem dep_step (s : Bool × Str) : (dStep s).depth ≤ 1 := by simp [dStep, PyData.depth, PyData.depthAll]
theorem lay_steps {st : List (Bool × Str)} (h : ∀ s ∈ st, PyData.strOk s.2 = true) : (PyData.tuple (st.map dStep)).canLay0 = true := by
  rw [PyData.canLay0]
  exact canLay_all fun x hx => by
    obtain ⟨s, hs, rfl⟩ := List.mem_map.mp hx
    exact lay_step (h s hs)
theorem dep_steps (st : List (Bool × Str)) : (PyData.tuple (st.map dStep)).depth ≤ 2 := by
  rw [PyData.depth]
  exact Nat.succ_le_succ (depth_all fun x hx => by
    obtain ⟨s, hs, rfl⟩ := List.mem_map.mp hx
    exact dep_step s)
theorem shaped_of {d : PyData} {n : Nat} (a : d.canLay0 = true) (b : d.depth ≤ n) (c : n ≤ 64) : SeqAt.shaped d = true := by
  unfold SeqAt.shaped
  rw [a, decide_eq_true (Nat.le_trans b c)]
  rfl
theorem dep_job (j : JobM) : (dJob j).depth ≤ 3 := by
  have := dep_steps j.st
  rw [dJob, PyData.depth, PyData.depthAll, PyData.depthAll, PyData.depthAll]
  rw [show (PyData.str j.lv).depth = 0 by rw [PyData.depth]]
  omega
theorem dep_jobs (js : List JobM) : (dJobs js).depth ≤ 4 := by
  rw [dJobs, PyData.depth]
  exact Nat.succ_le_succ (depth_all fun x hx => by
    obtain ⟨j, hs, rfl⟩ := List.mem_map.mp hx
    exact dep_job j)
theorem small_all : ∀ {xs : List PyData}, (∀ x ∈ xs, small x) → smallAll xs
  | [], _ => by simp [smallAll]
  | x :: r, h => by
    rw [smallAll]
    exact ⟨h x List.mem_cons_self, small_all fun y q => h y (List.mem_cons_of_mem _ q)⟩
theorem small_jobs {js : List JobM} (h : okJs js) : small (dJobs js) := by
  rw [dJobs, small, List.length_map]
  refine ⟨Nat.le_trans h.1 (by decide), small_all fun x hx => ?_⟩
  obtain ⟨j, hj, rfl⟩ := List.mem_map.mp hx
  have o := h.2 j hj
  rw [dJob, small]
  refine ⟨(by show 2 ≤ 1000000; decide), ?_⟩
  rw [smallAll, smallAll, smallAll, small, small, List.length_map]
  · refine ⟨trivial, ⟨Nat.le_trans o.2.1 (by decide), small_all fun y hy => ?_⟩, trivial⟩
    obtain ⟨s, hs, rfl⟩ := List.mem_map.mp hy
    simp [dStep, small, smallAll]
  all_goals simp
theorem tupD_step (s : Bool × Str) : tupD (dStep s) = dStep s := by simp [dStep, tupD, tupDs]
theorem map_same {α : Type} {f : α → PyData} (h : ∀ x, tupD (f x) = f x) (xs : List α) : tupDs (xs.map f) = xs.map f := by
  rw [tupDs_map, List.map_map]
  exact List.map_congr_left fun x _ => h x
theorem tupD_job (j : JobM) : tupD (dJob j) = dJob j := by
  simp only [dJob, tupD, tupDs, map_same tupD_step]
theorem tupD_jobs (js : List JobM) : tupD (dJobs js) = dJobs js := by
  simp only [dJobs, tupD, map_same tupD_job]
/-- v stands for the JOBS js, in tuples or in lists -/
def IsJ (K : PySem.W.Frag) (H : Hp) (v : V) (js : List JobM) : Prop := ∃ d, Dp K H v d ∧ tupD d = dJobs js ∧ d.depth ≤ 4 ∧ small d
theorem isJ_of {H : Hp} {v : V} {js : List JobM} (h : Dp K H v (dJobs js)) (o : okJs js) : IsJ K H v js := ⟨_, h, tupD_jobs js, dep_jobs js, small_jobs o⟩
theorem dp_tup_inv {H : Hp} {v : V} {ds : List PyData} (h : Dp K H v (.tuple ds)) : ∃ a xs, v = .ref a ∧ SqT K H a xs ∧ DpAll K H xs ds := by
  cases h with
  | tup hs hx => exact ⟨_, _, rfl, hs, hx⟩
theorem dp_job_inv {H : Hp} {v : V} {j : JobM} (h : Dp K H v (dJob j)) : ∃ a b xs, v = .ref a ∧ SqT K H a [.str j.lv, .ref b] ∧ SqT K H b xs ∧ DpAll K H xs (j.st.map dStep) := by
  obtain ⟨a, xs, rfl, hs, hx⟩ := dp_tup_inv h
  cases hx with
  | cons h1 r =>
    cases r with
    | cons h2 r =>
      cases r
      cases h1
      obtain ⟨b, ys, rfl, hb, hy⟩ := dp_tup_inv h2
      exact ⟨a, b, ys, rfl, hs, hb, hy⟩
theorem dp_step_inv {H : Hp} {v : V} {s : Bool × Str} (h : Dp K H v (dStep s)) : ∃ a, v = .ref a ∧ SqT K H a [.str (kindS s.1), .str s.2] := by
  obtain ⟨a, xs, rfl, hs, hx⟩ := dp_tup_inv h
  cases hx with
  | cons h1 r =>
    cases r with
    | cons h2 r =>
      cases r
      cases h1
      cases h2
      exact ⟨a, rfl, hs⟩
/-! ### whether a JOB writes a ROW -/
def spWrites (K : PySem.W.Frag) : Sp := fun vs H Q _ => ∃ (v : V) (j : JobM) (r : Str), vs = [v, .str r] ∧ Dp K H v (dJob j) ∧ okJ j ∧ PyData.strOk r = true ∧ ∀ H', Same H H' → Q (.bl (decide ((true, r) ∈ j.st))) H'
theorem scWrites : FnScope ["job", "row"] ["job", "row"] (defScope sWrites) := ⟨rfl, rfl, rfl, by decide +kernel, rfl, by decide +kernel, by decide +kernel⟩
theorem rd_in {H : Hp} {Q : VK} {b : Addr} {xs : List V} {st : List (Bool × Str)} {p : Addr} {s : Bool × Str} (hb : SqT K H b xs) (hx : DpAll K H xs (st.map dStep)) (o : ∀ s ∈ st, PyData.strOk s.2 = true) (or : PyData.strOk s.2 = true) (hp : H p = none) (q : ∀ H', Same H H' → Q (.bl (decide (s ∈ st))) H') :
    rInDT K false (.ref p) (.ref b) (upd H p (.tup [.str (kindS s.1), .str s.2])) Q := by
  refine ⟨dStep s, st.map dStep, .tup (SqT.of upd_same) (.cons (.str _) (.cons (.str _) .nil)), .tup (seqT_same (new_same hp) hb) (dpAll_same (new_same hp) hx), shaped_of (lay_step or) (dep_step s) (by decide), shaped_of (lay_steps o) (dep_steps st) (by decide), ?_⟩
  rw [if_neg Bool.false_ne_true, any_step]
  exact q _ (new_same hp)
theorem ok_writes {f : Addr} {fd : FuncData} {k : Nat} (F : Fun K "writes_row" "writes_row" sWrites f fd) (T : Nat0 mg) : FnOk P w K mg base CX0 (k + 1) f fd ["job", "row"] (spWrites K) := by
  refine F.ok scWrites (fun vs H Q E h => ?_) (fun cdv A outer s H vs Q E hr h => ?_)
  · obtain ⟨v, j, r, rfl, _⟩ := h
    rfl
  · obtain ⟨v, j, r, rfl, dv, oj, or, q⟩ := h
    refine ⟨_, pss_one (ps_ret (pe_cmpR (op_inDT (room65 hr)) (pe_tup (pa_cons pe_str (pa_cons (pv 1) pa_nil))) (pe_ix ix_tup (pv 0) pe_int (fun _ _ => rfl)) (by rfl))), ?_⟩
    obtain ⟨a, b, xs, rfl, ha, hb, hx⟩ := dp_job_inv dv
    refine ⟨_, rfl, (by show 2 ≤ sizeLine; decide), fun p hp => ⟨_, rfl, a, _, 1, .ref b, rfl, rfl, seqT_same (new_same hp) ha, atI_nat (j := 1) rfl, ?_⟩⟩
    exact rd_in (s := (true, r)) hb hx oj.2.2 or hp q
end
end Kz

namespace Kz
open PySem PySem.Spec PyProof.Rows L2 RZ Kt
section
variable {P : Program} {w : World} {K : PySem.W.Frag} {mg : Str → Option Value} {base : Heap}
/-! ### the ROWS of JOBS -/
def allRows (js : List JobM) : List Str := js.flatMap fun j => j.st.map (·.2)
def rowsM (js : List JobM) : List Str := ascS (allRows js)
def fewR (js : List JobM) : Prop := (allRows js).length < 4000 ∧ (rowsM js).length < 64
def spRowsOf (K : PySem.W.Frag) : Sp := fun vs H Q _ => ∃ (v : V) (js : List JobM), vs = [v] ∧ IsJ K H v js ∧ fewR js ∧ ∀ H' u, Same H H' → Dp K H' u (.tuple ((rowsM js).map .str)) → Q u H'
abbrev nRowsOf : List Str := ["jobs", "job", "kind", "row"]
theorem scRowsOf : FnScope nRowsOf ["jobs"] (defScope sRowsOf) := ⟨rfl, rfl, rfl, by decide +kernel, rfl, by decide +kernel, by decide +kernel⟩
theorem flat_rows (js : List JobM) : kept (js.map fun j => j.st.map fun s => some (PyData.str s.2)).flatten = (allRows js).map .str := by
  unfold allRows kept
  induction js with
  | nil => rfl
  | cons j r ih =>
    rw [List.map_cons, List.flatten_cons, List.filterMap_append, ih, List.flatMap_cons, List.map_append, List.filterMap_map, List.map_map]
    congr 1
    exact congrFun (List.filterMap_eq_map' (f := fun s : Bool × Str => PyData.str s.2)) j.st
theorem len_rows (js : List JobM) : (js.map fun j => j.st.map fun s => some (PyData.str s.2)).flatten.length = (allRows js).length := by
  unfold allRows
  induction js with
  | nil => rfl
  | cons j r ih => rw [List.map_cons, List.flatten_cons, List.length_append, ih, List.flatMap_cons, List.length_append, List.length_map, List.length_map]
theorem ok_rowsOf {f fT fA : Addr} {fd fdT fdA : FuncData} (F : Fun K "rows_of" "rows_of" sRowsOf f fd) (T : Nat0 mg) (FT : Fun K "tupled" "tupled" sTupled fT fdT) (bT : Binds K fdT ["value"] []) (gT : mg "tupled" = some (.ref fT))
    (FA : Fun K "ascending" "ascending" sAsc fA fdA) (bA : Binds K fdA ["values"] []) (gA : mg "ascending" = some (.ref fA)) : FnOk P w K mg base CX0 6 f fd ["jobs"] (spRowsOf K) := by
  have GT : FnOk P w K mg base CX0 5 fT fdT ["value"] (spTupled K 4) := ok_tupled FT T bT gT 4
  have GA : FnOk P w K mg base CX0 5 fA fdA ["values"] (spAsc K) := ok_asc FA T
  refine F.ok scRowsOf (fun vs H Q E h => ?_) (fun cdv A outer s H vs Q E hr h => ?_)
  · obtain ⟨v, js, rfl, _⟩ := h
    rfl
  · obtain ⟨v, js, rfl, ⟨d, dv, ed, dep, sm⟩, ⟨b1, b2⟩, q⟩ := h
    refine ⟨_, pss_one (ps_ret (pe_call GA hr (by rfl) gA FA.kp bA .nil pass0 (pa_cons (pe_lc2 (own := [("job", 1), ("kind", 2), ("row", 3)]) (vs1 := [2, 3]) (wi1 := iTup K (tOp (rIxT K) (tVar 1) (tC (.int 1)))) (g := gName 1) (tt := tYes) (g1 := gTup K 2 (gCons (gName 2) (gCons (gName 3) gNil))) (tt1 := tYes) rfl scRowsOf.nd
      (pi_tup (pe_call GT hr (by rfl) gT FT.kp bT .nil pass0 (pa_cons (pv 0) pa_nil))) (blkOk_by (own := [("job", 1), ("kind", 2), ("row", 3)]) (N := nRowsOf) (sc := defScope sRowsOf) (by decide +kernel)) (by decide)
      (fun _ _ _ _ _ => pg_name (i := 1) scRowsOf.nd rfl (Or.inl rfl)) (fun _ _ _ _ _ => pts_nil) (fun _ _ _ _ _ => by exact (pi_tup (pe_ix (ix_tupK (K := K) rfl) (pv 1) pe_int (fun _ _ => rfl))))
      (fun _ _ _ _ _ => by exact (pg_tup rfl (pgs_cons (pg_name (i := 2) scRowsOf.nd rfl (Or.inl rfl)) (pgs_cons (pg_name (i := 3) scRowsOf.nd rfl (Or.inl rfl)) pgs_nil)))) (fun _ _ _ _ _ => pts_nil) (fun _ _ _ _ _ => pv 3)) pa_nil))), ?_⟩
    refine ⟨v, rfl, v, d, rfl, dv, dep, sm, fun H1 u s1 du => ?_⟩
    rw [ed] at du
    obtain ⟨a, xs, rfl, hs, hx⟩ := dp_tup_inv du
    have lx : xs.length = (js.map fun j => j.st.map fun s => some (PyData.str s.2)).length := by rw [dpAll_len hx, List.length_map, List.length_map]
    refine ⟨a, rfl, ⟨xs, hs⟩, fun D hD => lc2_got (K := K) (wk_tup hs) lx hD (fun e he => ?_) (by rw [len_rows, sizeLine_eq]; omega) (fun i cs hcs => ?_) (fun H2 p => ?_)⟩
    · rw [flat_rows] at he
      obtain ⟨y, _, rfl⟩ := List.mem_map.mp he
      rw [onlyT]
    · rw [List.getElem?_map] at hcs
      cases hj : js[i]? with
      | none => rw [hj] at hcs; cases hcs
      | some j =>
        rw [hj] at hcs
        obtain rfl := Option.some.inj hcs
        intro x H RR Z hxi sH rr
        obtain ⟨e, he, de⟩ := dpAll_at hx hxi
        rw [List.getElem?_map, hj] at he
        obtain rfl := Option.some.inj he
        obtain ⟨ja, jb, ys, rfl, hja, hjb, hy⟩ := dp_job_inv (dp_same sH de)
        refine ⟨rfl, ?_⟩
        unfold tYes
        dsimp only
        rw [if_pos rfl]
        refine ⟨_, rfl, ja, _, 1, .ref jb, rfl, rfl, hja, atI_nat (j := 1) rfl, jb, rfl, ⟨ys, hjb⟩, ?_⟩
        refine rr _ _ H (fun i x _ => ys[i]? = some x) (fun _ _ z => z) (fun B ts => ⟨?_, fun k o ho => ?_⟩)
        · rw [List.length_map, ← (by rw [dpAll_len hy, List.length_map] : ys.length = j.st.length)]
          exact wk_tup (ts _ _ hjb)
        · rw [List.getElem?_map] at ho
          intro y H3 N Z2 hyk sB n1 _
          obtain ⟨e, he, de2⟩ := dpAll_at hy hyk
          rw [List.getElem?_map] at he
          cases hs2 : j.st[k]? with
          | none => rw [hs2] at he; cases he
          | some s2 =>
            rw [hs2] at he ho
            obtain rfl := Option.some.inj he
            obtain rfl := Option.some.inj ho
            obtain ⟨c, rfl, hc⟩ := dp_step_inv (dp_same sB (dp_ts ts de2 (oT_step s2)))
            refine ⟨c, _, rfl, hc, rfl, _, _, rfl, _, _, rfl, rfl, rfl, ?_⟩
            unfold tYes
            dsimp only
            rw [if_pos rfl]
            exact ⟨_, rfl, n1 _ _ H3 rfl (fun _ _ z => z) (.str _)⟩
    · obtain ⟨s2, ys, hy, dy⟩ := p
      rw [flat_rows] at dy
      have ey := strs_dp dy
      subst ey
      exact ⟨D, allRows js, rfl, SqL.of hy, b1, b2, fun H3 u s3 du => q H3 u ((s1.trans s2).trans s3) du⟩
end
end Kz

namespace Kz
open PySem PySem.Spec PyProof.Rows L2 RZ Kt
abbrev sRI : Stmt := inClass sRun 0
abbrev sGo : Stmt := inClass sRun 1
/-! ### a run, as data -/
structure RunM where
  moves : List (Nat × Option Nat)
  begun : List (Option Nat)
  ended : List (Option Nat)
  counts : List Nat
def ov : Option Nat → V
  | none => .non
  | some n => .int (n : Nat)
def od : Option Nat → PyData
  | none => .none
  | some n => .int (n : Nat)
def dMove (m : Nat × Option Nat) : PyData := .tuple [.int (m.1 : Nat), od m.2]
theorem oT_move (m : Nat × Option Nat) : onlyT (dMove m) = true := by
  obtain ⟨a, b⟩ := m
  cases b <;> simp [dMove, od, onlyT, onlyTs]
def newRun (n : Nat) : RunM := ⟨[], List.replicate n none, List.replicate n none, List.replicate n 0⟩
def lenOf (js : List JobM) (p : Nat) : Nat := (js[p]?.map fun j => j.st.length).getD 0
def goM (js : List JobM) (r : RunM) (p : Nat) : RunM :=
  let k := r.counts.getD p 0
  { moves := r.moves ++ [(p, if k = lenOf js p then none else some k)]
    begun := if k = 0 then r.begun.set p (some r.moves.length) else r.begun
    ended := if k = lenOf js p then r.ended.set p (some r.moves.length) else r.ended
    counts := r.counts.set p (k + 1) }
def rf (j : V) (m b e c : Addr) : List (Str × V) := [("jobs", j), ("moves", .ref m), ("begun", .ref b), ("ended", .ref e), ("counts", .ref c)]
theorem rf_jobs (j : V) (m b e c : Addr) : (rf j m b e c).lookup ("jobs" : Str) = some j := rfl
theorem rf_moves (j : V) (m b e c : Addr) : (rf j m b e c).lookup ("moves" : Str) = some (.ref m) := rfl
theorem rf_begun (j : V) (m b e c : Addr) : (rf j m b e c).lookup ("begun" : Str) = some (.ref b) := rfl
theorem rf_ended (j : V) (m b e c : Addr) : (rf j m b e c).lookup ("ended" : Str) = some (.ref e) := rfl
theorem rf_counts (j : V) (m b e c : Addr) : (rf j m b e c).lookup ("counts" : Str) = some (.ref c) := rfl
theorem rf_go (j : V) (m b e c : Addr) : (rf j m b e c).lookup ("go" : Str) = none := rfl
theorem rf_put (j : V) (m b e c : Addr) : putF "counts" (.ref c) (putF "ended" (.ref e) (putF "begun" (.ref b) (putF "moves" (.ref m) (putF "jobs" j [])))) = rf j m b e c := rfl
/-- the run st of the JOBS js at p, all of it new behind H0 -/
structure RA (K : PySem.W.Frag) (C : Addr) (H0 H : Hp) (js : List JobM) (st : RunM) (p dx m b e c : Addr) (j : V) : Prop where
  s0 : Same H0 H
  p0 : H0 p = none
  m0 : H0 m = none
  b0 : H0 b = none
  e0 : H0 e = none
  c0 : H0 c = none
  mb : m ≠ b
  me : m ≠ e
  mc : m ≠ c
  be : b ≠ e
  bc : b ≠ c
  ec : e ≠ c
  hp : H p = some (.ins C dx (rf j m b e c))
  hj : Dp K H j (dJobs js)
  hm : ∃ ms, H m = some (.lst ms) ∧ DpAll K H ms (st.moves.map dMove)
  hb : H b = some (.lst (st.begun.map ov))
  he : H e = some (.lst (st.ended.map ov))
  hc : H c = some (.lst (st.counts.map fun n => V.int (n : Nat)))
  lb : st.begun.length = js.length
  le : st.ended.length = js.length
  lc : st.counts.length = js.length
def RunAt (K : PySem.W.Frag) (C : Addr) (H0 H : Hp) (js : List JobM) (st : RunM) (p : Addr) : Prop := ∃ dx m b e c j, RA K C H0 H js st p dx m b e c j
theorem ne_ins {H : Hp} {a p C dx : Addr} {xs : List V} {fs : List (Str × V)} (h1 : H a = some (.lst xs)) (h2 : H p = some (.ins C dx fs)) : p ≠ a := fun q => by
  rw [q, h1] at h2
  cases h2
section
variable {K : PySem.W.Frag} {C : Addr} {H0 H : Hp} {js : List JobM} {st : RunM} {p dx m b e c : Addr} {j : V}
theorem oTs_moves (ms : List (Nat × Option Nat)) : onlyTs (ms.map dMove) = true := onlyTs_of fun x hx => by
  obtain ⟨y, _, rfl⟩ := List.mem_map.mp hx
  exact oT_move y
theorem RA.b_set (R : RA K C H0 H js st p dx m b e c j) (q : Nat) (v : Option Nat) : RA K C H0 (upd H b (.lst ((st.begun.map ov).set q (ov v)))) js { st with begun := st.begun.set q v } p dx m b e c j := by
  have nt := noTup_lst R.hb
  obtain ⟨ms, hm, dm⟩ := R.hm
  exact { R with
    s0 := fun a o z => (upd_ne (ne_of_none z R.b0)).trans (R.s0 _ _ z)
    hp := (upd_ne (ne_ins R.hb R.hp)).trans R.hp
    hj := dp_put nt R.hj (oT_jobs js)
    hm := ⟨ms, (upd_ne R.mb).trans hm, dpAll_put nt dm (oTs_moves _)⟩
    hb := by rw [upd_same, List.map_set]
    he := (upd_ne R.be.symm).trans R.he
    hc := (upd_ne R.bc.symm).trans R.hc
    lb := by rw [List.length_set]; exact R.lb }
theorem RA.e_set (R : RA K C H0 H js st p dx m b e c j) (q : Nat) (v : Option Nat) : RA K C H0 (upd H e (.lst ((st.ended.map ov).set q (ov v)))) js { st with ended := st.ended.set q v } p dx m b e c j := by
  have nt := noTup_lst R.he
  obtain ⟨ms, hm, dm⟩ := R.hm
  exact { R with
    s0 := fun a o z => (upd_ne (ne_of_none z R.e0)).trans (R.s0 _ _ z)
    hp := (upd_ne (ne_ins R.he R.hp)).trans R.hp
    hj := dp_put nt R.hj (oT_jobs js)
    hm := ⟨ms, (upd_ne R.me).trans hm, dpAll_put nt dm (oTs_moves _)⟩
    hb := (upd_ne R.be).trans R.hb
    he := by rw [upd_same, List.map_set]
    hc := (upd_ne R.ec.symm).trans R.hc
    le := by rw [List.length_set]; exact R.le }
theorem RA.c_set (R : RA K C H0 H js st p dx m b e c j) (q n : Nat) : RA K C H0 (upd H c (.lst ((st.counts.map fun n => V.int (n : Nat)).set q (.int (n : Nat))))) js { st with counts := st.counts.set q n } p dx m b e c j := by
  have nt := noTup_lst R.hc
  obtain ⟨ms, hm, dm⟩ := R.hm
  exact { R with
    s0 := fun a o z => (upd_ne (ne_of_none z R.c0)).trans (R.s0 _ _ z)
    hp := (upd_ne (ne_ins R.hc R.hp)).trans R.hp
    hj := dp_put nt R.hj (oT_jobs js)
    hm := ⟨ms, (upd_ne R.mc).trans hm, dpAll_put nt dm (oTs_moves _)⟩
    hb := (upd_ne R.bc).trans R.hb
    he := (upd_ne R.ec).trans R.he
    hc := by rw [upd_same, List.map_set]
    lc := by rw [List.length_set]; exact R.lc }
/-- a new thing beside it -/
theorem RA.more (R : RA K C H0 H js st p dx m b e c j) {H' : Hp} (s : Same H H') : RA K C H0 H' js st p dx m b e c j := by
  obtain ⟨ms, hm, dm⟩ := R.hm
  exact { R with
    s0 := R.s0.trans s
    hp := s _ _ R.hp
    hj := dp_same s R.hj
    hm := ⟨ms, s _ _ hm, dpAll_same s dm⟩
    hb := s _ _ R.hb
    he := s _ _ R.he
    hc := s _ _ R.hc }
theorem RA.m_app (R : RA K C H0 H js st p dx m b e c j) {ms : List V} {v : V} (hm : H m = some (.lst ms)) (mv : Nat × Option Nat) (dv : Dp K H v (dMove mv)) : RA K C H0 (upd H m (.lst (ms ++ [v]))) js { st with moves := st.moves ++ [mv] } p dx m b e c j := by
  have nt := noTup_lst hm
  obtain ⟨ms', hm', dm⟩ := R.hm
  rw [hm] at hm'
  obtain rfl : ms = ms' := by cases hm'; rfl
  exact { R with
    s0 := fun a o z => (upd_ne (ne_of_none z R.m0)).trans (R.s0 _ _ z)
    hp := (upd_ne (ne_ins hm R.hp)).trans R.hp
    hj := dp_put nt R.hj (oT_jobs js)
    hm := ⟨ms ++ [v], upd_same, by rw [List.map_append]; exact dpAll_snoc (dpAll_put nt dm (oTs_moves _)) (dp_put nt dv (oT_move mv))⟩
    hb := (upd_ne R.mb.symm).trans R.hb
    he := (upd_ne R.me.symm).trans R.he
    hc := (upd_ne R.mc.symm).trans R.hc }
end
end Kz

namespace Kz
open PySem PySem.Spec PyProof.Rows L2 RZ Kt
structure TRun (K : PySem.W.Frag) (mg : Str → Option Value) (C : Addr) : Prop where
  cl : Cls K C
  nj : NoAttr K C "jobs"
  nm : NoAttr K C "moves"
  nb : NoAttr K C "begun"
  ne : NoAttr K C "ended"
  nc : NoAttr K C "counts"
  mgC : mg "Run" = some (.ref C)
section
variable {P : Program} {w : World} {K : PySem.W.Frag} {mg : Str → Option Value} {base : Heap}
def spRI (K : PySem.W.Frag) (C : Addr) : Sp := fun vs H Q _ => ∃ (H0 : Hp) (p dx : Addr) (j : V) (js : List JobM), vs = [.ref p, j] ∧ Same H0 H ∧ H0 p = none ∧ H p = some (.ins C dx []) ∧ Dp K H j (dJobs js) ∧ js.length ≤ 1000 ∧ ∀ H', RunAt K C H0 H' js (newRun js.length) p → Q .non H'
theorem scRI : FnScope ["self", "jobs"] ["self", "jobs"] (defScope sRI) := ⟨rfl, rfl, rfl, by decide +kernel, rfl, by decide +kernel, by decide +kernel⟩
/-- the state within the making -/
structure IA (K : PySem.W.Frag) (C : Addr) (H0 H : Hp) (js : List JobM) (p dx : Addr) (j : V) (fs : List (Str × V)) (ls : List (Addr × List V)) : Prop where
  s0 : Same H0 H
  p0 : H0 p = none
  hp : H p = some (.ins C dx fs)
  hj : Dp K H j (dJobs js)
  hl : ∀ x ∈ ls, H x.1 = some (.lst x.2) ∧ H0 x.1 = none
theorem IA.fld {C : Addr} {H0 H : Hp} {js : List JobM} {p dx : Addr} {j : V} {fs : List (Str × V)} {ls : List (Addr × List V)} (I : IA K C H0 H js p dx j fs ls) (gs : List (Str × V)) : IA K C H0 (upd H p (.ins C dx gs)) js p dx j gs ls where
  s0 := fun a o z => (upd_ne (ne_of_none z I.p0)).trans (I.s0 _ _ z)
  p0 := I.p0
  hp := upd_same
  hj := dp_put ⟨fun _ e => (by rw [I.hp] at e; cases e), fun _ _ e => (by rw [I.hp] at e; cases e)⟩ I.hj (oT_jobs js)
  hl := fun x hx => ⟨(upd_ne (ne_ins (I.hl x hx).1 I.hp).symm).trans (I.hl x hx).1, (I.hl x hx).2⟩
theorem IA.new {C : Addr} {H0 H : Hp} {js : List JobM} {p dx : Addr} {j : V} {fs : List (Str × V)} {ls : List (Addr × List V)} (I : IA K C H0 H js p dx j fs ls) {l : Addr} (hn : H l = none) (xs : List V) : IA K C H0 (upd H l (.lst xs)) js p dx j fs ((l, xs) :: ls) where
  s0 := I.s0.trans (new_same hn)
  p0 := I.p0
  hp := new_same hn _ _ I.hp
  hj := dp_same (new_same hn) I.hj
  hl := fun x hx => by
    rcases List.mem_cons.mp hx with e | e
    · rw [e]
      exact ⟨upd_same, I.s0.free hn⟩
    · exact ⟨new_same hn _ _ (I.hl x e).1, (I.hl x e).2⟩
theorem IA.same {C : Addr} {H0 H H' : Hp} {js : List JobM} {p dx : Addr} {j : V} {fs : List (Str × V)} {ls : List (Addr × List V)} (I : IA K C H0 H js p dx j fs ls) (s : Same H H') : IA K C H0 H' js p dx j fs ls where
  s0 := I.s0.trans s
  p0 := I.p0
  hp := s _ _ I.hp
  hj := dp_same s I.hj
  hl := fun x hx => ⟨s _ _ (I.hl x hx).1, (I.hl x hx).2⟩
theorem IA.ne {C : Addr} {H0 H : Hp} {js : List JobM} {p dx : Addr} {j : V} {fs : List (Str × V)} {ls : List (Addr × List V)} (I : IA K C H0 H js p dx j fs ls) {l : Addr} (hn : H l = none) : ∀ x ∈ ls, x.1 ≠ l := fun x hx => ne_of_none (I.hl x hx).1 hn
theorem rep_flat (n : Nat) (x : V) : (List.replicate n [x]).flatten = List.replicate n x := by
  induction n with
  | zero => rfl
  | succ n ih => rw [List.replicate_succ, List.flatten_cons, ih, List.replicate_succ]; rfl
theorem ok_runInit {f C : Addr} {fd : FuncData} {k : Nat} (F : Fun K "__init__" "Run.__init__" sRI f fd) (T : Nat0 mg) (R : TRun K mg C) : FnOk P w K mg base CX0 (k + 1) f fd ["self", "jobs"] (spRI K C) := by
  refine F.ok scRI (fun vs H Q E h => ?_) (fun cdv A outer s H vs Q E hr h => ?_)
  · obtain ⟨H0, p, dx, j, js, rfl, _⟩ := h
    rfl
  · obtain ⟨H0, p, dx, j, js, rfl, s0, p0, hp, hj, few, q⟩ := h
    refine ⟨_, pss_cons (ps_fld (pv 0) (pv 1) rfl) (pss_cons (ps_fld (pv 0) (pe_lst pa_nil) rfl)
      (pss_cons (ps_fld (pv 0) (pe_op op_rep (pe_lst (pa_cons pe_non pa_nil)) (pe_callB call_len_seq (by rfl) T.len PySem.boot_len (pa_cons (pv 1) pa_nil))) rfl)
      (pss_cons (ps_fld (pv 0) (pe_op op_rep (pe_lst (pa_cons pe_non pa_nil)) (pe_callB call_len_seq (by rfl) T.len PySem.boot_len (pa_cons (pv 1) pa_nil))) rfl)
      (pss_one (ps_fld (pv 0) (pe_op op_rep (pe_lst (pa_cons pe_int pa_nil)) (pe_callB call_len_seq (by rfl) T.len PySem.boot_len (pa_cons (pv 1) pa_nil))) rfl))))), ?_⟩
    have I0 : IA K C H0 H js p dx j [] [] := ⟨s0, p0, hp, hj, fun x hx => by cases hx⟩
    refine ⟨_, rfl, _, rfl, p, C, dx, _, rfl, I0.hp, R.cl, R.nj, (by show 0 < 1000; decide), ?_⟩
    have I1 := I0.fld (putF "jobs" j [])
    revert I1
    generalize upd H p (.ins C dx (putF "jobs" j [])) = H1
    intro I1
    refine ⟨Nat.zero_le _, fun m hm => ⟨_, rfl, p, C, dx, _, rfl, (I1.new hm []).hp, R.cl, R.nm, (by show 1 < 1000; decide), ?_⟩⟩
    have I2 := (I1.new hm []).fld (putF "moves" (.ref m) (putF "jobs" j []))
    revert I2
    generalize upd (upd H1 m (.lst [])) p (.ins C dx (putF "moves" (.ref m) (putF "jobs" j []))) = H2
    intro I2
    -- one of the three lists
    have rep : ∀ (H3 : Hp) (fs : List (Str × V)) (ls : List (Addr × List V)) (y : V) (Q' : VK), IA K C H0 H3 js p dx j fs ls → (∀ H4 l, IA K C H0 H4 js p dx j fs ((l, List.replicate js.length y) :: ls) → (∀ x ∈ ls, x.1 ≠ l) → Q' (.ref l) H4) →
        tOp rRep (tLst (tCons (tC y) tNil)) (tCB (fun xs H Q => ∃ p ys, xs = [.ref p] ∧ (SqL K H p ys ∨ SqT K H p ys) ∧ Q (.int ys.length) H) (tCons (tVar 1) tNil)) [some (.ref p), some j] H3 Q' := by
      intro H3 fs ls y Q' I3 q3
      refine ⟨(by show 1 ≤ sizeLine; decide), fun l hl => ?_⟩
      have s4 := new_same (o := .lst [y]) hl
      obtain ⟨a, xs, rfl, hs, hx⟩ := dp_tup_inv (dp_same s4 I3.hj)
      have lx : xs.length = js.length := by rw [dpAll_len hx, List.length_map]
      refine ⟨_, rfl, a, xs, rfl, .inr hs, l, _, [y], rfl, rfl, upd_same, ?_, ?_, ?_, fun l2 hl2 => ?_⟩
      · omega
      · omega
      · rw [sizeLine_eq, lx]
        simp only [List.length_singleton, Int.toNat_natCast]
        omega
      · have I5 := (I3.same s4).new hl2 (List.replicate js.length y)
        have e : (List.replicate (Int.toNat (xs.length : Int)) [y]).flatten = List.replicate js.length y := by rw [Int.toNat_natCast, rep_flat, lx]
        rw [e]
        exact q3 _ l2 I5 ((I3.same s4).ne hl2)
    refine rep H2 _ _ .non _ I2 fun H3 b I3 nb => ⟨_, rfl, p, C, dx, _, rfl, I3.hp, R.cl, R.nb, (by show 2 < 1000; decide), ?_⟩
    have I4 := I3.fld (putF "begun" (.ref b) (putF "moves" (.ref m) (putF "jobs" j [])))
    revert I4
    generalize upd H3 p (.ins C dx (putF "begun" (.ref b) (putF "moves" (.ref m) (putF "jobs" j [])))) = H4
    intro I4
    refine rep H4 _ _ .non _ I4 fun H5 e I5 ne => ⟨_, rfl, p, C, dx, _, rfl, I5.hp, R.cl, R.ne, (by show 3 < 1000; decide), ?_⟩
    have I6 := I5.fld (putF "ended" (.ref e) (putF "begun" (.ref b) (putF "moves" (.ref m) (putF "jobs" j []))))
    revert I6
    generalize upd H5 p (.ins C dx (putF "ended" (.ref e) (putF "begun" (.ref b) (putF "moves" (.ref m) (putF "jobs" j []))))) = H6
    intro I6
    refine rep H6 _ _ (.int 0) _ I6 fun H7 c I7 nc => ⟨_, rfl, p, C, dx, _, rfl, I7.hp, R.cl, R.nc, (by show 4 < 1000; decide), ?_⟩
    have I8 := I7.fld (rf j m b e c)
    refine q _ ⟨dx, m, b, e, c, j, ?_⟩
    have i0 : ∀ {α : Type} {x : α} {l : List α}, x ∈ x :: l := List.mem_cons_self
    have i1 : ∀ {α : Type} {x y : α} {l : List α}, x ∈ y :: x :: l := List.mem_cons_of_mem _ List.mem_cons_self
    have i2 : ∀ {α : Type} {x y z : α} {l : List α}, x ∈ y :: z :: x :: l := List.mem_cons_of_mem _ (List.mem_cons_of_mem _ List.mem_cons_self)
    have i3 : ∀ {α : Type} {x y z u : α} {l : List α}, x ∈ y :: z :: u :: x :: l := List.mem_cons_of_mem _ (List.mem_cons_of_mem _ (List.mem_cons_of_mem _ List.mem_cons_self))
    have hm' := I8.hl _ i3
    have hb' := I8.hl _ i2
    have he' := I8.hl _ i1
    have hc' := I8.hl _ i0
    exact { s0 := I8.s0, p0 := I8.p0, m0 := hm'.2, b0 := hb'.2, e0 := he'.2, c0 := hc'.2
            mb := nb _ i0, me := ne _ i1, mc := nc _ i2, be := ne _ i0, bc := nc _ i1, ec := nc _ i0
            hp := I8.hp, hj := I8.hj, hm := ⟨[], hm'.1, .nil⟩
            hb := hb'.1.trans (by rw [newRun, List.map_replicate]; rfl)
            he := he'.1.trans (by rw [newRun, List.map_replicate]; rfl)
            hc := hc'.1.trans (by rw [newRun, List.map_replicate]; rfl)
            lb := List.length_replicate .., le := List.length_replicate .., lc := List.length_replicate .. }
end
end Kz

namespace Kz
open PySem PySem.Spec PyProof.Rows L2 RZ Kt
section
variable {P : Program} {w : World} {K : PySem.W.Frag} {mg : Str → Option Value} {base : Heap}
abbrev nGo : List Str := ["self", "place", "number", "step"]
theorem scGo : FnScope nGo ["self", "place"] (defScope sGo) := ⟨rfl, rfl, rfl, by decide +kernel, rfl, by decide +kernel, by decide +kernel⟩
def spGo (K : PySem.W.Frag) (C : Addr) : Sp := fun vs H Q _ => ∃ (H0 : Hp) (p : Addr) (q : Nat) (js : List JobM) (st : RunM), vs = [.ref p, .int (q : Nat)] ∧ RunAt K C H0 H js st p ∧ q < js.length ∧ st.moves.length ≤ 1000000 ∧ ∀ H', RunAt K C H0 H' js (goM js st q) p → Q .non H'
/-- a field, not to be seen through -/
@[irreducible] def tFldI (K : PySem.W.Frag) (ta : TE) (f : Str) : TE := L2.tFld K ta f
theorem tFldI_is {K : PySem.W.Frag} {ta : TE} {f : Str} {σ : L2.St} {H : Hp} {Q : VK} : tFldI K ta f σ H Q = L2.tFld K ta f σ H Q := by unfold tFldI; rfl
theorem pe_fldI {X : Cx} {e : Expr} {ta : TE} {f : Str} {pos : Pos} (he : PE X e ta) (hb : attributeBase e f X.env (eval e X.env) = eval e X.env) : PE X (.Attribute e f pos) (tFldI X.K ta f) := ⟨fun pins s σ H Q I h => (pe_fld he hb).run pins s σ H Q I (by rw [tFldI_is] at h; exact h)⟩
abbrev tF (K : PySem.W.Frag) (i : Nat) (f : Str) : TE := tFldI K (tVar i) f
theorem rd_F {i : Nat} {f : Str} {σ : L2.St} {H : Hp} {Q : VK} {p C dx : Addr} {fs : List (Str × V)} {v : V} (hσ : σ[i]? = some (some (.ref p))) (hp : H p = some (.ins C dx fs)) (cl : Cls K C) (n : NoAttr K C f) (l : fs.lookup f = some v) (q : Q v H) : tFldI K (tVar i) f σ H Q := by
  show tFldI K (tVar i) f σ H Q
  rw [tFldI_is]
  exact ⟨_, hσ, p, C, dx, fs, v, rfl, hp, cl, n, l, q⟩
def tLen (K : PySem.W.Frag) (t : TE) : TE := tCB (fun xs H Q => ∃ p ys, xs = [.ref p] ∧ (SqL K H p ys ∨ SqT K H p ys) ∧ Q (.int ys.length) H) (tCons t tNil)
def t_set (K : PySem.W.Frag) (f : Str) (tv : TE) : TS := tAsg tv (gSub (tF K 0 f) (tVar 1) rSetL)
def t_app (K : PySem.W.Frag) (tv : TE) : TS := tDrop (tBM K "list" rAppend (tF K 0 "moves") (tCons (tTup (tCons (tVar 1) (tCons tv tNil))) tNil))
def t_end (K : PySem.W.Frag) : TS := t_set K "counts" (tOp (rI0 fun i j => .int (i + j)) (tVar 3) (tC (.int 1)))
def t_two (K : PySem.W.Frag) : TS := tSeq (tIfS (tTest (tOp rEq (tVar 3) (tLen K (tOp (rIxT K) (tOp (rIxT K) (tF K 0 "jobs") (tVar 1)) (tC (.int 1)))))) (tSeq (t_set K "ended" (tVar 2)) (t_app K (tC .non))) (t_app K (tVar 3))) (t_end K)
theorem ix_nat {n q : Nat} (h : q < n) : ixN n (q : Int) = some q := by
  unfold ixN
  rw [if_pos (by omega), if_pos (by omega)]
  simp
theorem rd_end {C H0 H} {js : List JobM} {st : RunM} {p dx m b e c : Addr} {j : V} {q k n : Nat} {D : Ends} (R : RA K C H0 H js st p dx m b e c j) (T : TRun K mg C) (hq : q < js.length) (z : ∀ H', RA K C H0 H' js { st with counts := st.counts.set q (k + 1) } p dx m b e c j → D.nx [some (.ref p), some (.int (q : Nat)), some (.int (n : Nat)), some (.int (k : Nat))] H') :
    t_end K D [some (.ref p), some (.int (q : Nat)), some (.int (n : Nat)), some (.int (k : Nat))] H := by
  refine ⟨_, rfl, _, _, rfl, rfl, ?_⟩
  refine rd_F (i := 0) rfl R.hp T.cl T.nc (rf_counts ..) ?_
  refine ⟨_, rfl, c, _, _, q, rfl, rfl, R.hc, ix_nat (by rw [List.length_map, R.lc]; exact hq), ?_⟩
  exact z _ (R.c_set q (k + 1))
theorem rd_app {C H0 H} {js : List JobM} {st : RunM} {p dx m b e c : Addr} {j : V} {q k n : Nat} {D : Ends} {tv : TE} {o : Option Nat} (R : RA K C H0 H js st p dx m b e c j) (T : TRun K mg C) (few : st.moves.length ≤ 1000000)
    (tvr : ∀ Q : VK, Q (ov o) H → tv [some (.ref p), some (.int (q : Nat)), some (.int (n : Nat)), some (.int (k : Nat))] H Q) (z : ∀ H', RA K C H0 H' js { st with moves := st.moves ++ [(q, o)] } p dx m b e c j → D.nx [some (.ref p), some (.int (q : Nat)), some (.int (n : Nat)), some (.int (k : Nat))] H') :
    t_app K tv D [some (.ref p), some (.int (q : Nat)), some (.int (n : Nat)), some (.int (k : Nat))] H := by
  obtain ⟨ms, hm, dm⟩ := R.hm
  refine rd_F (i := 0) rfl R.hp T.cl T.nm (rf_moves ..) ?_
  refine ⟨.inl ⟨rfl, _, SqL.of hm⟩, _, rfl, tvr _ ⟨(by show 2 ≤ sizeLine; decide), fun t ht => ?_⟩⟩
  have R1 := R.more (new_same (o := .tup [.int (q : Nat), ov o]) ht)
  have hm1 := new_same (o := .tup [.int (q : Nat), ov o]) ht _ _ hm
  refine ⟨m, ms, _, rfl, rfl, hm1, ?_, ?_⟩
  · rw [dpAll_len dm, List.length_map, sizeLine_eq]
    omega
  · refine z _ (R1.m_app hm1 (q, o) (.tup (SqT.of upd_same) (.cons (.int _) (.cons ?_ .nil))))
    cases o
    · exact .non
    · exact .int _
theorem rd_two {C H0 H} {js : List JobM} {st : RunM} {p dx m b e c : Addr} {j : V} {q : Nat} {D : Ends} (R : RA K C H0 H js st p dx m b e c j) (T : TRun K mg C) (hq : q < js.length) (few : st.moves.length ≤ 1000000) {k n : Nat} (hk : st.counts.getD q 0 = k)
    (z : ∀ H', RA K C H0 H' js { st with moves := st.moves ++ [(q, if k = lenOf js q then none else some k)], ended := if k = lenOf js q then st.ended.set q (some n) else st.ended, counts := st.counts.set q (k + 1) } p dx m b e c j → D.nx [some (.ref p), some (.int (q : Nat)), some (.int (n : Nat)), some (.int (k : Nat))] H') :
    t_two K D [some (.ref p), some (.int (q : Nat)), some (.int (n : Nat)), some (.int (k : Nat))] H := by
  obtain ⟨ja, xs, ej, hs, hx⟩ := dp_tup_inv R.hj
  have hjq : js[q]? = some js[q] := List.getElem?_eq_getElem hq
  have lx : xs.length = js.length := by rw [dpAll_len hx, List.length_map]
  have hxq : xs[q]? = some (xs[q]'(by omega)) := List.getElem?_eq_getElem (by omega)
  obtain ⟨d, hd, dd⟩ := dpAll_at hx hxq
  rw [List.getElem?_map, hjq] at hd
  obtain rfl := Option.some.inj hd
  obtain ⟨a1, b1, ys, e1, h1, h2, h3⟩ := dp_job_inv dd
  have ly : ys.length = lenOf js q := by rw [dpAll_len h3, List.length_map, lenOf, hjq]; rfl
  have he' : q < (st.ended.map ov).length := by rw [List.length_map, R.le]; exact hq
  refine ⟨_, rfl, ?_⟩
  refine rd_F (i := 0) rfl R.hp T.cl T.nj (rf_jobs ..) ?_
  refine ⟨_, rfl, ja, xs, q, .ref a1, ej, rfl, hs, atI_nat (j := q) (by rw [hxq, e1]), a1, _, 1, .ref b1, rfl, rfl, h1, atI_nat (j := 1) rfl, b1, ys, rfl, .inr h2, rfl, _, rfl, ?_⟩
  by_cases hk2 : k = lenOf js q
  · rw [decide_eq_true (show V.int (k : Nat) = V.int (ys.length : Nat) by rw [ly, hk2])]
    refine iteT ⟨_, rfl, ?_⟩
    refine rd_F (i := 0) rfl R.hp T.cl T.ne (rf_ended ..) ?_
    refine ⟨_, rfl, e, _, _, q, rfl, rfl, R.he, ix_nat he', ?_⟩
    refine rd_app (o := none) (R.e_set q (some n)) T few (fun _ h => h) fun H2 R2 => rd_end R2 T hq fun H3 R3 => z H3 ?_
    rw [if_pos hk2, if_pos hk2]
    exact R3
  · rw [decide_eq_false (fun h : V.int (k : Nat) = V.int (ys.length : Nat) => hk2 (by
      have := V.int.inj h
      omega))]
    refine iteF (rd_app (o := some k) R T few (fun _ h => ⟨_, rfl, h⟩) fun H2 R2 => rd_end R2 T hq fun H3 R3 => z H3 ?_)
    rw [if_neg hk2, if_neg hk2]
    exact R3
theorem ok_go {f C : Addr} {fd : FuncData} {k : Nat} (F : Fun K "go" "Run.go" sGo f fd) (T : Nat0 mg) (R : TRun K mg C) : FnOk P w K mg base CX0 (k + 1) f fd ["self", "place"] (spGo K C) := by
  refine F.ok scGo (fun vs H Q E h => ?_) (fun cdv A outer s H vs Q E hr h => ?_)
  · obtain ⟨H0, p, q, js, st, rfl, _⟩ := h
    rfl
  · obtain ⟨H0, p, q, js, st, rfl, ⟨dx, m, b, e, c, j, RR⟩, hq, few, z⟩ := h
    refine ⟨tSeq (tPar 2 3 (tCons (tLen K (tF K 0 "moves")) (tCons (tOp (rIxL K) (tF K 0 "counts") (tVar 1)) tNil))) (tSeq (tIfS (tTest (tOp rEq (tVar 3) (tC (.int 0)))) (t_set K "begun" (tVar 2)) tNext) (t_two K)),
      pss_cons (ps_par (i := 2) (j := 3) (by rfl) scGo.nd rfl rfl (by decide) rfl rfl (pa_cons (pe_callB call_len_seq (by rfl) T.len PySem.boot_len (pa_cons (pe_fldI (pv 0) rfl) pa_nil)) (pa_cons (pe_ix ix_list (pe_fldI (pv 0) rfl) (pv 1) (fun _ _ => rfl)) pa_nil)) (by rfl))
      (pss_cons (ps_if (pt_cmpR op_eq (pv 3) pe_int (nomark _)) (pss_one (ps_asg (pv 2) (pg_sub (pe_fldI (pv 0) rfl) (pv 1) set_list))) pss_nil)
      (pss_cons (ps_if (pt_cmpR op_eq (pv 3) (pe_callB call_len_seq (by rfl) T.len PySem.boot_len (pa_cons (pe_ix ix_tup (pe_ix ix_tup (pe_fldI (pv 0) rfl) (pv 1) (fun _ _ => rfl)) pe_int (fun _ _ => rfl)) pa_nil)) (nomark _))
          (pss_cons (ps_asg (pv 2) (pg_sub (pe_fldI (pv 0) rfl) (pv 1) set_list)) (pss_one (ps_expr (pe_bm PySem.F.plainAttrs_list PySem.F.slot_list_append PySem.F.type_list_append mt_append (pe_fldI (pv 0) rfl) (pa_cons (pe_tup (pa_cons (pv 1) (pa_cons pe_non pa_nil))) pa_nil)))))
          (pss_one (ps_expr (pe_bm PySem.F.plainAttrs_list PySem.F.slot_list_append PySem.F.type_list_append mt_append (pe_fldI (pv 0) rfl) (pa_cons (pe_tup (pa_cons (pv 1) (pa_cons (pv 3) pa_nil))) pa_nil)))))
      (pss_one (ps_asg (pe_op op_add (pv 3) pe_int) (pg_sub (pe_fldI (pv 0) rfl) (pv 1) set_list))))), ?_⟩
    obtain ⟨ms, hm, dm⟩ := RR.hm
    have lm : ms.length = st.moves.length := by rw [dpAll_len dm, List.length_map]
    have hcq : q < st.counts.length := by rw [RR.lc]; exact hq
    have gk : st.counts.getD q 0 = st.counts[q] := by rw [List.getD_eq_getElem?_getD, List.getElem?_eq_getElem hcq]; rfl
    have gc : (st.counts.map fun n => V.int (n : Nat))[q]? = some (.int (st.counts[q] : Nat)) := by rw [List.getElem?_map, List.getElem?_eq_getElem hcq]; rfl
    refine rd_F (i := 0) rfl RR.hp R.cl R.nm (rf_moves ..) ?_
    refine ⟨m, ms, rfl, .inl (SqL.of hm), ?_⟩
    refine rd_F (i := 0) rfl RR.hp R.cl R.nc (rf_counts ..) ?_
    refine ⟨_, rfl, c, _, q, _, rfl, rfl, SqL.of RR.hc, atI_nat (j := q) gc, _, _, rfl, ?_⟩
    rw [lm]
    refine ⟨_, rfl, rfl, _, rfl, ?_⟩
    have last : ∀ H', RA K C H0 H' js (goM js st q) p dx m b e c j → Q .non H' := fun H' R' => z H' ⟨dx, m, b, e, c, j, R'⟩
    by_cases hk0 : st.counts[q] = 0
    · rw [decide_eq_true (show V.int (st.counts[q] : Nat) = V.int 0 by rw [hk0]; rfl)]
      refine iteT ⟨_, rfl, ?_⟩
      refine rd_F (i := 0) rfl RR.hp R.cl R.nb (rf_begun ..) ?_
      refine ⟨_, rfl, b, _, _, q, rfl, rfl, RR.hb, ix_nat (by rw [List.length_map, RR.lb]; exact hq), ?_⟩
      refine rd_two (RR.b_set q (some st.moves.length)) R hq few gk fun H' R' => last H' ?_
      unfold goM
      rw [gk]
      dsimp only
      rw [if_pos hk0]
      exact R'
    · rw [decide_eq_false (fun h : V.int (st.counts[q] : Nat) = V.int 0 => hk0 (by
        have := V.int.inj h
        omega))]
      refine iteF (rd_two RR R hq few gk fun H' R' => last H' ?_)
      unfold goM
      rw [gk]
      dsimp only
      rw [if_neg hk0]
      exact R'
end
end Kz

namespace Kz
open PySem PySem.Spec PyProof.Rows L2 RZ Kt
def runM (js : List JobM) (ms : List Nat) : RunM := ms.foldl (goM js) (newRun js.length)
theorem runM_snoc (js : List JobM) (ms : List Nat) (q : Nat) : runM js (ms ++ [q]) = goM js (runM js ms) q := by unfold runM; rw [List.foldl_append]; rfl
theorem runM_len (js : List JobM) (ms : List Nat) : (runM js ms).moves.length = ms.length := by
  have gen : ∀ (ms : List Nat) (r : RunM), (ms.foldl (goM js) r).moves.length = r.moves.length + ms.length := by
    intro ms
    induction ms with
    | nil => intro r; rfl
    | cons q t ih =>
      intro r
      rw [List.foldl_cons, ih]
      unfold goM
      simp only [List.length_append, List.length_cons, List.length_nil]
      omega
  unfold runM
  rw [gen]
  simp [newRun]
section
variable {P : Program} {w : World} {K : PySem.W.Frag} {mg : Str → Option Value} {base : Heap}
abbrev nRunOf : List Str := ["jobs", "done", "run", "place"]
theorem scRunOf : FnScope nRunOf ["jobs", "done"] (defScope sRunOf) := ⟨rfl, rfl, rfl, by decide +kernel, rfl, by decide +kernel, by decide +kernel⟩
def spRunOf (K : PySem.W.Frag) (C : Addr) : Sp := fun vs H Q _ => ∃ (j d : V) (js : List JobM) (ms : List Nat), vs = [j, d] ∧ Dp K H j (dJobs js) ∧ Dp K H d (dMix ms) ∧ js.length ≤ 1000 ∧ (∀ q ∈ ms, q < js.length) ∧ ms.length ≤ 1000000 ∧ ∀ H' p, RunAt K C H H' js (runM js ms) p → Q (.ref p) H'
theorem ints_at {H : Hp} {xs : List V} {ms : List Nat} (h : DpAll K H xs (ms.map fun p => PyData.int (p : Nat))) {i : Nat} {x : V} (hx : xs[i]? = some x) : ∃ q, ms[i]? = some q ∧ x = .int (q : Nat) := by
  obtain ⟨d, hd, dd⟩ := dpAll_at h hx
  rw [List.getElem?_map] at hd
  cases hq : ms[i]? with
  | none => rw [hq] at hd; cases hd
  | some q =>
    rw [hq] at hd
    obtain rfl := Option.some.inj hd
    cases dd
    exact ⟨q, rfl, rfl⟩
theorem ok_runOf {f C fI fG : Addr} {fd fdI fdG : FuncData} (F : Fun K "run_of" "run_of" sRunOf f fd) (T : Nat0 mg) (R : TRun K mg C) (M : Mk K C fI) (FI : Fun K "__init__" "Run.__init__" sRI fI fdI) (bI : Binds K fdI ["self", "jobs"] [])
    (FG : Fun K "go" "Run.go" sGo fG fdG) (bG : Binds K fdG ["self", "place"] []) (mG : Meth K C "go" fG) : FnOk P w K mg base CX0 3 f fd ["jobs", "done"] (spRunOf K C) := by
  have GI : FnOk P w K mg base CX0 1 fI fdI ["self", "jobs"] (spRI K C) := ok_runInit FI T R
  have GG : FnOk P w K mg base CX0 1 fG fdG ["self", "place"] (spGo K C) := ok_go FG T R
  refine F.ok scRunOf (fun vs H Q E h => ?_) (fun cdv A outer s H vs Q E hr h => ?_)
  · obtain ⟨j, d, js, ms, rfl, _⟩ := h
    rfl
  · obtain ⟨j, d, js, ms, rfl, dj, dm, few, lt, lm, z⟩ := h
    have hr1 : Room 1 _ := hr.mono (by decide)
    refine ⟨_, pss_cons (ps_set (i := 2) scRunOf.nd rfl (Or.inl rfl) (pe_make M GI hr rfl R.mgC bI .nil pass0 (pa_cons (pv 0) pa_nil)))
      (pss_cons (ps_for PassesOwn.never rfl (pi_tup (pv 1)) (pg_name (i := 3) scRunOf.nd rfl (Or.inl rfl)) (pss_one (ps_expr (pe_meth (pv 2) R.cl mG GG hr1 bG .nil pass0 (pa_cons (pv 3) pa_nil)))))
      (pss_one (ps_ret (pv 2)))), ?_⟩
    refine ⟨j, rfl, fun x dx nx ndx nex => ?_⟩
    have s0 : Same H (upd (upd H dx (.own x)) x (.ins C dx [])) := fun b o e => by
      rw [upd_ne (ne_of_none e nx), upd_ne (ne_of_none e ndx)]
      exact e
    refine ⟨H, x, dx, j, js, rfl, s0, nx, upd_same, dp_same s0 dj, few, fun H1 R1 => ⟨rfl, ?_⟩⟩
    obtain ⟨a, xs, rfl, hs, hx⟩ := dp_tup_inv dm
    have lx : xs.length = ms.length := by rw [dpAll_len hx, List.length_map]
    have sm : ∀ {H' : Hp} {st : RunM}, RunAt K C H H' js st x → Same H H' := fun ⟨_, _, _, _, _, _, r⟩ => r.s0
    refine ⟨_, rfl, a, rfl, ⟨xs, seqT_same (sm R1) hs⟩, for_tup (K := K) (a := a) (xs := xs) (fun i σ H' => ∃ v3, σ = [some j, some (.ref a), some (.ref x), v3] ∧ RunAt K C H H' js (runM js (ms.take i)) x)
      ⟨none, rfl, R1⟩ (fun i σ H' _ ⟨_, _, r⟩ => seqT_same (sm r) hs) ?_ ?_⟩
    · rintro i y σ H' hi ⟨v3, rfl, r⟩
      obtain ⟨q, hq, rfl⟩ := ints_at hx hi
      have hql : q < js.length := lt q (List.mem_of_getElem? hq)
      obtain ⟨dx', m, b, e, c, j', rr⟩ := r
      refine ⟨_, rfl, x, dx', _, rfl, rr.hp, rf_go .., _, rfl, H, x, q, js, _, rfl, ⟨dx', m, b, e, c, j', rr⟩, hql, ?_, fun H2 R2 => ?_⟩
      · rw [runM_len, List.length_take]
        omega
      · refine ⟨_, rfl, ?_⟩
        rw [List.take_add_one, hq]
        show RunAt K C H H2 js (runM js (ms.take i ++ [q])) x
        rw [runM_snoc]
        exact R2
    · rintro σ H' ⟨v3, rfl, r⟩
      rw [lx, List.take_length] at r
      exact ⟨_, rfl, z H' x r⟩
end
end Kz

namespace Kz
open PySem PySem.Spec PyProof.Rows L2 RZ Kt
/-! ### pairs of ints in order -/
def insP (x : Int × Int) : List (Int × Int) → List (Int × Int)
  | [] => [x]
  | y :: r => if SrtO.lexB y x = true then y :: insP x r else x :: y :: r
def sortP (xs : List (Int × Int)) : List (Int × Int) := xs.foldr insP []
theorem lexB_iff {a b : Int × Int} : SrtO.lexB a b = true ↔ a.1 < b.1 ∨ (a.1 = b.1 ∧ a.2 < b.2) := SrtO.lexB_iff
theorem lexB_no {a b : Int × Int} : SrtO.lexB a b = false ↔ ¬ (a.1 < b.1 ∨ (a.1 = b.1 ∧ a.2 < b.2)) := by
  rw [← lexB_iff]
  simp
theorem insP_perm (x : Int × Int) : ∀ l, (insP x l).Perm (x :: l)
  | [] => List.Perm.refl _
  | y :: r => by
    unfold insP
    split
    · exact ((insP_perm x r).cons y).trans (List.Perm.swap x y r)
    · exact List.Perm.refl _
theorem sortP_perm : ∀ xs, (sortP xs).Perm xs
  | [] => List.Perm.refl _
  | x :: r => (insP_perm x (sortP r)).trans ((sortP_perm r).cons x)
theorem insP_srt (x : Int × Int) : ∀ l, l.Pairwise (fun a b => SrtO.lexB b a = false) → (insP x l).Pairwise (fun a b => SrtO.lexB b a = false)
  | [], _ => List.pairwise_singleton _ _
  | y :: r, h => by
    obtain ⟨h1, h2⟩ := List.pairwise_cons.mp h
    unfold insP
    split
    · rename_i c
      refine List.pairwise_cons.mpr ⟨fun z hz => ?_, insP_srt x r h2⟩
      rcases List.mem_cons.mp ((insP_perm x r).mem_iff.mp hz) with e | e
      · rw [e, lexB_no]
        have := lexB_iff.mp c
        omega
      · exact h1 z e
    · rename_i c
      have c' := lexB_no.mp (Bool.eq_false_iff.mpr c)
      refine List.pairwise_cons.mpr ⟨fun z hz => ?_, h⟩
      rcases List.mem_cons.mp hz with e | e
      · rw [e]
        exact Bool.eq_false_iff.mpr c
      · have := lexB_no.mp (h1 z e)
        rw [lexB_no]
        omega
theorem sortP_srt : ∀ xs, (sortP xs).Pairwise (fun a b => SrtO.lexB b a = false)
  | [] => List.Pairwise.nil
  | x :: r => insP_srt x _ (sortP_srt r)
theorem sortP_of {zs xs : List (Int × Int)} (h : zs.Pairwise (fun a b => SrtO.lexB b a = false)) (p : zs.Perm xs) : zs = sortP xs := by
  refine List.Perm.eq_of_pairwise (fun a b _ _ h1 h2 => ?_) h (sortP_srt xs) (p.trans (sortP_perm xs).symm)
  have e1 := lexB_no.mp h1
  have e2 := lexB_no.mp h2
  exact Prod.ext (by omega) (by omega)
/-- tuples of two ints, one for each pair -/
def PAll (H : Hp) (vs : List V) (ps : List (Int × Int)) : Prop := vs.length = ps.length ∧ ∀ (i : Nat) v q, vs[i]? = some v → ps[i]? = some q → ∃ t, v = .ref t ∧ H t = some (.tup [.int q.1, .int q.2])
theorem pAll_same {H H' : Hp} {vs : List V} {ps : List (Int × Int)} (s : Same H H') (h : PAll H vs ps) : PAll H' vs ps := ⟨h.1, fun i v q a b => by
  obtain ⟨t, e, f⟩ := h.2 i v q a b
  exact ⟨t, e, s _ _ f⟩⟩
theorem pAll_put {H : Hp} {D : Addr} {l : List V} {o : HO} {vs : List V} {ps : List (Int × Int)} (hD : H D = some (.lst l)) (h : PAll H vs ps) : PAll (upd H D o) vs ps := ⟨h.1, fun i v q a b => by
  obtain ⟨t, e, f⟩ := h.2 i v q a b
  have ne : t ≠ D := fun z => by rw [z, hD] at f; cases f
  exact ⟨t, e, (upd_ne ne).trans f⟩⟩
theorem pAll_snoc {H : Hp} {vs : List V} {ps : List (Int × Int)} {t : Addr} {q : Int × Int} (h : PAll H vs ps) (f : H t = some (.tup [.int q.1, .int q.2])) : PAll H (vs ++ [.ref t]) (ps ++ [q]) := by
  refine ⟨by simp [h.1], fun i v q' a b => ?_⟩
  rw [List.getElem?_append] at a b
  rw [← h.1] at b
  by_cases c : i < vs.length
  · rw [if_pos c] at a b
    exact h.2 i v q' a b
  · rw [if_neg c] at a b
    have : i - vs.length = 0 := by
      have := (List.getElem?_eq_some_iff.mp a).1
      simp at this
      omega
    rw [this] at a b
    obtain rfl := Option.some.inj a
    obtain rfl := Option.some.inj b
    exact ⟨t, rfl, f⟩
/-- the pair that a value stands for -/
def pairOf (H : Hp) : V → Int × Int
  | .ref t => match H t with
    | some (.tup [.int a, .int b]) => (a, b)
    | _ => (0, 0)
  | _ => (0, 0)
theorem pairOf_all {H : Hp} {vs : List V} {ps : List (Int × Int)} (h : PAll H vs ps) : vs.map (pairOf H) = ps := by
  refine List.ext_getElem? fun i => ?_
  rw [List.getElem?_map]
  cases a : vs[i]? with
  | none =>
    have : vs.length ≤ i := List.getElem?_eq_none_iff.mp a
    rw [List.getElem?_eq_none_iff.mpr (by rw [← h.1]; exact this)]
    rfl
  | some v =>
    have hi := (List.getElem?_eq_some_iff.mp a).1
    have b : ps[i]? = some (ps[i]'(by rw [← h.1]; exact hi)) := List.getElem?_eq_getElem _
    obtain ⟨t, rfl, f⟩ := h.2 i v _ a b
    rw [b]
    show some (pairOf H (.ref t)) = _
    unfold pairOf
    simp only [f]
theorem pairOf_mem {H : Hp} {vs : List V} {ps : List (Int × Int)} (h : PAll H vs ps) : ∀ x ∈ vs, ∃ t, x = .ref t ∧ H t = some (.tup [.int (pairOf H x).1, .int (pairOf H x).2]) := fun x hx => by
  obtain ⟨i, hi, rfl⟩ := List.getElem_of_mem hx
  obtain ⟨t, e, f⟩ := h.2 i _ _ (List.getElem?_eq_getElem hi) (List.getElem?_eq_getElem (by rw [← h.1]; exact hi))
  refine ⟨t, e, ?_⟩
  rw [e]
  have : pairOf H (.ref t) = ps[i]'(by rw [← h.1]; exact hi) := by unfold pairOf; simp only [f]
  rw [this]
  exact f
end Kz

namespace Kz
open PySem PySem.Spec PyProof.Rows L2 RZ Kt
def stepsOf (js : List JobM) (p : Nat) : List (Bool × Str) := (js[p]?.map JobM.st).getD []
def waAt (js : List JobM) (st : RunM) (r : Str) (mv : Int) (p : Nat) : Option (Int × Int) := match st.ended.getD p none with
  | some e => if (e : Int) < mv ∧ (true, r) ∈ stepsOf js p then some ((e : Nat), (p : Nat)) else none
  | none => none
def waPairs (js : List JobM) (st : RunM) (r : Str) (mv : Int) (n : Nat) : List (Int × Int) := (List.range n).filterMap (waAt js st r mv)
def waM (js : List JobM) (st : RunM) (r : Str) (mv : Int) : List Int := (sortP (waPairs js st r mv js.length)).map (·.2)
theorem waPairs_succ (js : List JobM) (st : RunM) (r : Str) (mv : Int) (n : Nat) : waPairs js st r mv (n + 1) = waPairs js st r mv n ++ (waAt js st r mv n).toList := by
  unfold waPairs
  rw [List.range_succ, List.filterMap_append]
  cases e : waAt js st r mv n <;> simp [e]
theorem waPairs_len (js : List JobM) (st : RunM) (r : Str) (mv : Int) (n : Nat) : (waPairs js st r mv n).length ≤ n := by
  unfold waPairs
  refine Nat.le_trans (List.length_filterMap_le ..) ?_
  rw [List.length_range]
  exact Nat.le_refl _
section
variable {P : Program} {w : World} {K : PySem.W.Frag} {mg : Str → Option Value} {base : Heap}
abbrev nWA : List Str := ["run", "row", "move", "found", "place", "ended"]
theorem scWA : FnScope nWA ["run", "row", "move"] (defScope sWrAhead) := ⟨rfl, rfl, rfl, by decide +kernel, rfl, by decide +kernel, by decide +kernel⟩
def spWA (K : PySem.W.Frag) (C : Addr) : Sp := fun vs H Q _ => ∃ (H0 : Hp) (p : Addr) (r : Str) (mv : Int) (js : List JobM) (st : RunM), vs = [.ref p, .str r, .int mv] ∧ RunAt K C H0 H js st p ∧ okJs js ∧ PyData.strOk r = true ∧
  ∀ H' l, Same H H' → H l = none → H' l = some (.lst ((waM js st r mv).map V.int)) → Q (.ref l) H'
theorem job_at {H : Hp} {xs : List V} {js : List JobM} (hx : DpAll K H xs (js.map dJob)) {q : Nat} (hq : q < js.length) : ∃ v, xs[q]? = some v ∧ Dp K H v (dJob js[q]) := by
  have lx : xs.length = js.length := by rw [dpAll_len hx, List.length_map]
  have h1 : xs[q]? = some (xs[q]'(by omega)) := List.getElem?_eq_getElem _
  obtain ⟨d, hd, dd⟩ := dpAll_at hx h1
  rw [List.getElem?_map, List.getElem?_eq_getElem hq] at hd
  obtain rfl := Option.some.inj hd
  exact ⟨_, h1, dd⟩
theorem ok_wa {f C fW : Addr} {fd fdW : FuncData} (F : Fun K "writers_ahead" "writers_ahead" sWrAhead f fd) (T : Nat0 mg) (R : TRun K mg C) (FW : Fun K "writes_row" "writes_row" sWrites fW fdW) (bW : Binds K fdW ["job", "row"] []) (gW : mg "writes_row" = some (.ref fW)) :
    FnOk P w K mg base CX0 2 f fd ["run", "row", "move"] (spWA K C) := by
  have GW : FnOk P w K mg base CX0 1 fW fdW ["job", "row"] (spWrites K) := ok_writes FW T
  refine F.ok scWA (fun vs H Q E h => ?_) (fun cdv A outer s H vs Q E hr h => ?_)
  · obtain ⟨H0, p, r, mv, js, st, rfl, _⟩ := h
    rfl
  · obtain ⟨H0, p, r, mv, js, st, rfl, ⟨dx, m, b, e, c, j, RR⟩, ok, or, z⟩ := h
    refine ⟨_, pss_cons (ps_set (i := 3) scWA.nd rfl (Or.inl rfl) (pe_lst pa_nil))
      (pss_cons (ps_for PassesOwn.never rfl (pi_range1 (by rfl) T.range (pa_cons (pe_callB call_len_seq (by rfl) T.len PySem.boot_len (pa_cons (pe_fldI (pv 0) rfl) pa_nil)) pa_nil)) (pg_name (i := 4) scWA.nd rfl (Or.inl rfl))
        (pss_cons (ps_set (i := 5) scWA.nd rfl (Or.inl rfl) (pe_ix ix_list (pe_fldI (pv 0) rfl) (pv 4) (fun _ _ => rfl)))
        (pss_one (ps_if (PW.pt (pw_and (pt_cmpR op_notN (pv 5) pe_non (nomark _)) (pw_and (pt_cmpR op_lt (pv 5) (pv 2) (nomark _)) (pw_and1 (pt_val (pe_call GW hr (by rfl) gW FW.kp bW .nil pass0 (pa_cons (pe_ix ix_tup (pe_fldI (pv 0) rfl) (pv 4) (fun _ _ => rfl)) (pa_cons (pv 1) pa_nil))))))))
          (pss_one (ps_expr (pe_bm PySem.F.plainAttrs_list PySem.F.slot_list_append PySem.F.type_list_append mt_append (pv 3) (pa_cons (pe_tup (pa_cons (pv 5) (pa_cons (pv 4) pa_nil))) pa_nil)))) pss_nil))))
      (pss_one (ps_ret (pe_lc (own := [("ended", 5), ("place", 4)]) (g := gTup K 2 (gCons (gName 5) (gCons (gName 4) gNil))) (tt := tYes) rfl scWA.nd (pi_list (pe_callB cr_sortedPO (by rfl) T.sorted bt_sorted (pa_cons (pv 3) pa_nil)))
        (blkOk_by (own := [("ended", 5), ("place", 4)]) (N := nWA) (sc := defScope sWrAhead) (by decide +kernel)) (fun _ _ _ _ _ => by exact (pg_tup rfl (pgs_cons (pg_name (i := 5) scWA.nd rfl (Or.inl rfl)) (pgs_cons (pg_name (i := 4) scWA.nd rfl (Or.inl rfl)) pgs_nil)))) (fun _ _ _ _ _ => pts_nil) (fun _ _ _ _ _ => pv 4))))), ?_⟩
    refine ⟨Nat.zero_le _, fun l hl => ?_⟩
    have sl := new_same (o := .lst []) hl
    have l0 : H0 l = none := RR.s0.free hl
    obtain ⟨ja, xs, rfl, hs, hx⟩ := dp_tup_inv RR.hj
    have lx : xs.length = js.length := by rw [dpAll_len hx, List.length_map]
    refine rd_F (i := 0) rfl (RR.more sl).hp R.cl R.nj (rf_jobs ..) ?_
    refine ⟨ja, xs, rfl, .inr (seqT_same sl hs), xs.length, rfl, by omega, by have := ok.1; omega, ?_⟩
    rw [Int.toNat_natCast, lx]
    refine for_range (lo := 0) (n := js.length) (fun i σ Hc => ∃ v4 v5, σ = [some (.ref p), some (.str r), some (.int mv), some (.ref l), v4, v5] ∧ Same H Hc ∧ ∃ vs, Hc l = some (.lst vs) ∧ PAll Hc vs (waPairs js st r mv i))
      ⟨none, none, rfl, sl, [], upd_same, rfl, fun i v q a _ => by simp at a⟩ ?_ ?_
    · rintro i σ Hc hi ⟨v4, v5, rfl, sc, vs, hvs, pa⟩
      have RC := RR.more sc
      have hie : i < st.ended.length := by rw [RR.le]; exact hi
      have ge : (st.ended.map ov)[i]? = some (ov st.ended[i]) := by rw [List.getElem?_map, List.getElem?_eq_getElem hie]; rfl
      have gd : st.ended.getD i none = st.ended[i] := by rw [List.getD_eq_getElem?_getD, List.getElem?_eq_getElem hie]; rfl
      refine rd_F (i := 0) rfl RC.hp R.cl R.ne (rf_ended ..) ?_
      refine ⟨_, rfl, e, _, _, _, rfl, rfl, SqL.of RC.he, at_of (j := i) (by omega) ge, ?_⟩
      have stay : waAt js st r mv i = none → ∀ Hd, Same Hc Hd → ∃ v4 v5, ([some (.ref p), some (.str r), some (.int mv), some (.ref l), some (.int (0 + (i : Nat))), some (ov st.ended[i])] : L2.St) = [some (.ref p), some (.str r), some (.int mv), some (.ref l), v4, v5] ∧ Same H Hd ∧ ∃ vs, Hd l = some (.lst vs) ∧ PAll Hd vs (waPairs js st r mv (i + 1)) := fun e0 Hd sd =>
        ⟨_, _, rfl, sc.trans sd, vs, sd _ _ hvs, by rw [waPairs_succ, e0]; simpa using pAll_same sd pa⟩
      refine ⟨_, rfl, rfl, _, rfl, ?_⟩
      cases he : st.ended[i] with
      | none =>
        rw [he] at stay
        have w0 : waAt js st r mv i = none := by unfold waAt; rw [gd, he]
        exact iteF (stay w0 Hc (fun _ _ q => q))
      | some en =>
        rw [he] at stay
        refine iteT ⟨_, rfl, _, rfl, _, _, rfl, rfl, _, rfl, ?_⟩
        by_cases c1 : (en : Int) < mv
        · rw [decide_eq_true c1]
          refine iteT ?_
          refine rd_F (i := 0) rfl RC.hp R.cl R.nj (rf_jobs ..) ?_
          obtain ⟨jv, gj, dj⟩ := job_at (dpAll_same sc hx) hi
          refine ⟨_, rfl, ja, xs, _, jv, rfl, rfl, seqT_same sc hs, at_of (j := i) (by omega) gj, _, rfl, jv, js[i], r, rfl, dj, ok.2 _ (List.getElem_mem hi), or, fun H2 s2 => ⟨_, rfl, ?_⟩⟩
          have es : stepsOf js i = js[i].st := by unfold stepsOf; rw [List.getElem?_eq_getElem hi]; rfl
          by_cases c2 : (true, r) ∈ js[i].st
          · rw [decide_eq_true c2]
            refine iteT ⟨_, rfl, .inl ⟨rfl, _, SqL.of (s2 _ _ hvs)⟩, _, rfl, _, rfl, (by show 2 ≤ sizeLine; decide), fun t ht => ?_⟩
            have st2 := s2.trans (new_same (o := .tup [V.int (en : Nat), .int (0 + (i : Nat))]) ht)
            have w1 : waAt js st r mv i = some (((en : Nat) : Int), ((i : Nat) : Int)) := by unfold waAt; rw [gd, he]; exact if_pos ⟨c1, by rw [es]; exact c2⟩
            refine ⟨l, vs, .ref t, rfl, rfl, st2 _ _ hvs, ?_, _, _, rfl, fun a o q => (upd_ne (ne_of_none q hl)).trans (st2 _ _ (sc _ _ q)), _, upd_same, ?_⟩
            · rw [pa.1, sizeLine_eq]
              have := waPairs_len js st r mv i
              have := ok.1
              omega
            · rw [waPairs_succ, w1]
              refine pAll_put (st2 _ _ hvs) (pAll_snoc (pAll_same st2 pa) ?_)
              show upd H2 t _ t = _
              rw [upd_same, Int.zero_add]
              rfl
          · rw [decide_eq_false c2]
            exact iteF (stay (by unfold waAt; rw [gd, he]; exact if_neg fun q => c2 (by rw [← es]; exact q.2)) H2 s2)
        · rw [decide_eq_false c1]
          exact iteF (stay (by unfold waAt; rw [gd, he]; exact if_neg fun q => c1 q.1) Hc (fun _ _ q => q))
    · rintro σ Hc ⟨v4, v5, rfl, sc, vs, hvs, pa⟩
      refine ⟨_, rfl, l, vs, pairOf Hc, rfl, SqL.of hvs, pairOf_mem pa, fun ys q hsr hst hq => ?_⟩
      have pe : (ys.map (pairOf Hc)) = sortP (waPairs js st r mv js.length) := by
        have pm := hst.perm.map (pairOf Hc)
        rw [pairOf_all pa] at pm
        exact sortP_of (by rw [List.pairwise_map]; exact hsr) pm
      have sq := new_same (o := .lst ys) hq
      have os : ys.length = (ys.map fun y => some (PyData.int (pairOf Hc y).2)).length := by rw [List.length_map]
      have few : ys.length < sizeLine := by
        rw [hst.perm.length_eq, pa.1, sizeLine_eq]
        have := waPairs_len js st r mv js.length
        have := ok.1
        omega
      have ek : kept (ys.map fun y => some (PyData.int (pairOf Hc y).2)) = ys.map fun y => PyData.int (pairOf Hc y).2 := by
        unfold kept
        rw [List.filterMap_map]
        exact congrFun (List.filterMap_eq_map' (f := fun y : V => PyData.int (pairOf Hc y).2)) ys
      refine ⟨q, rfl, ⟨ys, SqL.of upd_same⟩, fun D hD => lc_got (K := K) (wk_list (SqL.of upd_same)) os hD (fun e he => ?_) (by rw [← os]; exact few) (fun i o ho => ?_) (fun Hf p => ?_)⟩
      · rw [ek] at he
        obtain ⟨y, _, rfl⟩ := List.mem_map.mp he
        rw [onlyT]
      · rw [List.getElem?_map] at ho
        intro x Hx N Z hxi sx n1 _
        rw [hxi] at ho
        obtain rfl := Option.some.inj ho
        have hmem : x ∈ vs := hst.perm.mem_iff.mp (List.mem_of_getElem? hxi)
        obtain ⟨t, rfl, ft⟩ := pairOf_mem pa x hmem
        refine ⟨t, _, rfl, SqT.of (sx _ _ (sq _ _ ft)), rfl, _, _, rfl, _, _, rfl, rfl, rfl, ?_⟩
        unfold tYes
        dsimp only
        rw [if_pos rfl]
        exact ⟨_, rfl, n1 _ _ Hx rfl (fun _ _ z => z) (.int _)⟩
      · obtain ⟨s4, zs, hz, dz⟩ := p
        rw [ek] at dz
        have ez : zs = (waM js st r mv).map V.int := by
          unfold waM
          rw [← pe, List.map_map, List.map_map]
          have gen : ∀ {H : Hp} (ys zs : List V), DpAll K H zs (ys.map fun y => PyData.int (pairOf Hc y).2) → zs = ys.map fun y => V.int (pairOf Hc y).2 := by
            intro H ys
            induction ys with
            | nil => intro zs h; cases h; rfl
            | cons y t ih =>
              intro zs h
              cases h with
              | cons a b =>
                cases a
                rw [ih _ b]
                rfl
          exact gen ys zs dz
        rw [ez] at hz
        exact z Hf D ((sc.trans sq).trans s4) (sc.free (sq.free hD)) hz
end
end Kz

namespace Kz
open PySem PySem.Spec PyProof.Rows L2 RZ Kt
def ovI : Option Int → V
  | none => .non
  | some n => .int n
/-- which version the read at move mv sees -/
def sinceM (js : List JobM) (st : RunM) (q mv : Nat) : Int := if (js[q]?.map JobM.lv).getD "" = ("plain" : Str) then (mv : Nat) else ((st.begun.getD q none).getD 0 : Nat)
def vsM (js : List JobM) (st : RunM) (q k mv : Nat) : Option Int := (waM js st (((stepsOf js q)[k]?.map Prod.snd).getD "") (sinceM js st q mv)).getLast?
section
variable {P : Program} {w : World} {K : PySem.W.Frag} {mg : Str → Option Value} {base : Heap}
abbrev nVS : List Str := ["run", "move", "place", "step", "level", "steps", "since", "line"]
theorem scVS : FnScope nVS ["run", "move"] (defScope sVerSeen) := ⟨rfl, rfl, rfl, by decide +kernel, rfl, by decide +kernel, by decide +kernel⟩
def spVS (K : PySem.W.Frag) (C : Addr) : Sp := fun vs H Q _ => ∃ (H0 : Hp) (p : Addr) (mv q k : Nat) (js : List JobM) (st : RunM), vs = [.ref p, .int (mv : Nat)] ∧ RunAt K C H0 H js st p ∧ okJs js ∧ st.moves[mv]? = some (q, some k) ∧ q < js.length ∧ k < (stepsOf js q).length ∧
  (∃ b0, st.begun[q]? = some (some b0)) ∧ ∀ H', Same H H' → Q (ovI (vsM js st q k mv)) H'
theorem dp_move_inv {H : Hp} {v : V} {m : Nat × Option Nat} (h : Dp K H v (dMove m)) : ∃ a, v = .ref a ∧ SqT K H a [.int (m.1 : Nat), ov m.2] := by
  obtain ⟨a, xs, rfl, hs, hx⟩ := dp_tup_inv h
  cases hx with
  | cons h1 r =>
    cases r with
    | cons h2 r =>
      cases r
      cases h1
      refine ⟨a, rfl, ?_⟩
      obtain ⟨m1, m2⟩ := m
      cases m2 with
      | none => cases h2; exact hs
      | some k => cases h2; exact hs
theorem atI_end {α : Type} {xs : List α} {v : α} (h : xs.getLast? = some v) : atI xs (-1) = some v := by
  obtain ⟨ys, rfl⟩ := List.getLast?_eq_some_iff.mp h
  exact atI_last ys v
def t_vs (K : PySem.W.Frag) (C : Addr) : TS := tSeq (tAsg (tCall (spWA K C) [] E0 (tCons (tVar 0) (tCons (tOp (rIxT K) (tOp (rIxT K) (tVar 5) (tVar 3)) (tC (.int 1))) (tCons (tVar 6) tNil)))) (gName 7))
  (tRet (tIf (fun σ H Q => tVar 7 σ H fun x H' => ∃ k, TruV K x H' k ∧ Q k H') (tOp (rIxL K) (tVar 7) (tUn (rU fun i => .int (-i)) (tC (.int 1)))) (tC .non)))
theorem ok_vs {f C fA : Addr} {fd fdA : FuncData} (F : Fun K "version_seen" "version_seen" sVerSeen f fd) (T : Nat0 mg) (R : TRun K mg C) (GA : FnOk P w K mg base CX0 2 fA fdA ["run", "row", "move"] (spWA K C)) (kA : PySem.W.keepIn K (.ref fA) = true) (bA : Binds K fdA ["run", "row", "move"] []) (gA : mg "writers_ahead" = some (.ref fA)) :
    FnOk P w K mg base CX0 3 f fd ["run", "move"] (spVS K C) := by
  refine F.ok scVS (fun vs H Q E h => ?_) (fun cdv A outer s H vs Q E hr h => ?_)
  · obtain ⟨H0, p, mv, q, k, js, st, rfl, _⟩ := h
    rfl
  · obtain ⟨H0, p, mv, q, k, js, st, rfl, ⟨dx, m, b, e, c, j, RR⟩, ok, hmv, hq, hk, ⟨b0, hb0⟩, z⟩ := h
    refine ⟨_, pss_cons (ps_asg (pe_ix ix_list (pe_fldI (pv 0) rfl) (pv 1) (fun _ _ => rfl)) (pg_tup (by rfl) (pgs_cons (pg_name (i := 2) scVS.nd rfl (Or.inl rfl)) (pgs_cons (pg_name (i := 3) scVS.nd rfl (Or.inl rfl)) pgs_nil))))
      (pss_cons (ps_asg (pe_ix ix_tup (pe_fldI (pv 0) rfl) (pv 2) (fun _ _ => rfl)) (pg_tup (by rfl) (pgs_cons (pg_name (i := 4) scVS.nd rfl (Or.inl rfl)) (pgs_cons (pg_name (i := 5) scVS.nd rfl (Or.inl rfl)) pgs_nil))))
      (pss_cons (ps_set (i := 6) scVS.nd rfl (Or.inl rfl) (pe_ifExp (pt_cmpR op_eq (pv 4) pe_str (nomark _)) (pv 1) (pe_ix ix_list (pe_fldI (pv 0) rfl) (pv 2) (fun _ _ => rfl))))
      (pss_cons (ps_set (i := 7) scVS.nd rfl (Or.inl rfl) (pe_call GA hr (by rfl) gA kA bA .nil pass0 (pa_cons (pv 0) (pa_cons (pe_ix ix_tup (pe_ix ix_tup (pv 5) (pv 3) (fun _ _ => rfl)) pe_int (fun _ _ => rfl)) (pa_cons (pv 6) pa_nil)))))
      (pss_one (ps_ret (pe_ifExp (pt_truth (pv 7) (by intro _; rfl)) (pe_ix ix_list (pv 7) (pe_un un_neg pe_int) (fun _ _ => rfl)) pe_non)))))), ?_⟩
    obtain ⟨ms, hm, dm⟩ := RR.hm
    have lms : ms.length = st.moves.length := by rw [dpAll_len dm, List.length_map]
    have gmv : ms[mv]? = some (ms[mv]'(by rw [lms]; exact (List.getElem?_eq_some_iff.mp hmv).1)) := List.getElem?_eq_getElem _
    obtain ⟨d, hd, dd⟩ := dpAll_at dm gmv
    rw [List.getElem?_map, hmv] at hd
    obtain rfl := Option.some.inj hd
    obtain ⟨t, et, ht⟩ := dp_move_inv dd
    rw [et] at gmv
    obtain ⟨ja, xs, rfl, hs, hx⟩ := dp_tup_inv RR.hj
    obtain ⟨jv, gj, dj⟩ := job_at hx hq
    obtain ⟨a1, b1, ys, rfl, h1, h2, h3⟩ := dp_job_inv dj
    have es : stepsOf js q = js[q].st := by unfold stepsOf; rw [List.getElem?_eq_getElem hq]; rfl
    have okq := ok.2 _ (List.getElem_mem hq)
    rw [es] at hk
    have gs : ys[k]? = some (ys[k]'(by rw [dpAll_len h3, List.length_map]; exact hk)) := List.getElem?_eq_getElem _
    obtain ⟨d2, hd2, dd2⟩ := dpAll_at h3 gs
    rw [List.getElem?_map, List.getElem?_eq_getElem hk] at hd2
    obtain rfl := Option.some.inj hd2
    obtain ⟨t2, et2, ht2⟩ := dp_step_inv dd2
    rw [et2] at gs
    have gb : (st.begun.map ov)[q]? = some (.int (b0 : Nat)) := by rw [List.getElem?_map, hb0]; rfl
    refine rd_F (i := 0) rfl RR.hp R.cl R.nm (rf_moves ..) ?_
    refine ⟨_, rfl, m, _, mv, .ref t, rfl, rfl, SqL.of hm, atI_nat (j := mv) gmv, t, _, rfl, ht, rfl, _, _, rfl, _, _, rfl, rfl, ?_⟩
    refine rd_F (i := 0) rfl RR.hp R.cl R.nj (rf_jobs ..) ?_
    refine ⟨_, rfl, ja, xs, q, .ref a1, rfl, rfl, hs, atI_nat (j := q) gj, a1, _, rfl, h1, rfl, _, _, rfl, _, _, rfl, rfl, ?_⟩
    have lv : (js[q]?.map JobM.lv).getD "" = js[q].lv := by rw [List.getElem?_eq_getElem hq]; rfl
    have rw0 : ((stepsOf js q)[k]?.map Prod.snd).getD "" = js[q].st[k].2 := by rw [es, List.getElem?_eq_getElem hk]; rfl
    have bg : (st.begun.getD q none).getD 0 = b0 := by rw [List.getD_eq_getElem?_getD, hb0]; rfl
    have rest : ∀ (sv : Int), sinceM js st q mv = sv → t_vs K C { nx := fun _ H' => Q .non H', rt := Q } [some (.ref p), some (.int (mv : Nat)), some (.int (q : Nat)), some (.int (k : Nat)), some (.str js[q].lv), some (.ref b1), some (.int sv), none] H := by
      intro sv hsv
      refine ⟨_, rfl, _, rfl, _, rfl, b1, ys, k, .ref t2, rfl, rfl, h2, atI_nat (j := k) gs, t2, _, 1, .str js[q].st[k].2, rfl, rfl, ht2, atI_nat (j := 1) rfl, _, rfl, H0, p, js[q].st[k].2, sv, js, st, rfl, ⟨dx, m, b, e, c, _, RR⟩, ok, okq.2.2 _ (List.getElem_mem hk), fun H2 l s2 hl0 hl => ?_⟩
      have zz := z H2 s2
      unfold vsM at zz
      rw [rw0, hsv] at zz
      revert zz hl
      generalize waM js st js[q].st[k].2 sv = W
      intro hl zz
      refine ⟨_, rfl, _, .inl ⟨_, SqL.of hl, rfl⟩, ?_⟩
      cases hW : W.getLast? with
      | none =>
        rw [List.getLast?_eq_none_iff.mp hW] at zz ⊢
        exact iteF zz
      | some v =>
        rw [hW] at zz
        have ne : (!(W.map V.int).isEmpty) = true := by
          cases W with
          | nil => cases hW
          | cons _ _ => rfl
        rw [ne]
        refine iteT ⟨_, rfl, 1, rfl, l, _, -1, .int v, rfl, rfl, SqL.of hl, atI_end (by rw [List.getLast?_map, hW]; rfl), zz⟩
    refine ⟨_, rfl, rfl, _, rfl, ?_⟩
    have es0 : sinceM js st q mv = if js[q].lv = ("plain" : Str) then ((mv : Nat) : Int) else ((b0 : Nat) : Int) := by
      unfold sinceM
      rw [lv, bg]
    by_cases hp : js[q].lv = ("plain" : Str)
    · rw [if_pos hp] at es0
      rw [decide_eq_true (show V.str js[q].lv = V.str "plain" by rw [hp])]
      exact iteT ⟨_, rfl, rest _ es0⟩
    · rw [if_neg hp] at es0
      rw [decide_eq_false (fun h : V.str js[q].lv = V.str "plain" => hp (V.str.inj h))]
      refine iteF ?_
      refine rd_F (i := 0) rfl RR.hp R.cl R.nb (rf_begun ..) ?_
      exact ⟨_, rfl, b, _, q, _, rfl, rfl, SqL.of RR.hb, atI_nat (j := q) gb, rest _ es0⟩
end
end Kz

namespace Kz
open PySem PySem.Spec PyProof.Rows L2 RZ Kt
def holdsM (js : List JobM) (st : RunM) (q : Nat) (r : Str) : Bool := decide (st.ended.getD q none = none) && decide ((true, r) ∈ (stepsOf js q).take (st.counts.getD q 0))
section
variable {P : Program} {w : World} {K : PySem.W.Frag} {mg : Str → Option Value} {base : Heap}
abbrev nHolds : List Str := ["run", "place", "row", "done"]
theorem scHolds : FnScope nHolds ["run", "place", "row"] (defScope sHolds) := ⟨rfl, rfl, rfl, by decide +kernel, rfl, by decide +kernel, by decide +kernel⟩
def spHolds (K : PySem.W.Frag) (C : Addr) : Sp := fun vs H Q _ => ∃ (H0 : Hp) (p : Addr) (q : Nat) (r : Str) (js : List JobM) (st : RunM), vs = [.ref p, .int (q : Nat), .str r] ∧ RunAt K C H0 H js st p ∧ okJs js ∧ PyData.strOk r = true ∧ q < js.length ∧ ∀ H', Same H H' → Q (.bl (holdsM js st q r)) H'
theorem slA_take {H : Hp} {a : Addr} {xs : List V} {m : Nat} {Q : VK} (h : SqT K H a xs) (q : ∀ H' b, Same H H' → SqT K H' b (xs.take m) → Q (.ref b) H') : rSlA K (.ref a) none (some (m : Int)) H Q := by
  refine ⟨a, xs, rfl, h, fun wh => ?_, fun _ p hp => ?_⟩
  · rw [HT.sIx_nat] at wh
    refine q H a (fun _ _ z => z) ?_
    rw [List.take_of_length_le (by have := wh.2; omega)]
    exact h
  · rw [cut_take]
    exact q _ p (new_same hp) (SqT.of upd_same)
theorem dpAll_take {H : Hp} : ∀ {vs : List V} {ds : List PyData} (m : Nat), DpAll K H vs ds → DpAll K H (vs.take m) (ds.take m)
  | _, _, 0, _ => .nil
  | _, _, m + 1, .nil => .nil
  | _, _, m + 1, .cons a b => .cons a (dpAll_take m b)
theorem ok_holds {f C : Addr} {fd : FuncData} {k : Nat} (F : Fun K "holds" "holds" sHolds f fd) (T : Nat0 mg) (R : TRun K mg C) : FnOk P w K mg base CX0 (k + 1) f fd ["run", "place", "row"] (spHolds K C) := by
  refine F.ok scHolds (fun vs H Q E h => ?_) (fun cdv A outer s H vs Q E hr h => ?_)
  · obtain ⟨H0, p, q, r, js, st, rfl, _⟩ := h
    rfl
  · obtain ⟨H0, p, q, r, js, st, rfl, ⟨dx, m, b, e, c, j, RR⟩, ok, or, hq, z⟩ := h
    refine ⟨_, pss_cons (ps_set (i := 3) scHolds.nd rfl (Or.inl rfl) (pe_slice sl_tupA (pe_ix ix_tup (pe_ix ix_tup (pe_fldI (pv 0) rfl) (pv 1) (fun _ _ => rfl)) pe_int (fun _ _ => rfl)) po_none (po_some (pe_ix ix_list (pe_fldI (pv 0) rfl) (pv 1) (fun _ _ => rfl)))))
      (pss_one (ps_ret (pe_and (pe_cmpR op_isN (pe_ix ix_list (pe_fldI (pv 0) rfl) (pv 1) (fun _ _ => rfl)) pe_non (nomark _)) (pe_one (pe_cmpR (op_inDT (room65 hr)) (pe_tup (pa_cons pe_str (pa_cons (pv 2) pa_nil))) (pv 3) (by rfl)))))), ?_⟩
    obtain ⟨ja, xs, rfl, hs, hx⟩ := dp_tup_inv RR.hj
    obtain ⟨jv, gj, dj⟩ := job_at hx hq
    obtain ⟨a1, b1, ys, rfl, h1, h2, h3⟩ := dp_job_inv dj
    have es : stepsOf js q = js[q].st := by unfold stepsOf; rw [List.getElem?_eq_getElem hq]; rfl
    have okq := ok.2 _ (List.getElem_mem hq)
    have hcq : q < st.counts.length := by rw [RR.lc]; exact hq
    have gc : (st.counts.map fun n => V.int (n : Nat))[q]? = some (.int (st.counts[q] : Nat)) := by rw [List.getElem?_map, List.getElem?_eq_getElem hcq]; rfl
    have ck : st.counts.getD q 0 = st.counts[q] := by rw [List.getD_eq_getElem?_getD, List.getElem?_eq_getElem hcq]; rfl
    have hie : q < st.ended.length := by rw [RR.le]; exact hq
    have ge : (st.ended.map ov)[q]? = some (ov st.ended[q]) := by rw [List.getElem?_map, List.getElem?_eq_getElem hie]; rfl
    have gd : st.ended.getD q none = st.ended[q] := by rw [List.getD_eq_getElem?_getD, List.getElem?_eq_getElem hie]; rfl
    refine rd_F (i := 0) rfl RR.hp R.cl R.nj (rf_jobs ..) ?_
    refine ⟨_, rfl, ja, xs, q, .ref a1, rfl, rfl, hs, atI_nat (j := q) gj, a1, _, 1, .ref b1, rfl, rfl, h1, atI_nat (j := 1) rfl, ?_⟩
    refine rd_F (i := 0) rfl RR.hp R.cl R.nc (rf_counts ..) ?_
    refine ⟨_, rfl, c, _, q, _, rfl, rfl, SqL.of RR.hc, atI_nat (j := q) gc, _, rfl, ?_⟩
    refine slA_take h2 fun H1 d s1 hd => ?_
    refine rd_F (i := 0) rfl (RR.more s1).hp R.cl R.ne (rf_ended ..) ?_
    refine ⟨_, rfl, e, _, q, _, rfl, rfl, SqL.of (RR.more s1).he, atI_nat (j := q) ge, rfl, _, rfl, ?_⟩
    have zz : ∀ H', Same H H' → Q (.bl (decide (st.ended[q] = none) && decide ((true, r) ∈ js[q].st.take st.counts[q]))) H' := by
      unfold holdsM at z
      rw [gd, ck, es] at z
      exact z
    cases hq2 : st.ended[q] with
    | some n =>
      rw [hq2] at zz
      exact iteF (zz H1 s1)
    | none =>
      rw [hq2] at zz
      refine iteT ⟨_, rfl, (by show 2 ≤ sizeLine; decide), fun t ht => ⟨_, rfl, ?_⟩⟩
      have dd := dpAll_take st.counts[q] (dpAll_same s1 h3)
      rw [← List.map_take] at dd
      refine rd_in (s := (true, r)) hd dd (fun s hs' => okq.2.2 s (List.mem_of_mem_take hs')) or ht fun H' s' => ?_
      have := zz H' (s1.trans s')
      simpa using this
end
end Kz

namespace Kz
open PySem PySem.Spec PyProof.Rows L2 RZ Kt
theorem ix_listK {X : Cx} {K : PySem.W.Frag} (hK : X.K = K) : IxR X (rIxL K) := by subst hK; exact ix_list
theorem pe_fldK {X : Cx} {K : PySem.W.Frag} {e : Expr} {ta : TE} {f : Str} {pos : Pos} (hK : X.K = K) (he : PE X e ta) (hb : attributeBase e f X.env (eval e X.env) = eval e X.env) : PE X (.Attribute e f pos) (tFldI K ta f) := by subst hK; exact pe_fldI he hb
def isRd (js : List JobM) (st : RunM) (q i : Nat) : Bool := match st.moves[i]? with
  | some (p, some k) => decide (p = q) && decide (((stepsOf js q)[k]?.map Prod.fst) = some false)
  | _ => false
def rmM (js : List JobM) (st : RunM) (q : Nat) : List Nat := (List.range st.moves.length).filter (isRd js st q)
def rmO (js : List JobM) (st : RunM) (q : Nat) : List (Option PyData) := (List.range st.moves.length).map fun i => if isRd js st q i = true then some (.int (i : Nat)) else none
theorem kept_rm (js : List JobM) (st : RunM) (q : Nat) : kept (rmO js st q) = (rmM js st q).map fun i => PyData.int (i : Nat) := by
  unfold kept rmO rmM
  generalize List.range st.moves.length = l
  induction l with
  | nil => rfl
  | cons i t ih =>
    rw [List.map_cons, List.filter_cons]
    by_cases h : isRd js st q i = true
    · rw [if_pos h, if_pos h, List.map_cons, ← ih]
      rfl
    · rw [if_neg h, if_neg h, ← ih]
      rfl
section
variable {P : Program} {w : World} {K : PySem.W.Frag} {mg : Str → Option Value} {base : Heap}
abbrev nRM : List Str := ["run", "place", "steps", "move"]
theorem scRM : FnScope nRM ["run", "place"] (defScope sReadMoves) := ⟨rfl, rfl, rfl, by decide +kernel, rfl, by decide +kernel, by decide +kernel⟩
/-- each move of q that is a STEP has its STEP -/
def wfR (js : List JobM) (st : RunM) (q : Nat) : Prop := ∀ (i k : Nat), st.moves[i]? = some (q, some k) → k < (stepsOf js q).length
def spRM (K : PySem.W.Frag) (C : Addr) : Sp := fun vs H Q _ => ∃ (H0 : Hp) (p : Addr) (q : Nat) (js : List JobM) (st : RunM), vs = [.ref p, .int (q : Nat)] ∧ RunAt K C H0 H js st p ∧ okJs js ∧ q < js.length ∧ wfR js st q ∧ st.moves.length ≤ 1000000 ∧
  ∀ H' l, Same H H' → H l = none → H' l = some (.lst ((rmM js st q).map fun i => V.int (i : Nat))) → Q (.ref l) H'
def tMv (K : PySem.W.Frag) : TE := tOp (rIxL K) (tFldI K (tVar 0) "moves") (tVar 3)
def tRM (K : PySem.W.Frag) : TT := tAnd (tTest (tOp rEq (tOp (rIxT K) (tMv K) (tC (.int 0))) (tVar 1))) (tAnd (tTest (tOp (fun x y H Q => y = .non ∧ Q (.bl (!decide (x = .non))) H) (tOp (rIxT K) (tMv K) (tC (.int 1))) (tC .non)))
  (tTest (tOp rEq (tOp (rIxT K) (tOp (rIxT K) (tVar 2) (tOp (rIxT K) (tMv K) (tC (.int 1)))) (tC (.int 0))) (tC (.str "read")))))
theorem ok_rm {f C : Addr} {fd : FuncData} {k : Nat} (F : Fun K "read_moves" "read_moves" sReadMoves f fd) (T : Nat0 mg) (R : TRun K mg C) : FnOk P w K mg base CX0 (k + 1) f fd ["run", "place"] (spRM K C) := by
  refine F.ok scRM (fun vs H Q E h => ?_) (fun cdv A outer s H vs Q E hr h => ?_)
  · obtain ⟨H0, p, q, js, st, rfl, _⟩ := h
    rfl
  · obtain ⟨H0, p, q, js, st, rfl, ⟨dx, m, b, e, c, j, RR⟩, ok, hq, wf, few, z⟩ := h
    refine ⟨_, pss_cons (ps_set (i := 2) scRM.nd rfl (Or.inr rfl) (pe_ix ix_tup (pe_ix ix_tup (pe_fldI (pv 0) rfl) (pv 1) (fun _ _ => rfl)) pe_int (fun _ _ => rfl)))
      (pss_one (ps_ret (pe_lc (own := [("move", 3)]) (g := gName 3) (tt := tRM K) rfl scRM.nd (pi_range1 (by rfl) T.range (pa_cons (pe_callB call_len_seq (by rfl) T.len PySem.boot_len (pa_cons (pe_fldI (pv 0) rfl) pa_nil)) pa_nil))
        (blkOk_by (own := [("move", 3)]) (N := nRM) (sc := defScope sReadMoves) (by decide +kernel)) (fun _ _ _ _ _ => pg_name (i := 3) scRM.nd rfl (Or.inl rfl))
        (fun _ _ _ _ _ => by exact (pts_one (PW.pt (pw_and (pt_cmpR op_eq (pe_ix (ix_tupK (K := K) rfl) (pe_ix (ix_listK (K := K) rfl) (pe_fldK (K := K) rfl (pv 0) rfl) (pv 3) (fun _ _ => rfl)) pe_int (fun _ _ => rfl)) (pv 1) (nomark _))
          (pw_and (pt_cmpR op_notN (pe_ix (ix_tupK (K := K) rfl) (pe_ix (ix_listK (K := K) rfl) (pe_fldK (K := K) rfl (pv 0) rfl) (pv 3) (fun _ _ => rfl)) pe_int (fun _ _ => rfl)) pe_non (nomark _))
          (pw_and1 (pt_cmpR op_eq (pe_ix (ix_tupK (K := K) rfl) (pe_ix (ix_tupK (K := K) rfl) (pv 2) (pe_ix (ix_tupK (K := K) rfl) (pe_ix (ix_listK (K := K) rfl) (pe_fldK (K := K) rfl (pv 0) rfl) (pv 3) (fun _ _ => rfl)) pe_int (fun _ _ => rfl)) (fun _ _ => rfl)) pe_int (fun _ _ => rfl)) pe_str (nomark _)))))))) (fun _ _ _ _ _ => pv 3)))), ?_⟩
    obtain ⟨ja, xs, rfl, hs, hx⟩ := dp_tup_inv RR.hj
    obtain ⟨jv, gj, dj⟩ := job_at hx hq
    obtain ⟨a1, b1, ys, rfl, h1, h2, h3⟩ := dp_job_inv dj
    have es : stepsOf js q = js[q].st := by unfold stepsOf; rw [List.getElem?_eq_getElem hq]; rfl
    obtain ⟨ms, hm, dm⟩ := RR.hm
    have lms : ms.length = st.moves.length := by rw [dpAll_len dm, List.length_map]
    refine rd_F (i := 0) rfl RR.hp R.cl R.nj (rf_jobs ..) ?_
    refine ⟨_, rfl, ja, xs, q, .ref a1, rfl, rfl, hs, atI_nat (j := q) gj, a1, _, 1, .ref b1, rfl, rfl, h1, atI_nat (j := 1) rfl, ?_⟩
    refine rd_F (i := 0) rfl RR.hp R.cl R.nm (rf_moves ..) ?_
    refine ⟨m, ms, rfl, .inl (SqL.of hm), ms.length, rfl, by omega, by omega, fun D hD => ?_⟩
    have lo : (rmO js st q).length = ms.length := by rw [rmO, List.length_map, List.length_range, lms]
    rw [Int.toNat_natCast]
    refine lc_got (K := K) (wk_rng 0 ms.length) lo.symm hD (fun e he => ?_) (by rw [lo, sizeLine_eq]; omega) (fun i o ho => ?_) (fun Hf pf => ?_)
    · rw [kept_rm] at he
      obtain ⟨y, _, rfl⟩ := List.mem_map.mp he
      rw [onlyT]
    · intro x Hx N Z hxi sx n1 n2
      subst hxi
      have hi : i < st.moves.length := by
        have := (List.getElem?_eq_some_iff.mp ho).1
        rw [lo, lms] at this
        exact this
      have oo : o = if isRd js st q i = true then some (.int (i : Nat)) else none := by
        rw [rmO, List.getElem?_map, List.getElem?_range hi] at ho
        exact (Option.some.inj ho).symm
      have RX := RR.more sx
      have gi : ms[i]? = some (ms[i]'(by omega)) := List.getElem?_eq_getElem _
      obtain ⟨d, hd, dd⟩ := dpAll_at (dpAll_same sx dm) gi
      have gmv : st.moves[i]? = some st.moves[i] := List.getElem?_eq_getElem hi
      rw [List.getElem?_map, gmv] at hd
      obtain rfl := Option.some.inj hd
      obtain ⟨t, et, ht⟩ := dp_move_inv dd
      rw [et] at gi
      have mv : ∀ (σ : L2.St) (Q' : VK), σ[0]? = some (some (.ref p)) → σ[3]? = some (some (.int (0 + (i : Nat)))) → Q' (.ref t) Hx → tMv K σ Hx Q' := by
        intro σ Q' e0 e3 q'
        refine rd_F (i := 0) e0 RX.hp R.cl R.nm (rf_moves ..) ?_
        exact ⟨_, e3, m, ms, _, .ref t, rfl, rfl, SqL.of (sx _ _ hm), at_of (j := i) (by omega) gi, q'⟩
      have no : isRd js st q i = false → Z Hx := fun h => n2 (by rw [oo, h]; rfl) Hx (fun _ _ z => z)
      refine ⟨rfl, ?_⟩
      refine mv _ _ rfl rfl ⟨t, _, 0, _, rfl, rfl, ht, atI_nat (j := 0) rfl, _, rfl, rfl, _, rfl, ?_⟩
      cases hmv : st.moves[i] with
      | mk p' s' =>
      rw [hmv] at ht gmv
      by_cases hp : p' = q
      · rw [decide_eq_true (show V.int ((p', s').1 : Nat) = V.int (q : Nat) by rw [← hp])]
        refine iteT (mv _ _ rfl rfl ⟨t, _, 1, _, rfl, rfl, ht, atI_nat (j := 1) rfl, rfl, _, rfl, ?_⟩)
        cases s' with
        | none => exact iteF (no (by unfold isRd; rw [gmv]))
        | some k =>
          refine iteT ⟨_, rfl, ?_⟩
          subst hp
          have hk : k < js[p'].st.length := by rw [← es]; exact wf i k gmv
          have gs : ys[k]? = some (ys[k]'(by rw [dpAll_len h3, List.length_map]; exact hk)) := List.getElem?_eq_getElem _
          obtain ⟨d2, hd2, dd2⟩ := dpAll_at (dpAll_same sx h3) gs
          rw [List.getElem?_map, List.getElem?_eq_getElem hk] at hd2
          obtain rfl := Option.some.inj hd2
          obtain ⟨t2, et2, ht2⟩ := dp_step_inv dd2
          rw [et2] at gs
          have rd : isRd js st p' i = decide (js[p'].st[k].1 = false) := by
            unfold isRd
            rw [gmv]
            show (decide (p' = p') && decide (((stepsOf js p')[k]?.map Prod.fst) = some false)) = _
            rw [es, List.getElem?_eq_getElem hk]
            simp
          refine mv _ _ rfl rfl ⟨t, _, 1, _, rfl, rfl, ht, atI_nat (j := 1) rfl, b1, ys, k, .ref t2, rfl, rfl, seqT_same sx h2, atI_nat (j := k) gs, t2, _, 0, _, rfl, rfl, ht2, atI_nat (j := 0) rfl, rfl, _, rfl, ?_⟩
          cases hb : js[p'].st[k].1 with
          | true =>
            rw [hb] at rd
            exact no (by rw [rd]; rfl)
          | false =>
            rw [hb] at rd
            refine ⟨_, rfl, n1 _ _ Hx (by rw [oo, rd]; rfl) (fun _ _ z => z) ?_⟩
            rw [Int.zero_add]
            exact .int _
      · rw [decide_eq_false (fun h : V.int ((p', s').1 : Nat) = V.int (q : Nat) => hp (by
          have := V.int.inj h
          omega))]
        refine iteF (no ?_)
        unfold isRd
        rw [gmv]
        cases s' with
        | none => rfl
        | some k => simp [hp]
    · obtain ⟨s4, zs, hz, dz⟩ := pf
      rw [kept_rm] at dz
      have ez : zs = (rmM js st q).map fun i => V.int (i : Nat) := by
        generalize rmM js st q = l at dz
        clear hz
        induction l generalizing zs with
        | nil => cases dz; rfl
        | cons y t ih =>
          cases dz with
          | cons a b =>
            cases a
            rw [ih _ b]
            rfl
      rw [ez] at hz
      exact z Hf D s4 hD hz
end
end Kz

namespace Kz
open PySem PySem.Spec PyProof.Rows L2 RZ Kt Kx
/-! ### the errors that are raised -/
abbrev sINum : Stmt := inClass (topS 1) 0
abbrev sIRow : Stmt := inClass (topS 2) 0
/-- the promise of an __init__ that keeps one value by the name f -/
def spIni (C : Addr) (f : Str) : Sp := fun vs H Q _ => ∃ (a : Addr) (y : V), vs = [.ref a, y] ∧ H a = some (exo a C none) ∧ ∀ dx, H dx = none → dx ≠ a → Q .non (upd (upd H dx (exd dx [(f, y)])) a (exo a C (some dx)))
section
variable {P : Program} {w : World} {K : PySem.W.Frag} {mg : Str → Option Value} {base : Heap}
theorem scINum : FnScope ["self", "number"] ["self", "number"] (defScope sINum) := ⟨rfl, rfl, rfl, by decide +kernel, rfl, by decide +kernel, by decide +kernel⟩
theorem ok_iNum {C g : Addr} {fd : FuncData} {k : Nat} (F : Fun K "__init__" "NoNumber.__init__" sINum g fd) (T : EC K mg "NoNumber" C "LookupError" "LookupError.__new__") (no : PySem.W.findIn K (.ref C) "number" = some none) : FnOk P w K mg base CX0 (k + 1) g fd ["self", "number"] (spIni C "number") := by
  refine F.ok scINum (fun vs H Q E h => ?_) (fun cdv A outer s H vs Q E hr h => ?_)
  · obtain ⟨a, y, rfl, _⟩ := h
    rfl
  · obtain ⟨a, y, rfl, ha, q⟩ := h
    exact ⟨_, pss_one (ps_put stores_L T no (pv 0) (pv 1)), ⟨_, rfl, _, rfl, a, rfl, ha, q⟩⟩
theorem scIRow : FnScope ["self", "row"] ["self", "row"] (defScope sIRow) := ⟨rfl, rfl, rfl, by decide +kernel, rfl, by decide +kernel, by decide +kernel⟩
theorem ok_iRow {C g : Addr} {fd : FuncData} {k : Nat} (F : Fun K "__init__" "NoRow.__init__" sIRow g fd) (T : EC K mg "NoRow" C "LookupError" "LookupError.__new__") (no : PySem.W.findIn K (.ref C) "row" = some none) : FnOk P w K mg base CX0 (k + 1) g fd ["self", "row"] (spIni C "row") := by
  refine F.ok scIRow (fun vs H Q E h => ?_) (fun cdv A outer s H vs Q E hr h => ?_)
  · obtain ⟨a, y, rfl, _⟩ := h
    rfl
  · obtain ⟨a, y, rfl, ha, q⟩ := h
    exact ⟨_, pss_one (ps_put stores_L T no (pv 0) (pv 1)), ⟨_, rfl, _, rfl, a, rfl, ha, q⟩⟩
/-- the raising, told by what stands behind it -/
theorem rd_mkR {C : Addr} {f : Str} {i : Nat} {y : V} {σ : L2.St} {H : Hp} {W : XK} (e : σ[i]? = some (some y)) (q : ∀ d, H d = none → W (.ref C) (some d) (upd H d (.xd [(f, y)]))) : tMkR C (spIni C f) (tCons (tVar i) tNil) σ H W := by
  rw [tMkR_is]
  refine ⟨y, e, (by show 1 ≤ 1000; decide), fun a ha => ⟨a, y, rfl, upd_same, fun dx hd ne => ⟨rfl, dx, [(f, y)], upd_same, by rw [upd_ne ne, upd_same], ?_, ?_⟩⟩⟩
  · rw [upd_ne ne] at hd
    exact hd
  · have hd' : H dx = none := by rw [upd_ne ne] at hd; exact hd
    have eq : upd (L2.del (upd (upd (upd H a (exo a C none)) dx (exd dx [(f, y)])) a (exo a C (some dx))) a) dx (.xd [(f, y)]) = upd H dx (.xd [(f, y)]) := by
      funext b
      by_cases h1 : b = dx
      · rw [h1, upd_same, upd_same]
      · rw [upd_ne h1, upd_ne h1]
        by_cases h2 : b = a
        · rw [h2, del_same, ha]
        · rw [del_ne h2, upd_ne h2, upd_ne h1, upd_ne h2]
    rw [eq]
    exact q dx hd'
/-- NoNumber is let out where the number is none below many -/
def spNeedNum (CN : Addr) : Sp := fun vs H Q E => ∃ (i m : Int), vs = [.int i, .int m] ∧ (0 ≤ i ∧ i < m → Q .non H) ∧ (¬ (0 ≤ i ∧ i < m) → ∀ d, H d = none → E (.ref CN) (some d) (upd H d (.xd [("number", .int i)])))
theorem scNeedNum : FnScope ["number", "many"] ["number", "many"] (defScope sNeedNum) := ⟨rfl, rfl, rfl, by decide +kernel, rfl, by decide +kernel, by decide +kernel⟩
theorem ok_needNum {f fB fI CN : Addr} {fd fdB fdI : FuncData} (F : Fun K "need_number" "need_number" sNeedNum f fd) (GB : FnOk P w K mg base CX0 2 fB fdB ["thing", "many"] spIsBelow) (kB : PySem.W.keepIn K (.ref fB) = true) (bB : Binds K fdB ["thing", "many"] []) (gB : mg "is_number_below" = some (.ref fB))
    (TN : EC K mg "NoNumber" CN "LookupError" "LookupError.__new__") (no : PySem.W.findIn K (.ref CN) "number" = some none) (ON : Own K CN fI) (FI : Fun K "__init__" "NoNumber.__init__" sINum fI fdI) (bI : Binds K fdI ["self", "number"] []) : FnOk P w K mg base (L2.CX P w) 3 f fd ["number", "many"] (spNeedNum CN) := by
  have GI : FnOk P w K mg base CX0 1 fI fdI ["self", "number"] (spIni CN "number") := ok_iNum FI TN no
  refine F.okX scNeedNum (fun vs H Q E h => ?_) (fun cdv A outer s H vs Q E hr h => ?_)
  · obtain ⟨i, m, rfl, _⟩ := h
    rfl
  · obtain ⟨i, m, rfl, q1, q2⟩ := h
    refine ⟨_, pss_one (ps_if (pt_not (pt_val (pe_call GB hr (by rfl) gB kB bB .nil pass0 (pa_cons (pv 0) (pa_cons (pv 1) pa_nil))))) (pss_one (ps_raise rfl (takes_of rfl rfl rfl rfl) (pmk_mkV PySem.F.excBase_LookupError TN TN.ex.hs ON GI hr bI pass0 (by rfl) (pa_cons (pv 0) pa_nil)))) pss_nil), ?_⟩
    refine ⟨_, rfl, _, rfl, i, m, rfl, _, rfl, ?_⟩
    by_cases c : 0 ≤ i ∧ i < m
    · rw [decide_eq_true c]
      exact iteF (q1 c)
    · rw [decide_eq_false c]
      exact iteT (rd_mkR rfl (q2 c))
end
end Kz

namespace Kz
open PySem PySem.Spec PyProof.Rows L2 RZ Kt Kx
section
variable {P : Program} {w : World} {K : PySem.W.Frag} {mg : Str → Option Value} {base : Heap}
def spNeedMove (K : PySem.W.Frag) (CN : Addr) : Sp := fun vs H Q E => ∃ (a : Addr) (xs : List V) (i : Int), vs = [.ref a, .int i] ∧ SqT K H a xs ∧ (0 ≤ i ∧ i < xs.length → Q .non H) ∧ (¬ (0 ≤ i ∧ i < xs.length) → ∀ d, H d = none → E (.ref CN) (some d) (upd H d (.xd [("number", .int i)])))
theorem scNeedMove : FnScope ["mix", "move"] ["mix", "move"] (defScope sNeedMove) := ⟨rfl, rfl, rfl, by decide +kernel, rfl, by decide +kernel, by decide +kernel⟩
theorem ok_needMove {f fN CN : Addr} {fd fdN : FuncData} (F : Fun K "need_move" "need_move" sNeedMove f fd) (T : Nat0 mg) (GN : FnOk P w K mg base (L2.CX P w) 3 fN fdN ["number", "many"] (spNeedNum CN)) (kN : PySem.W.keepIn K (.ref fN) = true) (bN : Binds K fdN ["number", "many"] []) (gN : mg "need_number" = some (.ref fN)) :
    FnOk P w K mg base (L2.CX P w) 4 f fd ["mix", "move"] (spNeedMove K CN) := by
  refine F.okX scNeedMove (fun vs H Q E h => ?_) (fun cdv A outer s H vs Q E hr h => ?_)
  · obtain ⟨a, xs, i, rfl, _⟩ := h
    rfl
  · obtain ⟨a, xs, i, rfl, hs, q1, q2⟩ := h
    refine ⟨_, pss_one (ps_expr (pe_call GN hr (by rfl) gN kN bN .nil (passes_call (takes_of rfl rfl rfl rfl) (fun _ _ _ _ h => h)) (pa_cons (pv 1) (pa_cons (pe_callB call_len_seq (by rfl) T.len PySem.boot_len (pa_cons (pv 0) pa_nil)) pa_nil)))), ?_⟩
    exact ⟨_, rfl, _, rfl, a, xs, rfl, .inr hs, i, _, rfl, q1, q2⟩
/-! ### a ROW of JOBS, or NoRow -/
def spNeedRow (K : PySem.W.Frag) (CR : Addr) : Sp := fun vs H Q E => ∃ (v : V) (js : List JobM) (r : Str), vs = [v, .str r] ∧ Dp K H v (dJobs js) ∧ okJs js ∧ PyData.strOk r = true ∧ (r ∈ allRows js → ∀ H', Same H H' → Q .non H') ∧
  (r ∉ allRows js → ∀ H' d, Same H H' → H' d = none → E (.ref CR) (some d) (upd H' d (.xd [("row", .str r)])))
abbrev nNeedRow : List Str := ["jobs", "row", "job"]
theorem scNeedRow : FnScope nNeedRow ["jobs", "row"] (defScope sNeedRow) := ⟨rfl, rfl, rfl, by decide +kernel, rfl, by decide +kernel, by decide +kernel⟩
theorem rows_iff (js : List JobM) (r : Str) : r ∈ allRows js ↔ ∃ j ∈ js, (false, r) ∈ j.st ∨ (true, r) ∈ j.st := by
  unfold allRows
  rw [List.mem_flatMap]
  constructor
  · rintro ⟨j, hj, h⟩
    obtain ⟨s, hs, rfl⟩ := List.mem_map.mp h
    refine ⟨j, hj, ?_⟩
    obtain ⟨b, x⟩ := s
    cases b
    · exact .inl hs
    · exact .inr hs
  · rintro ⟨j, hj, h | h⟩
    · exact ⟨j, hj, List.mem_map.mpr ⟨_, h, rfl⟩⟩
    · exact ⟨j, hj, List.mem_map.mpr ⟨_, h, rfl⟩⟩
theorem ok_needRow {f fI CR : Addr} {fd fdI : FuncData} (F : Fun K "need_row" "need_row" sNeedRow f fd) (TR : EC K mg "NoRow" CR "LookupError" "LookupError.__new__") (no : PySem.W.findIn K (.ref CR) "row" = some none) (OR : Own K CR fI) (FI : Fun K "__init__" "NoRow.__init__" sIRow fI fdI) (bI : Binds K fdI ["self", "row"] []) :
    FnOk P w K mg base (L2.CX P w) 3 f fd ["jobs", "row"] (spNeedRow K CR) := by
  have GI : FnOk P w K mg base CX0 1 fI fdI ["self", "row"] (spIni CR "row") := ok_iRow FI TR no
  refine F.okX scNeedRow (fun vs H Q E h => ?_) (fun cdv A outer s H vs Q E hr h => ?_)
  · obtain ⟨v, js, r, rfl, _⟩ := h
    rfl
  · obtain ⟨v, js, r, rfl, dv, ok, or, q1, q2⟩ := h
    refine ⟨_, pss_cons (ps_for (passes_of rfl) rfl (pi_tup (pv 0)) (pg_name (i := 2) scNeedRow.nd rfl (Or.inl rfl))
        (pss_one (ps_if (PW.pt (pw_or (pt_cmpR (op_inDT (room65 hr)) (pe_tup (pa_cons pe_str (pa_cons (pv 1) pa_nil))) (pe_ix ix_tup (pv 2) pe_int (fun _ _ => rfl)) (by rfl))
          (pw_or1 (pt_cmpR (op_inDT (room65 hr)) (pe_tup (pa_cons pe_str (pa_cons (pv 1) pa_nil))) (pe_ix ix_tup (pv 2) pe_int (fun _ _ => rfl)) (by rfl))))) (pss_one ps_retN) pss_nil)))
      (pss_one (ps_raise rfl (takes_of rfl rfl rfl rfl) (pmk_mkV PySem.F.excBase_LookupError TR TR.ex.hs OR GI hr bI pass0 (by rfl) (pa_cons (pv 1) pa_nil)))), ?_⟩
    obtain ⟨ja, xs, rfl, hs, hx⟩ := dp_tup_inv dv
    have lx : xs.length = js.length := by rw [dpAll_len hx, List.length_map]
    refine ⟨_, rfl, ja, rfl, ⟨xs, hs⟩, for_tup (K := K) (a := ja) (xs := xs) (fun i σ H' => ∃ v2, σ = [some (.ref ja), some (.str r), v2] ∧ Same H H' ∧ ∀ j ∈ js.take i, (false, r) ∉ j.st ∧ (true, r) ∉ j.st)
      ⟨none, rfl, fun _ _ z => z, fun j hj => by simp at hj⟩ (fun i σ H' _ ⟨_, _, s0, _⟩ => seqT_same s0 hs) ?_ ?_⟩
    · rintro i y σ H' hi ⟨v2, rfl, s0, hn⟩
      have hil : i < js.length := by rw [← lx]; exact (List.getElem?_eq_some_iff.mp hi).1
      obtain ⟨jv, gj, dj⟩ := job_at (dpAll_same s0 hx) hil
      rw [hi] at gj
      obtain rfl := Option.some.inj gj
      obtain ⟨a1, b1, ys, rfl, h1, h2, h3⟩ := dp_job_inv dj
      have okj := ok.2 _ (List.getElem_mem hil)
      refine ⟨_, rfl, (by show 2 ≤ sizeLine; decide), fun p hp => ⟨_, rfl, a1, _, 1, .ref b1, rfl, rfl, seqT_same (new_same hp) h1, atI_nat (j := 1) rfl, ?_⟩⟩
      refine rd_in (s := (false, r)) h2 h3 okj.2.2 or hp fun H2 s2 => ⟨_, rfl, ?_⟩
      by_cases c1 : (false, r) ∈ js[i].st
      · rw [decide_eq_true c1]
        refine iteT (iteT ?_)
        exact q1 ((rows_iff js r).mpr ⟨_, List.getElem_mem hil, .inl c1⟩) H2 (s0.trans s2)
      · rw [decide_eq_false c1]
        refine iteF ⟨_, rfl, (by show 2 ≤ sizeLine; decide), fun p2 hp2 => ⟨_, rfl, a1, _, 1, .ref b1, rfl, rfl, seqT_same (new_same hp2) (seqT_same s2 h1), atI_nat (j := 1) rfl, ?_⟩⟩
        refine rd_in (s := (true, r)) (seqT_same s2 h2) (dpAll_same s2 h3) okj.2.2 or hp2 fun H3 s3 => ⟨_, rfl, ?_⟩
        by_cases c2 : (true, r) ∈ js[i].st
        · rw [decide_eq_true c2]
          exact iteT (q1 ((rows_iff js r).mpr ⟨_, List.getElem_mem hil, .inr c2⟩) H3 ((s0.trans s2).trans s3))
        · rw [decide_eq_false c2]
          refine iteF ⟨_, rfl, (s0.trans s2).trans s3, fun j hj => ?_⟩
          rw [List.take_add_one, List.getElem?_eq_getElem hil] at hj
          rcases List.mem_append.mp hj with hj | hj
          · exact hn j hj
          · rw [List.mem_singleton.mp hj]
            exact ⟨c1, c2⟩
    · rintro σ H' ⟨v2, rfl, s0, hn⟩
      rw [lx, List.take_length] at hn
      refine rd_mkR rfl fun d hd => q2 (fun q => ?_) H' d s0 hd
      obtain ⟨j, hj, h⟩ := (rows_iff js r).mp q
      exact h.elim (hn j hj).1 (hn j hj).2
end
end Kz

namespace Kz
open PySem PySem.Spec PyProof.Rows L2 RZ Kt Kx
theorem pi_listK {X : Cx} {K : PySem.W.Frag} {tg l : Expr} {tl : TE} (hK : X.K = K) (hl : PE X l tl) : PI X tg l (iList K tl) := by subst hK; exact pi_list hl
def rTupOf (K : PySem.W.Frag) : List V → Hp → VK → Prop := fun xs H Q => ∃ p ys, xs = [.ref p] ∧ ((SqL K H p ys ∧ ∀ l, H l = none → Q (.ref l) (upd H l (.tup ys))) ∨ (SqT K H p ys ∧ Q (.ref p) H))
theorem call_tuple_ofK {X : Cx} {K : PySem.W.Frag} (hK : X.K = K) : CallR X (.type "tuple") (rTupOf K) := by subst hK; exact call_tuple_of
def odI : Option Int → PyData
  | none => .none
  | some n => .int n
theorem dp_odI {K : PySem.W.Frag} {H : Hp} (o : Option Int) : Dp K H (ovI o) (odI o) := by
  cases o
  · exact .non
  · exact .int _
theorem oT_odI (o : Option Int) : onlyT (odI o) = true := by cases o <;> simp [odI, onlyT]
def vsAt (js : List JobM) (st : RunM) (mv : Nat) : Option Int := match st.moves[mv]? with
  | some (q, some k) => vsM js st q k mv
  | _ => none
def seenRow (js : List JobM) (st : RunM) (q : Nat) : PyData := .tuple ((rmM js st q).map fun mv => odI (vsAt js st mv))
def seenD (js : List JobM) (st : RunM) : PyData := .tuple ((List.range js.length).map (seenRow js st))
theorem oT_seenRow (js : List JobM) (st : RunM) (q : Nat) : onlyT (seenRow js st q) = true := by
  rw [seenRow, onlyT]
  exact onlyTs_of fun x hx => by
    obtain ⟨y, _, rfl⟩ := List.mem_map.mp hx
    exact oT_odI _
/-- such a run as a MIX gives -/
def WFr (js : List JobM) (st : RunM) : Prop := (∀ q, wfR js st q) ∧ ∀ (i q : Nat) s, st.moves[i]? = some (q, s) → ∃ b0, st.begun[q]? = some (some b0)
section
variable {P : Program} {w : World} {K : PySem.W.Frag} {mg : Str → Option Value} {base : Heap}
abbrev nSeen0 : List Str := ["run", "places", "place", "move"]
theorem scSeen0 : FnScope nSeen0 ["run"] (defScope sSeen0) := ⟨rfl, rfl, rfl, by decide +kernel, rfl, by decide +kernel, by decide +kernel⟩
def spSeen0 (K : PySem.W.Frag) (C : Addr) : Sp := fun vs H Q _ => ∃ (H0 : Hp) (p : Addr) (js : List JobM) (st : RunM), vs = [.ref p] ∧ RunAt K C H0 H js st p ∧ okJs js ∧ WFr js st ∧ st.moves.length ≤ 1000000 ∧ ∀ H' u, Same H H' → Dp K H' u (seenD js st) → Q u H'
/-- the names of the outer comprehension -/
def scPlace : Scope := { kind := .function, names := [(".0", .local), ("place", .local), ("tuple", .globalImplicit), ("read_moves", .globalImplicit), ("run", .cell)], isGenerator := false, isCoroutine := false }
def tInner (K : PySem.W.Frag) (C : Addr) : TE := tCB (rTupOf K) (tCons (tLc (iList K (tCall (spRM K C) [] E0 (tCons (tVar 0) (tCons (tVar 2) tNil)))) (gName 3) tYes (tCall (spVS K C) [] E0 (tCons (tVar 0) (tCons (tVar 3) tNil))) [3]) tNil)
theorem ok_seen0 {f C fV fR : Addr} {fd fdV fdR : FuncData} (F : Fun K "_seen" "_seen" sSeen0 f fd) (T : Nat0 mg) (R : TRun K mg C) (GV : FnOk P w K mg base CX0 3 fV fdV ["run", "move"] (spVS K C)) (kV : PySem.W.keepIn K (.ref fV) = true) (bV : Binds K fdV ["run", "move"] []) (gV : mg "version_seen" = some (.ref fV))
    (GR : FnOk P w K mg base CX0 3 fR fdR ["run", "place"] (spRM K C)) (kR : PySem.W.keepIn K (.ref fR) = true) (bR : Binds K fdR ["run", "place"] []) (gR : mg "read_moves" = some (.ref fR)) : FnOk P w K mg base CX0 4 f fd ["run"] (spSeen0 K C) := by
  refine F.ok scSeen0 (fun vs H Q E h => ?_) (fun cdv A outer s H vs Q E hr h => ?_)
  · obtain ⟨H0, p, js, st, rfl, _⟩ := h
    rfl
  · obtain ⟨H0, p, js, st, rfl, RA0, ok, wf, few, z⟩ := h
    obtain ⟨dx, m, b, e, c, j, RR⟩ := RA0
    refine ⟨_, pss_cons (ps_set (i := 1) scSeen0.nd rfl (Or.inl rfl) (pe_listRg rfl (by rfl) T.list (prg_1 (by rfl) T.range (pe_callB call_len_seq (by rfl) T.len PySem.boot_len (pa_cons (pe_fldI (pv 0) rfl) pa_nil)))))
      (pss_one (ps_ret (pe_callTy call_tuple_of (by rfl) T.tuple bt_tuple (pa_cons (pe_lc (own := [("place", 2)]) (g := gName 2) (tt := tYes) (te := tInner K C) rfl scSeen0.nd (pi_list (pv 1)) (blkOk_by (own := [("place", 2)]) (N := nSeen0) (sc := defScope sSeen0) (by decide +kernel))
        (fun _ _ _ _ _ => pg_name (i := 2) scSeen0.nd rfl (Or.inl rfl)) (fun _ _ _ _ _ => pts_nil)
        (fun _ _ _ _ _ => by exact (pe_callTy (call_tuple_ofK (K := K) rfl) (by rfl) T.tuple bt_tuple (pa_cons (pe_lc (own := [("move", 3)]) (g := gName 3) (tt := tYes) (te := tCall (spVS K C) [] E0 (tCons (tVar 0) (tCons (tVar 3) tNil))) rfl scSeen0.nd
          (pi_listK (K := K) rfl (pe_call GR hr (by rfl) gR kR bR .nil pass0 (pa_cons (pv 0) (pa_cons (pv 2) pa_nil)))) (blkOk_by (own := [("move", 3)]) (N := nSeen0) (sc := scPlace) (by decide +kernel)) (fun _ _ _ _ _ => pg_name (i := 3) scSeen0.nd rfl (Or.inl rfl)) (fun _ _ _ _ _ => pts_nil)
          (fun _ _ _ _ _ => by exact (pe_call GV hr (by rfl) gV kV bV .nil pass0 (pa_cons (pv 0) (pa_cons (pv 3) pa_nil))))) pa_nil)))) pa_nil)))), ?_⟩
    have RB : ∀ {Hx : Hp}, Same H Hx → RunAt K C H0 Hx js st p := fun sx => ⟨dx, m, b, e, c, j, RR.more sx⟩
    obtain ⟨ja, xs, ej, hs, hx⟩ := dp_tup_inv RR.hj
    have lx : xs.length = js.length := by rw [dpAll_len hx, List.length_map]
    refine rd_F (i := 0) rfl RR.hp R.cl R.nj (rf_jobs ..) ?_
    refine ⟨ja, xs, by rw [ej], .inr hs, xs.length, rfl, RgOk.of_le (Int.le_refl _) (by have := ok.1; omega) (by decide) (by omega), fun q hq => ?_⟩
    have s1 := new_same (o := .lst (rgV 0 (xs.length : Int))) hq
    have lr : (rgV 0 (xs.length : Int)).length = ((List.range js.length).map fun i => some (seenRow js st i)).length := by rw [rgV_length, List.length_map, List.length_range, lx]; omega
    have ek : kept ((List.range js.length).map fun i => some (seenRow js st i)) = (List.range js.length).map (seenRow js st) := by
      unfold kept
      rw [List.filterMap_map]
      exact congrFun (List.filterMap_eq_map' (f := fun i : Nat => seenRow js st i)) _
    refine ⟨_, rfl, q, rfl, ⟨_, SqL.of upd_same⟩, fun D hD => lc_got (K := K) (wk_list (SqL.of upd_same)) lr hD (fun e he => ?_) (by rw [List.length_map, List.length_range, sizeLine_eq]; have := ok.1; omega) (fun i o ho => ?_) (fun Hf pf => ?_)⟩
    · rw [ek] at he
      obtain ⟨y, _, rfl⟩ := List.mem_map.mp he
      exact oT_seenRow js st y
    · intro x Hx N Z hxi sx n1 _
      have hi : i < js.length := by
        have := (List.getElem?_eq_some_iff.mp ho).1
        rw [List.length_map, List.length_range] at this
        exact this
      rw [List.getElem?_map, List.getElem?_range hi] at ho
      obtain rfl := Option.some.inj ho
      have ex : x = .int (i : Nat) := by
        unfold rgV at hxi
        rw [List.getElem?_map, List.getElem?_range (by rw [lx]; omega)] at hxi
        have := Option.some.inj hxi
        rw [← this]
        show V.int (0 + (i : Nat)) = _
        rw [Int.zero_add]
      subst ex
      refine ⟨rfl, ?_⟩
      unfold tYes
      dsimp only
      rw [if_pos rfl]
      have sHx := s1.trans sx
      refine ⟨_, rfl, _, rfl, H0, p, i, js, st, rfl, RB sHx, ok, hi, wf.1 i, few, fun H2 l s2 hl0 hl => ⟨l, rfl, ⟨_, SqL.of hl⟩, fun D2 hD2 => ?_⟩⟩
      have lr2 : ((rmM js st i).map fun mv => V.int (mv : Nat)).length = ((rmM js st i).map fun mv => some (odI (vsAt js st mv))).length := by rw [List.length_map, List.length_map]
      have lm2 : (rmM js st i).length ≤ st.moves.length := by
        unfold rmM
        refine Nat.le_trans (List.length_filter_le ..) ?_
        rw [List.length_range]
        exact Nat.le_refl _
      have ek2 : kept ((rmM js st i).map fun mv => some (odI (vsAt js st mv))) = (rmM js st i).map fun mv => odI (vsAt js st mv) := by
        unfold kept
        rw [List.filterMap_map]
        exact congrFun (List.filterMap_eq_map' (f := fun mv : Nat => odI (vsAt js st mv))) _
      refine lc_got (K := K) (wk_list (SqL.of hl)) lr2 hD2 (fun e he => ?_) (by rw [List.length_map, sizeLine_eq]; omega) (fun k2 o2 ho2 => ?_) (fun Hg pg => ?_)
      · rw [ek2] at he
        obtain ⟨y, _, rfl⟩ := List.mem_map.mp he
        exact oT_odI _
      · intro x2 Hy N2 Z2 hx2 sy n2 _
        rw [List.getElem?_map] at ho2 hx2
        cases hmv : (rmM js st i)[k2]? with
        | none => rw [hmv] at ho2; cases ho2
        | some mv =>
          rw [hmv] at ho2 hx2
          obtain rfl := Option.some.inj ho2
          obtain rfl := Option.some.inj hx2
          have rd : isRd js st i mv = true := (List.mem_filter.mp (List.mem_of_getElem? hmv)).2
          refine ⟨rfl, ?_⟩
          unfold tYes
          dsimp only
          rw [if_pos rfl]
          cases hm : st.moves[mv]? with
          | none => unfold isRd at rd; rw [hm] at rd; cases rd
          | some pr =>
            obtain ⟨p', s'⟩ := pr
            cases s' with
            | none => unfold isRd at rd; rw [hm] at rd; cases rd
            | some kk =>
              have rd' : (decide (p' = i) && decide (((stepsOf js p')[kk]?.map Prod.fst) = some false)) = true ∨ (decide (p' = i) && decide (((stepsOf js i)[kk]?.map Prod.fst) = some false)) = true := .inr (by unfold isRd at rd; rw [hm] at rd; exact rd)
              have ep : p' = i := by
                rcases rd' with q | q
                · exact of_decide_eq_true (Bool.and_eq_true_iff.mp q).1
                · exact of_decide_eq_true (Bool.and_eq_true_iff.mp q).1
              subst ep
              have ev : vsAt js st mv = vsM js st p' kk mv := by unfold vsAt; rw [hm]
              refine ⟨_, rfl, _, rfl, H0, p, mv, p', kk, js, st, rfl, RB ((sHx.trans s2).trans sy), ok, hm, hi, wf.1 p' mv kk hm, wf.2 mv p' _ hm, fun H3 s3 => n2 _ _ H3 rfl s3 ?_⟩
              rw [ev]
              exact dp_odI _
      · obtain ⟨sg, ys, hy, dy⟩ := pg
        rw [ek2] at dy
        exact ⟨D2, ys, rfl, .inl ⟨SqL.of hy, fun l2 hl2 => n1 _ _ _ rfl ((s2.trans sg).trans (new_same hl2)) (.tup (SqT.of upd_same) (dpAll_same (new_same hl2) dy))⟩⟩
    · obtain ⟨sg, ys, hy, dy⟩ := pf
      rw [ek] at dy
      exact ⟨D, ys, rfl, .inl ⟨SqL.of hy, fun l2 hl2 => z _ _ ((s1.trans sg).trans (new_same hl2)) (.tup (SqT.of upd_same) (dpAll_same (new_same hl2) dy))⟩⟩
end
end Kz

namespace Kz
open PySem PySem.Spec PyProof.Rows L2 RZ Kt Kx
/-! ### runs of BEGINNINGS -/
/-- each place is one of the JOBS, and stands there as often as it has moves, at the most -/
def BegM (js : List JobM) (ms : List Nat) : Prop := (∀ q ∈ ms, q < js.length) ∧ ∀ q, ms.count q ≤ lenOf js q + 1
theorem lenOf_steps (js : List JobM) (q : Nat) : lenOf js q = (stepsOf js q).length := by
  unfold lenOf stepsOf
  cases js[q]? <;> rfl
structure RunInv (js : List JobM) (ms : List Nat) (st : RunM) : Prop where
  lc : st.counts.length = js.length
  lb : st.begun.length = js.length
  cnt : ∀ q, q < js.length → st.counts.getD q 0 = ms.count q
  mv : ∀ (i q : Nat) s, st.moves[i]? = some (q, s) → q ∈ ms ∧ ∀ k, s = some k → k ≠ lenOf js q ∧ k < ms.count q
  bg : ∀ q, q ∈ ms → q < js.length → ∃ b0, st.begun[q]? = some (some b0)
theorem runInv_new (js : List JobM) : RunInv js [] (newRun js.length) where
  lc := List.length_replicate ..
  lb := List.length_replicate ..
  cnt q hq := by
    show (List.replicate js.length 0).getD q 0 = 0
    rw [List.getD_eq_getElem?_getD, List.getElem?_replicate]
    split <;> rfl
  mv i q s h := by simp [newRun] at h
  bg q h _ := by cases h
theorem runInv_go {js : List JobM} {ms : List Nat} {st : RunM} {p : Nat} (I : RunInv js ms st) (hp : p < js.length) : RunInv js (ms ++ [p]) (goM js st p) where
  lc := by unfold goM; simp only [List.length_set]; exact I.lc
  lb := by
    unfold goM
    dsimp only
    split
    · rw [List.length_set]; exact I.lb
    · exact I.lb
  cnt q hq := by
    have hpc : p < st.counts.length := by rw [I.lc]; exact hp
    show (st.counts.set p (st.counts.getD p 0 + 1)).getD q 0 = _
    rw [List.count_append, List.getD_eq_getElem?_getD, List.getElem?_set, I.cnt p hp]
    by_cases e : p = q
    · subst e
      rw [if_pos rfl, if_pos hpc]
      simp
    · rw [if_neg e, ← List.getD_eq_getElem?_getD, I.cnt q hq]
      simp [e]
  mv i q s h := by
    have h' : (st.moves ++ [(p, if st.counts.getD p 0 = lenOf js p then none else some (st.counts.getD p 0))])[i]? = some (q, s) := h
    rw [List.getElem?_append] at h'
    by_cases c : i < st.moves.length
    · rw [if_pos c] at h'
      obtain ⟨a, b⟩ := I.mv i q s h'
      refine ⟨List.mem_append_left _ a, fun k hk => ?_⟩
      obtain ⟨b1, b2⟩ := b k hk
      rw [List.count_append]
      exact ⟨b1, by omega⟩
    · rw [if_neg c] at h'
      have c0 : i - st.moves.length = 0 := by
        have := (List.getElem?_eq_some_iff.mp h').1
        simp at this
        omega
      rw [c0] at h'
      have e := Option.some.inj h'
      have e1 : p = q := congrArg Prod.fst e
      have e2 : (if st.counts.getD p 0 = lenOf js p then none else some (st.counts.getD p 0)) = s := congrArg Prod.snd e
      subst e1
      refine ⟨List.mem_append_right _ (List.mem_singleton.mpr rfl), fun k hk => ?_⟩
      rw [← e2] at hk
      split at hk
      · cases hk
      · rename_i ne
        obtain rfl := Option.some.inj hk
        refine ⟨ne, ?_⟩
        rw [I.cnt p hp, List.count_append]
        simp
  bg q h hq := by
    have hpb : p < st.begun.length := by rw [I.lb]; exact hp
    show ∃ b0, (if st.counts.getD p 0 = 0 then st.begun.set p (some st.moves.length) else st.begun)[q]? = some (some b0)
    by_cases c : st.counts.getD p 0 = 0
    · rw [if_pos c, List.getElem?_set]
      by_cases e : p = q
      · rw [if_pos e, if_pos hpb]
        exact ⟨_, rfl⟩
      · rw [if_neg e]
        rcases List.mem_append.mp h with h | h
        · exact I.bg q h hq
        · exact absurd (List.mem_singleton.mp h).symm e
    · rw [if_neg c]
      rcases List.mem_append.mp h with h | h
      · exact I.bg q h hq
      · rw [List.mem_singleton.mp h]
        refine I.bg p ?_ hp
        rw [I.cnt p hp] at c
        exact List.count_pos_iff.mp (Nat.pos_of_ne_zero c)
theorem runInv (js : List JobM) (ms : List Nat) (h : ∀ q ∈ ms, q < js.length) : RunInv js ms (runM js ms) := by
  have gen : ∀ (n : Nat), n ≤ ms.length → RunInv js (ms.take n) (runM js (ms.take n)) := by
    intro n
    induction n with
    | zero => intro _; exact runInv_new js
    | succ n ih =>
      intro hn
      have hl : n < ms.length := hn
      rw [List.take_add_one, List.getElem?_eq_getElem hl]
      show RunInv js (ms.take n ++ [ms[n]]) (runM js (ms.take n ++ [ms[n]]))
      rw [runM_snoc]
      exact runInv_go (ih (Nat.le_of_lt hl)) (h _ (List.getElem_mem hl))
  have := gen ms.length (Nat.le_refl _)
  rw [List.take_length] at this
  exact this
theorem wf_run {js : List JobM} {ms : List Nat} (h : BegM js ms) : WFr js (runM js ms) := by
  have I := runInv js ms h.1
  refine ⟨fun q i k hm => ?_, fun i q s hm => I.bg q (I.mv i q s hm).1 (h.1 q (I.mv i q s hm).1)⟩
  obtain ⟨a, b⟩ := (I.mv i q _ hm).2 k rfl
  have c := h.2 q
  rw [← lenOf_steps]
  omega
end Kz

namespace Kz
open PySem PySem.Spec PyProof.Rows L2 RZ Kt Kx
/-- v stands for the places ms, in a tuple or in a list -/
def IsM (K : PySem.W.Frag) (H : Hp) (v : V) (ms : List Nat) : Prop := ∃ d, Dp K H v d ∧ tupD d = dMix ms ∧ d.depth ≤ 4 ∧ small d
theorem isM_of {K : PySem.W.Frag} {H : Hp} {v : V} {ms : List Nat} (h : Dp K H v (dMix ms)) (o : ms.length ≤ 1000000) : IsM K H v ms := by
  refine ⟨_, h, ?_, ?_, ?_⟩
  · rw [dMix, tupD, map_same (fun x => by rw [tupD])]
  · rw [dMix, PyData.depth]
    refine Nat.succ_le_succ (Nat.le_trans (depth_all (n := 0) fun x hx => ?_) (Nat.zero_le _))
    obtain ⟨y, _, rfl⟩ := List.mem_map.mp hx
    rw [PyData.depth]
    exact Nat.le_refl _
  · rw [dMix, small, List.length_map]
    refine ⟨o, small_all fun x hx => ?_⟩
    obtain ⟨y, _, rfl⟩ := List.mem_map.mp hx
    simp [small]
theorem isM_same {K : PySem.W.Frag} {H H' : Hp} {v : V} {ms : List Nat} (s : Same H H') (h : IsM K H v ms) : IsM K H' v ms := by
  obtain ⟨d, a, b⟩ := h
  exact ⟨d, dp_same s a, b⟩
theorem isJ_same {K : PySem.W.Frag} {H H' : Hp} {v : V} {js : List JobM} (s : Same H H') (h : IsJ K H v js) : IsJ K H' v js := by
  obtain ⟨d, a, b⟩ := h
  exact ⟨d, dp_same s a, b⟩
section
variable {P : Program} {w : World} {K : PySem.W.Frag} {mg : Str → Option Value} {base : Heap}
theorem runAt_same {C : Addr} {H H' : Hp} {js : List JobM} {st : RunM} {p : Addr} (r : RunAt K C H H' js st p) : Same H H' := by
  obtain ⟨_, _, _, _, _, _, r⟩ := r
  exact r.s0
def spSeenBy (K : PySem.W.Frag) : Sp := fun vs H Q _ => ∃ (vj vm : V) (js : List JobM) (ms : List Nat), vs = [vj, vm] ∧ IsJ K H vj js ∧ IsM K H vm ms ∧ okJs js ∧ BegM js ms ∧ ms.length ≤ 1000000 ∧ ∀ H' u, Same H H' → Dp K H' u (seenD js (runM js ms)) → Q u H'
theorem scSeenBy : FnScope ["jobs", "mix"] ["jobs", "mix"] (defScope sSeenBy) := ⟨rfl, rfl, rfl, by decide +kernel, rfl, by decide +kernel, by decide +kernel⟩
theorem ok_seenBy {f C fT fR fS : Addr} {fd fdT fdR fdS : FuncData} (F : Fun K "seen_by" "seen_by" sSeenBy f fd) (GT : FnOk P w K mg base CX0 5 fT fdT ["value"] (spTupled K 4)) (kT : PySem.W.keepIn K (.ref fT) = true) (bT : Binds K fdT ["value"] []) (gT : mg "tupled" = some (.ref fT))
    (GR : FnOk P w K mg base CX0 3 fR fdR ["jobs", "done"] (spRunOf K C)) (kR : PySem.W.keepIn K (.ref fR) = true) (bR : Binds K fdR ["jobs", "done"] []) (gR : mg "run_of" = some (.ref fR))
    (GS : FnOk P w K mg base CX0 4 fS fdS ["run"] (spSeen0 K C)) (kS : PySem.W.keepIn K (.ref fS) = true) (bS : Binds K fdS ["run"] []) (gS : mg "_seen" = some (.ref fS)) : FnOk P w K mg base CX0 6 f fd ["jobs", "mix"] (spSeenBy K) := by
  refine F.ok scSeenBy (fun vs H Q E h => ?_) (fun cdv A outer s H vs Q E hr h => ?_)
  · obtain ⟨vj, vm, js, ms, rfl, _⟩ := h
    rfl
  · obtain ⟨vj, vm, js, ms, rfl, ⟨d1, a1, a2, a3, a4⟩, ⟨d2, b1, b2, b3, b4⟩, ok, bg, few, z⟩ := h
    refine ⟨_, pss_one (ps_ret (pe_call GS (hr.mono (by decide)) (by rfl) gS kS bS .nil pass0 (pa_cons (pe_call GR (hr.mono (by decide)) (by rfl) gR kR bR .nil pass0 (pa_cons (pe_call GT hr (by rfl) gT kT bT .nil pass0 (pa_cons (pv 0) pa_nil)) (pa_cons (pe_call GT hr (by rfl) gT kT bT .nil pass0 (pa_cons (pv 1) pa_nil)) pa_nil))) pa_nil))), ?_⟩
    refine ⟨_, rfl, vj, d1, rfl, a1, a3, a4, fun H1 u1 s1 e1 => ?_⟩
    refine ⟨_, rfl, vm, d2, rfl, dp_same s1 b1, b3, b4, fun H2 u2 s2 e2 => ?_⟩
    rw [a2] at e1
    rw [b2] at e2
    refine ⟨u1, u2, js, ms, rfl, dp_same s2 e1, e2, ok.1, bg.1, few, fun H3 p r3 => ?_⟩
    refine ⟨H2, p, js, runM js ms, rfl, r3, ok, wf_run bg, by rw [runM_len]; exact few, fun H4 u s4 e4 => z H4 u (((s1.trans s2).trans (runAt_same r3)).trans s4) e4⟩
/-! ### held_at -/
abbrev nHeldAt : List Str := ["jobs", "mix", "move", "run", "row", "place"]
theorem scHeldAt : FnScope nHeldAt ["jobs", "mix", "move"] (defScope sHeldAt) := ⟨rfl, rfl, rfl, by decide +kernel, rfl, by decide +kernel, by decide +kernel⟩
end
end Kz

namespace Kz
open PySem PySem.Spec PyProof.Rows L2 RZ Kt Kx
/-- an error is let out, at any later heap: its dict holds v by the name f -/
def Out (H : Hp) (E : XK) (C : Addr) (f : Str) (v : V) : Prop := ∀ H' d, Same H H' → H' d = none → E (.ref C) (some d) (upd H' d (.xd [(f, v)]))
section
variable {P : Program} {w : World} {K : PySem.W.Frag} {mg : Str → Option Value} {base : Heap}
/-! ### versions_at -/
theorem scVersAt : FnScope ["jobs", "mix", "row", "move"] ["jobs", "mix", "row", "move"] (defScope sVersAt) := ⟨rfl, rfl, rfl, by decide +kernel, rfl, by decide +kernel, by decide +kernel⟩
def versD (js : List JobM) (ms : List Nat) (r : Str) (i : Int) : PyData := .tuple (.none :: (waM js (runM js ms) r i).map .int)
def spVersAt (K : PySem.W.Frag) (CN CR : Addr) : Sp := fun vs H Q E => ∃ (vj vm : V) (js : List JobM) (ms : List Nat) (r : Str) (i : Int), vs = [vj, vm, .str r, .int i] ∧ IsJ K H vj js ∧ IsM K H vm ms ∧ okJs js ∧ (∀ q ∈ ms, q < js.length) ∧ ms.length ≤ 1000000 ∧ PyData.strOk r = true ∧
  (¬ (0 ≤ i ∧ i < ms.length) → Out H E CN "number" (.int i)) ∧ (0 ≤ i ∧ i < ms.length → r ∉ allRows js → Out H E CR "row" (.str r)) ∧ (0 ≤ i ∧ i < ms.length → r ∈ allRows js → ∀ H' u, Same H H' → Dp K H' u (versD js ms r i) → Q u H')
theorem dp_ints {H : Hp} : ∀ ns : List Int, DpAll K H (ns.map V.int) (ns.map PyData.int)
  | [] => .nil
  | n :: t => .cons (.int n) (dp_ints t)
theorem waM_len (js : List JobM) (st : RunM) (r : Str) (mv : Int) : (waM js st r mv).length ≤ js.length := by
  unfold waM
  rw [List.length_map, (sortP_perm _).length_eq]
  exact waPairs_len ..
theorem ok_versAt {f C CN CR fT fR fW fM fO : Addr} {fd fdT fdR fdW fdM fdO : FuncData} (F : Fun K "versions_at" "versions_at" sVersAt f fd) (T : Nat0 mg) (GT : FnOk P w K mg base CX0 5 fT fdT ["value"] (spTupled K 4)) (kT : PySem.W.keepIn K (.ref fT) = true) (bT : Binds K fdT ["value"] []) (gT : mg "tupled" = some (.ref fT))
    (GR : FnOk P w K mg base CX0 3 fR fdR ["jobs", "done"] (spRunOf K C)) (kR : PySem.W.keepIn K (.ref fR) = true) (bR : Binds K fdR ["jobs", "done"] []) (gR : mg "run_of" = some (.ref fR))
    (GW : FnOk P w K mg base CX0 2 fW fdW ["run", "row", "move"] (spWA K C)) (kW : PySem.W.keepIn K (.ref fW) = true) (bW : Binds K fdW ["run", "row", "move"] []) (gW : mg "writers_ahead" = some (.ref fW))
    (GM : FnOk P w K mg base (L2.CX P w) 4 fM fdM ["mix", "move"] (spNeedMove K CN)) (kM : PySem.W.keepIn K (.ref fM) = true) (bM : Binds K fdM ["mix", "move"] []) (gM : mg "need_move" = some (.ref fM))
    (GO : FnOk P w K mg base (L2.CX P w) 3 fO fdO ["jobs", "row"] (spNeedRow K CR)) (kO : PySem.W.keepIn K (.ref fO) = true) (bO : Binds K fdO ["jobs", "row"] []) (gO : mg "need_row" = some (.ref fO)) :
    FnOk P w K mg base (L2.CX P w) 6 f fd ["jobs", "mix", "row", "move"] (spVersAt K CN CR) := by
  refine F.okX scVersAt (fun vs H Q E h => ?_) (fun cdv A outer s H vs Q E hr h => ?_)
  · obtain ⟨vj, vm, js, ms, r, i, rfl, _⟩ := h
    rfl
  · obtain ⟨vj, vm, js, ms, r, i, rfl, ⟨d1, a1, a2, a3, a4⟩, ⟨d2, b1, b2, b3, b4⟩, ok, lt, few, or, q1, q2, q3⟩ := h
    refine ⟨_, pss_cons (ps_par (i := 0) (j := 1) (by rfl) scVersAt.nd rfl rfl (by decide) rfl rfl (pa_cons (pe_call GT hr (by rfl) gT kT bT .nil pass0 (pa_cons (pv 0) pa_nil)) (pa_cons (pe_call GT hr (by rfl) gT kT bT .nil pass0 (pa_cons (pv 1) pa_nil)) pa_nil)) (by rfl))
      (pss_cons (ps_expr (pe_call GM (hr.mono (by decide)) (by rfl) gM kM bM .nil (passes_call (takes_of rfl rfl rfl rfl) (fun _ _ _ _ h => h)) (pa_cons (pv 1) (pa_cons (pv 3) pa_nil))))
      (pss_cons (ps_expr (pe_call GO (hr.mono (by decide)) (by rfl) gO kO bO .nil (passes_call (takes_of rfl rfl rfl rfl) (fun _ _ _ _ h => h)) (pa_cons (pv 0) (pa_cons (pv 2) pa_nil))))
      (pss_one (ps_ret (pe_op op_catT (pe_tup (pa_cons pe_non pa_nil)) (pe_callTy call_tuple_of (by rfl) T.tuple bt_tuple (pa_cons (pe_call GW (hr.mono (by decide)) (by rfl) gW kW bW .nil pass0
        (pa_cons (pe_call GR (hr.mono (by decide)) (by rfl) gR kR bR .nil pass0 (pa_cons (pv 0) (pa_cons (pv 1) pa_nil))) (pa_cons (pv 2) (pa_cons (pv 3) pa_nil)))) pa_nil))))))), ?_⟩
    refine ⟨_, rfl, vj, d1, rfl, a1, a3, a4, fun H1 u1 s1 e1 => ?_⟩
    refine ⟨_, rfl, vm, d2, rfl, dp_same s1 b1, b3, b4, fun H2 u2 s2 e2 => ⟨_, _, rfl, ?_⟩⟩
    rw [a2] at e1
    rw [b2] at e2
    have e1' := dp_same s2 e1
    obtain ⟨ma, xs, rfl, hs, hx⟩ := dp_tup_inv e2
    have lx : xs.length = ms.length := by rw [dpAll_len hx, List.length_map]
    have s12 := s1.trans s2
    refine ⟨_, rfl, _, rfl, ma, xs, i, rfl, hs, fun c => ?_, fun c d hd => q1 (by rw [← lx]; exact c) H2 d s12 hd⟩
    rw [lx] at c
    refine ⟨_, rfl, _, rfl, u1, js, r, rfl, e1', ok, or, fun hr0 H3 s3 => ?_, fun hr0 H3 d s3 hd => q2 c hr0 H3 d (s12.trans s3) hd⟩
    refine ⟨(by show 1 ≤ sizeLine; decide), fun t ht => ?_⟩
    have s4 := s3.trans (new_same (o := .tup [V.non]) ht)
    refine ⟨_, rfl, _, rfl, u1, .ref ma, js, ms, rfl, dp_same s4 e1', dp_same s4 (.tup hs hx), ok.1, lt, few, fun H5 p r5 => ?_⟩
    refine ⟨_, rfl, _, rfl, _, p, r, i, js, runM js ms, rfl, r5, ok, or, fun H6 l s6 hl0 hl => ?_⟩
    refine ⟨l, _, rfl, .inl ⟨SqL.of hl, fun l2 hl2 => ?_⟩⟩
    have s7 := (runAt_same r5).trans (s6.trans (new_same (o := .tup ((waM js (runM js ms) r i).map V.int)) hl2))
    have st := s12.trans (s4.trans s7)
    have ht7 := s7 _ _ (upd_same (H := H3) (a := t) (o := .tup [V.non]))
    have fin := q3 c hr0
    refine ⟨t, l2, [V.non], (waM js (runM js ms) r i).map V.int, rfl, rfl, SqT.of ht7, SqT.of upd_same, (by simp), ?_, fun hn => ?_, fun hn p2 hp2 => ?_⟩
    · rw [List.length_map, sizeLine_eq, List.length_singleton]
      have := waM_len js (runM js ms) r i
      have := ok.1
      omega
    · refine fin _ _ st ?_
      have nil : waM js (runM js ms) r i = [] := List.map_eq_nil_iff.mp hn
      have ev : versD js ms r i = .tuple [.none] := by rw [versD, nil]; rfl
      rw [ev]
      exact .tup (SqT.of ht7) (.cons .non .nil)
    · refine fin _ _ (st.trans (new_same hp2)) ?_
      rw [versD]
      exact .tup (SqT.of upd_same) (.cons .non (dp_ints _))
end
end Kz

namespace Kz
open PySem PySem.Spec PyProof.Rows L2 RZ Kt Kx
section
variable {P : Program} {w : World} {K : PySem.W.Frag} {mg : Str → Option Value} {base : Heap}
/-! ### seen_at -/
abbrev nSeenAt : List Str := ["jobs", "mix", "move", "run"]
theorem scSeenAt : FnScope nSeenAt ["jobs", "mix", "move"] (defScope sSeenAt) := ⟨rfl, rfl, rfl, by decide +kernel, rfl, by decide +kernel, by decide +kernel⟩
/-- whether the move i is a read -/
def readAt (js : List JobM) (ms : List Nat) (i : Nat) : Bool := isRd js (runM js ms) (ms.getD i 0) i
def spSeenAt (K : PySem.W.Frag) (CN CC : Addr) : Sp := fun vs H Q E => ∃ (vj vm : V) (js : List JobM) (ms : List Nat) (i : Int), vs = [vj, vm, .int i] ∧ IsJ K H vj js ∧ IsM K H vm ms ∧ okJs js ∧ BegM js ms ∧ ms.length ≤ 1000000 ∧
  (¬ (0 ≤ i ∧ i < ms.length) → Out H E CN "number" (.int i)) ∧ (∀ n : Nat, i = n → n < ms.length → readAt js ms n = false → ∀ H', Same H H' → E (.ref CC) none H') ∧
  (∀ n : Nat, i = n → n < ms.length → readAt js ms n = true → ∀ H', Same H H' → Q (ovI (vsAt js (runM js ms) n)) H')
theorem runM_place (js : List JobM) (ms : List Nat) : ∀ (i q : Nat) s, (runM js ms).moves[i]? = some (q, s) → ms[i]? = some q := by
  have gen : ∀ (l : List Nat) (r : RunM) (pre : List Nat), (∀ (i q : Nat) s, r.moves[i]? = some (q, s) → pre[i]? = some q) → r.moves.length = pre.length → ∀ (i q : Nat) s, (l.foldl (goM js) r).moves[i]? = some (q, s) → (pre ++ l)[i]? = some q := by
    intro l
    induction l with
    | nil => intro r pre h _ i q s e; rw [List.append_nil]; exact h i q s e
    | cons x t ih =>
      intro r pre h hl i q s e
      rw [List.foldl_cons] at e
      have := ih (goM js r x) (pre ++ [x]) (fun i q s e => by
        have e' : (r.moves ++ [(x, if r.counts.getD x 0 = lenOf js x then none else some (r.counts.getD x 0))])[i]? = some (q, s) := e
        rw [List.getElem?_append] at e' ⊢
        by_cases c : i < r.moves.length
        · rw [if_pos c] at e'
          rw [if_pos (by omega)]
          exact h i q s e'
        · rw [if_neg c] at e'
          have c0 : i - r.moves.length = 0 := by
            have := (List.getElem?_eq_some_iff.mp e').1
            simp at this
            omega
          rw [c0] at e'
          rw [if_neg (by omega), ← hl, c0]
          have := congrArg Prod.fst (Option.some.inj e')
          exact congrArg some this) (by
          show (r.moves ++ [_]).length = _
          rw [List.length_append, List.length_append, hl]
          rfl) i q s e
      rw [List.append_assoc] at this
      exact this
  intro i q s e
  exact gen ms (newRun js.length) [] (fun i q s e => by simp [newRun] at e) rfl i q s e
theorem inV_ints (n : Nat) : ∀ ns : List Nat, inV (.int (n : Nat)) (ns.map fun i => V.int (i : Nat)) = decide (n ∈ ns)
  | [] => rfl
  | m :: t => by
    have ih := inV_ints n t
    unfold inV at ih ⊢
    rw [List.map_cons, List.any_cons, ih]
    have e : eqV (.int (m : Nat)) (.int (n : Nat)) = decide (m = n) := by
      show ((m : Int) == (n : Int)) = _
      by_cases h : m = n
      · rw [h, decide_eq_true rfl]
        exact beq_self_eq_true _
      · rw [decide_eq_false h]
        exact beq_eq_false_iff_ne.mpr (fun q => h (by omega))
    rw [e, Bool.eq_iff_iff]
    simp only [Bool.or_eq_true, decide_eq_true_eq, List.mem_cons]
    exact ⟨fun h => h.imp Eq.symm id, fun h => h.imp Eq.symm id⟩
theorem flat_ints : ∀ ns : List Nat, (ns.map fun i => V.int (i : Nat)).all flatV = true
  | [] => rfl
  | m :: t => by rw [List.map_cons, List.all_cons, flat_ints t]; rfl
theorem ok_seenAt {f C CN CC fT fR fV fM fD : Addr} {fd fdT fdR fdV fdM fdD : FuncData} (F : Fun K "seen_at" "seen_at" sSeenAt f fd) (T : Nat0 mg) (GT : FnOk P w K mg base CX0 5 fT fdT ["value"] (spTupled K 4)) (kT : PySem.W.keepIn K (.ref fT) = true) (bT : Binds K fdT ["value"] []) (gT : mg "tupled" = some (.ref fT))
    (GR : FnOk P w K mg base CX0 3 fR fdR ["jobs", "done"] (spRunOf K C)) (kR : PySem.W.keepIn K (.ref fR) = true) (bR : Binds K fdR ["jobs", "done"] []) (gR : mg "run_of" = some (.ref fR))
    (GV : FnOk P w K mg base CX0 3 fV fdV ["run", "move"] (spVS K C)) (kV : PySem.W.keepIn K (.ref fV) = true) (bV : Binds K fdV ["run", "move"] []) (gV : mg "version_seen" = some (.ref fV))
    (GD : FnOk P w K mg base CX0 3 fD fdD ["run", "place"] (spRM K C)) (kD : PySem.W.keepIn K (.ref fD) = true) (bD : Binds K fdD ["run", "place"] []) (gD : mg "read_moves" = some (.ref fD))
    (GM : FnOk P w K mg base (L2.CX P w) 4 fM fdM ["mix", "move"] (spNeedMove K CN)) (kM : PySem.W.keepIn K (.ref fM) = true) (bM : Binds K fdM ["mix", "move"] []) (gM : mg "need_move" = some (.ref fM))
    (TC : EC K mg "CanNot" CC "ValueError" "ValueError.__new__") (ZC : PySem.W.findIn K (.ref CC) "__init__" = some (some (.builtin "ValueError.__init__"))) : FnOk P w K mg base (L2.CX P w) 6 f fd ["jobs", "mix", "move"] (spSeenAt K CN CC) := by
  refine F.okX scSeenAt (fun vs H Q E h => ?_) (fun cdv A outer s H vs Q E hr h => ?_)
  · obtain ⟨vj, vm, js, ms, i, rfl, _⟩ := h
    rfl
  · obtain ⟨vj, vm, js, ms, i, rfl, ⟨d1, a1, a2, a3, a4⟩, ⟨d2, b1, b2, b3, b4⟩, ok, bg, few, q1, q2, q3⟩ := h
    refine ⟨_, pss_cons (ps_par (i := 0) (j := 1) (by rfl) scSeenAt.nd rfl rfl (by decide) rfl rfl (pa_cons (pe_call GT hr (by rfl) gT kT bT .nil pass0 (pa_cons (pv 0) pa_nil)) (pa_cons (pe_call GT hr (by rfl) gT kT bT .nil pass0 (pa_cons (pv 1) pa_nil)) pa_nil)) (by rfl))
      (pss_cons (ps_expr (pe_call GM (hr.mono (by decide)) (by rfl) gM kM bM .nil (passes_call (takes_of rfl rfl rfl rfl) (fun _ _ _ _ h => h)) (pa_cons (pv 1) (pa_cons (pv 2) pa_nil))))
      (pss_cons (ps_set (i := 3) scSeenAt.nd rfl (Or.inl rfl) (pe_call GR (hr.mono (by decide)) (by rfl) gR kR bR .nil pass0 (pa_cons (pv 0) (pa_cons (pv 1) pa_nil))))
      (pss_cons (ps_if (pt_cmpR op_notIn_seq (pv 2) (pe_call GD (hr.mono (by decide)) (by rfl) gD kD bD .nil pass0 (pa_cons (pv 3) (pa_cons (pe_ix ix_tup (pv 1) (pv 2) (fun _ _ => rfl)) pa_nil))) (by rfl))
        (pss_one (ps_raise rfl (takes_of rfl rfl rfl rfl) (pmk_mk0 PySem.F.excBase_ValueError TC ZC (by rfl)))) pss_nil)
      (pss_one (ps_ret (pe_call GV (hr.mono (by decide)) (by rfl) gV kV bV .nil pass0 (pa_cons (pv 3) (pa_cons (pv 2) pa_nil)))))))), ?_⟩
    refine ⟨_, rfl, vj, d1, rfl, a1, a3, a4, fun H1 u1 s1 e1 => ?_⟩
    refine ⟨_, rfl, vm, d2, rfl, dp_same s1 b1, b3, b4, fun H2 u2 s2 e2 => ⟨_, _, rfl, ?_⟩⟩
    rw [a2] at e1
    rw [b2] at e2
    have e1' := dp_same s2 e1
    obtain ⟨ma, xs, rfl, hs, hx⟩ := dp_tup_inv e2
    have lx : xs.length = ms.length := by rw [dpAll_len hx, List.length_map]
    have s12 := s1.trans s2
    refine ⟨_, rfl, _, rfl, ma, xs, i, rfl, hs, fun c => ?_, fun c d hd => q1 (by rw [← lx]; exact c) H2 d s12 hd⟩
    rw [lx] at c
    obtain ⟨n, rfl⟩ : ∃ n : Nat, i = n := ⟨i.toNat, by omega⟩
    have hn : n < ms.length := by omega
    refine ⟨_, rfl, _, rfl, u1, .ref ma, js, ms, rfl, e1', .tup hs hx, ok.1, bg.1, few, fun H3 p r3 => ?_⟩
    have s3 := runAt_same r3
    have gx : xs[n]? = some (.int ((ms[n] : Nat) : Int)) := by
      have h1 : xs[n]? = some (xs[n]'(by omega)) := List.getElem?_eq_getElem _
      obtain ⟨q, hq, eq⟩ := ints_at hx h1
      rw [List.getElem?_eq_getElem hn] at hq
      rw [h1, eq, Option.some.inj hq]
    have hq : ms[n] < js.length := bg.1 _ (List.getElem_mem hn)
    have wf := wf_run bg
    have fl : (runM js ms).moves.length ≤ 1000000 := by rw [runM_len]; exact few
    refine ⟨_, rfl, _, rfl, _, rfl, _, rfl, ma, xs, _, _, rfl, rfl, seqT_same s3 hs, atI_nat (j := n) gx, H2, p, ms[n], js, runM js ms, rfl, r3, ok, hq, wf.1 _, fl, fun H4 l s4 hl0 hl => ?_⟩
    refine ⟨l, _, rfl, .inl (SqL.of hl), rfl, flat_ints _, _, rfl, ?_⟩
    rw [if_pos rfl, inV_ints]
    have gd : ms.getD n 0 = ms[n] := by rw [List.getD_eq_getElem?_getD, List.getElem?_eq_getElem hn]; rfl
    have mem : n ∈ rmM js (runM js ms) ms[n] ↔ readAt js ms n = true := by
      unfold rmM readAt
      rw [List.mem_filter, List.mem_range, runM_len, gd]
      exact ⟨fun h => h.2, fun h => ⟨hn, h⟩⟩
    by_cases c2 : n ∈ rmM js (runM js ms) ms[n]
    · rw [decide_eq_true c2]
      have rd := mem.mp c2
      refine iteF ?_
      have fin := q3 n rfl hn rd
      unfold readAt at rd
      rw [gd] at rd
      cases hm : (runM js ms).moves[n]? with
      | none => unfold isRd at rd; rw [hm] at rd; cases rd
      | some pr =>
        obtain ⟨p', s'⟩ := pr
        cases s' with
        | none => unfold isRd at rd; rw [hm] at rd; cases rd
        | some kk =>
          have ev : vsAt js (runM js ms) n = vsM js (runM js ms) p' kk n := by unfold vsAt; rw [hm]
          have pl := runM_place js ms n p' _ hm
          have hp' : p' < js.length := bg.1 _ (List.mem_of_getElem? pl)
          have r4 : RunAt K C H2 H4 js (runM js ms) p := by
            obtain ⟨dx, m, b, e, c, j, rr⟩ := r3
            exact ⟨dx, m, b, e, c, j, rr.more s4⟩
          refine ⟨_, rfl, _, rfl, H2, p, n, p', kk, js, runM js ms, rfl, r4, ok, hm, hp', wf.1 p' n kk hm, wf.2 n p' _ hm, fun H5 s5 => ?_⟩
          rw [← ev]
          exact fin H5 (((s12.trans s3).trans s4).trans s5)
    · rw [decide_eq_false c2]
      have rd : readAt js ms n = false := by
        cases h : readAt js ms n with
        | false => rfl
        | true => exact absurd (mem.mpr h) c2
      exact iteT (q2 n rfl hn rd H4 ((s12.trans s3).trans s4))
end
end Kz

namespace Kz
open PySem PySem.Spec PyProof.Rows L2 RZ Kt Kx
theorem bt_any : bootBuiltins "any" = some (.builtin "any") := by decide +kernel
theorem pe_callAny {X : Cx} : True := trivial
section
variable {P : Program} {w : World} {K : PySem.W.Frag} {mg : Str → Option Value} {base : Heap}
/-! ### outcome -/
abbrev nOut : List Str := ["jobs", "mix", "run", "rows", "row", "job"]
theorem scOut : FnScope nOut ["jobs", "mix"] (defScope sOutcome) := ⟨rfl, rfl, rfl, by decide +kernel, rfl, by decide +kernel, by decide +kernel⟩
def isWr (js : List JobM) (r : Str) : Bool := js.any fun j => decide ((true, r) ∈ j.st)
def rowD (js : List JobM) (ms : List Nat) (r : Str) : PyData := .tuple [.str r, .tuple ((waM js (runM js ms) r (ms.length : Nat)).map .int)]
def rowsD (js : List JobM) (ms : List Nat) (rs : List Str) : List PyData := (rs.filter (isWr js)).map (rowD js ms)
def outD (js : List JobM) (ms : List Nat) : PyData := .tuple [seenD js (runM js ms), .tuple (rowsD js ms (rowsM js))]
theorem oT_ints (ns : List Int) : onlyT (.tuple (ns.map .int)) = true := by
  rw [onlyT]
  exact onlyTs_of fun x hx => by
    obtain ⟨y, _, rfl⟩ := List.mem_map.mp hx
    rw [onlyT]
theorem oT_rowD (js : List JobM) (ms : List Nat) (r : Str) : onlyT (rowD js ms r) = true := by
  simp only [rowD, onlyT, onlyTs, Bool.and_true, Bool.true_and]
  have := oT_ints (waM js (runM js ms) r (ms.length : Nat))
  rw [onlyT] at this
  exact this
theorem oTs_rowsD (js : List JobM) (ms : List Nat) (rs : List Str) : onlyTs (rowsD js ms rs) = true := onlyTs_of fun x hx => by
  obtain ⟨y, _, rfl⟩ := List.mem_map.mp hx
  exact oT_rowD js ms y
def spOut (K : PySem.W.Frag) : Sp := fun vs H Q _ => ∃ (vj vm : V) (js : List JobM) (ms : List Nat), vs = [vj, vm] ∧ IsJ K H vj js ∧ IsM K H vm ms ∧ okJs js ∧ BegM js ms ∧ ms.length ≤ 1000000 ∧ fewR js ∧ ∀ H' u, Same H H' → Dp K H' u (outD js ms) → Q u H'
theorem strOk_row {js : List JobM} (ok : okJs js) {r : Str} (h : r ∈ rowsM js) : PyData.strOk r = true := by
  obtain ⟨j, hj, h⟩ := (rows_iff js r).mp (mem_ascS.mp h)
  exact h.elim ((ok.2 j hj).2.2 _) ((ok.2 j hj).2.2 _)
theorem ok_out {f C fT fR fS fA fO fW : Addr} {fd fdT fdR fdS fdA fdO fdW : FuncData} (F : Fun K "outcome" "outcome" sOutcome f fd) (T : Nat0 mg) (GT : FnOk P w K mg base CX0 5 fT fdT ["value"] (spTupled K 4)) (kT : PySem.W.keepIn K (.ref fT) = true) (bT : Binds K fdT ["value"] []) (gT : mg "tupled" = some (.ref fT))
    (GR : FnOk P w K mg base CX0 3 fR fdR ["jobs", "done"] (spRunOf K C)) (kR : PySem.W.keepIn K (.ref fR) = true) (bR : Binds K fdR ["jobs", "done"] []) (gR : mg "run_of" = some (.ref fR))
    (GS : FnOk P w K mg base CX0 4 fS fdS ["run"] (spSeen0 K C)) (kS : PySem.W.keepIn K (.ref fS) = true) (bS : Binds K fdS ["run"] []) (gS : mg "_seen" = some (.ref fS))
    (GA : FnOk P w K mg base CX0 2 fA fdA ["run", "row", "move"] (spWA K C)) (kA : PySem.W.keepIn K (.ref fA) = true) (bA : Binds K fdA ["run", "row", "move"] []) (gA : mg "writers_ahead" = some (.ref fA))
    (GO : FnOk P w K mg base CX0 6 fO fdO ["jobs"] (spRowsOf K)) (kO : PySem.W.keepIn K (.ref fO) = true) (bO : Binds K fdO ["jobs"] []) (gO : mg "rows_of" = some (.ref fO))
    (GW : FnOk P w K mg base CX0 1 fW fdW ["job", "row"] (spWrites K)) (kW : PySem.W.keepIn K (.ref fW) = true) (bW : Binds K fdW ["job", "row"] []) (gW : mg "writes_row" = some (.ref fW)) : FnOk P w K mg base CX0 7 f fd ["jobs", "mix"] (spOut K) := by
  refine F.ok scOut (fun vs H Q E h => ?_) (fun cdv A outer s H vs Q E hr h => ?_)
  · obtain ⟨vj, vm, js, ms, rfl, _⟩ := h
    rfl
  · obtain ⟨vj, vm, js, ms, rfl, ⟨d1, a1, a2, a3, a4⟩, ⟨d2, b1, b2, b3, b4⟩, ok, bg, few, fw, z⟩ := h
    have hr1 : Room 1 _ := hr.mono (by decide)
    have hr2 : Room 2 _ := hr.mono (by decide)
    have hr5 : Room 5 _ := hr.mono (by decide)
    refine ⟨_, pss_cons (ps_par (i := 0) (j := 1) (by rfl) scOut.nd rfl rfl (by decide) rfl rfl (pa_cons (pe_call GT hr5 (by rfl) gT kT bT .nil pass0 (pa_cons (pv 0) pa_nil)) (pa_cons (pe_call GT hr5 (by rfl) gT kT bT .nil pass0 (pa_cons (pv 1) pa_nil)) pa_nil)) (by rfl))
      (pss_cons (ps_par (i := 2) (j := 3) (by rfl) scOut.nd rfl rfl (by decide) rfl rfl (pa_cons (pe_call GR (hr.mono (by decide)) (by rfl) gR kR bR .nil pass0 (pa_cons (pv 0) (pa_cons (pv 1) pa_nil))) (pa_cons (pe_lst pa_nil) pa_nil)) (by rfl))
      (pss_cons (ps_for PassesOwn.never rfl (pi_tup (pe_call GO hr (by rfl) gO kO bO .nil pass0 (pa_cons (pv 0) pa_nil))) (pg_name (i := 4) scOut.nd rfl (Or.inr rfl))
        (pss_one (ps_if (pt_val (pe_callB (cr_any rfl) (by rfl) T.any bt_any (pa_cons (pe_lc (own := [("job", 5)]) (g := gName 5) (tt := tYes) (te := tCall (spWrites K) [] E0 (tCons (tVar 5) (tCons (tVar 4) tNil))) rfl scOut.nd (pi_tup (pv 0)) (blkOk_by (own := [("job", 5)]) (N := nOut) (sc := defScope sOutcome) (by decide +kernel))
            (fun _ _ _ _ _ => pg_name (i := 5) scOut.nd rfl (Or.inl rfl)) (fun _ _ _ _ _ => pts_nil) (fun _ _ _ _ _ => by exact (pe_call GW hr1 (by rfl) gW kW bW .nil pass0 (pa_cons (pv 5) (pa_cons (pv 4) pa_nil))))) pa_nil)))
          (pss_one (ps_expr (pe_bm PySem.F.plainAttrs_list PySem.F.slot_list_append PySem.F.type_list_append mt_append (pv 3) (pa_cons (pe_tup (pa_cons (pv 4) (pa_cons (pe_callTy call_tuple_of (by rfl) T.tuple bt_tuple (pa_cons (pe_call GA hr2 (by rfl) gA kA bA .nil pass0
            (pa_cons (pv 2) (pa_cons (pv 4) (pa_cons (pe_callB call_len_seq (by rfl) T.len PySem.boot_len (pa_cons (pv 1) pa_nil)) pa_nil)))) pa_nil)) pa_nil))) pa_nil)))) pss_nil)))
      (pss_one (ps_ret (pe_tup (pa_cons (pe_call GS (hr.mono (by decide)) (by rfl) gS kS bS .nil pass0 (pa_cons (pv 2) pa_nil)) (pa_cons (pe_callTy call_tuple_of (by rfl) T.tuple bt_tuple (pa_cons (pv 3) pa_nil)) pa_nil))))))), ?_⟩
    refine ⟨_, rfl, vj, d1, rfl, a1, a3, a4, fun H1 u1 s1 e1 => ?_⟩
    refine ⟨_, rfl, vm, d2, rfl, dp_same s1 b1, b3, b4, fun H2 u2 s2 e2 => ⟨_, _, rfl, ?_⟩⟩
    rw [a2] at e1
    rw [b2] at e2
    have e1' := dp_same s2 e1
    obtain ⟨ma, xs, rfl, hs, hx⟩ := dp_tup_inv e2
    obtain ⟨ja, xj, rfl, hsj, hxj⟩ := dp_tup_inv e1'
    have lx : xs.length = ms.length := by rw [dpAll_len hx, List.length_map]
    have s12 := s1.trans s2
    refine ⟨_, rfl, _, rfl, .ref ja, .ref ma, js, ms, rfl, .tup hsj hxj, .tup hs hx, ok.1, bg.1, few, fun H3 p r3 => ?_⟩
    have s3 := runAt_same r3
    refine ⟨Nat.zero_le _, fun l hl => ⟨_, _, rfl, ?_⟩⟩
    have sl := new_same (o := .lst []) hl
    have sl3 := s3.trans sl
    refine ⟨_, rfl, .ref ja, js, rfl, isJ_of (.tup (seqT_same sl3 hsj) (dpAll_same sl3 hxj)) ok, fw, fun H4 u s4 du => ?_⟩
    obtain ⟨ra, rs, rfl, hrs, hrx⟩ := dp_tup_inv du
    obtain rfl := strs_dp hrx
    have RB : ∀ {H' : Hp}, Same H3 H' → RunAt K C H2 H' js (runM js ms) p := fun sx => by
      obtain ⟨dx, m, b, e, c, j, rr⟩ := r3
      exact ⟨dx, m, b, e, c, j, rr.more sx⟩
    refine ⟨ra, rfl, ⟨_, hrs⟩, for_tup (K := K) (a := ra) (xs := (rowsM js).map V.str) (fun i σ H' => ∃ v4 v5, σ = [some (.ref ja), some (.ref ma), some (.ref p), some (.ref l), v4, v5] ∧ Got K H3 l (rowsD js ms ((rowsM js).take i)) H' ∧ SqT K H' ra ((rowsM js).map V.str))
      ⟨none, none, rfl, ⟨sl.trans s4, [], s4 _ _ upd_same, .nil⟩, hrs⟩ (fun i σ H' _ ⟨_, _, _, _, h⟩ => h) ?_ ?_⟩
    · rintro i x σ Hc hi ⟨v4, v5, rfl, got, hra⟩
      have sc := s3.trans got.1
      have hil : i < (rowsM js).length := by
        have := (List.getElem?_eq_some_iff.mp hi).1
        rw [List.length_map] at this
        exact this
      rw [List.getElem?_map, List.getElem?_eq_getElem hil] at hi
      obtain rfl := Option.some.inj hi
      generalize hrr : (rowsM js)[i] = r
      have rin : r ∈ rowsM js := hrr ▸ List.getElem_mem hil
      have or := strOk_row ok rin
      have tk : (rowsM js).take (i + 1) = (rowsM js).take i ++ [r] := by rw [List.take_add_one, List.getElem?_eq_getElem hil, hrr]; rfl
      have few2 : (rowsD js ms ((rowsM js).take i)).length < 64 := by
        unfold rowsD
        rw [List.length_map]
        refine Nat.lt_of_le_of_lt (List.length_filter_le ..) ?_
        rw [List.length_take]
        exact Nat.lt_of_le_of_lt (Nat.min_le_right ..) fw.2
      have lo : xj.length = (js.map fun j => some (PyData.bool (decide ((true, r) ∈ j.st)))).length := by rw [dpAll_len hxj, List.length_map, List.length_map]
      have ek : kept (js.map fun j => some (PyData.bool (decide ((true, r) ∈ j.st)))) = js.map fun j => PyData.bool (decide ((true, r) ∈ j.st)) := by
        unfold kept
        rw [List.filterMap_map]
        exact congrFun (List.filterMap_eq_map' (f := fun j : JobM => PyData.bool (decide ((true, r) ∈ j.st)))) js
      refine ⟨_, rfl, ja, rfl, ⟨xj, seqT_same sc hsj⟩, fun D hD => lc_got (K := K) (wk_tup (seqT_same sc hsj)) lo hD (fun e he => ?_) (by rw [List.length_map, sizeLine_eq]; have := ok.1; omega) (fun k o ho => ?_) (fun Hf pf => ?_)⟩
      · rw [ek] at he
        obtain ⟨y, _, rfl⟩ := List.mem_map.mp he
        rw [onlyT]
      · intro y Hx N Z hy sx n1 _
        have hk : k < js.length := by
          have := (List.getElem?_eq_some_iff.mp ho).1
          rw [List.length_map] at this
          exact this
        rw [List.getElem?_map, List.getElem?_eq_getElem hk] at ho
        obtain rfl := Option.some.inj ho
        obtain ⟨jv, gj, dj⟩ := job_at (dpAll_same (sc.trans sx) hxj) hk
        rw [hy] at gj
        obtain rfl := Option.some.inj gj
        refine ⟨rfl, ?_⟩
        unfold tYes
        dsimp only
        rw [if_pos rfl]
        exact ⟨_, rfl, _, rfl, y, js[k], r, rfl, dj, ok.2 _ (List.getElem_mem hk), or, fun H' s' => n1 _ _ H' rfl s' (.bl _)⟩
      · obtain ⟨sf, ys, hy, dy⟩ := pf
        rw [ek] at dy
        have ez : ys = (js.map fun j => decide ((true, r) ∈ j.st)).map V.bl := by
          have gen : ∀ {H : Hp} (l : List JobM) (zs : List V), DpAll K H zs (l.map fun j => PyData.bool (decide ((true, r) ∈ j.st))) → zs = (l.map fun j => decide ((true, r) ∈ j.st)).map V.bl := by
            intro H l
            induction l with
            | nil => intro zs h; cases h; rfl
            | cons y t ih =>
              intro zs h
              cases h with
              | cons a b =>
                cases a
                rw [ih _ b]
                rfl
          exact gen js ys dy
        rw [ez] at hy
        refine ⟨D, _, rfl, SqL.of hy, _, rfl, ?_⟩
        have ea : (js.map fun j => decide ((true, r) ∈ j.st)).any id = isWr js r := by rw [List.any_map]; rfl
        rw [ea]
        have scf := sc.trans sf
        have got2 := got_more sf got
        have hra2 := seqT_same sf hra
        cases hw : isWr js r with
        | false =>
          refine iteF ⟨_, _, rfl, ?_, hra2⟩
          have e : rowsD js ms ((rowsM js).take (i + 1)) = rowsD js ms ((rowsM js).take i) := by
            unfold rowsD
            rw [tk, List.filter_append, List.filter_cons_of_neg (by rw [hw]; exact Bool.false_ne_true), List.filter_nil, List.append_nil]
          rw [e]
          exact got2
        | true =>
          have e : rowsD js ms ((rowsM js).take (i + 1)) = rowsD js ms ((rowsM js).take i) ++ [rowD js ms r] := by
            unfold rowsD
            rw [tk, List.filter_append, List.filter_cons_of_pos hw, List.filter_nil, List.map_append]
            rfl
          have hlf : ∃ vs, Hf l = some (.lst vs) := by obtain ⟨_, vs, hv, _⟩ := got2; exact ⟨vs, hv⟩
          obtain ⟨vs0, hv0⟩ := hlf
          refine iteT ⟨_, rfl, .inl ⟨rfl, _, SqL.of hv0⟩, _, rfl, _, rfl, _, rfl, _, rfl, ma, xs, rfl, .inr (seqT_same scf hs), H2, p, r, _, js, runM js ms, rfl, RB got2.1, ok, or, fun H6 lw s6 hl0 hlw => ?_⟩
          refine ⟨lw, _, rfl, .inl ⟨SqL.of hlw, fun l2 hl2 => ⟨(by show 2 ≤ sizeLine; decide), fun t ht => ?_⟩⟩⟩
          rw [lx] at ht ⊢
          have s7 := (s6.trans (new_same (o := .tup ((waM js (runM js ms) r (ms.length : Nat)).map V.int)) hl2))
          have s8 := s7.trans (new_same (o := .tup [V.str r, V.ref l2]) ht)
          obtain ⟨acc, g1, g2, g3⟩ := got_put (e := rowD js ms r) (y := .ref t) hl got2 (oTs_rowsD ..) (oT_rowD ..) (by rw [sizeLine_eq]; omega) s8
            (.tup (SqT.of upd_same) (.cons (.str _) (.cons (.tup (SqT.of (new_same ht _ _ upd_same)) (dp_ints _)) .nil)))
          refine ⟨l, acc, .ref t, rfl, rfl, g1, g2, _, _, rfl, ?_, sqT_put (noTup_lst g1) (seqT_same s8 hra2)⟩
          rw [e]
          exact g3
    · rintro σ Hc ⟨v4, v5, rfl, got, hra⟩
      rw [List.length_map, List.take_length] at got
      have fl : (runM js ms).moves.length ≤ 1000000 := by rw [runM_len]; exact few
      refine ⟨_, rfl, H2, p, js, runM js ms, rfl, RB got.1, ok, wf_run bg, fl, fun H5 us s5 d5 => ?_⟩
      obtain ⟨sg, ys, hy, dy⟩ := got_more s5 got
      refine ⟨_, rfl, l, ys, rfl, .inl ⟨SqL.of hy, fun l3 hl3 => ⟨(by show 2 ≤ sizeLine; decide), fun t ht => ?_⟩⟩⟩
      have s6 := new_same (o := .tup ys) hl3
      have s7 := new_same (o := .tup [us, V.ref l3]) ht
      refine z _ _ ((((s12.trans s3).trans sg).trans s6).trans s7) (.tup (SqT.of upd_same) (.cons (dp_same (s6.trans s7) d5) (.cons (.tup (SqT.of (s7 _ _ upd_same)) (dpAll_same (s6.trans s7) dy)) .nil)))
end
end Kz

namespace Kz
open PySem PySem.Spec PyProof.Rows L2 RZ Kt Kx
def rLenS (K : PySem.W.Frag) : List V → Hp → VK → Prop := fun xs H Q => ∃ p ys, xs = [.ref p] ∧ (SqL K H p ys ∨ SqT K H p ys) ∧ Q (.int ys.length) H
theorem call_len_seqK {X : Cx} {K : PySem.W.Frag} (hK : X.K = K) : CallR X (.builtin "len") (rLenS K) := by subst hK; exact call_len_seq
section
variable {P : Program} {w : World} {K : PySem.W.Frag} {mg : Str → Option Value} {base : Heap}
/-! ### held_at -/
abbrev nHeld : List Str := ["jobs", "mix", "move", "run", "row", "place"]
theorem scHeld : FnScope nHeld ["jobs", "mix", "move"] (defScope sHeldAt) := ⟨rfl, rfl, rfl, by decide +kernel, rfl, by decide +kernel, by decide +kernel⟩
def pairD (r : Str) (q : Nat) : PyData := .tuple [.str r, .int (q : Nat)]
def heldO (js : List JobM) (st : RunM) : List (List (Option PyData)) := (rowsM js).map fun r => (List.range js.length).map fun q => if holdsM js st q r = true then some (pairD r q) else none
def heldD (js : List JobM) (ms : List Nat) (n : Nat) : PyData := .tuple (kept (heldO js (runM js (ms.take n))).flatten)
def spHeldAt (K : PySem.W.Frag) (CN : Addr) : Sp := fun vs H Q E => ∃ (vj vm : V) (js : List JobM) (ms : List Nat) (i : Int), vs = [vj, vm, .int i] ∧ IsJ K H vj js ∧ IsM K H vm ms ∧ okJs js ∧ (∀ q ∈ ms, q < js.length) ∧ ms.length ≤ 1000000 ∧ fewR js ∧
  (¬ (0 ≤ i ∧ i < ms.length) → Out H E CN "number" (.int i)) ∧ (∀ n : Nat, i = n → n < ms.length → ∀ H' u, Same H H' → Dp K H' u (heldD js ms n) → Q u H')
theorem ok_heldAt {f C CN fT fR fM fO fH : Addr} {fd fdT fdR fdM fdO fdH : FuncData} (F : Fun K "held_at" "held_at" sHeldAt f fd) (T : Nat0 mg) (GT : FnOk P w K mg base CX0 5 fT fdT ["value"] (spTupled K 4)) (kT : PySem.W.keepIn K (.ref fT) = true) (bT : Binds K fdT ["value"] []) (gT : mg "tupled" = some (.ref fT))
    (GR : FnOk P w K mg base CX0 3 fR fdR ["jobs", "done"] (spRunOf K C)) (kR : PySem.W.keepIn K (.ref fR) = true) (bR : Binds K fdR ["jobs", "done"] []) (gR : mg "run_of" = some (.ref fR))
    (GM : FnOk P w K mg base (L2.CX P w) 4 fM fdM ["mix", "move"] (spNeedMove K CN)) (kM : PySem.W.keepIn K (.ref fM) = true) (bM : Binds K fdM ["mix", "move"] []) (gM : mg "need_move" = some (.ref fM))
    (GO : FnOk P w K mg base CX0 6 fO fdO ["jobs"] (spRowsOf K)) (kO : PySem.W.keepIn K (.ref fO) = true) (bO : Binds K fdO ["jobs"] []) (gO : mg "rows_of" = some (.ref fO))
    (GH : FnOk P w K mg base CX0 1 fH fdH ["run", "place", "row"] (spHolds K C)) (kH : PySem.W.keepIn K (.ref fH) = true) (bH : Binds K fdH ["run", "place", "row"] []) (gH : mg "holds" = some (.ref fH)) : FnOk P w K mg base (L2.CX P w) 7 f fd ["jobs", "mix", "move"] (spHeldAt K CN) := by
  refine F.okX scHeld (fun vs H Q E h => ?_) (fun cdv A outer s H vs Q E hr h => ?_)
  · obtain ⟨vj, vm, js, ms, i, rfl, _⟩ := h
    rfl
  · obtain ⟨vj, vm, js, ms, i, rfl, ⟨d1, a1, a2, a3, a4⟩, ⟨d2, b1, b2, b3, b4⟩, ok, lt, few, fw, q1, q2⟩ := h
    have hr1 : Room 1 _ := hr.mono (by decide)
    have hr5 : Room 5 _ := hr.mono (by decide)
    refine ⟨_, pss_cons (ps_asg (pe_tup (pa_cons (pe_call GT hr5 (by rfl) gT kT bT .nil pass0 (pa_cons (pv 0) pa_nil)) (pa_cons (pe_call GT hr5 (by rfl) gT kT bT .nil pass0 (pa_cons (pv 1) pa_nil)) pa_nil))) (pg_tup (by rfl) (pgs_cons (pg_name (i := 0) scHeld.nd rfl (Or.inr rfl)) (pgs_cons (pg_name (i := 1) scHeld.nd rfl (Or.inl rfl)) pgs_nil))))
      (pss_cons (ps_expr (pe_call GM (hr.mono (by decide)) (by rfl) gM kM bM .nil (passes_call (takes_of rfl rfl rfl rfl) (fun _ _ _ _ h => h)) (pa_cons (pv 1) (pa_cons (pv 2) pa_nil))))
      (pss_cons (ps_set (i := 3) scHeld.nd rfl (Or.inr rfl) (pe_call GR (hr.mono (by decide)) (by rfl) gR kR bR .nil pass0 (pa_cons (pv 0) (pa_cons (pe_slice sl_tupA (pv 1) po_none (po_some (pv 2))) pa_nil))))
      (pss_one (ps_ret (pe_callTy call_tuple_of (by rfl) T.tuple bt_tuple (pa_cons (pe_lc2 (own := [("row", 4), ("place", 5)]) (vs1 := [5]) (wi1 := iRng1 (tCons (tCB (rLenS K) (tCons (tVar 0) tNil)) tNil)) (g := gName 4) (tt := tYes) (g1 := gName 5) (tt1 := tB (tCall (spHolds K C) [] E0 (tCons (tVar 3) (tCons (tVar 5) (tCons (tVar 4) tNil)))))
        (te := tTup (tCons (tVar 4) (tCons (tVar 5) tNil))) rfl scHeld.nd (pi_tup (pe_call GO hr (by rfl) gO kO bO .nil pass0 (pa_cons (pv 0) pa_nil))) (blkOk_by (own := [("row", 4), ("place", 5)]) (N := nHeld) (sc := defScope sHeldAt) (by decide +kernel)) (by decide)
        (fun _ _ _ _ _ => pg_name (i := 4) scHeld.nd rfl (Or.inl rfl)) (fun _ _ _ _ _ => pts_nil) (fun _ _ _ _ _ => by exact (pi_range1 (by rfl) T.range (pa_cons (pe_callB (call_len_seqK (K := K) rfl) (by rfl) T.len PySem.boot_len (pa_cons (pv 0) pa_nil)) pa_nil)))
        (fun _ _ _ _ _ => pg_name (i := 5) scHeld.nd rfl (Or.inl rfl)) (fun _ _ _ _ _ => by exact (pts_one (pt_val (pe_call GH hr1 (by rfl) gH kH bH .nil pass0 (pa_cons (pv 3) (pa_cons (pv 5) (pa_cons (pv 4) pa_nil))))))) (fun _ _ _ _ _ => by exact (pe_tup (pa_cons (pv 4) (pa_cons (pv 5) pa_nil))))) pa_nil)))))), ?_⟩
    refine ⟨_, rfl, vj, d1, rfl, a1, a3, a4, fun H1 u1 s1 e1 => ?_⟩
    refine ⟨_, rfl, vm, d2, rfl, dp_same s1 b1, b3, b4, fun H2 u2 s2 e2 => ⟨(by show 2 ≤ sizeLine; decide), fun t ht => ?_⟩⟩
    rw [a2] at e1
    rw [b2] at e2
    have s3 := new_same (o := .tup [u1, u2]) ht
    have e1' := dp_same (s2.trans s3) e1
    obtain ⟨ma, xs, rfl, hs, hx⟩ := dp_tup_inv e2
    obtain ⟨ja, xj, rfl, hsj, hxj⟩ := dp_tup_inv e1'
    have lx : xs.length = ms.length := by rw [dpAll_len hx, List.length_map]
    have lj : xj.length = js.length := by rw [dpAll_len hxj, List.length_map]
    have s123 := (s1.trans s2).trans s3
    refine ⟨t, _, rfl, SqT.of upd_same, rfl, _, _, rfl, _, _, rfl, rfl, ?_⟩
    refine ⟨_, rfl, _, rfl, ma, xs, i, rfl, seqT_same s3 hs, fun c => ?_, fun c d hd => q1 (by rw [← lx]; exact c) _ d s123 hd⟩
    rw [lx] at c
    obtain ⟨n, rfl⟩ : ∃ n : Nat, i = n := ⟨i.toNat, by omega⟩
    have hn : n < ms.length := by omega
    refine ⟨_, rfl, _, rfl, _, rfl, _, rfl, ?_⟩
    refine slA_take (seqT_same s3 hs) fun H4 d4 s4 hd4 => ?_
    have dm4 : DpAll K H4 (xs.take n) ((ms.take n).map fun p => PyData.int (p : Nat)) := by
      have := dpAll_take n (dpAll_same (s3.trans s4) hx)
      rwa [← List.map_take] at this
    have lt' : ∀ q ∈ ms.take n, q < js.length := fun q h => lt q (List.mem_of_mem_take h)
    refine ⟨.ref ja, .ref d4, js, ms.take n, rfl, .tup (seqT_same s4 hsj) (dpAll_same s4 hxj), .tup hd4 dm4, ok.1, lt', by rw [List.length_take]; omega, fun H5 p r5 => ?_⟩
    have s5 := s4.trans (runAt_same r5)
    refine ⟨_, rfl, .ref ja, js, rfl, isJ_of (.tup (seqT_same s5 hsj) (dpAll_same s5 hxj)) ok, fw, fun H6 u s6 du => ?_⟩
    obtain ⟨ra, rs, rfl, hrs, hrx⟩ := dp_tup_inv du
    obtain rfl := strs_dp hrx
    have RB : ∀ {H' : Hp}, Same H5 H' → RunAt K C H4 H' js (runM js (ms.take n)) p := fun sx => by
      obtain ⟨dx, m, b, e, c, j, rr⟩ := r5
      exact ⟨dx, m, b, e, c, j, rr.more sx⟩
    generalize hst : runM js (ms.take n) = st at RB r5
    have lr : ((rowsM js).map V.str).length = (heldO js st).length := by rw [heldO, List.length_map, List.length_map]
    have lfl : ∀ (l : List Str), ((l.map fun r => (List.range js.length).map fun q => if holdsM js st q r = true then some (pairD r q) else none).flatten).length = l.length * js.length := by
      intro l
      induction l with
      | nil => simp
      | cons r t ih => rw [List.map_cons, List.flatten_cons, List.length_append, ih, List.length_map, List.length_range, List.length_cons, Nat.succ_mul, Nat.add_comm]
    have fl : (heldO js st).flatten.length < sizeLine := by
      rw [heldO, lfl, sizeLine_eq]
      have h1 := fw.2
      have h2 := ok.1
      have h3 : (rowsM js).length * js.length ≤ 64 * 1000 := Nat.mul_le_mul (Nat.le_of_lt h1) h2
      omega
    refine ⟨ra, rfl, ⟨_, hrs⟩, fun D hD => lc2_gotP (K := K) (wk_tup hrs) lr hD (fun e he => ?_) fl (fun k cs hcs => ?_) (fun Hf pf => ?_)⟩
    · obtain ⟨o, ho, eo⟩ := List.mem_filterMap.mp he
      obtain ⟨cs, hcs, hoc⟩ := List.mem_flatten.mp ho
      obtain ⟨r, _, rfl⟩ := List.mem_map.mp hcs
      obtain ⟨q, _, rfl⟩ := List.mem_map.mp hoc
      by_cases hh : holdsM js st q r = true
      · rw [if_pos hh] at eo
        obtain rfl := Option.some.inj eo
        simp [pairD, onlyT, onlyTs]
      · rw [if_neg hh] at eo
        cases eo
    · have hk : k < (rowsM js).length := by
        have := (List.getElem?_eq_some_iff.mp hcs).1
        rw [heldO, List.length_map] at this
        exact this
      rw [heldO, List.getElem?_map, List.getElem?_eq_getElem hk] at hcs
      obtain rfl := Option.some.inj hcs
      intro x Hx RR Z hxi sx rr
      rw [List.getElem?_map, List.getElem?_eq_getElem hk] at hxi
      obtain rfl := Option.some.inj hxi
      generalize hrr : (rowsM js)[k] = r at rr
      have rin : r ∈ rowsM js := hrr ▸ List.getElem_mem hk
      have or := strOk_row ok rin
      have s6x := s6.trans sx
      refine ⟨rfl, ?_⟩
      unfold tYes
      dsimp only
      rw [if_pos rfl]
      refine ⟨_, rfl, ja, xj, rfl, .inr (seqT_same (s5.trans s6x) hsj), xj.length, rfl, by omega, by have := ok.1; omega, ?_⟩
      rw [Int.toNat_natCast, lj]
      have lcs : ((List.range js.length).map fun q => if holdsM js st q r = true then some (pairD r q) else none).length = js.length := by rw [List.length_map, List.length_range]
      refine rr _ _ Hx (fun q x _ => x = .int (0 + (q : Nat))) (fun _ _ z => z) (fun B ts sB0 => ⟨?_, fun q o ho => ?_⟩)
      · rw [lcs]
        exact wk_rng 0 js.length
      · have hq : q < js.length := by
          have := (List.getElem?_eq_some_iff.mp ho).1
          rw [lcs] at this
          exact this
        rw [List.getElem?_map, List.getElem?_range hq] at ho
        obtain rfl := Option.some.inj ho
        intro y Hy N Z2 hy sy n1 n2
        subst hy
        rw [Int.zero_add]
        refine ⟨rfl, _, rfl, _, rfl, _, rfl, H4, p, q, r, js, st, rfl, RB ((s6.trans sB0).trans sy), ok, or, hq, fun H7 s7 => ⟨_, rfl, ?_⟩⟩
        cases hh : holdsM js st q r with
        | false =>
          exact n2 (if_neg (by rw [hh]; exact Bool.false_ne_true)) H7 s7
        | true =>
          refine ⟨_, rfl, _, rfl, (by show 2 ≤ sizeLine; decide), fun t2 ht2 => ?_⟩
          exact n1 _ _ _ (if_pos hh) (s7.trans (new_same ht2)) (.tup (SqT.of upd_same) (.cons (.str _) (.cons (.int _) .nil)))
    · obtain ⟨sf, ys, hy, dy⟩ := pf
      refine ⟨D, ys, rfl, .inl ⟨SqL.of hy, fun l2 hl2 => q2 n rfl hn _ _ ((((s123.trans s5).trans s6).trans sf).trans (new_same hl2)) ?_⟩⟩
      rw [heldD, hst]
      exact .tup (SqT.of upd_same) (dpAll_same (new_same hl2) dy)
end
end Kz

namespace Kz
open PySem PySem.Spec PyProof.Rows L2 RZ Kt Kx
theorem pe_lenK {X : Cx} {K : PySem.W.Frag} (hK : X.K = K) : CallR X (.builtin "len") (rLenS K) := call_len_seqK hK
section
variable {P : Program} {w : World} {K : PySem.W.Frag} {mg : Str → Option Value} {base : Heap}
/-! ### how many moves each JOB has -/
def needM (js : List JobM) : List Int := js.map fun j => ((j.st.length : Nat) : Int) + 1
abbrev nNeed : List Str := ["_law_jobs_so", "_law_own"]
theorem scNeed : FnScope nNeed ["_law_jobs_so"] (defScope sNeed) := ⟨rfl, rfl, rfl, by decide +kernel, rfl, by decide +kernel, by decide +kernel⟩
def spNeed (K : PySem.W.Frag) : Sp := fun vs H Q _ => ∃ (v : V) (js : List JobM), vs = [v] ∧ Dp K H v (dJobs js) ∧ okJs js ∧ ∀ H' l, Same H H' → H l = none → H' l = some (.lst ((needM js).map V.int)) → Q (.ref l) H'
theorem ok_need {f : Addr} {fd : FuncData} {k : Nat} (F : Fun K "_law_need" "_law_need" sNeed f fd) (T : Nat0 mg) : FnOk P w K mg base CX0 (k + 1) f fd ["_law_jobs_so"] (spNeed K) := by
  refine F.ok scNeed (fun vs H Q E h => ?_) (fun cdv A outer s H vs Q E hr h => ?_)
  · obtain ⟨v, js, rfl, _⟩ := h
    rfl
  · obtain ⟨v, js, rfl, dv, ok, z⟩ := h
    refine ⟨_, pss_one (ps_ret (pe_lc (own := [("_law_own", 1)]) (g := gName 1) (tt := tYes) (te := tOp (rI0 fun i j => .int (i + j)) (tCB (rLenS K) (tCons (tOp (rIxT K) (tVar 1) (tC (.int 1))) tNil)) (tC (.int 1))) rfl scNeed.nd (pi_tup (pv 0)) (blkOk_by (own := [("_law_own", 1)]) (N := nNeed) (sc := defScope sNeed) (by decide +kernel))
      (fun _ _ _ _ _ => pg_name (i := 1) scNeed.nd rfl (Or.inl rfl)) (fun _ _ _ _ _ => pts_nil) (fun _ _ _ _ _ => by exact (pe_op op_add (pe_callB (pe_lenK (K := K) rfl) (by rfl) T.len PySem.boot_len (pa_cons (pe_ix (ix_tupK (K := K) rfl) (pv 1) pe_int (fun _ _ => rfl)) pa_nil)) pe_int)))), ?_⟩
    obtain ⟨ja, xs, rfl, hs, hx⟩ := dp_tup_inv dv
    have lo : xs.length = (js.map fun j => some (PyData.int (((j.st.length : Nat) : Int) + 1))).length := by rw [dpAll_len hx, List.length_map, List.length_map]
    have ek : kept (js.map fun j => some (PyData.int (((j.st.length : Nat) : Int) + 1))) = js.map fun j => PyData.int (((j.st.length : Nat) : Int) + 1) := by
      unfold kept
      rw [List.filterMap_map]
      exact congrFun (List.filterMap_eq_map' (f := fun j : JobM => PyData.int (((j.st.length : Nat) : Int) + 1))) js
    refine ⟨_, rfl, ja, rfl, ⟨xs, hs⟩, fun D hD => lc_got (K := K) (wk_tup hs) lo hD (fun e he => ?_) (by rw [List.length_map, sizeLine_eq]; have := ok.1; omega) (fun i o ho => ?_) (fun Hf pf => ?_)⟩
    · rw [ek] at he
      obtain ⟨y, _, rfl⟩ := List.mem_map.mp he
      rw [onlyT]
    · intro y Hx N Z hy sx n1 _
      have hi : i < js.length := by
        have := (List.getElem?_eq_some_iff.mp ho).1
        rw [List.length_map] at this
        exact this
      rw [List.getElem?_map, List.getElem?_eq_getElem hi] at ho
      obtain rfl := Option.some.inj ho
      obtain ⟨jv, gj, dj⟩ := job_at (dpAll_same sx hx) hi
      rw [hy] at gj
      obtain rfl := Option.some.inj gj
      obtain ⟨a1, b1, ys, rfl, h1, h2, h3⟩ := dp_job_inv dj
      refine ⟨rfl, ?_⟩
      unfold tYes
      dsimp only
      rw [if_pos rfl]
      refine ⟨_, rfl, a1, _, 1, .ref b1, rfl, rfl, h1, atI_nat (j := 1) rfl, b1, ys, rfl, .inr h2, _, _, rfl, rfl, ?_⟩
      rw [dpAll_len h3, List.length_map]
      exact n1 _ _ Hx rfl (fun _ _ q => q) (.int _)
    · obtain ⟨sf, ys, hy, dy⟩ := pf
      rw [ek] at dy
      have ez : ys = (needM js).map V.int := by
        have gen : ∀ {H : Hp} (l : List JobM) (zs : List V), DpAll K H zs (l.map fun j => PyData.int (((j.st.length : Nat) : Int) + 1)) → zs = (needM l).map V.int := by
          intro H l
          induction l with
          | nil => intro zs h; cases h; rfl
          | cons y t ih =>
            intro zs h
            cases h with
            | cons a b =>
              cases a
              rw [ih _ b]
              rfl
        exact gen js ys dy
      rw [ez] at hy
      exact z Hf D sf hD hy
end
end Kz

namespace Kz
open PySem PySem.Spec PyProof.Rows L2 RZ Kt Kx
section
variable {P : Program} {w : World} {K : PySem.W.Frag} {mg : Str → Option Value} {base : Heap}
/-! ### some of a pool -/
abbrev nPick : List Str := ["_law_box_here", "_law_pool_so", "_law_many_so", "_law_left_so", "_law_found", "_law_lap"]
theorem scPick : FnScope nPick ["_law_box_here", "_law_pool_so", "_law_many_so"] (defScope sPick) := ⟨rfl, rfl, rfl, by decide +kernel, rfl, by decide +kernel, by decide +kernel⟩
def spPick : Sp := fun vs H Q _ => ∃ (l pl : Addr) (m : Int) (n : Nat) (xs : List Str), vs = [.ref l, .ref pl, .int (n : Nat)] ∧ BoxAt H l m ∧ m + n < 2 ^ 30 ∧ l ≠ pl ∧ H pl = some (.lst (xs.map V.str)) ∧ xs.length < 1000 ∧
  ∀ (H' : Hp) (q : Addr) (ys rest : List Str), But l H H' → H q = none → H' q = some (.lst (ys.map V.str)) → (ys ++ rest).Perm xs → ys.length = min n xs.length → BoxAt H' l (m + n) → Q (.ref q) H'
theorem er_map (f : Str → V) : ∀ (l : List Str) (k : Nat), (l.map f).eraseIdx k = (l.eraseIdx k).map f
  | [], _ => rfl
  | _ :: _, 0 => rfl
  | x :: t, k + 1 => by
    show f x :: (t.map f).eraseIdx k = f x :: (t.eraseIdx k).map f
    rw [er_map f t k]
theorem bt_min : bootBuiltins "min" = some (.builtin "min") := by decide +kernel
theorem ok_pick {f fT : Addr} {fd fdT : FuncData} {k : Nat} (F : Fun K "_law_pick" "_law_pick" sPick f fd) (T : Nat0 mg) (FT : Fun K "_law_take" "_law_take" sTake fT fdT) (bT : Binds K fdT ["_law_box_here", "_law_below_so"] []) (gT : mg "_law_take" = some (.ref fT)) :
    FnOk P w K mg base CX0 (k + 2) f fd ["_law_box_here", "_law_pool_so", "_law_many_so"] spPick := by
  have GT : FnOk P w K mg base CX0 (k + 1) fT fdT ["_law_box_here", "_law_below_so"] spTake2 := ok_take2 FT T
  refine F.ok scPick (fun vs H Q E h => ?_) (fun cdv A outer s H vs Q E hr h => ?_)
  · obtain ⟨l, pl, m, n, xs, rfl, _⟩ := h
    rfl
  · obtain ⟨l, pl, m, n, xs, rfl, hb, hm, hne, hp, few, z⟩ := h
    refine ⟨_, pss_cons (ps_par (i := 3) (j := 4) (by rfl) scPick.nd rfl rfl (by decide) rfl rfl (pa_cons (pe_callTy call_list_of (by rfl) T.list (by decide +kernel) (pa_cons (pv 1) pa_nil)) (pa_cons (pe_lst pa_nil) pa_nil)) (by rfl))
      (pss_cons (ps_for PassesOwn.never rfl (pi_range1 (by rfl) T.range (pa_cons (pe_callB (call_min2 rfl) (by rfl) T.min bt_min (pa_cons (pe_callTy call_int1 (by rfl) T.int (by decide +kernel) (pa_cons (pv 2) pa_nil)) (pa_cons (pe_callB call_len_seq (by rfl) T.len PySem.boot_len (pa_cons (pv 3) pa_nil)) pa_nil))) pa_nil)) (pg_name (i := 5) scPick.nd rfl (Or.inl rfl))
        (pss_one (ps_expr (pe_bm PySem.F.plainAttrs_list PySem.F.slot_list_append PySem.F.type_list_append mt_append (pv 4) (pa_cons (pe_bm PySem.F.plainAttrs_list PySem.F.slot_list_pop PySem.F.type_list_pop mt_popAt (pv 3)
          (pa_cons (pe_call GT hr (by rfl) gT FT.kp bT .nil pass0 (pa_cons (pv 0) (pa_cons (pe_callB call_len_seq (by rfl) T.len PySem.boot_len (pa_cons (pv 3) pa_nil)) pa_nil))) pa_nil)) pa_nil)))))
      (pss_one (ps_ret (pv 4)))), ?_⟩
    have la : ∀ {b : Addr} {o : HO}, H b = some o → ∀ {x : Addr}, H x = none → b ≠ x := fun e _ h => ne_of_none e h
    obtain ⟨b0, b1, b2, hbl, hb'⟩ := id hb
    refine ⟨_, rfl, pl, _, rfl, .inl (SqL.of hp), fun a ha => ⟨Nat.zero_le _, fun q hq => ⟨_, _, rfl, ?_⟩⟩⟩
    have haq : a ≠ q := fun e => by rw [e, upd_same] at hq; cases hq
    have hq0 : H q = none := (upd_ne haq.symm).symm.trans hq
    have nla : l ≠ a := la hbl ha
    have nlq : l ≠ q := la hbl hq0
    refine ⟨_, rfl, .inl ⟨_, rfl, _, rfl, a, _, rfl, .inl (SqL.of ((upd_ne haq).trans upd_same)), _, _, rfl, ?_⟩⟩
    rw [List.length_map]
    have em : (if ((xs.length : Nat) : Int) < ((n : Nat) : Int) then ((xs.length : Nat) : Int) else ((n : Nat) : Int)) = ((min n xs.length : Nat) : Int) := by
      by_cases c : xs.length < n
      · rw [if_pos (by omega), Nat.min_eq_right (Nat.le_of_lt c)]
      · rw [if_neg (by omega), Nat.min_eq_left (by omega)]
    rw [em]
    have lm : min n xs.length ≤ xs.length := Nat.min_le_right ..
    have ln : min n xs.length ≤ n := Nat.min_le_left ..
    refine ⟨_, rfl, by omega, by omega, ?_⟩
    rw [Int.toNat_natCast]
    refine for_range (lo := 0) (n := min n xs.length) (fun i σ H' => ∃ v5 ys left, σ = [some (.ref l), some (.ref pl), some (.int (n : Nat)), some (.ref a), some (.ref q), v5] ∧ But l H H' ∧ H' a = some (.lst (left.map V.str)) ∧ H' q = some (.lst (ys.map V.str)) ∧ (ys ++ left).Perm xs ∧ ys.length = i ∧ BoxAt H' l (m + (i : Nat)))
      ⟨none, [], xs, rfl, (But.of (new_same ha)).trans (but_new hq), (upd_ne haq).trans upd_same, upd_same, List.Perm.refl _, rfl, ⟨b0, b1, b2, by rw [upd_ne nlq, upd_ne nla]; exact hbl, by simpa using hb'⟩⟩ ?_ ?_
    · rintro i σ H' hi ⟨v5, ys, left, rfl, bt, ea, eq, pm, ly, bx⟩
      have ll : ys.length + left.length = xs.length := by rw [← List.length_append, pm.length_eq]
      have lp : 0 < left.length := by omega
      refine ⟨_, rfl, .inl ⟨rfl, _, SqL.of eq⟩, _, rfl, .inl ⟨rfl, _, SqL.of ea⟩, _, rfl, _, rfl, a, _, rfl, .inl (SqL.of ea), l, m + (i : Nat), _, rfl, bx, by omega, ?_, ?_, fun H3 d d0 d1 bt3 bx3 => ?_⟩
      · rw [List.length_map]; omega
      · rw [List.length_map]; omega
      · rw [List.length_map] at d1
        have hd : d.toNat < left.length := by omega
        have ea3 := bt3 a _ nla.symm ea
        have eq3 := bt3 q _ nlq.symm eq
        have gy : (left.map V.str)[d.toNat]? = some (.str left[d.toNat]) := by rw [List.getElem?_map, List.getElem?_eq_getElem hd]; rfl
        refine ⟨a, _, d, d.toNat, _, rfl, rfl, ea3, by omega, by omega, ?_, gy, ?_⟩
        · unfold seqIndex?
          rw [List.length_map]
          first
            | (rw [if_pos d0]; simp; omega)
            | (simp; omega)
        · refine ⟨q, _, _, rfl, rfl, (upd_ne haq.symm).trans eq3, ?_, _, ys ++ [left[d.toNat]], left.eraseIdx d.toNat, rfl, ?_, ?_, ?_, ?_, ?_, ?_⟩
          · rw [List.length_map, sizeLine_eq]; omega
          · exact fun b o nb e => by
              have nba : b ≠ a := ne_of_none e ha
              have nbq : b ≠ q := ne_of_none e hq0
              rw [upd_ne nbq, upd_ne nba]
              exact bt3 b o nb (bt b o nb e)
          · rw [upd_ne haq, upd_same]
            rw [er_map]
          · rw [upd_same, List.map_append]; rfl
          · refine List.Perm.trans ?_ pm
            rw [List.append_assoc]
            refine List.Perm.append_left ys ?_
            rw [List.singleton_append]
            exact L2.erase_perm left d.toNat _ (List.getElem?_eq_getElem hd)
          · rw [List.length_append, ly]; rfl
          · obtain ⟨c0, c1, c2, hc, hc'⟩ := bx3
            obtain ⟨hc0, hc1, hc2, hc3⟩ := hc'
            refine ⟨c0, c1, c2, (upd_ne nlq).trans ((upd_ne nla).trans hc), hc0, hc1, hc2, ?_⟩
            omega
    · rintro σ H' ⟨v5, ys, left, rfl, bt, ea, eq, pm, ly, bx⟩
      obtain ⟨c0, c1, c2, hc, hc0, hc1, hc2, hc3⟩ := bx
      exact ⟨_, rfl, z H' q ys left bt hq0 eq pm ly ⟨c0, c1, c2, hc, hc0, hc1, hc2, by omega⟩⟩
end
end Kz

namespace Kz
open PySem PySem.Spec PyProof.Rows L2 RZ Kt Kx
theorem op_notInDK {X : Cx} {K : PySem.W.Frag} (hK : X.K = K) (hu : X.A.units + 65 < cLine) : OpR X (compareOp .NotIn) (rNotInD K) := by subst hK; exact op_notInD hu
section
variable {P : Program} {w : World} {K : PySem.W.Frag} {mg : Str → Option Value} {base : Heap}
abbrev nJob : List Str := ["_law_box_here", "_law_level_so", "_law_many_so", "_law_names_so", "_law_way_so", "_law_lap", "_law_pool_so", "_law_own"]
theorem scJob : FnScope nJob ["_law_box_here", "_law_level_so", "_law_many_so", "_law_names_so"] (defScope sJob) := ⟨rfl, rfl, rfl, by decide +kernel, rfl, by decide +kernel, by decide +kernel⟩
def spJob (K : PySem.W.Frag) : Sp := fun vs H Q _ => ∃ (l nm : Addr) (m : Int) (n : Nat) (lv : Str) (ns : List Str), vs = [.ref l, .str lv, .int (n : Nat), .ref nm] ∧ BoxAt H l m ∧ m + n < 2 ^ 30 ∧ l ≠ nm ∧ H nm = some (.lst (ns.map V.str)) ∧ ns.length ≤ 100 ∧ n ≤ 100 ∧ (∀ r ∈ ns, PyData.strOk r = true) ∧
  ∀ (H' : Hp) (u : V) (st : List (Bool × Str)), But l H H' → Dp K H' u (dJob ⟨lv, st⟩) → st.Nodup → st.length ≤ n → (∀ s ∈ st, s.2 ∈ ns) → BoxAt H' l (m + n) → Q u H'
def tNot (K : PySem.W.Frag) (k : Str) : TT := tTest (tOp (rNotInD K) (tTup (tCons (tC (.str k)) (tCons (tVar 7) tNil))) (tVar 4))
theorem rd_not {k : Str} {b : Bool} (ek : k = kindS b) {σ : L2.St} {H : Hp} {Q : Bool → Hp → Prop} {r : Str} {wy : Addr} {ws : List V} {st : List (Bool × Str)} (e7 : σ[7]? = some (some (.str r))) (e4 : σ[4]? = some (some (.ref wy))) (hw : H wy = some (.lst ws)) (dw : DpAll K H ws (st.map dStep))
    (os : ∀ s ∈ st, PyData.strOk s.2 = true) (or : PyData.strOk r = true) (q : ∀ H', Same H H' → Q (!decide ((b, r) ∈ st)) H') : tNot K k σ H Q := by
  subst ek
  refine ⟨_, e7, (by show 2 ≤ sizeLine; decide), fun t ht => ⟨_, e4, ?_⟩⟩
  have s1 := new_same (o := .tup [.str (kindS b), .str r]) ht
  have ly := lay_steps os
  rw [PyData.canLay0] at ly
  have dp := dep_steps st
  rw [PyData.depth] at dp
  refine ⟨dStep (b, r), st.map dStep, .tup (SqT.of upd_same) (.cons (.str _) (.cons (.str _) .nil)), .lst (SqL.of (s1 _ _ hw)) (dpAll_same s1 dw), shaped_of (lay_step or) (dep_step (b, r)) (by decide), shaped_of (n := 2) (by rw [PyData.canLay0]; exact ly) (by rw [PyData.depth]; exact dp) (by decide), _, rfl, ?_⟩
  rw [any_step]
  exact q _ s1
def pool1 (ns : List Str) (st : List (Bool × Str)) : List (Bool × Str) := ns.filterMap fun r => if (false, r) ∈ st ∨ (true, r) ∈ st then none else some (false, r)
def pool2 (ns : List Str) (st : List (Bool × Str)) : List (Bool × Str) := ns.filterMap fun r => if (true, r) ∈ st then none else some (true, r)
theorem kept_pool {α : Type} (f : α → Option (Bool × Str)) (l : List α) : kept (l.map fun r => (f r).map dStep) = (l.filterMap f).map dStep := by
  unfold kept
  rw [List.filterMap_map]
  induction l with
  | nil => rfl
  | cons x t ih =>
    cases e : f x with
    | none =>
      rw [List.filterMap_cons_none (by show id ((f x).map dStep) = none; rw [e]; rfl), List.filterMap_cons_none e]
      exact ih
    | some y =>
      rw [List.filterMap_cons_some (by show id ((f x).map dStep) = some (dStep y); rw [e]; rfl), List.filterMap_cons_some e, List.map_cons]
      congr 1
theorem ok_job {f fO : Addr} {fd fdO : FuncData} (F : Fun K "_law_job" "_law_job" sJob f fd) (T : Nat0 mg) (GO : FnOk P w K mg base CX0 2 fO fdO ["_law_box_here", "_law_pool_so"] spOf) (kO : PySem.W.keepIn K (.ref fO) = true) (bO : Binds K fdO ["_law_box_here", "_law_pool_so"] []) (gO : mg "_law_of" = some (.ref fO)) :
    FnOk P w K mg base CX0 3 f fd ["_law_box_here", "_law_level_so", "_law_many_so", "_law_names_so"] (spJob K) := by
  refine F.ok scJob (fun vs H Q E h => ?_) (fun cdv A outer s H vs Q E hr h => ?_)
  · obtain ⟨l, nm, m, n, lv, ns, rfl, _⟩ := h
    rfl
  · obtain ⟨l, nm, m, n, lv, ns, rfl, hb, hm, hne, hn, few, few2, ok, z⟩ := h
    have hu := room65 hr
    refine ⟨_, pss_cons (ps_set (i := 4) scJob.nd rfl (Or.inr rfl) (pe_lst pa_nil))
      (pss_cons (ps_for PassesOwn.never rfl (pi_range1 (by rfl) T.range (pa_cons (pv 2) pa_nil)) (pg_name (i := 5) scJob.nd rfl (Or.inl rfl))
        (pss_cons (ps_setLc (i := 6) (own := [("_law_own", 7)]) (g := gName 7) (tt := tAnd (tNot K "read") (tNot K "write")) (te := tTup (tCons (tC (.str "read")) (tCons (tVar 7) tNil))) (by rfl) scJob.nd rfl rfl (sw_true rfl rfl rfl (by decide +kernel)) (pi_list (pv 3)) (blkOk_by (own := [("_law_own", 7)]) (N := nJob) (sc := defScope sJob) (by decide +kernel))
            (fun _ _ _ _ _ => pg_name (i := 7) scJob.nd rfl (Or.inl rfl)) (fun _ _ _ _ _ => by exact (pts_one (PW.pt (pw_and (pt_cmpR (op_notInDK (K := K) rfl hu) (pe_tup (pa_cons pe_str (pa_cons (pv 7) pa_nil))) (pv 4) (by rfl)) (pw_and1 (pt_cmpR (op_notInDK (K := K) rfl hu) (pe_tup (pa_cons pe_str (pa_cons (pv 7) pa_nil))) (pv 4) (by rfl)))))))
            (fun _ _ _ _ _ => by exact (pe_tup (pa_cons pe_str (pa_cons (pv 7) pa_nil)))))
        (pss_cons (ps_set (i := 6) scJob.nd rfl (Or.inl rfl) (pe_op op_cat (pv 6) (pe_lc (own := [("_law_own", 7)]) (g := gName 7) (tt := tNot K "write") (te := tTup (tCons (tC (.str "write")) (tCons (tVar 7) tNil))) rfl scJob.nd (pi_list (pv 3)) (blkOk_by (own := [("_law_own", 7)]) (N := nJob) (sc := defScope sJob) (by decide +kernel))
            (fun _ _ _ _ _ => pg_name (i := 7) scJob.nd rfl (Or.inl rfl)) (fun _ _ _ _ _ => by exact (pts_one (pt_cmpR (op_notInDK (K := K) rfl hu) (pe_tup (pa_cons pe_str (pa_cons (pv 7) pa_nil))) (pv 4) (by rfl)))) (fun _ _ _ _ _ => by exact (pe_tup (pa_cons pe_str (pa_cons (pv 7) pa_nil)))))))
        (pss_one (ps_if (pt_cmpR (op_neD hr.units) (pv 6) (pe_lst pa_nil) (nomark _)) (pss_one (ps_expr (pe_bm PySem.F.plainAttrs_list PySem.F.slot_list_append PySem.F.type_list_append mt_append (pv 4) (pa_cons (pe_call GO hr (by rfl) gO kO bO .nil pass0 (pa_cons (pv 0) (pa_cons (pv 6) pa_nil))) pa_nil)))) pss_nil)))))
      (pss_one (ps_ret (pe_tup (pa_cons (pv 1) (pa_cons (pe_callTy call_tuple_of (by rfl) T.tuple bt_tuple (pa_cons (pv 4) pa_nil)) pa_nil)))))), ?_⟩
    refine ⟨Nat.zero_le _, fun wy hwy => ?_⟩
    obtain ⟨b0, b1, b2, hbl, hb'⟩ := id hb
    have nlw : l ≠ wy := ne_of_none hbl hwy
    have nnw : nm ≠ wy := ne_of_none hn hwy
    refine ⟨_, rfl, ((n : Nat) : Int), rfl, by omega, by omega, ?_⟩
    rw [Int.toNat_natCast]
    refine for_range (lo := 0) (n := n) (fun i σ H' => ∃ v5 v6 v7 st ws, σ = [some (.ref l), some (.str lv), some (.int (n : Nat)), some (.ref nm), some (.ref wy), v5, v6, v7] ∧ But l H H' ∧ BoxAt H' l (m + (i : Nat)) ∧ H' wy = some (.lst ws) ∧ DpAll K H' ws (st.map dStep) ∧ st.Nodup ∧ st.length ≤ i ∧ ∀ s ∈ st, s.2 ∈ ns)
      ⟨none, none, none, [], [], rfl, But.of (new_same hwy), ⟨b0, b1, b2, (upd_ne nlw).trans hbl, by simpa using hb'⟩, upd_same, .nil, List.nodup_nil, Nat.le_refl _, fun s h => by cases h⟩ ?_ ?_
    · rintro i σ H1 hi ⟨v5, v6, v7, st, ws, rfl, bt, bx, hw, dw, nd, lst, sub⟩
      have hnm := bt nm _ (Ne.symm hne) hn
      have oks : ∀ s ∈ st, PyData.strOk s.2 = true := fun s h => ok _ (sub s h)
      have nmw : nm ≠ wy := nnw
      let f1 : Str → Option (Bool × Str) := fun r => if (false, r) ∈ st ∨ (true, r) ∈ st then none else some (false, r)
      let f2 : Str → Option (Bool × Str) := fun r => if (true, r) ∈ st then none else some (true, r)
      have l1 : (ns.map V.str).length = (ns.map fun r => (f1 r).map dStep).length := by rw [List.length_map, List.length_map]
      have l2 : (ns.map V.str).length = (ns.map fun r => (f2 r).map dStep).length := by rw [List.length_map, List.length_map]
      have p1 : ns.filterMap f1 = pool1 ns st := rfl
      have p2 : ns.filterMap f2 = pool2 ns st := rfl
      refine ⟨_, rfl, nm, rfl, ⟨_, SqL.of hnm⟩, fun D hD => lc_got (K := K) (wk_list (SqL.of hnm)) l1 hD (fun e he => ?_) (by rw [List.length_map, sizeLine_eq]; omega) (fun k o ho => ?_) (fun H2 pf => ?_)⟩
      · rw [kept_pool] at he
        obtain ⟨y, _, rfl⟩ := List.mem_map.mp he
        exact oT_step y
      · intro x Hx N Z hx sx n1 n2
        rw [List.getElem?_map] at ho hx
        cases hr' : ns[k]? with
        | none => rw [hr'] at ho; cases ho
        | some r =>
          rw [hr'] at ho hx
          obtain rfl := Option.some.inj ho
          obtain rfl := Option.some.inj hx
          have or := ok r (List.mem_of_getElem? hr')
          refine ⟨rfl, ?_⟩
          refine rd_not (b := false) (r := r) rfl rfl rfl (sx _ _ hw) (dpAll_same sx dw) oks or fun Ha sa => ?_
          by_cases c1 : (false, r) ∈ st
          · rw [decide_eq_true c1]
            exact iteF (iteF (n2 (by show (f1 r).map dStep = none; rw [show f1 r = none from if_pos (.inl c1)]; rfl) Ha sa))
          · rw [decide_eq_false c1]
            refine iteT (rd_not (b := true) (r := r) rfl rfl rfl (sa _ _ (sx _ _ hw)) (dpAll_same sa (dpAll_same sx dw)) oks or fun Hb sb => ?_)
            by_cases c2 : (true, r) ∈ st
            · rw [decide_eq_true c2]
              exact iteF (n2 (by show (f1 r).map dStep = none; rw [show f1 r = none from if_pos (.inr c2)]; rfl) Hb (sa.trans sb))
            · rw [decide_eq_false c2]
              refine iteT ⟨_, rfl, (by show 2 ≤ sizeLine; decide), fun t ht => ?_⟩
              exact n1 (dStep (false, r)) _ _ (by show (f1 r).map dStep = _; rw [show f1 r = some (false, r) from if_neg (not_or.mpr ⟨c1, c2⟩)]; rfl) ((sa.trans sb).trans (new_same ht)) (.tup (SqT.of upd_same) (.cons (.str _) (.cons (.str _) .nil)))
      · obtain ⟨s2, xs, hxs, dx⟩ := pf
        rw [kept_pool, p1] at dx
        have hnm2 := s2 _ _ hnm
        refine ⟨_, rfl, _, rfl, nm, rfl, ⟨_, SqL.of hnm2⟩, fun D2 hD2 => lc_got (K := K) (wk_list (SqL.of hnm2)) l2 hD2 (fun e he => ?_) (by rw [List.length_map, sizeLine_eq]; omega) (fun k o ho => ?_) (fun H3 pf3 => ?_)⟩
        · rw [kept_pool] at he
          obtain ⟨y, _, rfl⟩ := List.mem_map.mp he
          exact oT_step y
        · intro x Hx N Z hx sx n1 n2
          rw [List.getElem?_map] at ho hx
          cases hr' : ns[k]? with
          | none => rw [hr'] at ho; cases ho
          | some r =>
            rw [hr'] at ho hx
            obtain rfl := Option.some.inj ho
            obtain rfl := Option.some.inj hx
            have or := ok r (List.mem_of_getElem? hr')
            have s2x := s2.trans sx
            refine ⟨rfl, ?_⟩
            refine rd_not (b := true) (r := r) rfl rfl rfl (s2x _ _ hw) (dpAll_same s2x dw) oks or fun Ha sa => ?_
            by_cases c2 : (true, r) ∈ st
            · rw [decide_eq_true c2]
              exact iteF (n2 (by show (f2 r).map dStep = none; rw [show f2 r = none from if_pos c2]; rfl) Ha sa)
            · rw [decide_eq_false c2]
              refine iteT ⟨_, rfl, (by show 2 ≤ sizeLine; decide), fun t ht => ?_⟩
              exact n1 (dStep (true, r)) _ _ (by show (f2 r).map dStep = _; rw [show f2 r = some (true, r) from if_neg c2]; rfl) (sa.trans (new_same ht)) (.tup (SqT.of upd_same) (.cons (.str _) (.cons (.str _) .nil)))
        · obtain ⟨s3, ys, hys, dy⟩ := pf3
          rw [kept_pool, p2] at dy
          have mem1 : ∀ x ∈ pool1 ns st, x ∉ st ∧ x.2 ∈ ns := fun x hx => by
            obtain ⟨r, hr0, er⟩ := List.mem_filterMap.mp hx
            by_cases c : (false, r) ∈ st ∨ (true, r) ∈ st
            · rw [if_pos c] at er; cases er
            · rw [if_neg c] at er
              obtain rfl := Option.some.inj er
              exact ⟨fun q => c (.inl q), hr0⟩
          have mem2 : ∀ x ∈ pool2 ns st, x ∉ st ∧ x.2 ∈ ns := fun x hx => by
            obtain ⟨r, hr0, er⟩ := List.mem_filterMap.mp hx
            by_cases c : (true, r) ∈ st
            · rw [if_pos c] at er; cases er
            · rw [if_neg c] at er
              obtain rfl := Option.some.inj er
              exact ⟨c, hr0⟩
          have lp1 : (pool1 ns st).length ≤ ns.length := List.length_filterMap_le ..
          have lp2 : (pool2 ns st).length ≤ ns.length := List.length_filterMap_le ..
          have lxs : xs.length = (pool1 ns st).length := by rw [dpAll_len dx, List.length_map]
          have lys : ys.length = (pool2 ns st).length := by rw [dpAll_len dy, List.length_map]
          refine ⟨D, D2, xs, ys, rfl, rfl, s3 _ _ hxs, hys, by rw [lxs, lys, sizeLine_eq]; omega, fun p hp => ?_⟩
          have dapp : ∀ {H : Hp} {as bs : List V} {cs ds : List PyData}, DpAll K H as cs → DpAll K H bs ds → DpAll K H (as ++ bs) (cs ++ ds) := by
            intro H as
            induction as with
            | nil => intro bs cs ds a b; cases a; exact b
            | cons x t ih => intro bs cs ds a b; cases a with | cons a1 a2 => exact .cons a1 (ih a2 b)
          have sp := new_same (o := .lst (xs ++ ys)) hp
          have s123 := (s2.trans s3).trans sp
          have dpool : DpAll K (upd H3 p (.lst (xs ++ ys))) (xs ++ ys) ((pool1 ns st ++ pool2 ns st).map dStep) := by
            rw [List.map_append]
            exact dapp (dpAll_same (s3.trans sp) dx) (dpAll_same sp dy)
          have okp : ∀ x ∈ pool1 ns st ++ pool2 ns st, x ∉ st ∧ x.2 ∈ ns := fun x hx => (List.mem_append.mp hx).elim (mem1 x) (mem2 x)
          generalize hpl : pool1 ns st ++ pool2 ns st = pl at dpool okp
          have lpl : pl.length ≤ 200 := by rw [← hpl, List.length_append]; omega
          have lxy : (xs ++ ys).length = pl.length := by rw [dpAll_len dpool, List.length_map]
          have bx3 : BoxAt (upd H3 p (.lst (xs ++ ys))) l (m + (i : Nat)) := by
            obtain ⟨c0, c1, c2, hc, hc'⟩ := bx
            exact ⟨c0, c1, c2, s123 _ _ hc, hc'⟩
          refine ⟨_, rfl, Nat.zero_le _, fun e he => ?_⟩
          have se := new_same (o := .lst []) he
          have s4 := s123.trans se
          have ly := lay_steps (st := pl) (fun s h => ok _ (okp s h).2)
          rw [PyData.canLay0] at ly
          have dp := dep_steps pl
          rw [PyData.depth] at dp
          refine ⟨.list (pl.map dStep), .list [], .lst (SqL.of (se _ _ upd_same)) (dpAll_same se dpool), .lst (SqL.of upd_same) .nil, shaped_of (n := 2) (by rw [PyData.canLay0]; exact ly) (by rw [PyData.depth]; exact dp) (by decide), by decide +kernel, _, rfl, ?_⟩
          have bt4 : But l H (upd (upd H3 p (.lst (xs ++ ys))) e (.lst [])) := bt.trans (But.of s4)
          have bx4 : BoxAt (upd (upd H3 p (.lst (xs ++ ys))) e (.lst [])) l (m + (i : Nat)) := by
            obtain ⟨c0, c1, c2, hc, hc'⟩ := bx3
            exact ⟨c0, c1, c2, se _ _ hc, hc'⟩
          cases pl with
          | nil =>
            obtain ⟨c0, c1, c2, hc, hc0, hc1, hc2, hc3⟩ := bx4
            refine iteF ⟨_, _, _, st, ws, rfl, bt4, ⟨c0, c1, c2, hc, hc0, hc1, hc2, by omega⟩, s4 _ _ hw, dpAll_same s4 dw, nd, Nat.le_succ_of_le lst, sub⟩
          | cons y0 pt =>
            refine iteT ⟨_, rfl, .inl ⟨rfl, _, SqL.of (s4 _ _ hw)⟩, _, rfl, _, rfl, l, p, m + (i : Nat), xs ++ ys, rfl, bx4, by omega, ?_, se _ _ upd_same, ?_, by rw [lxy]; omega, fun H6 k v hv bt6 bx6 => ?_⟩
            · obtain ⟨c0, c1, c2, hc, _⟩ := bx
              exact ne_of_none ((s2.trans s3) _ _ hc) hp
            · intro q
              rw [q] at lxy
              simp at lxy
            · obtain ⟨d, hd, dd⟩ := dpAll_at (dpAll_same se dpool) hv
              rw [List.getElem?_map] at hd
              cases hk : (y0 :: pt)[k]? with
              | none => rw [hk] at hd; cases hd
              | some x =>
                rw [hk] at hd
                obtain rfl := Option.some.inj hd
                obtain ⟨nx, inx⟩ := okp x (List.mem_of_getElem? hk)
                have hbl4 : ∃ u, (upd (upd H3 p (.lst (xs ++ ys))) e (.lst [])) l = some (.lst u) := by obtain ⟨c0, c1, c2, hc, _⟩ := bx4; exact ⟨_, hc⟩
                obtain ⟨u0, hu0⟩ := hbl4
                have ts6 : TS0 K (upd (upd H3 p (.lst (xs ++ ys))) e (.lst [])) H6 := fun a zs h => by
                  rcases h with (h | ⟨o, h⟩) | h
                  · exact .inl (.inl (bt6 a _ (fun q => by rw [q, hu0] at h; cases h) h))
                  · exact .inl (.inr ⟨o, bt6 a _ (fun q => by rw [q, hu0] at h; cases h) h⟩)
                  · exact .inr h
                have hw6 := bt6 wy _ nlw.symm (s4 _ _ hw)
                have oTst : onlyTs (st.map dStep) = true := onlyTs_of fun z hz => by
                  obtain ⟨s0, _, rfl⟩ := List.mem_map.mp hz
                  exact oT_step s0
                have dw6 := dpAll_ts ts6 (dpAll_same s4 dw) oTst
                have dv6 := dp_ts ts6 dd (oT_step x)
                refine ⟨wy, ws, v, rfl, rfl, hw6, ?_, _, _, _, st ++ [x], ws ++ [v], rfl, fun a o na h => ?_, ?_, upd_same, ?_, ?_, ?_, ?_⟩
                · rw [dpAll_len dw, List.length_map, sizeLine_eq]; omega
                · have nw : a ≠ wy := ne_of_none h hwy
                  rw [upd_ne nw]
                  exact bt6 a o na (bt4 a o na h)
                · obtain ⟨c0, c1, c2, hc, hc0, hc1, hc2, hc3⟩ := bx6
                  exact ⟨c0, c1, c2, (upd_ne nlw).trans hc, hc0, hc1, hc2, by omega⟩
                · rw [List.map_append]
                  exact dpAll_snoc (dpAll_put (noTup_lst hw6) dw6 oTst) (dp_put (noTup_lst hw6) dv6 (oT_step x))
                · rw [List.nodup_append]
                  refine ⟨nd, List.nodup_cons.mpr ⟨by simp, List.nodup_nil⟩, fun a ha b hb' q => ?_⟩
                  rw [List.mem_singleton.mp hb'] at q
                  exact nx (q ▸ ha)
                · rw [List.length_append, List.length_singleton]; omega
                · intro s0 hs0
                  rcases List.mem_append.mp hs0 with q | q
                  · exact sub _ q
                  · rw [List.mem_singleton.mp q]; exact inx
    · rintro σ H1 ⟨v5, v6, v7, st, ws, rfl, bt, bx, hw, dw, nd, lst, sub⟩
      refine ⟨_, rfl, _, rfl, wy, ws, rfl, .inl ⟨SqL.of hw, fun p hp => ⟨(by show 2 ≤ sizeLine; decide), fun t ht => ?_⟩⟩⟩
      obtain ⟨c0, c1, c2, hc, hc'⟩ := bx
      have s1 := (new_same (o := .tup ws) hp)
      have s2 := s1.trans (new_same (o := .tup [V.str lv, V.ref p]) ht)
      exact z _ _ st (bt.trans (But.of s2)) (.tup (SqT.of upd_same) (.cons (.str _) (.cons (.tup (SqT.of (new_same ht _ _ upd_same)) (dpAll_same s2 dw)) .nil))) nd lst sub ⟨c0, c1, c2, s2 _ _ hc, hc'⟩
end
end Kz

namespace Kt
open PySem PySem.Spec PyProof.Rows L2
/-! ### sorted(xs), xs a list of data that are alike, of any length -/
section
variable {X : Cx}
def rSortedD (K : PySem.W.Frag) : List V → Hp → VK → Prop := fun vs H Q => ∃ (a : Addr) (xs : List V) (ds : List PyData), vs = [V.ref a] ∧ SqL K H a xs ∧ DpAll K H xs ds ∧ PySem.W.AllAlike ds ∧ PySem.W.Sortable ds ∧ ds.length ≤ sizeLine ∧ (∀ d ∈ ds, d.depth ≤ 20) ∧
  ∀ ys p, H p = none → DpAll K H ys (ds.mergeSort (PySem.W.dataLe false id)) → Q (V.ref p) (upd H p (.lst ys))
theorem sd_vals {K : PySem.W.Frag} {H : Hp} : ∀ {out : List Value} {ds : List PyData}, PySem.W.EachIs (fun v d => ∃ x, RelV x v ∧ Dp K H x d) out ds → ∃ ys, Vals ys out ∧ DpAll K H ys ds
  | _, _, .nil => ⟨[], .nil, .nil⟩
  | _, _, .cons ⟨x, r, d⟩ t => by
    obtain ⟨ys, a, b⟩ := sd_vals t
    exact ⟨x :: ys, .cons r a, .cons d b⟩
theorem sd_each {K : PySem.W.Frag} {H : Hp} : ∀ {xs : List V} {its : List Value} {ds : List PyData}, Vals xs its → DpAll K H xs ds → PySem.W.EachIs (fun v d => ∃ x, RelV x v ∧ Dp K H x d) its ds
  | _, _, _, .nil, .nil => .nil
  | _, _, _, .cons r t, .cons d u => .cons ⟨_, r, d⟩ (sd_each t u)
theorem cr_sortedD (hu : X.A.units + 65 < cLine) : CallR X (.builtin "sorted") (rSortedD X.K) := by
  intro pins s σ H vs us Q I r h
  obtain ⟨a, xs, ds, rfl, hs, hd, al, so, few, dep, q⟩ := h
  rw [Vals.ref1 r]
  obtain ⟨its, rv, pl, hz⟩ := I.list hs
  have ea := sd_each rv hd
  have er : PySem.W.EachIs (fun v d => ∃ as, Reads s.heap v (id d) as) its ds := ea.mono fun v d ⟨x, rx, dx⟩ => Dp.reads I d x v dx rx
  have em : ds.map id = ds := List.map_id ds
  refine PySem.W.sorted_data (β := PyData) (enc := id) (vs := its) pl.isList ea er (by rw [em]; exact al) (by rw [em]; exact so) few (fun d hd' => ?_) fun out ho eo => ?_
  · have := dep d hd'
    show X.A.units + 2 + d.depth < cLine
    omega
  · obtain ⟨ys, v1, v2⟩ := sd_vals eo
    obtain ⟨c, hc⟩ := PyProof.Rows.sortedAll_at s.heap its out.toArray
    have hp : s.heap.objs.size ≤ s.heap.objs.size + 1 := Nat.le_succ _
    refine ⟨.ref (s.heap.objs.size + 1), _, I.laid (t' := s.toks) (o := .lst ys) (fun b o e => PyProof.Rows.sortedAll_old e) hp ⟨?_, out, c, v1, hc⟩, rfl, q ys _ (I.hok.fresh hp) v2⟩
    rw [v1.length, ho]
    exact few
end
end Kt

namespace Kz
open PySem PySem.Spec PyProof.Rows L2
/-! ### what is new, what is away from one object -/
def newH (H H' : Hp) : Hp := fun b => match H b with
  | none => H' b
  | some _ => none
def delH (D : Addr) (H : Hp) : Hp := fun b => if b = D then none else H b
theorem newH_same {H H' : Hp} : Same (newH H H') H' := fun b o e => by
  unfold newH at e
  cases h : H b with
  | none => rw [h] at e; exact e
  | some u => rw [h] at e; cases e
theorem newH_at {H H' : Hp} {a : Addr} {o : HO} (h : H a = none) (e : H' a = some o) : newH H H' a = some o := by
  unfold newH
  rw [h]
  exact e
theorem newH_from {H H1 H2 : Hp} (s : Same H H1) : Same (newH H1 H2) (newH H H2) := fun b o e => by
  unfold newH at e ⊢
  cases h1 : H1 b with
  | some u => rw [h1] at e; cases e
  | none =>
    rw [h1] at e
    cases h : H b with
    | some u => rw [s _ _ h] at h1; cases h1
    | none => exact e
theorem newH_to {H H1 H2 : Hp} (s : Same H1 H2) : Same (newH H H1) (newH H H2) := fun b o e => by
  unfold newH at e ⊢
  cases h : H b with
  | some u => rw [h] at e; cases e
  | none => rw [h] at e; exact s _ _ e
theorem newH_new {H H' : Hp} {a : Addr} {o o2 : HO} (e : newH H H' a = some o) (h : H a = some o2) : False := by
  unfold newH at e
  rw [h] at e
  cases e
theorem delH_same {D : Addr} {H : Hp} : Same (delH D H) H := fun b o e => by
  unfold delH at e
  by_cases q : b = D
  · rw [if_pos q] at e; cases e
  · rw [if_neg q] at e; exact e
theorem delH_mono {D : Addr} {H H' : Hp} (s : Same H H') : Same (delH D H) (delH D H') := fun b o e => by
  unfold delH at e ⊢
  by_cases q : b = D
  · rw [if_pos q] at e; cases e
  · rw [if_neg q] at e ⊢; exact s _ _ e
theorem delH_of {D : Addr} {B H : Hp} (n : B D = none) (s : Same B H) : Same B (delH D H) := fun b o e => by
  unfold delH
  rw [if_neg (ne_of_none e n)]
  exact s _ _ e
theorem delH_upd {D : Addr} {H : Hp} {o : HO} : delH D (upd H D o) = delH D H := funext fun b => by
  unfold delH
  by_cases q : b = D
  · rw [if_pos q, if_pos q]
  · rw [if_neg q, if_neg q, upd_ne q]
theorem delH_D {D : Addr} {H : Hp} : delH D H D = none := if_pos rfl
theorem newH_del {H H' : Hp} {D : Addr} {o : HO} (h : H D = some o) : Same (newH H H') (delH D H') := fun b u e => by
  unfold delH
  by_cases q : b = D
  · subst q; exact (newH_new e h).elim
  · rw [if_neg q]; exact newH_same _ _ e
theorem same_upd {B H : Hp} {D : Addr} {o : HO} (n : B D = none) (s : Same B H) : Same B (upd H D o) := fun b u e => (upd_ne (ne_of_none e n)).trans (s _ _ e)
/-! ### the reading of a comprehension of one walk, by an invariant -/
theorem lc_wk {K : PySem.W.Frag} {J : It} {H0 : Hp} {n : Nat} {R : Nat → V → Hp → Prop} {D : Addr} {g : TG} {tt : TT} {te : TE} {vs : List Nat} {σ : L2.St} {Qd : Hp → Prop} (wk : Wk J H0 n R) (Pv : Nat → Hp → Prop) (h0 : Pv 0 (upd H0 D (.lst []))) (st : ∀ i H, Pv i H → Same H0 H)
    (hs : ∀ i x H H', i < n → Pv i H → Same H H' → R i x H' → g x (wipe σ vs) H' fun σ2 H2 => wipe σ2 vs = wipe σ vs ∧ tt σ2 H2 fun b H3 => if b = true then te σ2 H3 fun y H4 => ∃ acc, H4 D = some (.lst acc) ∧ acc.length < sizeLine ∧ Pv (i + 1) (upd H4 D (.lst (acc ++ [y]))) else Pv (i + 1) H3)
    (fin : ∀ H, Pv n H → Qd H) :
    ∃ W : Nat → Nat → Hp → Prop, (∃ m, W 0 m (upd H0 D (.lst []))) ∧ ∀ i m H, W i m H → (J.stop i H ∧ Qd H) ∨ (J.go i H ∧ ∃ Nx : Hp → Prop, (∀ H', Nx H' → ∃ m', m' < m ∧ W (i + 1) m' H') ∧ ∀ x H', J.yld i H x H' →
      g x (wipe σ vs) H' fun σ2 H2 => wipe σ2 vs = wipe σ vs ∧ tt σ2 H2 fun b H3 => if b = true then te σ2 H3 fun y H4 => ∃ acc, H4 D = some (.lst acc) ∧ acc.length < sizeLine ∧ Nx (upd H4 D (.lst (acc ++ [y]))) else Nx H3) := by
  refine ⟨fun i m H => m = n - i ∧ i ≤ n ∧ Pv i H, ⟨n, rfl, Nat.zero_le _, h0⟩, ?_⟩
  rintro i m H ⟨rfl, hi, p⟩
  by_cases hlt : i < n
  · refine .inr ⟨wk.go i H (st i H p) hlt, Pv (i + 1), fun H' q => ⟨n - (i + 1), by omega, rfl, hlt, q⟩, fun x H' y => ?_⟩
    obtain ⟨s1, r1⟩ := wk.yld i H x H' (st i H p) hlt y
    exact hs i x H H' hlt p s1 r1
  · have e : i = n := by omega
    subst e
    exact .inl ⟨wk.stop H (st _ H p), fin H p⟩
/-! ### .. of any data, away from the list that is made -/
def GotD (K : PySem.W.Frag) (H0 : Hp) (D : Addr) (ds : List PyData) (H : Hp) : Prop := Same H0 H ∧ ∃ ys, H D = some (.lst ys) ∧ DpAll K (delH D H) ys ds
def TurnD (K : PySem.W.Frag) (H0 : Hp) (D : Addr) (g : TG) (tt : TT) (te : TE) (vs : List Nat) (σ : L2.St) (R : V → Hp → Prop) (o : Option PyData) : Prop := ∀ (x : V) (H : Hp) (N : V → Hp → Prop) (Z : Hp → Prop), R x H → Same H0 H → (∃ l, H D = some (.lst l)) →
  (∀ e y H4, o = some e → Same H H4 → Dp K (delH D H4) y e → N y H4) → (o = none → ∀ H3, Same H H3 → Z H3) →
  g x (wipe σ vs) H fun σ2 H2 => wipe σ2 vs = wipe σ vs ∧ tt σ2 H2 fun b H3 => if b = true then te σ2 H3 N else Z H3
theorem lc_gotD {K : PySem.W.Frag} {J : It} {H0 : Hp} {n : Nat} {R : Nat → V → Hp → Prop} {D : Addr} {os : List (Option PyData)} {g : TG} {tt : TT} {te : TE} {vs : List Nat} {σ : L2.St} {Qd : Hp → Prop} (wk : Wk J H0 n R) (len : n = os.length) (hD : H0 D = none) (few : os.length < sizeLine)
    (t : ∀ (i : Nat) (o : Option PyData), os[i]? = some o → TurnD K H0 D g tt te vs σ (R i) o) (fin : ∀ H, GotD K H0 D (kept os) H → Qd H) :
    ∃ W : Nat → Nat → Hp → Prop, (∃ m, W 0 m (upd H0 D (.lst []))) ∧ ∀ i m H, W i m H → (J.stop i H ∧ Qd H) ∨ (J.go i H ∧ ∃ Nx : Hp → Prop, (∀ H', Nx H' → ∃ m', m' < m ∧ W (i + 1) m' H') ∧ ∀ x H', J.yld i H x H' →
      g x (wipe σ vs) H' fun σ2 H2 => wipe σ2 vs = wipe σ vs ∧ tt σ2 H2 fun b H3 => if b = true then te σ2 H3 fun y H4 => ∃ acc, H4 D = some (.lst acc) ∧ acc.length < sizeLine ∧ Nx (upd H4 D (.lst (acc ++ [y]))) else Nx H3) := by
  refine lc_wk (K := K) wk (fun i H => GotD K H0 D (kept (os.take i)) H) ⟨new_same hD, [], upd_same, by simpa [kept] using DpAll.nil⟩ (fun i H p => p.1) (fun i x H H' hi p s r => ?_) (fun H p => fin H (by rw [len, List.take_length] at p; exact p))
  obtain ⟨o, ho⟩ := os_at len hi
  obtain ⟨s0, ys, hy, hd⟩ := p
  have tk : os.take (i + 1) = os.take i ++ [o] := by rw [List.take_add_one, ho]; rfl
  refine t i o ho x H' _ _ r (s0.trans s) ⟨ys, s _ _ hy⟩ (fun e y H4 eo s4 d4 => ?_) (fun eo H3 s3 => ?_)
  · subst eo
    have hy4 := s4 _ _ (s _ _ hy)
    refine ⟨ys, hy4, ?_, same_upd hD ((s0.trans s).trans s4), ys ++ [y], upd_same, ?_⟩
    · rw [dpAll_len hd]
      refine Nat.lt_of_le_of_lt (List.length_filterMap_le ..) (Nat.lt_of_le_of_lt ?_ few)
      rw [List.length_take]
      exact Nat.min_le_right ..
    · rw [delH_upd, tk, kept, List.filterMap_append]
      exact dpAll_snoc (dpAll_same (delH_mono (s.trans s4)) hd) d4
  · subst eo
    refine ⟨(s0.trans s).trans s3, ys, s3 _ _ (s _ _ hy), ?_⟩
    rw [tk, kept, List.filterMap_append]
    simpa using dpAll_same (delH_mono (s.trans s3)) hd
end Kz

namespace Kt
open PySem PySem.Spec PyProof.Rows L2
/-! ### tuples of the heap of which it is known that they are plain: their methods can be called -/
def PlT (o : Obj) : Prop := o.cls = .type "tuple" ∧ o.dict = none
def TupF (H : Hp) (a : Addr) (xs : List V) : Prop := ∃ o, H a = some (.frz o (.tup xs)) ∧ PlT o
theorem TupF.sq {K : PySem.W.Frag} {H : Hp} {a : Addr} {xs : List V} (h : TupF H a xs) : SqT K H a xs := by
  obtain ⟨o, e, _⟩ := h
  exact .inl (.inr ⟨o, e⟩)
theorem TupF.same {H H' : Hp} {a : Addr} {xs : List V} (h : TupF H a xs) (s : ∀ b o, H b = some o → H' b = some o) : TupF H' a xs := by
  obtain ⟨o, e, p⟩ := h
  exact ⟨o, s _ _ e, p⟩
theorem plT_new (xs : Array Value) : PlT { cls := .type "tuple", data := .seq xs } := ⟨rfl, rfl⟩
section
variable {X : Cx}
def tTupF (t : TA) : TE := fun σ H Q => t σ H fun xs H1 => xs.length ≤ sizeLine ∧ ∀ p o, H1 p = none → PlT o → Q (.ref p) (upd H1 p (.frz o (.tup xs)))
theorem pe_tupF {es : List Expr} {t : TA} {pos : Pos} {x1} (h : PA X es t) : PE X (.Tuple es x1 pos) (tTupF t) := by
  refine ⟨fun pins s σ H Q I hq => ?_⟩
  refine wpAny_Tuple_spliced (thn (h.run pos pins s σ H _ I hq) fun us s1 ⟨xs, H1, I1, r, z, q⟩ => ⟨by rw [← r.length]; exact z, ?_⟩)
  have hf : H1 s1.heap.objs.size = none := I1.hok.fresh (Nat.le_refl _)
  refine ⟨.ref s1.heap.objs.size, _, I1.laid (o := .frz { cls := .type "tuple", data := .seq us.toArray } (.tup xs)) (t' := s1.toks) (fun b u e => Heap.get?_push_of_some _ e) (Nat.le_refl _) ?_, rfl, q _ _ hf (plT_new _)⟩
  exact ⟨Heap.get?_push_size _ rfl, z, us, r, ⟨_, Heap.get?_push_size _ rfl, rfl, _, rfl⟩⟩
def rCatF (K : PySem.W.Frag) : R2 := fun x y H Q => ∃ a b xs ys, x = .ref a ∧ y = .ref b ∧ SqT K H a xs ∧ SqT K H b ys ∧ xs.length + ys.length ≤ sizeLine ∧
  (xs = [] → Q (.ref b) H) ∧ (xs ≠ [] → ys = [] → Q (.ref a) H) ∧ (xs ≠ [] → ys ≠ [] → ∀ p o, H p = none → PlT o → Q (.ref p) (upd H p (.frz o (.tup (xs ++ ys)))))
theorem op_catF : OpR X (binaryOp .Add) (rCatF X.K) := by
  intro pins s σ H x y v u Q I rx ry h
  obtain ⟨a, b, xs, ys, rfl, rfl, ha, hb, hz, q0, q1, q2⟩ := h
  cases rx
  cases ry
  obtain ⟨its, r1, p1, _⟩ := I.tuple ha
  obtain ⟨its2, r2, p2, _⟩ := I.tuple hb
  by_cases hx : xs = []
  · subst hx
    cases r1
    exact L2.cat_tup0 p1 p2 ⟨.ref b, H, I, rfl, q0 rfl⟩
  · refine HT.cat_tup p1 p2 (fun z => hx (r1.nil_iff.mp z)) (fun z => ⟨.ref a, H, I, rfl, q1 hx (r2.nil_iff.mp z)⟩) (fun z => ?_) (by rw [← r1.length, ← r2.length]; exact hz)
    refine ⟨.ref s.heap.objs.size, _, I.laid (t' := s.toks) (o := .frz { cls := .type "tuple", data := .seq (its ++ its2).toArray } (.tup (xs ++ ys))) (fun b ob q => Heap.get?_push_of_some _ q) (Nat.le_refl _) ?_, rfl, q2 hx (fun w => z (r2.nil_iff.mpr w)) _ _ (I.hok.fresh (Nat.le_refl _)) (plT_new _)⟩
    exact ⟨Heap.get?_push_size _ rfl, by rw [List.length_append]; exact hz, _, r1.append r2, IsTup.new _ _⟩
def rSlF (K : PySem.W.Frag) : V → Option Int → Option Int → Hp → VK → Prop := fun x lo hi H Q => ∃ a xs, x = .ref a ∧ SqT K H a xs ∧
  (HT.sIx xs.length 0 lo = 0 ∧ HT.sIx xs.length xs.length hi = xs.length → Q (.ref a) H) ∧ (¬ (HT.sIx xs.length 0 lo = 0 ∧ HT.sIx xs.length xs.length hi = xs.length) → ∀ p o, H p = none → PlT o → Q (.ref p) (upd H p (.frz o (.tup (cutV xs lo hi)))))
theorem sl_tupF : SlR X (rSlF X.K) := by
  intro pins s σ H x v vl vu lo hi sl Q I rx hs pl pu h
  obtain ⟨a, xs, rfl, hx, q1, q2⟩ := h
  cases rx
  obtain ⟨its, r, ht, hz⟩ := I.tuple hx
  have hlen : its.toArray.size = xs.length := by rw [List.size_toArray]; exact r.length.symm
  refine ⟨"tuple", _, PyProof.Rows.slot_tuple_getitem.lookup, ht.typeIs, ?_⟩
  by_cases hw : HT.sIx xs.length 0 lo = 0 ∧ HT.sIx xs.length xs.length hi = xs.length
  · exact getItem_tuple_whole ht hs pl pu (by rw [hlen]; exact hw) ⟨.ref a, H, I, rfl, q1 hw⟩
  · refine HT.getItem_tuple_cut ht hs pl pu (by rw [hlen]; exact hw) ?_ (by rw [hlen]; exact hz)
    rw [hlen]
    refine ⟨.ref s.heap.objs.size, _, I.laid (t' := s.toks) (o := .frz { cls := .type "tuple", data := .seq ((its.drop (HT.sIx xs.length 0 lo)).take (HT.sIx xs.length xs.length hi - HT.sIx xs.length 0 lo)).toArray } (.tup (cutV xs lo hi))) (fun b ob q => Heap.get?_push_of_some _ q) (Nat.le_refl _) ?_, rfl, q2 hw _ _ (I.hok.fresh (Nat.le_refl _)) (plT_new _)⟩
    exact ⟨Heap.get?_push_size _ rfl, Nat.le_trans (cutV_length xs lo hi) hz, _, (r.drop (HT.sIx xs.length 0 lo)).take (HT.sIx xs.length xs.length hi - HT.sIx xs.length 0 lo), IsTup.new _ _⟩
/-- a method of such a tuple -/
def tBMF (r : V → List V → Hp → VK → Prop) (to : TE) (t : TA) : TE := fun σ H Q => to σ H fun x H1 => (∃ a xs, x = .ref a ∧ TupF H1 a xs) ∧ t σ H1 fun xs H2 => r x xs H2 Q
variable {o e : Expr} {es : List Expr} {to : TE} {t : TA} {name : Str} {apos cpos : Pos} {id : String} {r : V → List V → Hp → VK → Prop}
theorem pe_bmF (slot : Slot "tuple" name id) (hty : typeOf (.builtin id) = pure (.type "method_descriptor")) (hm : MtR X id r) (ho : PE X o to) (ha : PA X (e :: es) t)
    (hbase : attributeBase o name X.env (eval o X.env) = eval o X.env := by rfl)
    (hfew : ((backTo cpos (starEach (e :: es) X.env)).all (fun x => !x.1) && (backToKw cpos (keywordEach [] X.env)).all (fun x => x.1.isSome)
      && decide ((e :: es).length + ([] : List Keyword).length + (if ([] : List Keyword).isEmpty then 0 else 1) < 30)) = true := by rfl)
    (hline : (apos.endLine == cpos.line) = true := by rfl) (hs : starEach (e :: es) X.env = (false, eval e X.env) :: starEach es X.env := by rfl) (hplain : (backTo cpos (starEach es X.env)).any (·.1) = false := by rfl) :
    PE X (.Call (.Attribute o name apos) (e :: es) [] cpos) (tBMF r to t) := by
  refine ⟨fun pins s σ H Q I h => ?_⟩
  refine wpAny_Call_method_late hbase hfew hline rfl (thn (ho.run pins s σ H _ I h) fun v s1 ⟨x, H1, I1, r1, ty, q1⟩ => ?_)
  obtain ⟨a, ys, rfl, oo, ho2, pl⟩ := ty
  cases r1
  have hob : s1.heap.get? a = some oo := (I1.hok a _ ho2).1
  refine ⟨"tuple", id, PySem.F.plainAttrs_tuple, slot, hty, ⟨oo, hob, pl.1⟩, fun b e => ?_, ?_⟩
  · cases e
    exact ⟨oo, hob, pl.2⟩
  have hA := ha.run cpos pins s1 σ H1 _ I1 q1
  rw [hs] at hA ⊢
  refine Calls.callWith_builtin (by show (false || (backTo cpos (starEach es X.env)).any (·.1)) = false; rw [hplain] <;> rfl) (Calls.evalArgs_plain ?_)
  exact thn hA fun us s2 ⟨vs, H2, I2, r2, q2⟩ => hm pins s2 σ H2 (V.ref a) vs (Value.ref a) us Q I2 rfl r2 q2
theorem mt_tcountK {K : PySem.W.Frag} (hK : X.K = K) : MtR X "tuple.count" (rCntT K) := by subst hK; exact mt_tcount
theorem op_catFK {K : PySem.W.Frag} (hK : X.K = K) : OpR X (binaryOp .Add) (rCatF K) := by subst hK; exact op_catF
end
end Kt

namespace Kz
open PySem PySem.Spec PyProof.Rows L2
/-! ### a comprehension whose items are new lists of data without lists -/
structure LL (K : PySem.W.Frag) (D : Addr) (H : Hp) (bs : List Addr) (ls : List (List V)) (dss : List (List PyData)) : Prop where
  lb : bs.length = dss.length
  ll : ls.length = dss.length
  at_ : ∀ (i : Nat) (b : Addr), bs[i]? = some b → b ≠ D ∧ ∃ xs ds, ls[i]? = some xs ∧ dss[i]? = some ds ∧ H b = some (.lst xs) ∧ DpAll K H xs ds
def GotLL (K : PySem.W.Frag) (H0 : Hp) (D : Addr) (dss : List (List PyData)) (H : Hp) : Prop := Same H0 H ∧ ∃ bs ls, H D = some (.lst (bs.map V.ref)) ∧ LL K D H bs ls dss
theorem LL.same {K : PySem.W.Frag} {D : Addr} {H H' : Hp} {bs : List Addr} {ls : List (List V)} {dss : List (List PyData)} (h : LL K D H bs ls dss) (s : Same H H') : LL K D H' bs ls dss := ⟨h.lb, h.ll, fun i b hb => by
  obtain ⟨n, xs, ds, e1, e2, e3, e4⟩ := h.at_ i b hb
  exact ⟨n, xs, ds, e1, e2, s _ _ e3, dpAll_same s e4⟩⟩
theorem LL.put {K : PySem.W.Frag} {D : Addr} {H : Hp} {bs : List Addr} {ls : List (List V)} {dss : List (List PyData)} {o : HO} (h : LL K D H bs ls dss) (nt : NoTup H D) (ot : ∀ ds ∈ dss, onlyTs ds = true) : LL K D (upd H D o) bs ls dss := ⟨h.lb, h.ll, fun i b hb => by
  obtain ⟨n, xs, ds, e1, e2, e3, e4⟩ := h.at_ i b hb
  exact ⟨n, xs, ds, e1, e2, (upd_ne n).trans e3, dpAll_put nt e4 (ot ds (List.mem_of_getElem? e2))⟩⟩
theorem LL.snoc {K : PySem.W.Frag} {D : Addr} {H : Hp} {bs : List Addr} {ls : List (List V)} {dss : List (List PyData)} {b : Addr} {xs : List V} {ds : List PyData} (h : LL K D H bs ls dss) (n : b ≠ D) (hb : H b = some (.lst xs)) (hd : DpAll K H xs ds) : LL K D H (bs ++ [b]) (ls ++ [xs]) (dss ++ [ds]) :=
  ⟨by simp [h.lb], by simp [h.ll], fun i b' hb' => by
    rw [List.getElem?_append] at hb'
    by_cases c : i < bs.length
    · rw [if_pos c] at hb'
      obtain ⟨n, xs', ds', e1, e2, e3, e4⟩ := h.at_ i b' hb'
      refine ⟨n, xs', ds', ?_, ?_, e3, e4⟩
      · rw [List.getElem?_append_left (by rw [h.ll, ← h.lb]; exact c)]; exact e1
      · rw [List.getElem?_append_left (by rw [← h.lb]; exact c)]; exact e2
    · rw [if_neg c] at hb'
      have : i - bs.length = 0 := by
        have := (List.getElem?_eq_some_iff.mp hb').1
        simp at this
        omega
      rw [this] at hb'
      obtain rfl := Option.some.inj hb'
      have ei : i = bs.length := by omega
      subst ei
      refine ⟨n, xs, ds, ?_, ?_, hb, hd⟩
      · rw [List.getElem?_append_right (by rw [h.ll, h.lb]; exact Nat.le_refl _), h.ll, h.lb, Nat.sub_self]; rfl
      · rw [List.getElem?_append_right (by rw [h.lb]; exact Nat.le_refl _), h.lb, Nat.sub_self]; rfl⟩
theorem dpAll_app {K : PySem.W.Frag} {H : Hp} : ∀ {as bs : List V} {cs ds : List PyData}, DpAll K H as cs → DpAll K H bs ds → DpAll K H (as ++ bs) (cs ++ ds)
  | _, _, _, _, .nil, b => b
  | _, _, _, _, .cons a r, b => .cons a (dpAll_app r b)
theorem LL.flat {K : PySem.W.Frag} {D : Addr} {H : Hp} : ∀ {bs : List Addr} {ls : List (List V)} {dss : List (List PyData)}, LL K D H bs ls dss → DpAll K H ls.flatten dss.flatten
  | [], ls, dss, h => by
    have e1 : dss = [] := List.length_eq_zero_iff.mp h.lb.symm
    subst e1
    have e2 : ls = [] := List.length_eq_zero_iff.mp h.ll
    subst e2
    exact .nil
  | b :: bs, ls, dss, h => by
    obtain ⟨n, xs, ds, e1, e2, e3, e4⟩ := h.at_ 0 b rfl
    cases ls with
    | nil => cases e1
    | cons x lt =>
      cases dss with
      | nil => cases e2
      | cons d dt =>
        obtain rfl := Option.some.inj e1
        obtain rfl := Option.some.inj e2
        have t : LL K D H bs lt dt := ⟨Nat.succ.inj h.lb, Nat.succ.inj h.ll, fun i b' hb' => by
          obtain ⟨m, xs', ds', g1, g2, g3, g4⟩ := h.at_ (i + 1) b' hb'
          exact ⟨m, xs', ds', g1, g2, g3, g4⟩⟩
        rw [List.flatten_cons, List.flatten_cons]
        exact dpAll_app e4 t.flat
def TurnL (K : PySem.W.Frag) (H0 : Hp) (D : Addr) (g : TG) (tt : TT) (te : TE) (vs : List Nat) (σ : L2.St) (R : V → Hp → Prop) (ds : List PyData) : Prop := ∀ (x : V) (H : Hp) (N : V → Hp → Prop) (Z : Hp → Prop), R x H → Same H0 H → (∃ l, H D = some (.lst l)) →
  (∀ b xs H4, Same H H4 → b ≠ D → H4 b = some (.lst xs) → DpAll K H4 xs ds → N (.ref b) H4) →
  g x (wipe σ vs) H fun σ2 H2 => wipe σ2 vs = wipe σ vs ∧ tt σ2 H2 fun b H3 => if b = true then te σ2 H3 N else Z H3
theorem lc_gotLL {K : PySem.W.Frag} {J : It} {H0 : Hp} {n : Nat} {R : Nat → V → Hp → Prop} {D : Addr} {dss : List (List PyData)} {g : TG} {tt : TT} {te : TE} {vs : List Nat} {σ : L2.St} {Qd : Hp → Prop} (wk : Wk J H0 n R) (len : n = dss.length) (hD : H0 D = none) (ot : ∀ ds ∈ dss, onlyTs ds = true) (few : dss.length < sizeLine)
    (t : ∀ (i : Nat) (ds : List PyData), dss[i]? = some ds → TurnL K H0 D g tt te vs σ (R i) ds) (fin : ∀ H, GotLL K H0 D dss H → Qd H) :
    ∃ W : Nat → Nat → Hp → Prop, (∃ m, W 0 m (upd H0 D (.lst []))) ∧ ∀ i m H, W i m H → (J.stop i H ∧ Qd H) ∨ (J.go i H ∧ ∃ Nx : Hp → Prop, (∀ H', Nx H' → ∃ m', m' < m ∧ W (i + 1) m' H') ∧ ∀ x H', J.yld i H x H' →
      g x (wipe σ vs) H' fun σ2 H2 => wipe σ2 vs = wipe σ vs ∧ tt σ2 H2 fun b H3 => if b = true then te σ2 H3 fun y H4 => ∃ acc, H4 D = some (.lst acc) ∧ acc.length < sizeLine ∧ Nx (upd H4 D (.lst (acc ++ [y]))) else Nx H3) := by
  refine lc_wk (K := K) wk (fun i H => GotLL K H0 D (dss.take i) H) ⟨new_same hD, [], [], upd_same, rfl, rfl, fun i b h => by simp at h⟩ (fun i H p => p.1) (fun i x H H' hi p s r => ?_) (fun H p => fin H (by rw [len, List.take_length] at p; exact p))
  obtain ⟨s0, bs, ls, hy, L⟩ := p
  have hi' : i < dss.length := len ▸ hi
  have ho : dss[i]? = some dss[i] := List.getElem?_eq_getElem hi'
  have tk : dss.take (i + 1) = dss.take i ++ [dss[i]] := by rw [List.take_add_one, ho]; rfl
  refine t i _ ho x H' _ _ r (s0.trans s) ⟨_, s _ _ hy⟩ (fun b xs H4 s4 nb hb hd => ?_)
  have hy4 := s4 _ _ (s _ _ hy)
  have L4 := L.same (s.trans s4)
  refine ⟨_, hy4, ?_, same_upd hD ((s0.trans s).trans s4), bs ++ [b], ls ++ [xs], ?_, ?_⟩
  · rw [List.length_map, L4.lb, List.length_take]
    exact Nat.lt_of_le_of_lt (Nat.min_le_right ..) few
  · rw [upd_same, List.map_append]; rfl
  · rw [tk]
    exact (L4.snoc nb hb hd).put (noTup_lst hy4) (fun ds hds => by
      rcases List.mem_append.mp hds with q | q
      · exact ot ds (List.mem_of_mem_take q)
      · rw [List.mem_singleton.mp q]; exact ot _ (List.getElem_mem hi'))
end Kz

namespace Kt
open PySem PySem.Spec PyProof.Rows L2
/-! ### enumerate of a tuple -/
theorem meets_enumB {v : Value} {o : Obj} {H : Heap → Prop} (B : Begins v o H) :
    Meets (Builtin.«enumerate.__new__» ⟨[.type "enumerate", v], []⟩) (fun _ R s => H s.heap ∧
      R (.ok (.ret (.ref (s.heap.push o).objs.size))) { s with heap := (s.heap.push o).push { cls := .type "enumerate", data := .fields #[.none, .bool false, .ref s.heap.objs.size, rawInt 0, .none, .none] } }) :=
  .of_wp fun prog w A R s h => by
    obtain ⟨hp, g, d, tk, os⟩ := s; obtain ⟨h1, h⟩ := h
    have hsub := sub_enumerate
    have q1 : ∀ {A' : Around} {E : Value → Shared → Prop} {Q : Value → Shared → Prop}, Q (.ref hp.objs.size) ⟨hp.push o, g, d, tk, os⟩ → wpAny (model prog w) A' (pyIter v) Q E ⟨hp, g, d, tk, os⟩ :=
      fun q => B.iter prog w _ _ ⟨hp, g, d, tk, os⟩ _ h1 q
    wp_walk using q1
    refine wpAny_stack_any fun st => wpAny_pure ?_
    split
    · rename_i c _ _ _ _ _
      cases (c == Value.type "enumerate")
      · wp_walk using q1
        exact ⟨_, rfl, h⟩
      · wp_walk using q1
        exact ⟨_, rfl, h⟩
    · wp_walk using q1
      exact ⟨_, rfl, h⟩
section
variable {prog : Program} {w : World} {A : Around} {E : Value → Shared → Prop} {s : Shared}
theorem call_enumB {v : Value} {o : Obj} {H : Heap → Prop} {Q : Value → Shared → Prop} (B : Begins v o H) (h1 : H s.heap)
    (h : ∀ h', IsEnum h' (s.heap.objs.size + 1) s.heap.objs.size 0 .none → h'.get? s.heap.objs.size = some o → h'.objs.size = s.heap.objs.size + 2 →
      (∀ b o, s.heap.get? b = some o → h'.get? b = some o) → Q (.ref (s.heap.objs.size + 1)) { s with heap := h' }) :
    wpAny (model prog w) A (call (.type "enumerate") [v]) Q E s := by
  refine callType_new F.called_enumerate (by decide) (F.typeCall_enumerate_1 _) (F.newCall_enumerate_1 _) (fun obj => F.args_object_init_2 obj _) F.entry_enumerate_new
    (meets_enumB B) ⟨h1, ?_⟩
  have hz : (s.heap.push o).objs.size = s.heap.objs.size + 1 := Heap.size_push ..
  show _ ∧ _
  rw [hz]
  have he : IsEnum ((s.heap.push o).push { cls := .type "enumerate", data := .fields #[.none, .bool false, .ref s.heap.objs.size, rawInt 0, .none, .none] }) (s.heap.objs.size + 1) s.heap.objs.size 0 .none := by
    have := Heap.get?_push_size (s.heap.push o) (o := { cls := .type "enumerate", data := .fields #[.none, .bool false, .ref s.heap.objs.size, rawInt 0, .none, .none] }) rfl
    rw [hz] at this; exact this
  refine ⟨⟨_, he, rfl⟩, h _ he (Heap.get?_push_of_some _ (Heap.get?_push_size _ B.free)) (by rw [Heap.size_push, hz]) fun b o x => Heap.get?_push_of_some _ (Heap.get?_push_of_some _ x)⟩
end
/-- the tuple at a as it stands at each turn, each item in a new pair -/
def IteT (K : PySem.W.Frag) (a : Addr) : It :=
  ⟨fun i H => ∃ (xs : List V) (x : V), SqT K H a xs ∧ xs[i]? = some x, fun i H v H' => ∃ T x, v = .ref T ∧ H T = none ∧ H' = upd H T (.tup [.int (i : Nat), x]) ∧ ∀ xs, SqT K H a xs → xs[i]? = some x, fun i H => ∃ xs : List V, SqT K H a xs ∧ xs.length ≤ i⟩
theorem turn_enumT {P : Program} {w : World} {K : PySem.W.Frag} {elts : List Expr} {kk : Nat} {tpos : Pos} (a e it : Addr) (hai : a ≠ it) (hae : a ≠ e) :
    Turn P w K (.Tuple elts kk tpos) (IteT K a) [e, it] e (fun i h => (∃ old, IsEnum h e it ((i : Nat) : Int) old) ∧ h.IsTupleIter it a i ∧ e ≠ it) where
  mem := by simp
  obj := fun i h st b hb => by
    obtain ⟨⟨old, he⟩, ⟨o, ho, hc, hd⟩, _⟩ := st
    have e' : b = e ∨ b = it := by simpa using hb
    rcases e' with z | z
    · rw [z]; exact ⟨_, he, fun v q => nomatch q⟩
    · rw [z]; exact ⟨o, ho, fun v q => by rw [hd] at q; cases q⟩
  keep := fun i h h' st k => let ⟨⟨old, he⟩, hi, hne⟩ := st; ⟨⟨old, k e (by simp) _ he⟩, hi.at fun o q => k it (by simp) o q, hne⟩
  item := by
    intro X hP hw hK hc i pins s σ H E I hf st hg
    subst hP hw hK
    obtain ⟨⟨old, he⟩, hit, hne⟩ := st
    obtain ⟨xs, x, hq, hx⟩ := hg
    obtain ⟨its, rv, p, hz⟩ := I.tuple hq
    obtain ⟨u, hu, ru⟩ := rv.get hx
    have hel : e < s.heap.objs.size := Heap.lt_size he
    have hil : it < s.heap.objs.size := by obtain ⟨_, q, _⟩ := hit; exact Heap.lt_size q
    have pt : s.heap.IsTuple a its.toArray := p
    have hi : i < its.toArray.size := by
      have := (List.getElem?_eq_some_iff.mp hu).1
      simpa using this
    refine wpAny_pyNext_enum_itemD (Draws.tuple (A := X.A.in1) (I.ok.hd hc) it a hai its.toArray) he ⟨hit, pt⟩ hi hne (by simp [hne]; exact fun z => hae z.symm) fun y h' tk hy ho hst hT hsz hk => ?_
    have ey : y = u := by
      have : its.toArray[i]? = some u := by simpa using hu
      rw [this] at hy
      exact (Option.some.inj hy).symm
    subst ey
    refine ⟨_, rfl, wpAny_letOwnedTupleGo_enum (s := { s with heap := h', toks := tk + 1 }) ho fun h'' he' sb => ?_⟩
    have hT2 : h''.get? s.heap.objs.size = some { cls := .type "tuple", data := .seq #[.int i tk, y] } := (sb.2 _ (Nat.ne_of_gt hel)).trans hT
    have new : ObjOk X.prog X.w (upd H s.heap.objs.size (.tup [.int (i : Nat), x])) h'' s.heap.objs.size (.tup [.int (i : Nat), x]) :=
      ⟨by show 2 ≤ sizeLine; decide, [.int i tk, y], .cons ⟨_, rfl⟩ (.cons ru .nil), ⟨_, hT2, rfl, _, rfl⟩⟩
    have I1 : Inv X pins σ (upd H s.heap.objs.size (.tup [.int (i : Nat), x])) { s with heap := h'', toks := tk + 1 } :=
      I.turnedNew (ch := [e, it]) (fun b ob hb q => (sb.2 b (fun z => hb (by simp [z]))).trans (hk b ob (fun z => hb (by simp [z])) (fun z => hb (by simp [z])) q)) hf (Nat.le_refl _) new
    refine ⟨.ref s.heap.objs.size, _, I1, rfl, ⟨_, x, rfl, I.hok.fresh (Nat.le_refl _), rfl, fun ys hy => by rw [I.tuple_inj hy hq]; exact hx⟩, ⟨⟨y, ?_⟩, hst.1.at fun o q => (sb.2 it (Ne.symm hne)).trans q, hne⟩, fun b hb => ?_⟩
    · have e1 : ((i + 1 : Nat) : Int) = (i : Int) + 1 := by omega
      rw [e1]; exact he'
    · have hb' : b < s.heap.objs.size := by
        have e' : b = e ∨ b = it := by simpa using hb
        rcases e' with z | z
        · rw [z]; exact hel
        · rw [z]; exact hil
      rw [upd_ne (Nat.ne_of_lt hb')]
      exact (hf b hb).1
  done := by
    intro X hP hw hK hc i pins s σ H E I hf st hg
    subst hP hw hK
    obtain ⟨⟨old, he⟩, hit, hne⟩ := st
    obtain ⟨xs, hq, hx⟩ := hg
    obtain ⟨its, rv, p, hz⟩ := I.tuple hq
    obtain ⟨f0, f1, f2, f3, f4, f5⟩ := hf it (by simp)
    have hl := rv.length
    have pt : s.heap.IsTuple a its.toArray := p
    unfold pyNext
    have hT : s.TypeIs (.ref e) "enumerate" := ⟨_, he, rfl⟩
    refine wpAny_bind (wpAny_attempt (wpAny_callSpecial?_slot (name := Str.ofString "__next__") hT F.slot_enumerate_next
      (wpAny_call_entry F.slot_enumerate_next hT F.entry_enumerate_next ?_ (F.args_enumerate_next_1 _))))
    show wpAny _ _ (field (.ref e) 2 >>= _) _ _ _
    refine wpAny_bind (wpAny_field he rfl (x := .ref it) rfl ?_)
    refine wpAny_bind (wpAny_nextOf_tuple_end (A := X.A.in1) (I.ok.hd hc) hit pt (by simp; omega) fun h' x he' hx' => ?_)
    obtain ⟨o, ho, hc'⟩ := hx'
    refine wpAny_bind (wpAny_isInstance (T := "StopIteration") (b := true) ⟨o, ho, hc'⟩ isSubtype_stop ?_)
    exact wpAny_pure ⟨rfl, I.turned (t' := s.toks) (fun b o hb q => he' b o hb q) f0 f1 f3 f4 f5⟩
  self := fun A i s Q E st h => let ⟨⟨_, he⟩, _⟩ := st; wpAny_pyIter_enum he h
def iEnumT (K : PySem.W.Frag) (ta : TA) : TI := fun σ H R => ta σ H fun vs H1 => ∃ a xs, vs = [.ref a] ∧ SqT K H1 a xs ∧ R (IteT K a) H1
theorem pi_enumT {X : Cx} {e : Expr} {ta : TA} {p pos tpos : Pos} {elts : List Expr} {kk : Nat} (hg : Gl X "enumerate") (hm : X.mg "enumerate" = none) (ha : PA X [e] ta) (hs : starEach [e] X.env = [(false, eval e X.env)] := by rfl) :
    PI X (.Tuple elts kk tpos) (.Call (.Name "enumerate" p) [e] [] pos) (iEnumT X.K ta) := by
  refine ⟨fun pins s σ H R I h => ?_⟩
  refine Call_ (ld_blt I hg hm boot_enumerate (PyProof.Rows.callWith_type1 (thn (ha.run pos pins s σ H _ I h) fun us s1 ⟨vs, H1, I1, r1, q1⟩ => ?_) hs rfl))
  obtain ⟨a, xs, ex, hq, q⟩ := q1
  subst ex
  cases r1 with
  | cons r rr =>
    cases rr
    cases r
    obtain ⟨its, rv, p', hz⟩ := I1.tuple hq
    have al : a < s1.heap.objs.size := by obtain ⟨o, ho, _⟩ := p'; exact Heap.lt_size ho
    refine call_enumB (begins_tuple a its.toArray) (show s1.heap.IsTuple a its.toArray from p') fun h' he hit hsz hk => wpAny_pyIter_enum he ?_
    have I2 : Inv X pins σ H1 { s1 with heap := h' } := I1.kept (t' := s1.toks) hk
    refine ⟨s1.heap.objs.size + 1, [s1.heap.objs.size + 1, s1.heap.objs.size], _, _, H1, rfl, I2, turn_enumT a (s1.heap.objs.size + 1) s1.heap.objs.size (Nat.ne_of_lt al) (Nat.ne_of_lt (Nat.lt_succ_of_lt al)), ⟨⟨.none, he⟩, ⟨_, hit, rfl, rfl⟩, Nat.succ_ne_self _⟩, fun b hb => ?_, q⟩
    have e' : b = s1.heap.objs.size + 1 ∨ b = s1.heap.objs.size := by simpa using hb
    have hle : s1.heap.objs.size ≤ b := by
      rcases e' with z | z
      · rw [z]; exact Nat.le_add_right _ _
      · rw [z]; exact Nat.le_refl _
    exact I1.fpOk hle (I1.hok.fresh hle)
end Kt

namespace Kz
open PySem PySem.Spec PyProof.Rows L2 Kt
/-! ### dicts, told by lists of pairs -/
section
variable {α β : Type} [DecidableEq α]
def lkA (l : List (α × β)) (a : α) : Option β := (l.find? fun e => decide (e.1 = a)).map (·.2)
def putA (l : List (α × β)) (a : α) (b : β) : List (α × β) := if (l.any fun e => decide (e.1 = a)) = true then l.map (fun e => if e.1 = a then (e.1, b) else e) else l ++ [(a, b)]
theorem lkA_nil (a : α) : lkA ([] : List (α × β)) a = none := rfl
theorem lkA_pos {e : α × β} {l : List (α × β)} {a : α} (h : e.1 = a) : lkA (e :: l) a = some e.2 := by simp [lkA, List.find?_cons, h]
theorem lkA_neg {e : α × β} {l : List (α × β)} {a : α} (h : ¬ e.1 = a) : lkA (e :: l) a = lkA l a := by simp [lkA, List.find?_cons, h]
theorem lkA_map (l : List (α × β)) (a c : α) (b : β) : lkA (l.map fun e => if e.1 = a then (e.1, b) else e) c = if a = c then (lkA l c).map (fun _ => b) else lkA l c := by
  induction l with
  | nil => simp [lkA]
  | cons e t ih =>
    rw [List.map_cons]
    by_cases h1 : e.1 = a
    · rw [if_pos h1]
      by_cases h2 : e.1 = c
      · rw [lkA_pos (e := (e.1, b)) h2, lkA_pos h2, if_pos (h1.symm.trans h2)]; rfl
      · rw [lkA_neg (e := (e.1, b)) h2, lkA_neg h2, ih]
    · rw [if_neg h1]
      by_cases h2 : e.1 = c
      · rw [lkA_pos h2, if_neg (fun q => h1 (h2.trans q.symm)), lkA_pos h2]
      · rw [lkA_neg h2, lkA_neg h2, ih]
theorem lkA_none {l : List (α × β)} {a : α} (h : (l.any fun e => decide (e.1 = a)) = false) : lkA l a = none := by
  induction l with
  | nil => rfl
  | cons e t ih =>
    rw [List.any_cons, Bool.or_eq_false_iff] at h
    rw [lkA_neg (by simpa using h.1)]
    exact ih h.2
theorem lkA_some {l : List (α × β)} {a : α} (h : (l.any fun e => decide (e.1 = a)) = true) : ∃ b, lkA l a = some b := by
  induction l with
  | nil => cases h
  | cons e t ih =>
    by_cases c : e.1 = a
    · exact ⟨e.2, lkA_pos c⟩
    · rw [List.any_cons, decide_eq_false c, Bool.false_or] at h
      rw [lkA_neg c]
      exact ih h
theorem lkA_app (l m : List (α × β)) (a : α) : lkA (l ++ m) a = match lkA l a with | some b => some b | none => lkA m a := by
  induction l with
  | nil => rfl
  | cons e t ih =>
    rw [List.cons_append]
    by_cases c : e.1 = a
    · rw [lkA_pos c, lkA_pos c]
    · rw [lkA_neg c, lkA_neg c, ih]
theorem lkA_put (l : List (α × β)) (a c : α) (b : β) : lkA (putA l a b) c = if a = c then some b else lkA l c := by
  unfold putA
  by_cases h : (l.any fun e => decide (e.1 = a)) = true
  · rw [if_pos h, lkA_map]
    by_cases q : a = c
    · subst q
      obtain ⟨x, hx⟩ := lkA_some h
      rw [if_pos rfl, if_pos rfl, hx]; rfl
    · rw [if_neg q, if_neg q]
  · rw [if_neg h, lkA_app]
    by_cases q : a = c
    · subst q
      rw [lkA_none (Bool.not_eq_true _ ▸ h), if_pos rfl]
      exact lkA_pos rfl
    · rw [if_neg q]
      cases lkA l c with
      | some x => rfl
      | none => exact lkA_neg q
theorem keys_put (l : List (α × β)) (a : α) (b : β) : ((putA l a b).map (·.1)) = if a ∈ l.map (·.1) then l.map (·.1) else l.map (·.1) ++ [a] := by
  have e : (l.any fun e => decide (e.1 = a)) = true ↔ a ∈ l.map (·.1) := by
    rw [List.any_eq_true, List.mem_map]
    exact ⟨fun ⟨x, h1, h2⟩ => ⟨x, h1, of_decide_eq_true h2⟩, fun ⟨x, h1, h2⟩ => ⟨x, h1, decide_eq_true h2⟩⟩
  unfold putA
  by_cases h : (l.any fun e => decide (e.1 = a)) = true
  · rw [if_pos h, if_pos (e.mp h), List.map_map]
    refine List.map_congr_left fun x _ => ?_
    show (if x.1 = a then (x.1, b) else x).1 = x.1
    split <;> rfl
  · rw [if_neg h, if_neg (fun q => h (e.mpr q)), List.map_append]; rfl
theorem nodup_put {l : List (α × β)} (h : (l.map (·.1)).Nodup) (a : α) (b : β) : ((putA l a b).map (·.1)).Nodup := by
  rw [keys_put]
  split
  · exact h
  · rename_i n
    rw [List.nodup_append]
    refine ⟨h, by simp, fun x hx y hy q => ?_⟩
    rw [List.mem_singleton.mp hy] at q
    exact n (q ▸ hx)
theorem lkA_mem {l : List (α × β)} (h : (l.map (·.1)).Nodup) {a : α} {b : β} : (a, b) ∈ l ↔ lkA l a = some b := by
  induction l with
  | nil => simp [lkA]
  | cons e t ih =>
    rw [List.map_cons] at h
    obtain ⟨n1, n2⟩ := List.nodup_cons.mp h
    rw [List.mem_cons]
    by_cases c : e.1 = a
    · rw [lkA_pos c]
      constructor
      · rintro (q | q)
        · rw [← q]
        · exact absurd (List.mem_map.mpr ⟨(a, b), q, rfl⟩) (by rw [← c]; exact n1)
      · intro q
        refine .inl ?_
        cases Option.some.inj q
        rw [← c]
    · rw [lkA_neg c, ← ih n2]
      exact ⟨fun q => q.elim (fun q => absurd (by rw [← q]) c) id, .inr⟩
/-- the entries of a dict, one for each pair -/
def DK (enc : α → Key) (R : V → β → Prop) (kvs : List (Key × V)) (l : List (α × β)) : Prop := Paired (fun kv e => kv.1 = enc e.1 ∧ R kv.2 e.2) kvs l
variable {enc : α → Key} {R R' : V → β → Prop} {kvs : List (Key × V)} {l : List (α × β)}
theorem DK.mono (f : ∀ v b, R v b → R' v b) : ∀ {kvs : List (Key × V)} {l : List (α × β)}, DK enc R kvs l → DK enc R' kvs l
  | _, _, .nil => .nil
  | _, _, .cons h t => .cons ⟨h.1, f _ _ h.2⟩ (DK.mono f t)
theorem DK.len : ∀ {kvs : List (Key × V)} {l : List (α × β)}, DK enc R kvs l → kvs.length = l.length
  | _, _, .nil => rfl
  | _, _, .cons _ t => congrArg Nat.succ (DK.len t)
theorem DK.none (inj : ∀ a b, enc a = enc b → a = b) (a : α) : ∀ {kvs : List (Key × V)} {l : List (α × β)}, DK enc R kvs l → lkA l a = none → valV kvs (enc a) = none
  | _, _, .nil, _ => rfl
  | kv :: kt, e :: lt, .cons h t, q => by
    by_cases c : e.1 = a
    · rw [lkA_pos c] at q; cases q
    · rw [lkA_neg c] at q
      rw [valV_neg (fun z => c (inj _ _ (h.1.symm.trans z)))]
      exact DK.none inj a t q
theorem DK.some (inj : ∀ a b, enc a = enc b → a = b) (a : α) : ∀ {kvs : List (Key × V)} {l : List (α × β)} {b : β}, DK enc R kvs l → lkA l a = some b → ∃ v, valV kvs (enc a) = some v ∧ R v b
  | _, _, _, .nil, q => by cases q
  | kv :: kt, e :: lt, b, .cons h t, q => by
    by_cases c : e.1 = a
    · rw [lkA_pos c] at q
      obtain rfl := Option.some.inj q
      exact ⟨kv.2, valV_pos (h.1.trans (congrArg enc c)), h.2⟩
    · rw [lkA_neg c] at q
      rw [valV_neg (fun z => c (inj _ _ (h.1.symm.trans z)))]
      exact DK.some inj a t q
theorem DK.any (inj : ∀ a b, enc a = enc b → a = b) (a : α) : ∀ {kvs : List (Key × V)} {l : List (α × β)}, DK enc R kvs l → (kvs.any fun kv => decide (kv.1 = enc a)) = (l.any fun e => decide (e.1 = a))
  | _, _, .nil => rfl
  | kv :: kt, e :: lt, .cons h t => by
    rw [List.any_cons, List.any_cons, DK.any inj a t]
    congr 1
    by_cases c : e.1 = a
    · rw [decide_eq_true c, decide_eq_true (h.1.trans (congrArg enc c))]
    · rw [decide_eq_false c, decide_eq_false (fun z => c (inj _ _ (h.1.symm.trans z)))]
theorem DK.app : ∀ {kvs : List (Key × V)} {l : List (α × β)} {kv : Key × V} {e : α × β}, DK enc R kvs l → (kv.1 = enc e.1 ∧ R kv.2 e.2) → DK enc R (kvs ++ [kv]) (l ++ [e])
  | _, _, _, _, .nil, h => .cons h .nil
  | _, _, _, _, .cons a t, h => .cons a (DK.app t h)
theorem DK.map (inj : ∀ a b, enc a = enc b → a = b) {a : α} {v : V} {b : β} (r : R v b) : ∀ {kvs : List (Key × V)} {l : List (α × β)}, DK enc R kvs l → DK enc R (kvs.map fun kv => if kv.1 = enc a then (kv.1, v) else kv) (l.map fun e => if e.1 = a then (e.1, b) else e)
  | _, _, .nil => .nil
  | kv :: kt, e :: lt, .cons h t => by
    rw [List.map_cons, List.map_cons]
    refine .cons ?_ (DK.map inj r t)
    by_cases c : e.1 = a
    · rw [if_pos c, if_pos (h.1.trans (congrArg enc c))]
      exact ⟨h.1, r⟩
    · rw [if_neg c, if_neg (fun z => c (inj _ _ (h.1.symm.trans z)))]
      exact h
theorem DK.put (inj : ∀ a b, enc a = enc b → a = b) {a : α} {v : V} {b : β} (h : DK enc R kvs l) (r : R v b) : DK enc R (putK kvs (enc a) v) (putA l a b) := by
  unfold putK putA
  rw [DK.any inj a h]
  split
  · exact DK.map inj r h
  · exact DK.app h ⟨rfl, r⟩
end
theorem inj_nat : ∀ a b : Nat, (Sum.inl (a : Int) : Key) = Sum.inl (b : Int) → a = b := fun a b h => by
  have := Sum.inl.inj h
  omega
theorem inj_str : ∀ a b : Str, (Sum.inr a : Key) = Sum.inr b → a = b := fun a b h => Sum.inr.inj h
/-! ### walks over enumerate of a tuple; loops by a walk -/
theorem wk_enumT {K : PySem.W.Frag} {H0 : Hp} {a : Addr} {xs : List V} (h : SqT K H0 a xs) : Wk (IteT K a) H0 xs.length (fun i x H' => ∃ T y, x = .ref T ∧ H' T = some (.tup [.int (i : Nat), y]) ∧ xs[i]? = some y) where
  stop H s := ⟨xs, seqT_same s h, Nat.le_refl _⟩
  go i H s hi := ⟨xs, xs[i], seqT_same s h, List.getElem?_eq_getElem hi⟩
  yld i H x H' s hi y := by
    obtain ⟨T, y, rfl, hT, rfl, f⟩ := y
    exact ⟨new_same hT, T, y, rfl, upd_same, f xs (seqT_same s h)⟩
theorem for_wk {J : It} {H0 : Hp} {n : Nat} {R : Nat → V → Hp → Prop} {g : TG} {tb : TS} {D : Ends} {σ : L2.St} {H : Hp} (wk : Wk J H0 n R) (Pv : Nat → L2.St → Hp → Prop) (h0 : Pv 0 σ H) (st : ∀ i σ H, Pv i σ H → Same H0 H)
    (hs : ∀ i x σ H H', i < n → Pv i σ H → Same H H' → R i x H' → g x σ H' fun σ2 H2 => tb { D with nx := Pv (i + 1), ct := Pv (i + 1), bk := D.nx } σ2 H2) (hd : ∀ σ H, Pv n σ H → D.nx σ H) :
    ∃ W : Nat → Nat → L2.St → Hp → Prop, (∃ m, W 0 m σ H) ∧ ∀ i m σ H, W i m σ H →
      (J.stop i H ∧ D.nx σ H) ∨ (J.go i H ∧ ∃ N : L2.St → Hp → Prop, (∀ σ' H', N σ' H' → ∃ m', m' < m ∧ W (i + 1) m' σ' H') ∧ ∀ v H', J.yld i H v H' → g v σ H' fun σ2 H2 => tb { D with nx := N, ct := N, bk := D.nx } σ2 H2) := by
  refine ⟨fun i m σ H => m = n - i ∧ i ≤ n ∧ Pv i σ H, ⟨n, rfl, Nat.zero_le _, h0⟩, ?_⟩
  rintro i m σ H ⟨rfl, hi, p⟩
  by_cases hlt : i < n
  · refine .inr ⟨wk.go i H (st i σ H p) hlt, Pv (i + 1), fun σ' H' q => ⟨n - (i + 1), by omega, rfl, hlt, q⟩, fun x H' y => ?_⟩
    obtain ⟨s1, r1⟩ := wk.yld i H x H' (st i σ H p) hlt y
    exact hs i x σ H H' hlt p s1 r1
  · have e : i = n := by omega
    subst e
    exact .inl ⟨wk.stop H (st _ σ H p), hd σ H p⟩
/-- without some objects -/
def delS (S : List Addr) (H : Hp) : Hp := fun b => if b ∈ S then none else H b
theorem delS_same {S : List Addr} {H : Hp} : Same (delS S H) H := fun b o e => by
  unfold delS at e
  by_cases q : b ∈ S
  · rw [if_pos q] at e; cases e
  · rw [if_neg q] at e; exact e
theorem delS_mono {S : List Addr} {H H' : Hp} (s : Same H H') : Same (delS S H) (delS S H') := fun b o e => by
  unfold delS at e ⊢
  by_cases q : b ∈ S
  · rw [if_pos q] at e; cases e
  · rw [if_neg q] at e ⊢; exact s _ _ e
theorem delS_of {S : List Addr} {B H : Hp} (n : ∀ a ∈ S, B a = none) (s : Same B H) : Same B (delS S H) := fun b o e => by
  unfold delS
  rw [if_neg (fun q => by rw [n b q] at e; cases e)]
  exact s _ _ e
theorem delS_upd {S : List Addr} {D : Addr} {H : Hp} {o : HO} (h : D ∈ S) : delS S (upd H D o) = delS S H := funext fun b => by
  unfold delS
  by_cases q : b ∈ S
  · rw [if_pos q, if_pos q]
  · rw [if_neg q, if_neg q, upd_ne (fun e : b = D => q (by rw [e]; exact h))]
theorem delS_at {S : List Addr} {H : Hp} {a : Addr} {o : HO} (n : a ∉ S) (h : H a = some o) : delS S H a = some o := by
  unfold delS
  rw [if_neg n]
  exact h
end Kz

namespace Kz
open PySem PySem.Spec PyProof.Rows L2 RZ Kt Kx
section
variable {P : Program} {w : World} {K : PySem.W.Frag} {mg : Str → Option Value} {base : Heap}
/-- a drawn JOB: its level one of the three, its STEPS few, none twice, over the four ROWS -/
def drawnJ (j : JobM) : Prop := (j.lv = "plain" ∨ j.lv = "shot" ∨ j.lv = "watched") ∧ j.st.Nodup ∧ j.st.length ≤ 4 ∧ ∀ s ∈ j.st, s.2 ∈ (["a", "row", "x", "zz"] : List Str)
abbrev nWeb : List Str := ["_law_box_here", "_law_names_so", "_law_found", "_law_lap", "_law_level_so"]
theorem scWeb : FnScope nWeb ["_law_box_here"] (defScope sWeb) := ⟨rfl, rfl, rfl, by decide +kernel, rfl, by decide +kernel, by decide +kernel⟩
def spWeb (K : PySem.W.Frag) : Sp := fun vs H Q _ => ∃ (l : Addr) (m : Int), vs = [.ref l] ∧ BoxAt H l m ∧ m ≤ 1000 ∧ ∀ (H' : Hp) (u : V) (js : List JobM), But l H H' → Dp K H' u (dJobs js) → (∀ j ∈ js, drawnJ j) → js.length ≤ 4 → js ≠ [] → BoxAt H' l (m + 100) → Q u H'
theorem ok_web {f fT fO fP fJ : Addr} {fd fdT fdO fdP fdJ : FuncData} (F : Fun K "_law_web" "_law_web" sWeb f fd) (T : Nat0 mg) (GT : FnOk P w K mg base CX0 1 fT fdT ["_law_box_here", "_law_below_so"] spTake2) (kT : PySem.W.keepIn K (.ref fT) = true) (bT : Binds K fdT ["_law_box_here", "_law_below_so"] []) (gT : mg "_law_take" = some (.ref fT))
    (GO : FnOk P w K mg base CX0 2 fO fdO ["_law_box_here", "_law_pool_so"] spOf) (kO : PySem.W.keepIn K (.ref fO) = true) (bO : Binds K fdO ["_law_box_here", "_law_pool_so"] []) (gO : mg "_law_of" = some (.ref fO))
    (GP : FnOk P w K mg base CX0 2 fP fdP ["_law_box_here", "_law_pool_so", "_law_many_so"] spPick) (kP : PySem.W.keepIn K (.ref fP) = true) (bP : Binds K fdP ["_law_box_here", "_law_pool_so", "_law_many_so"] []) (gP : mg "_law_pick" = some (.ref fP))
    (GJ : FnOk P w K mg base CX0 3 fJ fdJ ["_law_box_here", "_law_level_so", "_law_many_so", "_law_names_so"] (spJob K)) (kJ : PySem.W.keepIn K (.ref fJ) = true) (bJ : Binds K fdJ ["_law_box_here", "_law_level_so", "_law_many_so", "_law_names_so"] []) (gJ : mg "_law_job" = some (.ref fJ)) :
    FnOk P w K mg base CX0 4 f fd ["_law_box_here"] (spWeb K) := by
  refine F.ok scWeb (fun vs H Q E h => ?_) (fun cdv A outer s H vs Q E hr h => ?_)
  · obtain ⟨l, m, rfl, _⟩ := h
    rfl
  · obtain ⟨l, m, rfl, hb, hm, z⟩ := h
    have hr1 : Room 1 _ := hr.mono (by decide)
    have hr2 : Room 2 _ := hr.mono (by decide)
    refine ⟨_, pss_cons (ps_set (i := 1) scWeb.nd rfl (Or.inl rfl) (pe_callB cr_sortedS (by rfl) T.sorted bt_sorted (pa_cons (pe_call GP hr2 (by rfl) gP kP bP .nil pass0 (pa_cons (pv 0) (pa_cons (pe_lst (pa_cons pe_str (pa_cons pe_str (pa_cons pe_str (pa_cons pe_str pa_nil)))))
        (pa_cons (pe_op op_add pe_int (pe_call GT hr1 (by rfl) gT kT bT .nil pass0 (pa_cons (pv 0) (pa_cons pe_int pa_nil)))) pa_nil)))) pa_nil)))
      (pss_cons (ps_set (i := 2) scWeb.nd rfl (Or.inl rfl) (pe_lst pa_nil))
      (pss_cons (ps_for PassesOwn.never rfl (pi_range1 (by rfl) T.range (pa_cons (pe_op op_add pe_int (pe_call GT hr1 (by rfl) gT kT bT .nil pass0 (pa_cons (pv 0) (pa_cons pe_int pa_nil)))) pa_nil)) (pg_name (i := 3) scWeb.nd rfl (Or.inl rfl))
        (pss_cons (ps_set (i := 4) scWeb.nd rfl (Or.inl rfl) (pe_call GO hr2 (by rfl) gO kO bO .nil pass0 (pa_cons (pv 0) (pa_cons (pe_lst (pa_cons pe_str (pa_cons pe_str (pa_cons pe_str pa_nil)))) pa_nil))))
        (pss_one (ps_expr (pe_bm PySem.F.plainAttrs_list PySem.F.slot_list_append PySem.F.type_list_append mt_append (pv 2) (pa_cons (pe_call GJ hr (by rfl) gJ kJ bJ .nil pass0 (pa_cons (pv 0) (pa_cons (pv 4)
          (pa_cons (pe_call GO hr2 (by rfl) gO kO bO .nil pass0 (pa_cons (pv 0) (pa_cons (pe_lst (pa_cons pe_int (pa_cons pe_int (pa_cons pe_int (pa_cons pe_int (pa_cons pe_int (pa_cons pe_int pa_nil))))))) pa_nil))) (pa_cons (pv 1) pa_nil))))) pa_nil))))))
      (pss_one (ps_ret (pe_callTy call_tuple_of (by rfl) T.tuple bt_tuple (pa_cons (pv 2) pa_nil)))))), ?_⟩
    obtain ⟨b0, b1, b2, hbl, hb'⟩ := id hb
    have sing : ∀ {H1 : Hp} {c : Int}, But l H H1 → BoxAt H1 l c → (∃ u, H1 l = some (.lst u)) := fun _ h => by obtain ⟨c0, c1, c2, hc, _⟩ := h; exact ⟨_, hc⟩
    refine ⟨_, rfl, (by show 4 ≤ sizeLine; decide), fun p hp => ⟨_, rfl, l, m, 3, rfl, ⟨b0, b1, b2, (new_same hp) _ _ hbl, hb'⟩, by omega, by decide, by decide, fun H1 d d0 d1 bt1 bx1 => ⟨_, _, rfl, rfl, ?_⟩⟩⟩
    have nlp : l ≠ p := ne_of_none hbl hp
    have hp1 : H1 p = some (.lst ((["a", "row", "x", "zz"] : List Str).map V.str)) := bt1 p _ nlp.symm upd_same
    have bt01 : But l H H1 := (But.of (new_same hp)).trans bt1
    obtain ⟨n, hn⟩ : ∃ n : Nat, (1 : Int) + d = n := ⟨(1 + d).toNat, by omega⟩
    refine ⟨l, p, m + 1, n, (["a", "row", "x", "zz"] : List Str), (by show [V.ref l, V.ref p, V.int (1 + d)] = _; rw [hn]), bx1, by omega, nlp, hp1, by decide, fun H2 q ys rest bt2 hq0 hq pm ly bx2 => ?_⟩
    have lys : ys.length ≤ 4 := by rw [ly]; exact Nat.min_le_right ..
    refine ⟨q, ys, rfl, SqL.of hq, by omega, fun ns p2 pm2 so hp2 => ?_⟩
    have mem4 : ∀ r ∈ ns, r ∈ (["a", "row", "x", "zz"] : List Str) := fun r hr => pm.mem_iff.mp (List.mem_append_left _ (pm2.mem_iff.mp hr))
    have ok4 : ∀ r ∈ ns, PyData.strOk r = true := fun r hr => by
      have := mem4 r hr
      simp only [List.mem_cons, List.not_mem_nil, or_false] at this
      rcases this with e | e | e | e <;> (rw [e]; decide +kernel)
    have lns : ns.length ≤ 4 := by rw [pm2.length_eq]; exact lys
    have bt02 : But l H (upd H2 p2 (.lst (ns.map V.str))) := (bt01.trans bt2).trans (but_new hp2)
    have bx3 : BoxAt (upd H2 p2 (.lst (ns.map V.str))) l (m + 1 + n) := by
      obtain ⟨c0, c1, c2, hc, hc'⟩ := bx2
      exact ⟨c0, c1, c2, (new_same hp2) _ _ hc, hc'⟩
    have nl2 : l ≠ p2 := by
      obtain ⟨c0, c1, c2, hc, hc'⟩ := bx2
      exact ne_of_none hc hp2
    have h02 : H p2 = none := by
      cases e : H p2 with
      | none => rfl
      | some o => rw [(bt01.trans bt2) p2 o nl2.symm e] at hp2; cases hp2
    refine ⟨Nat.zero_le _, fun fl hfl => ?_⟩
    have hnm : (upd H2 p2 (.lst (ns.map V.str))) p2 = some (.lst (ns.map V.str)) := upd_same
    generalize hG : upd H2 p2 (.lst (ns.map V.str)) = G at bt02 bx3 hfl hnm
    obtain ⟨c0, c1, c2, hcG, hcG'⟩ := id bx3
    have nlf : l ≠ fl := ne_of_none hcG hfl
    have nmf : p2 ≠ fl := ne_of_none hnm hfl
    have hf0 : H fl = none := by
      cases e : H fl with
      | none => rfl
      | some o => rw [bt02 fl o nlf.symm e] at hfl; cases hfl
    have bxG : BoxAt (upd G fl (.lst [])) l (m + 1 + n) := ⟨c0, c1, c2, (new_same hfl) _ _ hcG, hcG'⟩
    refine ⟨_, rfl, l, m + 1 + n, 4, rfl, bxG, by omega, by decide, by decide, fun H4 d4 d40 d41 bt4 bx4 => ⟨_, _, rfl, rfl, _, rfl, by omega, by omega, ?_⟩⟩
    have bt04 : But l H H4 := (bt02.trans (but_new hfl)).trans bt4
    have hfl4 : H4 fl = some (.lst []) := bt4 fl _ nlf.symm upd_same
    have hnm4 : H4 p2 = some (.lst (ns.map V.str)) := bt4 p2 _ nl2.symm ((new_same hfl) _ _ hnm)
    have e4 : (1 + d4).toNat ≤ 4 := by omega
    have e5 : 1 ≤ (1 + d4).toNat := by omega
    generalize (1 + d4).toNat = cnt at e4 e5
    refine for_range (lo := 0) (n := cnt) (fun i σ H' => ∃ v3 v4 js vs, σ = [some (.ref l), some (.ref p2), some (.ref fl), v3, v4] ∧ But l H H' ∧ BoxAt H' l (m + 1 + n + 1 + 6 * (i : Nat)) ∧ H' p2 = some (.lst (ns.map V.str)) ∧ H' fl = some (.lst vs) ∧ DpAll K H' vs (js.map dJob) ∧ (∀ j ∈ js, drawnJ j) ∧ js.length = i)
      ⟨none, none, [], [], rfl, bt04, by simpa using bx4, hnm4, hfl4, .nil, (fun j h => by cases h), rfl⟩ ?_ ?_
    · rintro i σ H' hi ⟨v3, v4, js, vs, rfl, bt, bx, hnm', hfl', dvs, drw, ljs⟩
      have nfl : ∀ {Hx : Hp} {o : HO}, H fl = none → But l H Hx → True := fun _ _ => trivial
      obtain ⟨e0, e1, e2, heb, heb'⟩ := id bx
      refine ⟨_, rfl, (by show 3 ≤ sizeLine; decide), fun a ha => ?_⟩
      have sa := new_same (o := .lst [.str "plain", .str "shot", .str "watched"]) ha
      refine ⟨l, a, _, _, rfl, ⟨e0, e1, e2, sa _ _ heb, heb'⟩, by omega, ne_of_none heb ha, upd_same, by simp, by simp, fun H5 k lv hlv bt5 bx5 => ?_⟩
      have nfa : fl ≠ a := ne_of_none hfl' ha
      have hfl5 : H5 fl = some (.lst vs) := bt5 fl _ nlf.symm (sa _ _ hfl')
      have hnm5 : H5 p2 = some (.lst (ns.map V.str)) := bt5 p2 _ nl2.symm (sa _ _ hnm')
      have bt05 : But l H H5 := (bt.trans (But.of sa)).trans bt5
      obtain ⟨lv, rfl, hlvo⟩ : ∃ s : Str, lv = .str s ∧ (s = "plain" ∨ s = "shot" ∨ s = "watched") := by
        match k, hlv with
        | 0, e => exact ⟨_, (Option.some.inj e).symm, .inl rfl⟩
        | 1, e => exact ⟨_, (Option.some.inj e).symm, .inr (.inl rfl)⟩
        | 2, e => exact ⟨_, (Option.some.inj e).symm, .inr (.inr rfl)⟩
      obtain ⟨g0, g1, g2, hgb, hgb'⟩ := id bx5
      refine ⟨_, rfl, .inl ⟨rfl, _, SqL.of hfl5⟩, _, rfl, _, rfl, _, rfl, (by show 6 ≤ sizeLine; decide), fun a2 ha2 => ?_⟩
      have sa2 := new_same (o := .lst [.int 0, .int 1, .int 2, .int 2, .int 3, .int 4]) ha2
      refine ⟨l, a2, _, _, rfl, ⟨g0, g1, g2, sa2 _ _ hgb, hgb'⟩, by omega, ne_of_none hgb ha2, upd_same, by simp, by simp, fun H6 k2 nv hnv bt6 bx6 => ?_⟩
      obtain ⟨nv, rfl, hnv4⟩ : ∃ s : Nat, nv = .int (s : Nat) ∧ s ≤ 4 := by
        match k2, hnv with
        | 0, e => exact ⟨0, (Option.some.inj e).symm, by decide⟩
        | 1, e => exact ⟨1, (Option.some.inj e).symm, by decide⟩
        | 2, e => exact ⟨2, (Option.some.inj e).symm, by decide⟩
        | 3, e => exact ⟨2, (Option.some.inj e).symm, by decide⟩
        | 4, e => exact ⟨3, (Option.some.inj e).symm, by decide⟩
        | 5, e => exact ⟨4, (Option.some.inj e).symm, by decide⟩
      have hfl6 : H6 fl = some (.lst vs) := bt6 fl _ nlf.symm (sa2 _ _ hfl5)
      have hnm6 : H6 p2 = some (.lst (ns.map V.str)) := bt6 p2 _ nl2.symm (sa2 _ _ hnm5)
      have bt06 : But l H H6 := (bt05.trans (But.of sa2)).trans bt6
      have otj : onlyTs (js.map dJob) = true := onlyTs_of fun x hx => by
        obtain ⟨j, _, rfl⟩ := List.mem_map.mp hx
        exact oT_job j
      refine ⟨_, rfl, l, p2, _, nv, lv, ns, rfl, bx6, by omega, nl2, hnm6, by omega, by omega, ok4, fun H7 u st bt7 du nd lst sub bx7 => ?_⟩
      have tsb : ∀ {H1 H2 : Hp}, (∃ u, H1 l = some (.lst u)) → But l H1 H2 → TS0 K H1 H2 := fun ⟨u0, hu0⟩ b6 b zs h => by
        rcases h with (h | ⟨o, h⟩) | h
        · exact .inl (.inl (b6 b _ (fun q => by rw [q, hu0] at h; cases h) h))
        · exact .inl (.inr ⟨o, b6 b _ (fun q => by rw [q, hu0] at h; cases h) h⟩)
        · exact .inr h
      have bt17 : But l H' H7 := ((((But.of sa).trans bt5).trans (But.of sa2)).trans bt6).trans bt7
      have d7 := dpAll_ts (tsb ⟨_, heb⟩ bt17) dvs otj
      have hfl7 : H7 fl = some (.lst vs) := bt7 fl _ nlf.symm hfl6
      have lvs : vs.length = js.length := by rw [dpAll_len dvs, List.length_map]
      refine ⟨fl, vs, u, rfl, rfl, hfl7, by rw [lvs, sizeLine_eq]; omega, _, _, js ++ [⟨lv, st⟩], vs ++ [u], rfl, ?_, ?_, ?_, upd_same, ?_, ?_, ?_⟩
      · intro b o nb e
        have nbf : b ≠ fl := fun q => by rw [q, hf0] at e; cases e
        rw [upd_ne nbf]
        exact bt7 b o nb (bt06 b o nb e)
      · obtain ⟨c0, c1, c2, hc, hc0, hc1, hc2, hc3⟩ := bx7
        refine ⟨c0, c1, c2, (upd_ne nlf).trans hc, hc0, hc1, hc2, ?_⟩
        push_cast
        omega
      · exact (upd_ne nmf).trans (bt7 p2 _ nl2.symm hnm6)
      · rw [List.map_append]
        exact dpAll_snoc (dpAll_put (noTup_lst hfl7) d7 otj) (dp_put (noTup_lst hfl7) du (oT_job _))
      · intro j hj
        rcases List.mem_append.mp hj with q | q
        · exact drw j q
        · rw [List.mem_singleton.mp q]
          exact ⟨hlvo, nd, by show st.length ≤ 4; omega, fun s hs => mem4 _ (sub s hs)⟩
      · rw [List.length_append, ljs, List.length_singleton]
    · rintro σ H' ⟨v3, v4, js, vs, rfl, bt, bx, hnm', hfl', dvs, drw, ljs⟩
      refine ⟨_, rfl, fl, vs, rfl, .inl ⟨SqL.of hfl', fun t ht => ?_⟩⟩
      have st := new_same (o := .tup vs) ht
      refine z _ _ js (bt.trans (But.of st)) (.tup (SqT.of upd_same) (dpAll_same st dvs)) drw (by omega) (fun q => by rw [q] at ljs; simp at ljs; omega) ?_
      obtain ⟨c0, c1, c2, hc, hc0, hc1, hc2, hc3⟩ := bx
      exact ⟨c0, c1, c2, st _ _ hc, hc0, hc1, hc2, by omega⟩
end
end Kz

namespace Kz
open PySem PySem.Spec PyProof.Rows L2 RZ Kt Kx
/-! ### lists of lists -/
mutual
def lstD : PyData → PyData
  | .list xs => .list (lstDs xs)
  | .tuple xs => .list (lstDs xs)
  | .dict kvs => .dict kvs
  | .none => .none
  | .bool b => .bool b
  | .int i => .int i
  | .str x => .str x
def lstDs : List PyData → List PyData
  | [] => []
  | x :: r => lstD x :: lstDs r
end
theorem lstDs_map : ∀ xs : List PyData, lstDs xs = xs.map lstD
  | [] => by rw [lstDs]; rfl
  | x :: r => by rw [lstDs, lstDs_map r]; rfl
theorem pe_never {X : Cx} {e : Expr} : PE X e (fun _ _ _ => False) := ⟨fun _ _ _ _ _ _ h => h.elim⟩
section
variable {P : Program} {w : World} {K : PySem.W.Frag} {mg : Str → Option Value} {base : Heap}
theorem lstD_scal {H : Hp} {v : V} {d : PyData} (h : Dp K H v d) (q : isSq d = false) : lstD d = d := by
  cases h <;> first | rfl | cases q | simp [lstD]
theorem dp_any {H H' : Hp} {v : V} {d : PyData} (h : Dp K H v d) (q : isSq d = false) : Dp K H' v d := by
  cases h with
  | non => exact .non
  | bl b => exact .bl b
  | int i => exact .int i
  | str x => exact .str x
  | lst _ _ => cases q
  | tup _ _ => cases q
def spLists (K : PySem.W.Frag) (n : Nat) : Sp := fun vs H Q _ => ∃ (v : V) (d : PyData), vs = [v] ∧ Dp K H v d ∧ d.depth ≤ n ∧ small d ∧ ∀ H' u, Same H H' → Dp K (newH H H') u (lstD d) → Q u H'
abbrev nLists : List Str := ["_law_matter_so", "_law_bit"]
theorem scLists : FnScope nLists ["_law_matter_so"] (defScope sLists) := ⟨rfl, rfl, rfl, by decide +kernel, rfl, by decide +kernel, by decide +kernel⟩
theorem rd_lists {n : Nat} {v : V} {d : PyData} {H : Hp} {Q : VK} (dv : Dp K H v d) (hdep : d.depth ≤ n + 1) (hsm : small d) (hq : isSq d = true) (q : ∀ H' u, Same H H' → Dp K (newH H H') u (lstD d) → Q u H') :
    tLc (fun σ H R => iList K (tVar 0) σ H R ∨ iTup K (tVar 0) σ H R) (gName 1) tYes (tCall (spLists K n) [] E0 (tCons (tVar 1) tNil)) [1] [some v, none] H Q := by
  have main : ∀ (J : It) (xs : List V) (ds : List PyData), d = .list ds ∨ d = .tuple ds → DpAll K H xs ds → ds.length ≤ 1000000 → smallAll ds → PyData.depthAll ds ≤ n → Wk J H xs.length (fun i x _ => xs[i]? = some x) → ∀ (D : Addr), H D = none →
      ∃ W : Nat → Nat → Hp → Prop, (∃ m, W 0 m (upd H D (.lst []))) ∧ ∀ i m H, W i m H → (J.stop i H ∧ Q (.ref D) H) ∨ (J.go i H ∧ ∃ Nx : Hp → Prop, (∀ H', Nx H' → ∃ m', m' < m ∧ W (i + 1) m' H') ∧ ∀ x H', J.yld i H x H' →
        gName 1 x (wipe [some v, none] [1]) H' fun σ2 H2 => wipe σ2 [1] = wipe [some v, none] [1] ∧ tYes σ2 H2 fun b H3 => if b = true then tCall (spLists K n) [] E0 (tCons (tVar 1) tNil) σ2 H3 fun y H4 => ∃ acc, H4 D = some (.lst acc) ∧ acc.length < sizeLine ∧ Nx (upd H4 D (.lst (acc ++ [y]))) else Nx H3) := by
    intro J xs ds ed da l1 sm dp wk D hD
    have lx := dpAll_len da
    refine lc_wk (K := K) wk (fun i Hc => Same H Hc ∧ ∃ ys, Hc D = some (.lst ys) ∧ DpAll K (delH D (newH H Hc)) ys ((ds.take i).map lstD)) ⟨new_same hD, [], upd_same, .nil⟩ (fun i H p => p.1) (fun i x Ha Hb hi p s hx => ?_) (fun Hf p => ?_)
    · obtain ⟨s0, ys, hy, hd⟩ := p
      obtain ⟨e, he, de⟩ := dpAll_at da hx
      obtain ⟨z1, z2⟩ := small_at sm he
      refine ⟨rfl, ?_⟩
      unfold tYes
      dsimp only
      rw [if_pos rfl]
      refine ⟨_, rfl, x, e, rfl, dp_same (s0.trans s) de, Nat.le_trans z2 dp, z1, fun H4 u s4 d4 => ?_⟩
      have hy4 := s4 _ _ (s _ _ hy)
      have len : ys.length = i := by
        rw [dpAll_len hd, List.length_map, List.length_take]
        omega
      refine ⟨ys, hy4, by rw [len, sizeLine_eq]; omega, same_upd hD ((s0.trans s).trans s4), ys ++ [u], upd_same, ?_⟩
      rw [List.take_add_one, he, List.map_append]
      have b1 : Same (delH D (newH H Ha)) (delH D (newH H (upd H4 D (.lst (ys ++ [u]))))) := fun b o eb => by
        unfold delH at eb ⊢
        by_cases qb : b = D
        · rw [if_pos qb] at eb; cases eb
        · rw [if_neg qb] at eb ⊢
          unfold newH at eb ⊢
          cases hb : H b with
          | some u => rw [hb] at eb; cases eb
          | none =>
            rw [hb] at eb
            show (upd H4 D (.lst (ys ++ [u]))) b = some o
            rw [upd_ne qb]
            exact s4 _ _ (s _ _ eb)
      have b2 : Same (newH Hb H4) (delH D (newH H (upd H4 D (.lst (ys ++ [u]))))) := fun b o eb => by
        have nb : b ≠ D := fun qb => by
          subst qb
          exact newH_new eb (s _ _ hy)
        unfold delH
        rw [if_neg nb]
        have eb2 := newH_from (s0.trans s) _ _ eb
        unfold newH at eb2 ⊢
        cases hb : H b with
        | some u => rw [hb] at eb2; cases eb2
        | none =>
          rw [hb] at eb2
          show (upd H4 D (.lst (ys ++ [u]))) b = some o
          rw [upd_ne nb]
          exact eb2
      exact dpAll_snoc (dpAll_same b1 hd) (dp_same b2 d4)
    · obtain ⟨s0, ys, hy, hd⟩ := p
      rw [lx, List.take_length] at hd
      refine q Hf _ s0 ?_
      have hh := newH_at hD hy
      rcases ed with rfl | rfl
      · rw [lstD, lstDs_map]
        exact .lst (SqL.of hh) (dpAll_same delH_same hd)
      · rw [lstD, lstDs_map]
        exact .lst (SqL.of hh) (dpAll_same delH_same hd)
  cases dv with
  | non => cases hq
  | bl _ => cases hq
  | int _ => cases hq
  | str _ => cases hq
  | @lst a xs ds hs dx =>
    refine .inl ⟨_, rfl, a, rfl, ⟨xs, hs⟩, fun D hD => ?_⟩
    exact main _ xs ds (.inl rfl) dx hsm.1 hsm.2 (by rw [PyData.depth] at hdep; omega) (wk_list hs) D hD
  | @tup a xs ds hs dx =>
    refine .inr ⟨_, rfl, a, rfl, ⟨xs, hs⟩, fun D hD => ?_⟩
    exact main _ xs ds (.inr rfl) dx hsm.1 hsm.2 (by rw [PyData.depth] at hdep; omega) (wk_tup hs) D hD
theorem ok_lists {f : Addr} {fd : FuncData} (F : Fun K "_law_lists" "_law_lists" sLists f fd) (T : Nat0 mg) (bS : Binds K fd ["_law_matter_so"] []) (gS : mg "_law_lists" = some (.ref f)) : ∀ n : Nat, FnOk P w K mg base CX0 (n + 1) f fd ["_law_matter_so"] (spLists K n)
  | 0 => by
    refine F.ok scLists (fun vs H Q E h => ?_) (fun cdv A outer s H vs Q E hr h => ?_)
    · obtain ⟨v, d, rfl, _⟩ := h
      rfl
    · refine ⟨_, pss_one (ps_ret (pe_ifExp (pt_val (pe_callB call_isiT (by rfl) T.isinstance bt_isi (pa_cons (pv 0) (pa_cons (pe_tup (pa_cons (pe_bltn (v := .ty "list") (by rfl) T.list bt_list rfl) (pa_cons (pe_bltn (v := .ty "tuple") (by rfl) T.tuple bt_tuple rfl) pa_nil))) pa_nil)))) pe_never (pv 0))), ?_⟩
      obtain ⟨v, d, rfl, dv, hdep, hsm, q⟩ := h
      refine rd_I2 (v := v) rfl dv k_nl k_nt fun H1 s1 => ⟨_, rfl, ?_⟩
      cases hq : isSq d with
      | true => exact absurd (Nat.le_zero.mp hdep) (isSq_depth hq)
      | false =>
        have e : (isN "list" d || isN "tuple" d) = false := by cases d <;> first | rfl | cases hq | exact (no_dict dv).elim
        rw [e]
        exact iteF ⟨_, rfl, q H1 v s1 (by rw [lstD_scal dv hq]; exact dp_any dv hq)⟩
  | n + 1 => by
    have G : FnOk P w K mg base CX0 (n + 1) f fd ["_law_matter_so"] (spLists K n) := ok_lists F T bS gS n
    refine F.ok scLists (fun vs H Q E h => ?_) (fun cdv A outer s H vs Q E hr h => ?_)
    · obtain ⟨v, d, rfl, _⟩ := h
      rfl
    · refine ⟨_, pss_one (ps_ret (pe_ifExp (pt_val (pe_callB call_isiT (by rfl) T.isinstance bt_isi (pa_cons (pv 0) (pa_cons (pe_tup (pa_cons (pe_bltn (v := .ty "list") (by rfl) T.list bt_list rfl) (pa_cons (pe_bltn (v := .ty "tuple") (by rfl) T.tuple bt_tuple rfl) pa_nil))) pa_nil))))
          (pe_lc (own := [("_law_bit", 1)]) (g := gName 1) (tt := tYes) rfl scLists.nd (pi_or (pi_list (pv 0)) (pi_tup (pv 0))) (blkOk_by (own := [("_law_bit", 1)]) (N := nLists) (sc := defScope sLists) (by decide +kernel))
            (fun _ _ _ _ _ => pg_name (i := 1) scLists.nd rfl (Or.inl rfl)) (fun _ _ _ _ _ => pts_nil) (fun _ _ _ _ _ => pe_call G hr (by rfl) gS F.kp bS .nil pass0 (pa_cons (pv 1) pa_nil))) (pv 0))), ?_⟩
      obtain ⟨v, d, rfl, dv, hdep, hsm, q⟩ := h
      refine rd_I2 (v := v) rfl dv k_nl k_nt fun H1 s1 => ⟨_, rfl, ?_⟩
      cases hq : isSq d with
      | true =>
        have e : (isN "list" d || isN "tuple" d) = true := by cases d <;> first | rfl | cases hq
        rw [e]
        exact iteT (rd_lists (dp_same s1 dv) hdep hsm hq fun H' u s2 du => q H' u (s1.trans s2) (dp_same (newH_from s1) du))
      | false =>
        have e : (isN "list" d || isN "tuple" d) = false := by cases d <;> first | rfl | cases hq | exact (no_dict dv).elim
        rw [e]
        exact iteF ⟨_, rfl, q H1 v s1 (by rw [lstD_scal dv hq]; exact dp_any dv hq)⟩
end
end Kz

namespace Kz
open PySem PySem.Spec PyProof.Rows L2 RZ Kt Kx
/-! ### MIXES: each place as often as its JOB has moves -/
def FullM (js : List JobM) (ms : List Nat) : Prop := (∀ q ∈ ms, q < js.length) ∧ ∀ q, q < js.length → ms.count q = lenOf js q + 1
def sumN (f : Nat → Nat) : Nat → Nat
  | 0 => 0
  | n + 1 => sumN f n + f n
theorem sumN_le {f g : Nat → Nat} : ∀ {n : Nat}, (∀ q, q < n → f q ≤ g q) → sumN f n ≤ sumN g n
  | 0, _ => Nat.le_refl _
  | n + 1, h => Nat.add_le_add (sumN_le fun q hq => h q (Nat.lt_succ_of_lt hq)) (h n (Nat.lt_succ_self n))
theorem sumN_eq {f g : Nat → Nat} : ∀ {n : Nat}, (∀ q, q < n → f q ≤ g q) → sumN g n ≤ sumN f n → ∀ q, q < n → f q = g q
  | 0, _, _, q, hq => absurd hq (Nat.not_lt_zero q)
  | n + 1, h, e, q, hq => by
    have h1 := sumN_le (n := n) fun q hq => h q (Nat.lt_succ_of_lt hq)
    have h2 := h n (Nat.lt_succ_self n)
    simp only [sumN] at e
    rcases Nat.lt_succ_iff_lt_or_eq.mp hq with c | c
    · exact sumN_eq (fun q hq => h q (Nat.lt_succ_of_lt hq)) (by omega) q c
    · subst c; omega
theorem sumN_succ {f g : Nat → Nat} {x : Nat} : ∀ {n : Nat}, (∀ q, q < n → q ≠ x → g q = f q) → (x < n → g x = f x + 1) → sumN g n = sumN f n + if x < n then 1 else 0
  | 0, _, _ => by simp [sumN]
  | n + 1, h1, h2 => by
    have ih := sumN_succ (n := n) (fun q hq ne => h1 q (Nat.lt_succ_of_lt hq) ne) (fun hx => h2 (Nat.lt_succ_of_lt hx))
    simp only [sumN, ih]
    by_cases c : x = n
    · subst c
      rw [h2 (Nat.lt_succ_self x), if_neg (Nat.lt_irrefl _), if_pos (Nat.lt_succ_self _)]
      omega
    · rw [h1 n (Nat.lt_succ_self n) (fun e => c e.symm)]
      by_cases d : x < n
      · rw [if_pos d, if_pos (Nat.lt_succ_of_lt d)]; omega
      · rw [if_neg d, if_neg (by omega)]; omega
theorem len_sum {n : Nat} : ∀ {ms : List Nat}, (∀ q ∈ ms, q < n) → ms.length = sumN (fun q => ms.count q) n
  | [], _ => by
    have z : ∀ n, sumN (fun q => ([] : List Nat).count q) n = 0 := fun n => by
      induction n with
      | zero => rfl
      | succ n ih =>
        simp only [List.count_nil] at ih
        simp only [sumN, List.count_nil, ih]
    rw [z]
    rfl
  | x :: t, h => by
    have hx := h x List.mem_cons_self
    have ih := len_sum (n := n) (ms := t) fun q hq => h q (List.mem_cons_of_mem _ hq)
    have e := sumN_succ (f := fun q => t.count q) (g := fun q => (x :: t).count q) (x := x) (n := n) (fun q _ ne => by simp [List.count_cons, Ne.symm ne]) (fun _ => by simp)
    rw [if_pos hx] at e
    rw [e, List.length_cons, ih]
theorem need_sum (js : List JobM) : (needM js).sum = ((sumN (fun q => lenOf js q + 1) js.length : Nat) : Int) := by
  have gen : ∀ (pre l : List JobM), (l.map fun j => ((j.st.length : Nat) : Int) + 1).sum + ((sumN (fun q => lenOf (pre ++ l) q + 1) pre.length : Nat) : Int) = ((sumN (fun q => lenOf (pre ++ l) q + 1) (pre ++ l).length : Nat) : Int) := by
    intro pre l
    induction l generalizing pre with
    | nil => simp
    | cons j t ih =>
      have e := ih (pre ++ [j])
      rw [List.append_assoc, List.singleton_append] at e
      rw [List.map_cons, List.sum_cons, ← e, List.length_append, List.length_singleton]
      simp only [sumN]
      have lj : lenOf (pre ++ j :: t) pre.length = j.st.length := by
        unfold lenOf
        rw [List.getElem?_append_right (Nat.le_refl _), Nat.sub_self]
        rfl
      rw [lj]
      push_cast
      omega
  have := gen [] js
  simpa [needM, sumN] using this
theorem full_of {js : List JobM} {ms : List Nat} (lt : ∀ q ∈ ms, q < js.length) (le : ∀ q, q < js.length → ms.count q ≤ lenOf js q + 1) (len : ms.length = sumN (fun q => lenOf js q + 1) js.length) : FullM js ms :=
  ⟨lt, sumN_eq le (by rw [← len, len_sum lt]; exact Nat.le_refl _)⟩
theorem full_beg {js : List JobM} {ms : List Nat} (h : FullM js ms) : BegM js ms := ⟨h.1, fun q => by
  by_cases c : q < js.length
  · exact Nat.le_of_eq (h.2 q c)
  · have : ms.count q = 0 := List.count_eq_zero.mpr fun z => c (h.1 q z)
    omega⟩
theorem pool_some {js : List JobM} {ms : List Nat} (lt : ∀ q ∈ ms, q < js.length) (le : ∀ q, q < js.length → ms.count q ≤ lenOf js q + 1) (len : ms.length < sumN (fun q => lenOf js q + 1) js.length) : ∃ q, q < js.length ∧ ms.count q < lenOf js q + 1 := by
  refine Classical.byContradiction fun no => ?_
  have ge : ∀ q, q < js.length → lenOf js q + 1 ≤ ms.count q := fun q hq => Nat.le_of_not_lt fun c => no ⟨q, hq, c⟩
  have := sumN_le ge
  rw [← len_sum lt] at this
  omega
theorem lenOf_le {js : List JobM} {c : Nat} (h : ∀ j ∈ js, j.st.length ≤ c) (q : Nat) : lenOf js q ≤ c := by
  unfold lenOf
  cases e : js[q]? with
  | none => exact Nat.zero_le _
  | some j => exact h j (List.mem_of_getElem? e)
theorem sumN_const {f : Nat → Nat} {c : Nat} : ∀ {n : Nat}, (∀ q, f q ≤ c) → sumN f n ≤ n * c
  | 0, _ => by simp [sumN]
  | n + 1, h => by
    have := sumN_const (n := n) h
    have := h n
    simp only [sumN, Nat.succ_mul]
    omega
section
variable {P : Program} {w : World} {K : PySem.W.Frag} {mg : Str → Option Value} {base : Heap}
abbrev nDrawn : List Str := ["_law_box_here", "_law_jobs_so", "_law_need_so", "_law_found", "_law_lap", "_law_pool_so", "_law_j"]
theorem scDrawn : FnScope nDrawn ["_law_box_here", "_law_jobs_so"] (defScope sDrawn) := ⟨rfl, rfl, rfl, by decide +kernel, rfl, by decide +kernel, by decide +kernel⟩
def vM (ms : List Nat) : List V := ms.map fun q => V.int (q : Nat)
def spDrawn (K : PySem.W.Frag) : Sp := fun vs H Q _ => ∃ (l : Addr) (v : V) (m : Int) (js : List JobM), vs = [.ref l, v] ∧ BoxAt H l m ∧ m ≤ 1000 ∧ Dp K H v (dJobs js) ∧ okJs js ∧ js.length ≤ 4 ∧ (∀ j ∈ js, j.st.length ≤ 4) ∧
  ∀ (H' : Hp) (a : Addr) (ms : List Nat), But l H H' → TupF H' a (vM ms) → FullM js ms → ms.length ≤ 20 → BoxAt H' l (m + 100) → Q (.ref a) H'
theorem ok_drawn {f fN fO : Addr} {fd fdN fdO : FuncData} (F : Fun K "_law_drawn" "_law_drawn" sDrawn f fd) (T : Nat0 mg)
    (GN : FnOk P w K mg base CX0 1 fN fdN ["_law_jobs_so"] (spNeed K)) (kN : PySem.W.keepIn K (.ref fN) = true) (bN : Binds K fdN ["_law_jobs_so"] []) (gN : mg "_law_need" = some (.ref fN))
    (GO : FnOk P w K mg base CX0 2 fO fdO ["_law_box_here", "_law_pool_so"] spOf) (kO : PySem.W.keepIn K (.ref fO) = true) (bO : Binds K fdO ["_law_box_here", "_law_pool_so"] []) (gO : mg "_law_of" = some (.ref fO)) :
    FnOk P w K mg base CX0 3 f fd ["_law_box_here", "_law_jobs_so"] (spDrawn K) := by
  refine F.ok scDrawn (fun vs H Q E h => ?_) (fun cdv A outer s H vs Q E hr h => ?_)
  · obtain ⟨l, v, m, js, rfl, _⟩ := h
    rfl
  · obtain ⟨l, v, m, js, rfl, hb, hm, dv, ok, l4, st4, z⟩ := h
    have hr1 : Room 1 _ := hr.mono (by decide)
    refine ⟨_, pss_cons (ps_asg (pe_tup (pa_cons (pe_call GN hr1 (by rfl) gN kN bN .nil pass0 (pa_cons (pv 1) pa_nil)) (pa_cons (pe_tupF pa_nil) pa_nil))) (pg_tup (by rfl) (pgs_cons (pg_name (i := 2) scDrawn.nd rfl (Or.inr rfl)) (pgs_cons (pg_name (i := 3) scDrawn.nd rfl (Or.inr rfl)) pgs_nil))))
      (pss_cons (ps_for PassesOwn.never rfl (pi_range1 (by rfl) T.range (pa_cons (pe_callB (cr_sum rfl) (by rfl) T.sum (by decide +kernel) (pa_cons (pv 2) pa_nil)) pa_nil)) (pg_name (i := 4) scDrawn.nd rfl (Or.inl rfl))
        (pss_cons (ps_setLc (i := 5) (own := [("_law_j", 6)]) (g := gName 6) (tt := tTest (tOp (rI0 fun i j => .bl (decide (i < j))) (tBMF (rCntT K) (tVar 3) (tCons (tVar 6) tNil)) (tOp (rIxL K) (tVar 2) (tVar 6)))) (te := tVar 6) (by rfl) scDrawn.nd rfl rfl (sw_true rfl rfl rfl (by decide +kernel)) (pi_range1 (by rfl) T.range (pa_cons (pe_callB call_len_seq (by rfl) T.len PySem.boot_len (pa_cons (pv 2) pa_nil)) pa_nil)) (blkOk_by (own := [("_law_j", 6)]) (N := nDrawn) (sc := defScope sDrawn) (by decide +kernel))
          (fun _ _ _ _ _ => pg_name (i := 6) scDrawn.nd rfl (Or.inl rfl)) (fun _ _ _ _ _ => by exact (pts_one (pt_cmpR op_lt (pe_bmF PySem.F.slot_tuple_count PySem.F.type_tuple_count (mt_tcountK (K := K) rfl) (pv 3) (pa_cons (pv 6) pa_nil)) (pe_ix (ix_listK (K := K) rfl) (pv 2) (pv 6) (fun _ _ => rfl)) (nomark _)))) (fun _ _ _ _ _ => pv 6))
        (pss_one (ps_set (i := 3) scDrawn.nd rfl (Or.inr rfl) (pe_op op_catF (pv 3) (pe_tupF (pa_cons (pe_call GO (hr.mono (by decide)) (by rfl) gO kO bO .nil pass0 (pa_cons (pv 0) (pa_cons (pv 5) pa_nil))) pa_nil)))))))
      (pss_one (ps_ret (pv 3)))), ?_⟩
    obtain ⟨b0, b1, b2, hbl, hb'⟩ := id hb
    refine ⟨_, rfl, v, js, rfl, dv, ok, fun H1 nd s1 hn0 hnd => ⟨(by show 0 ≤ sizeLine; decide), fun fa fo hfa pfo => ⟨(by show 2 ≤ sizeLine; decide), fun tt htt => ?_⟩⟩⟩
    have sf := new_same (o := .frz fo (.tup [])) hfa
    have st2 := new_same (o := .tup [V.ref nd, V.ref fa]) htt
    have bl0 := st2 _ _ (sf _ _ (s1 _ _ hbl))
    have hnd0 := st2 _ _ (sf _ _ hnd)
    have hfa0 := st2 _ _ (upd_same (H := H1) (a := fa) (o := .frz fo (.tup [])))
    have sG := (s1.trans sf).trans st2
    refine ⟨tt, _, rfl, SqT.of upd_same, rfl, _, _, rfl, _, _, rfl, rfl, ?_⟩
    generalize hGe : upd (upd H1 fa (.frz fo (.tup []))) tt (.tup [V.ref nd, V.ref fa]) = G at bl0 hnd0 hfa0 sG
    have nln : l ≠ nd := ne_of_none hbl hn0
    refine ⟨_, rfl, nd, _, rfl, SqL.of hnd0, ?_⟩
    rw [need_sum]
    have tot : sumN (fun q => lenOf js q + 1) js.length ≤ 20 := by
      have h1 := sumN_const (f := fun q => lenOf js q + 1) (c := 5) (n := js.length) (fun q => Nat.succ_le_succ (lenOf_le st4 q))
      omega
    refine ⟨_, rfl, by omega, by omega, ?_⟩
    rw [Int.toNat_natCast]
    refine for_range (lo := 0) (n := sumN (fun q => lenOf js q + 1) js.length) (fun i σ H' => ∃ v4 v5 v6 a ms, σ = [some (.ref l), some v, some (.ref nd), some (.ref a), v4, v5, v6] ∧ But l H H' ∧ BoxAt H' l (m + (i : Nat)) ∧ H' nd = some (.lst ((needM js).map V.int)) ∧ TupF H' a (vM ms) ∧ ms.length = i ∧ (∀ q ∈ ms, q < js.length) ∧ ∀ q, q < js.length → ms.count q ≤ lenOf js q + 1)
      ⟨none, none, none, fa, [], rfl, But.of sG, ⟨b0, b1, b2, bl0, by simpa using hb'⟩, hnd0, ⟨fo, hfa0, pfo⟩, rfl, (fun q h => by cases h), fun q _ => by simp⟩ ?_ ?_
    · rintro i σ H' hi ⟨v4, v5, v6, a, ms, rfl, bt, bx, hnd', hfa', lms, lt, le⟩
      have ln : ((needM js).map V.int).length = js.length := by rw [List.length_map, needM, List.length_map]
      refine ⟨_, rfl, nd, _, rfl, .inl (SqL.of hnd'), _, rfl, by omega, by omega, ?_⟩
      rw [ln, Int.toNat_natCast]
      let pf : Nat → Option PyData := fun q => if ms.count q < lenOf js q + 1 then some (.int (q : Nat)) else none
      have lo : js.length = ((List.range js.length).map pf).length := by rw [List.length_map, List.length_range]
      have ek : kept ((List.range js.length).map pf) = ((List.range js.length).filter fun q => decide (ms.count q < lenOf js q + 1)).map fun q => PyData.int (q : Nat) := by
        unfold kept
        rw [List.filterMap_map]
        induction (List.range js.length) with
        | nil => rfl
        | cons q t ih =>
          by_cases c : ms.count q < lenOf js q + 1
          · rw [List.filterMap_cons_some (b := PyData.int (q : Nat)) (by show id (pf q) = _; exact if_pos c), List.filter_cons_of_pos (by simpa using c), List.map_cons, ih]
          · rw [List.filterMap_cons_none (by show id (pf q) = _; exact if_neg c), List.filter_cons_of_neg (by simpa using c), ih]
      refine fun D hD => lc_got (K := K) (wk_rng 0 js.length) lo hD (fun e he => ?_) (by rw [← lo, sizeLine_eq]; omega) (fun q o ho => ?_) (fun Hf pf2 => ?_)
      · rw [ek] at he
        obtain ⟨y, _, rfl⟩ := List.mem_map.mp he
        rw [onlyT]
      · intro x Hx N Z hx sx n1 n2
        subst hx
        have hq : q < js.length := by
          have := (List.getElem?_eq_some_iff.mp ho).1
          rw [← lo] at this
          exact this
        rw [List.getElem?_map, List.getElem?_range hq] at ho
        obtain rfl := Option.some.inj ho
        rw [Int.zero_add]
        have f1 := hfa'.same sx
        refine ⟨rfl, _, rfl, ⟨a, _, rfl, f1⟩, _, rfl, a, ms.map (fun q => ((q : Nat) : Int)), (q : Nat), rfl, rfl, ?_, ?_⟩
        · rw [List.map_map]; exact f1.sq
        have nq : (needM js)[q]? = some ((lenOf js q + 1 : Nat) : Int) := by
          rw [needM, List.getElem?_map, List.getElem?_eq_getElem hq]
          show some _ = some _
          congr 1
          unfold lenOf
          rw [List.getElem?_eq_getElem hq]
          rfl
        refine ⟨_, rfl, _, rfl, nd, _, _, .int ((lenOf js q + 1 : Nat) : Int), rfl, rfl, SqL.of (sx _ _ hnd'), atI_nat (j := q) (by rw [List.getElem?_map, nq]; rfl), _, _, rfl, rfl, _, rfl, ?_⟩
        have cc : (ms.map fun q => ((q : Nat) : Int)).count ((q : Nat) : Int) = ms.count q := by
          have : ∀ l : List Nat, (l.map fun q => ((q : Nat) : Int)).count ((q : Nat) : Int) = l.count q := fun l => by
            induction l with
            | nil => rfl
            | cons x t ih =>
              rw [List.map_cons, List.count_cons, List.count_cons, ih]
              by_cases e : x = q
              · subst e; simp
              · have : ¬ ((x : Nat) : Int) = ((q : Nat) : Int) := fun z => e (by omega)
                simp [e, this]
          exact this ms
        rw [cc]
        by_cases c : ms.count q < lenOf js q + 1
        · rw [decide_eq_true (by omega)]
          exact iteT ⟨_, rfl, n1 _ _ _ (if_pos c) (fun _ _ z => z) (.int _)⟩
        · rw [decide_eq_false (by omega)]
          exact iteF (n2 (if_neg c) _ (fun _ _ z => z))
      · obtain ⟨sf2, ys, hys, dys⟩ := pf2
        rw [ek] at dys
        have ey : ys = ((List.range js.length).filter fun q => decide (ms.count q < lenOf js q + 1)).map fun q => V.int (q : Nat) := by
          have gen : ∀ {H : Hp} (l : List Nat) (zs : List V), DpAll K H zs (l.map fun q => PyData.int (q : Nat)) → zs = l.map fun q => V.int (q : Nat) := by
            intro H l
            induction l with
            | nil => intro zs h; cases h; rfl
            | cons y t ih =>
              intro zs h
              cases h with
              | cons a b =>
                cases a
                rw [ih _ b]
                rfl
          exact gen _ ys dys
        subst ey
        obtain ⟨q0, hq0, cq0⟩ := pool_some lt le (by rw [lms]; exact hi)
        obtain ⟨e0, e1, e2, heb, heb'⟩ := id bx
        have bxf : BoxAt Hf l (m + (i : Nat)) := ⟨e0, e1, e2, sf2 _ _ heb, heb'⟩
        have nlD : l ≠ D := ne_of_none heb hD
        refine ⟨_, rfl, _, rfl, _, rfl, l, D, m + (i : Nat), _, rfl, bxf, by omega, nlD, hys, ?_, ?_, fun H5 k x hx bt5 bx5 => ?_⟩
        · intro e
          have : q0 ∈ (List.range js.length).filter fun q => decide (ms.count q < lenOf js q + 1) := List.mem_filter.mpr ⟨List.mem_range.mpr hq0, by simpa using cq0⟩
          rw [List.map_eq_nil_iff.mp e] at this
          cases this
        · rw [List.length_map]
          refine Nat.lt_of_le_of_lt (List.length_filter_le ..) ?_
          rw [List.length_range]
          omega
        · rw [List.getElem?_map] at hx
          cases hk : ((List.range js.length).filter fun q => decide (ms.count q < lenOf js q + 1))[k]? with
          | none => rw [hk] at hx; cases hx
          | some q =>
            rw [hk] at hx
            obtain rfl := Option.some.inj hx
            obtain ⟨hq1, hq2⟩ := List.mem_filter.mp (List.mem_of_getElem? hk)
            have hq := List.mem_range.mp hq1
            have cq : ms.count q < lenOf js q + 1 := by simpa using hq2
            have bt05 : But l H H5 := (bt.trans (But.of sf2)).trans bt5
            have nla : l ≠ a := by
              obtain ⟨oo, hoo, _⟩ := hfa'
              intro e; rw [← e, heb] at hoo; cases hoo
            have fa5 : TupF H5 a (vM ms) := by
              obtain ⟨oo, hoo, pp⟩ := hfa'
              exact ⟨oo, bt5 a _ nla.symm (sf2 _ _ hoo), pp⟩
            have nd5 := bt5 nd _ nln.symm (sf2 _ _ hnd')
            obtain ⟨g0, g1, g2, hgb, hg0, hg1, hg2, hg3⟩ := id bx5
            refine ⟨(by show 1 ≤ sizeLine; decide), fun t to ht pto => ?_⟩
            have s6 := new_same (o := .frz to (.tup [V.int (q : Nat)])) ht
            have tf : TupF (upd H5 t (.frz to (.tup [V.int (q : Nat)]))) t [V.int (q : Nat)] := ⟨to, upd_same, pto⟩
            have cnt : ∀ q', q' < js.length → (ms ++ [q]).count q' ≤ lenOf js q' + 1 := fun q' hq' => by
              rw [List.count_append]
              by_cases e : q = q'
              · subst e; simp; omega
              · have := le q' hq'
                simp [e]; omega
            have ltn : ∀ q' ∈ ms ++ [q], q' < js.length := fun q' h => by
              rcases List.mem_append.mp h with c | c
              · exact lt q' c
              · rw [List.mem_singleton.mp c]; exact hq
            have vapp : vM ms ++ [V.int (q : Nat)] = vM (ms ++ [q]) := by unfold vM; rw [List.map_append]; rfl
            refine ⟨a, t, _, _, rfl, rfl, (fa5.same s6).sq, tf.sq, ?_, fun e => ?_, fun _ e => (by cases e), fun _ _ p po hp ppo => ?_⟩
            · unfold vM; rw [List.length_map, List.length_singleton, sizeLine_eq]; omega
            · have me : ms = [] := List.map_eq_nil_iff.mp e
              subst me
              refine ⟨_, _, _, t, [q], rfl, bt05.trans (But.of s6), ⟨g0, g1, g2, s6 _ _ hgb, hg0, hg1, hg2, by push_cast; omega⟩, s6 _ _ nd5, tf, by rw [← lms]; rfl, ltn, cnt⟩
            · have s7 := s6.trans (new_same (o := .frz po (.tup (vM ms ++ [V.int (q : Nat)]))) hp)
              refine ⟨_, _, _, p, ms ++ [q], rfl, bt05.trans (But.of s7), ⟨g0, g1, g2, s7 _ _ hgb, hg0, hg1, hg2, by push_cast; omega⟩, s7 _ _ nd5, ⟨po, ?_, ppo⟩, by rw [List.length_append, lms]; rfl, ltn, cnt⟩
              rw [vapp] 
              exact upd_same
    · rintro σ H' ⟨v4, v5, v6, a, ms, rfl, bt, bx, hnd', hfa', lms, lt, le⟩
      obtain ⟨c0, c1, c2, hc, hc0, hc1, hc2, hc3⟩ := bx
      exact ⟨_, rfl, z H' a ms bt hfa' (full_of lt le lms) (by omega) ⟨c0, c1, c2, hc, hc0, hc1, hc2, by omega⟩⟩
end
end Kz

namespace Kz
open PySem PySem.Spec PyProof.Rows L2 RZ Kt Kx
theorem op_in_seqK {X : Cx} {K : PySem.W.Frag} (hK : X.K = K) : OpR X (compareOp .In) (rIn K false) := by subst hK; exact op_in_seq
theorem pi_tupK {X : Cx} {K : PySem.W.Frag} {tg l : Expr} {tl : TE} (hK : X.K = K) (hl : PE X l tl) : PI X tg l (iTup K tl) := by subst hK; exact pi_tup hl
/-! ### the ROWS that are read or written, that are written -/
def wsOf (b : Bool) : List Str := if b then ["read", "write"] else ["write"]
def selR (b : Bool) (j : JobM) : List Str := (j.st.filter fun s => b || s.1).map (·.2)
def namesM (js : List JobM) (b : Bool) : List Str := ascS (js.flatMap (selR b))
theorem namesM_all (js : List JobM) : namesM js true = rowsM js := by
  unfold namesM rowsM allRows selR
  congr 1
  congr 1
  funext j
  have : j.st.filter (fun s => true || s.1) = j.st := List.filter_eq_self.mpr fun s _ => rfl
  rw [this]
theorem inV_words (b : Bool) (k : Bool) : inV (.str (kindS k)) ((wsOf b).map V.str) = (b || k) := by
  cases b <;> cases k <;> decide +kernel
theorem sel_kept (b : Bool) (j : JobM) : kept (j.st.map fun s => if (b || s.1) = true then some (PyData.str s.2) else none) = (selR b j).map .str := by
  unfold kept selR
  rw [List.filterMap_map]
  induction j.st with
  | nil => rfl
  | cons s t ih =>
    by_cases c : (b || s.1) = true
    · rw [List.filterMap_cons_some (b := PyData.str s.2) (by show id _ = _; exact if_pos c), List.filter_cons_of_pos (p := fun s : Bool × Str => b || s.1) c, List.map_cons, List.map_cons, ih]
    · rw [List.filterMap_cons_none (by show id _ = _; exact if_neg c), List.filter_cons_of_neg (p := fun s : Bool × Str => b || s.1) c, ih]
theorem flat_strs : ∀ (js : List JobM) (b : Bool), (js.map fun j => (selR b j).map PyData.str).flatten = (js.flatMap (selR b)).map .str
  | [], _ => rfl
  | j :: t, b => by rw [List.map_cons, List.flatten_cons, flat_strs t b, List.flatMap_cons, List.map_append]
theorem sel_len (js : List JobM) (b : Bool) : (js.flatMap (selR b)).length ≤ (allRows js).length := by
  unfold allRows
  induction js with
  | nil => exact Nat.le_refl _
  | cons j t ih =>
    rw [List.flatMap_cons, List.flatMap_cons, List.length_append, List.length_append]
    have h1 := List.length_filter_le (fun s : Bool × Str => b || s.1) j.st
    have e : (selR b j).length ≤ (j.st.map (·.2)).length := by unfold selR; rw [List.length_map, List.length_map]; exact h1
    omega
theorem sel_sub (js : List JobM) (b : Bool) : ∀ r ∈ js.flatMap (selR b), r ∈ allRows js := fun r hr => by
  obtain ⟨j, hj, hrj⟩ := List.mem_flatMap.mp hr
  obtain ⟨s, hs, rfl⟩ := List.mem_map.mp hrj
  exact List.mem_flatMap.mpr ⟨j, hj, List.mem_map.mpr ⟨s, (List.mem_filter.mp hs).1, rfl⟩⟩
theorem nd_len {α : Type} [DecidableEq α] : ∀ {l m : List α}, l.Nodup → (∀ x ∈ l, x ∈ m) → l.length ≤ m.length
  | [], _, _, _ => Nat.zero_le _
  | x :: t, m, nd, h => by
    obtain ⟨n1, n2⟩ := List.nodup_cons.mp nd
    have hx := h x List.mem_cons_self
    have := nd_len (m := m.erase x) n2 fun y hy => (List.mem_erase_of_ne (fun e : y = x => n1 (e ▸ hy))).mpr (h y (List.mem_cons_of_mem _ hy))
    rw [List.length_erase_of_mem hx] at this
    have := List.length_pos_of_mem hx
    rw [List.length_cons]
    omega
theorem names_few {js : List JobM} (fw : fewR js) (b : Bool) : (namesM js b).length < 64 := by
  refine Nat.lt_of_le_of_lt ?_ fw.2
  exact nd_len (inc_nodup (inc_ascS _)) fun r hr => mem_ascS.mpr (sel_sub js b r (mem_ascS.mp hr))
section
variable {P : Program} {w : World} {K : PySem.W.Frag} {mg : Str → Option Value} {base : Heap}
abbrev nNames : List Str := ["_law_jobs_so", "_law_words_so", "_law_own", "_law_step_so"]
theorem scNames : FnScope nNames ["_law_jobs_so", "_law_words_so"] (defScope sNames) := ⟨rfl, rfl, rfl, by decide +kernel, rfl, by decide +kernel, by decide +kernel⟩
def scOwnN : Scope := { kind := .function, names := [(".0", .local), ("_law_own", .local), ("_law_words_so", .cell)], isGenerator := false, isCoroutine := false }
def spNames (K : PySem.W.Frag) : Sp := fun vs H Q _ => ∃ (v : V) (wp : Addr) (js : List JobM) (b : Bool), vs = [v, .ref wp] ∧ Dp K H v (dJobs js) ∧ SqT K H wp ((wsOf b).map V.str) ∧ okJs js ∧ fewR js ∧
  ∀ H' l, Same H H' → H l = none → H' l = some (.lst ((namesM js b).map V.str)) → Q (.ref l) H'
def tInN (K : PySem.W.Frag) : TE := tLc (iTup K (tOp (rIxT K) (tVar 2) (tC (.int 1)))) (gName 3) (tTest (tOp (rIn K false) (tOp (rIxT K) (tVar 3) (tC (.int 0))) (tVar 1))) (tOp (rIxT K) (tVar 3) (tC (.int 1))) [3]
theorem ok_names {f : Addr} {fd : FuncData} {k : Nat} (F : Fun K "_law_names" "_law_names" sNames f fd) (T : Nat0 mg) : FnOk P w K mg base CX0 (k + 1) f fd ["_law_jobs_so", "_law_words_so"] (spNames K) := by
  refine F.ok scNames (fun vs H Q E h => ?_) (fun cdv A outer s H vs Q E hr h => ?_)
  · obtain ⟨v, wp, js, b, rfl, _⟩ := h
    rfl
  · obtain ⟨v, wp, js, b, rfl, dv, hw, ok, fw, z⟩ := h
    refine ⟨_, pss_one (ps_ret (pe_callB (cr_sortedTx rfl) (by rfl) T.sorted bt_sorted (pa_cons (pe_callTy (cr_setTx rfl) (by rfl) T.set bt_set (pa_cons (pe_callB (cr_sumL rfl) (by rfl) T.sum (by decide +kernel) (pa_cons
      (pe_lc (own := [("_law_own", 2)]) (g := gName 2) (tt := tYes) (te := tInN K) rfl scNames.nd (pi_tup (pv 0)) (blkOk_by (own := [("_law_own", 2)]) (N := nNames) (sc := defScope sNames) (by decide +kernel))
        (fun _ _ _ _ _ => pg_name (i := 2) scNames.nd rfl (Or.inl rfl)) (fun _ _ _ _ _ => pts_nil)
        (fun _ _ _ _ _ => by exact (pe_lc (own := [("_law_step_so", 3)]) (g := gName 3) (tt := tTest (tOp (rIn K false) (tOp (rIxT K) (tVar 3) (tC (.int 0))) (tVar 1))) (te := tOp (rIxT K) (tVar 3) (tC (.int 1))) rfl scNames.nd
          (pi_tupK (K := K) rfl (pe_ix (ix_tupK (K := K) rfl) (pv 2) pe_int (fun _ _ => rfl))) (blkOk_by (own := [("_law_step_so", 3)]) (N := nNames) (sc := scOwnN) (by decide +kernel)) (fun _ _ _ _ _ => pg_name (i := 3) scNames.nd rfl (Or.inl rfl))
          (fun _ _ _ _ _ => by exact (pts_one (pt_cmpR (op_in_seqK (K := K) rfl) (pe_ix (ix_tupK (K := K) rfl) (pv 3) pe_int (fun _ _ => rfl)) (pv 1) (by rfl)))) (fun _ _ _ _ _ => by exact (pe_ix (ix_tupK (K := K) rfl) (pv 3) pe_int (fun _ _ => rfl))))))
      (pa_cons (pe_lst pa_nil) pa_nil))) pa_nil)) pa_nil))), ?_⟩
    obtain ⟨ja, xs, rfl, hs, hx⟩ := dp_tup_inv dv
    have lx : xs.length = js.length := by rw [dpAll_len hx, List.length_map]
    have lo : xs.length = (js.map fun j => (selR b j).map PyData.str).length := by rw [lx, List.length_map]
    have sub := sel_len js b
    refine ⟨_, rfl, ja, rfl, ⟨xs, hs⟩, fun D hD => lc_gotLL (K := K) (wk_tup hs) lo hD (fun ds hds => ?_) (by rw [← lo, lx, sizeLine_eq]; have := ok.1; omega) (fun i ds hds => ?_) (fun Hf pf => ?_)⟩
    · obtain ⟨j, _, rfl⟩ := List.mem_map.mp hds
      exact onlyTs_of fun x hx => by
        obtain ⟨r, _, rfl⟩ := List.mem_map.mp hx
        rw [onlyT]
    · rw [List.getElem?_map] at hds
      cases hj : js[i]? with
      | none => rw [hj] at hds; cases hds
      | some j =>
        rw [hj] at hds
        obtain rfl := Option.some.inj hds
        intro x Hx N Z hxi sx hDl n1
        obtain ⟨e, he, de⟩ := dpAll_at hx hxi
        rw [List.getElem?_map, hj] at he
        obtain rfl := Option.some.inj he
        obtain ⟨a1, b1, ys, rfl, h1, h2, h3⟩ := dp_job_inv (dp_same sx de)
        have oj := ok.2 j (List.mem_of_getElem? hj)
        refine ⟨rfl, ?_⟩
        unfold tYes
        dsimp only
        rw [if_pos rfl]
        have lo2 : ys.length = (j.st.map fun s => if (b || s.1) = true then some (PyData.str s.2) else none).length := by rw [dpAll_len h3, List.length_map, List.length_map]
        refine ⟨_, rfl, a1, _, 1, .ref b1, rfl, rfl, h1, atI_nat (j := 1) rfl, b1, rfl, ⟨ys, h2⟩, fun D2 hD2 => lc_got (K := K) (wk_tup h2) lo2 hD2 (fun e he => ?_) (by rw [← lo2, dpAll_len h3, List.length_map, sizeLine_eq]; have := oj.2.1; omega) (fun k2 o ho => ?_) (fun Hg pg => ?_)⟩
        · rw [sel_kept] at he
          obtain ⟨r, _, rfl⟩ := List.mem_map.mp he
          rw [onlyT]
        · intro y Hy N2 Z2 hy sy n2 n3
          rw [List.getElem?_map] at ho
          cases hsk : j.st[k2]? with
          | none => rw [hsk] at ho; cases ho
          | some s2 =>
            rw [hsk] at ho
            obtain rfl := Option.some.inj ho
            obtain ⟨e, he, de2⟩ := dpAll_at h3 hy
            rw [List.getElem?_map, hsk] at he
            obtain rfl := Option.some.inj he
            obtain ⟨c, rfl, hc⟩ := dp_step_inv (dp_same sy de2)
            refine ⟨rfl, ?_⟩
            refine ⟨_, rfl, c, _, 0, .str (kindS s2.1), rfl, rfl, hc, atI_nat (j := 0) rfl, _, rfl, wp, _, rfl, .inr (seqT_same (sx.trans sy) hw), rfl, ?_, _, rfl, ?_⟩
            · cases b <;> decide +kernel
            rw [if_neg Bool.false_ne_true, inV_words]
            by_cases cc : (b || s2.1) = true
            · rw [cc]
              exact iteT ⟨_, rfl, c, _, 1, .str s2.2, rfl, rfl, hc, atI_nat (j := 1) rfl, n2 _ _ _ (if_pos cc) (fun _ _ q => q) (.str _)⟩
            · rw [Bool.not_eq_true] at cc
              rw [cc]
              exact iteF (n3 (if_neg (by rw [cc]; exact Bool.false_ne_true)) _ (fun _ _ q => q))
        · obtain ⟨sg, zs, hz, dz⟩ := pg
          rw [sel_kept] at dz
          obtain ⟨l0, hl0⟩ := hDl
          exact n1 D2 zs Hg sg (fun q => by rw [q, hl0] at hD2; cases hD2) hz dz
    · obtain ⟨sf, bs, ls, hy, L⟩ := pf
      have fl := L.flat
      rw [flat_strs] at fl
      have efl := strs_dp fl
      refine ⟨Nat.zero_le _, fun e he => ?_⟩
      have se := new_same (o := .lst []) he
      have L2 := L.same se
      have lfl : ls.flatten.length ≤ (allRows js).length := by rw [efl, List.length_map]; exact sub
      have last : ∀ (H3 : Hp) (t : Addr), Same H H3 → H3 t = some (.lst ((js.flatMap (selR b)).map V.str)) → rSetTx K w [.ref t] H3 fun x H4 => rSortedTx w [x] H4 Q := by
        intro H3 t s3 ht
        refine ⟨t, _, rfl, SqL.of ht, by have := fw.1; omega, fun a l ha nd mem le => ?_⟩
        have el : l.length = (namesM js b).length := ((List.perm_ext_iff_of_nodup nd (inc_nodup (inc_ascS _))).mpr fun y => by rw [mem y, mem_ascS]).length_eq
        refine ⟨a, l, rfl, upd_same, by rw [el]; exact names_few fw b, fun ys b2 pm so hb => ?_⟩
        obtain rfl := asc_of pm so nd mem
        have s4 := (s3.trans (new_same ha)).trans (new_same (o := .lst ((ascS (js.flatMap (selR b))).map V.str)) hb)
        have hbn : H b2 = none := by
          cases hh : H b2 with
          | none => rfl
          | some o => rw [(s3.trans (new_same ha)) _ _ hh] at hb; cases hb
        exact z _ b2 s4 hbn upd_same
      refine ⟨D, e, bs, ls, [], rfl, se _ _ hy, upd_same, by rw [L.lb, L.ll], fun i b' hb' => ?_, by rw [List.nil_append, sizeLine_eq]; have := fw.1; omega, fun el => ?_, fun t ht => ?_⟩
      · obtain ⟨_, xs', ds', g1, g2, g3, g4⟩ := L2.at_ i b' hb'
        exact ⟨xs', g1, g3⟩
      · refine last _ e (sf.trans se) ?_
        rw [upd_same]
        rw [el] at efl
        simp at efl
        have e0 : js.flatMap (selR b) = [] := by
          rw [List.flatMap_eq_nil_iff]
          exact efl
        rw [e0]; rfl
      · rw [List.nil_append]
        refine last _ t ((sf.trans se).trans (new_same ht)) ?_
        rw [upd_same, efl]
end
end Kz

namespace Kz
open PySem PySem.Spec PyProof.Rows L2 RZ Kt Kx
/-! ### the play, told in data -/
def endAt (js : List JobM) (ms : List Nat) (k : Nat) : Option Nat := match ms[k]? with
  | some q => if (ms.take k).count q = lenOf js q then some q else none
  | none => none
def verL (js : List JobM) (ms : List Nat) (i : Nat) (r : Str) : List Nat := (List.range i).filterMap fun k => (endAt js ms k).bind fun q => if (true, r) ∈ stepsOf js q then some q else none
theorem verL_succ (js : List JobM) (ms : List Nat) (i : Nat) (r : Str) : verL js ms (i + 1) r = verL js ms i r ++ ((endAt js ms i).bind fun q => if (true, r) ∈ stepsOf js q then some q else none).toList := by
  unfold verL
  rw [List.range_succ, List.filterMap_append]
  congr 1
def wrS (st : List (Bool × Str)) : List Str := (st.filter fun s => s.1).map (·.2)
def opnL (js : List JobM) (ms : List Nat) (i q : Nat) : List Str := if (ms.take i).count q = lenOf js q + 1 then [] else wrS ((stepsOf js q).take ((ms.take i).count q))
def lvOf (js : List JobM) (q : Nat) : Str := (js[q]?.map JobM.lv).getD ""
def sinceP (js : List JobM) (ms : List Nat) (k : Nat) : Nat := if lvOf js (ms.getD k 0) = "plain" then k else ms.idxOf (ms.getD k 0)
def readStep (js : List JobM) (ms : List Nat) (k : Nat) : Option Str := match (stepsOf js (ms.getD k 0))[(ms.take k).count (ms.getD k 0)]? with
  | some (false, r) => some r
  | _ => none
def lastD (l : List Nat) : PyData := match l.getLast? with
  | some q => .int (q : Nat)
  | none => .none
def verT (l : List Nat) : PyData := .tuple (.none :: l.map fun q => .int (q : Nat))
def seenP (js : List JobM) (ms : List Nat) (k : Nat) : List PyData := ((readStep js ms k).map fun r => lastD (verL js ms (sinceP js ms k) r)).toList
abbrev encS : Str → Key := Sum.inr
abbrev encN : Nat → Key := fun q => Sum.inl (q : Int)
section
variable {P : Program} {w : World} {K : PySem.W.Frag} {mg : Str → Option Value} {base : Heap}
/-- a dict of versions -/
def VerD (K : PySem.W.Frag) (B : Hp) (kvs : List (Key × V)) (f : Str → List Nat) : Prop := ∃ tl, DK encS (fun v l => Dp K B v (verT l)) kvs tl ∧ ∀ r, (lkA tl r).getD [] = f r
def RowOk (K : PySem.W.Frag) (B : Hp) (js : List JobM) (ms : List Nat) (k : Nat) (v : V) : Prop := ∃ a d hv sl kvs sv, v = .ref a ∧ SqT K B a [.ref d, hv, .ref sl] ∧ B d = some (.dK kvs) ∧ VerD K B kvs (verL js ms k) ∧ Dp K B hv (heldD js ms k) ∧ B sl = some (.lst sv) ∧ DpAll K B sv (seenP js ms k)
abbrev nPlay : List Str := ["_law_jobs_so", "_law_mix_so", "_law_there_so", "_law_shots_so", "_law_open_so", "_law_found", "_law_at_so", "_law_j", "_law_step_so", "_law_own", "_law_held_so", "_law_seen_so", "_law_kit_so", "_law_k"]
theorem scPlay : FnScope nPlay ["_law_jobs_so", "_law_mix_so"] (defScope sPlayed) := ⟨rfl, rfl, rfl, by decide +kernel, rfl, by decide +kernel, by decide +kernel⟩
def scKN : Scope := { kind := .function, names := [(".0", .local), ("_law_k", .cell), ("_law_open_so", .cell)], isGenerator := false, isCoroutine := false }
def tInH (K : PySem.W.Frag) : TE := tLc (iTup K (tDGet (tVar 4) (tVar 13))) (gName 9) tYes (tTup (tCons (tVar 9) (tCons (tVar 13) tNil))) [9]
end
end Kz

namespace Kz
open PySem PySem.Spec PyProof.Rows L2 RZ Kt Kx
/-! ### counts -/
theorem take_succ {ms : List Nat} {i q : Nat} (h : ms[i]? = some q) : ms.take (i + 1) = ms.take i ++ [q] := by rw [List.take_add_one, h]; rfl
theorem count_succ {ms : List Nat} {i q : Nat} (h : ms[i]? = some q) (q' : Nat) : (ms.take (i + 1)).count q' = (ms.take i).count q' + if q = q' then 1 else 0 := by
  rw [take_succ h, List.count_append]
  by_cases e : q = q'
  · subst e; simp
  · simp [e]
theorem count_take_le (ms : List Nat) (i q : Nat) : (ms.take i).count q ≤ ms.count q := (List.take_sublist i ms).count_le q
theorem count_at {ms : List Nat} {i q : Nat} (h : ms[i]? = some q) : (ms.take i).count q + 1 ≤ ms.count q := by
  have := count_take_le ms (i + 1) q
  rw [count_succ h, if_pos rfl] at this
  exact this
section
variable {js : List JobM} {ms : List Nat}
theorem beg_le (b : BegM js ms) {i q : Nat} (h : ms[i]? = some q) : (ms.take i).count q ≤ lenOf js q := by
  have := count_at h
  have := b.2 q
  omega
theorem endAt_eq {k q : Nat} : endAt js ms k = some q ↔ ms[k]? = some q ∧ (ms.take k).count q = lenOf js q := by
  unfold endAt
  cases h : ms[k]? with
  | none => simp
  | some p =>
    by_cases c : (ms.take k).count p = lenOf js p
    · simp only [if_pos c]
      constructor
      · intro e
        obtain rfl := Option.some.inj e
        exact ⟨rfl, c⟩
      · rintro ⟨e, _⟩
        exact e
    · simp only [if_neg c]
      constructor
      · intro e; cases e
      · rintro ⟨e, d⟩
        obtain rfl := Option.some.inj e
        exact absurd d c
theorem endAt_no {i q : Nat} (h : ms[i]? = some q) (c : (ms.take i).count q ≠ lenOf js q) : endAt js ms i = none := by
  unfold endAt
  rw [h]
  exact if_neg c
theorem verL_no {i q : Nat} (h : ms[i]? = some q) (c : (ms.take i).count q ≠ lenOf js q) (r : Str) : verL js ms (i + 1) r = verL js ms i r := by
  rw [verL_succ, endAt_no h c]
  exact List.append_nil _
theorem mem_wrS {st : List (Bool × Str)} {r : Str} : r ∈ wrS st ↔ (true, r) ∈ st := by
  unfold wrS
  rw [List.mem_map]
  constructor
  · rintro ⟨s, hs, rfl⟩
    obtain ⟨h1, h2⟩ := List.mem_filter.mp hs
    have : s = (true, s.2) := by rw [← h2]
    rw [← this]; exact h1
  · intro h
    exact ⟨(true, r), List.mem_filter.mpr ⟨h, rfl⟩, rfl⟩
theorem verL_yes {i q : Nat} (h : ms[i]? = some q) (c : (ms.take i).count q = lenOf js q) (r : Str) : verL js ms (i + 1) r = verL js ms i r ++ if r ∈ wrS (stepsOf js q) then [q] else [] := by
  rw [verL_succ, endAt_eq.mpr ⟨h, c⟩]
  congr 1
  show (if (true, r) ∈ stepsOf js q then some q else none).toList = _
  by_cases m : (true, r) ∈ stepsOf js q
  · rw [if_pos m, if_pos (mem_wrS.mpr m)]; rfl
  · rw [if_neg m, if_neg (fun z => m (mem_wrS.mp z))]; rfl
theorem opnL_other {i q q' : Nat} (h : ms[i]? = some q) (n : q ≠ q') : opnL js ms (i + 1) q' = opnL js ms i q' := by
  unfold opnL
  rw [count_succ h, if_neg n, Nat.add_zero]
theorem opnL_end {i q : Nat} (h : ms[i]? = some q) (c : (ms.take i).count q = lenOf js q) : opnL js ms (i + 1) q = [] ∧ opnL js ms i q = wrS (stepsOf js q) := by
  unfold opnL
  rw [count_succ h, if_pos rfl, c, if_pos rfl, if_neg (by omega), lenOf_steps, List.take_length]
  exact ⟨rfl, rfl⟩
theorem wrS_app (a b : List (Bool × Str)) : wrS (a ++ b) = wrS a ++ wrS b := by unfold wrS; rw [List.filter_append, List.map_append]
theorem opnL_step {i q : Nat} {s : Bool × Str} (h : ms[i]? = some q) (c : (ms.take i).count q < lenOf js q) (hs : (stepsOf js q)[(ms.take i).count q]? = some s) : opnL js ms (i + 1) q = opnL js ms i q ++ if s.1 = true then [s.2] else [] := by
  unfold opnL
  rw [count_succ h, if_pos rfl, if_neg (by omega), if_neg (by omega), List.take_add_one, hs]
  show wrS (_ ++ [s]) = _
  rw [wrS_app]
  congr 1
  cases s with
  | mk k r => cases k <;> rfl
theorem wrS_nodup {st : List (Bool × Str)} (h : st.Nodup) : (wrS st).Nodup := by
  unfold wrS
  induction st with
  | nil => exact List.nodup_nil
  | cons s t ih =>
    obtain ⟨n1, n2⟩ := List.nodup_cons.mp h
    cases s with
    | mk k r =>
      cases k with
      | false => exact ih n2
      | true =>
        show (r :: (t.filter fun s => s.1).map (·.2)).Nodup
        refine List.nodup_cons.mpr ⟨fun z => n1 (mem_wrS.mp z), ih n2⟩
theorem opnL_nodup (nd : ∀ j ∈ js, j.st.Nodup) (i q : Nat) : (opnL js ms i q).Nodup := by
  unfold opnL
  split
  · exact List.nodup_nil
  · refine wrS_nodup ((List.take_sublist _ _).nodup ?_)
    unfold stepsOf
    cases h : js[q]? with
    | none => exact List.nodup_nil
    | some j => exact nd j (List.mem_of_getElem? h)
theorem opnL_sub {i q : Nat} {r : Str} (h : r ∈ opnL js ms i q) : (true, r) ∈ stepsOf js q := by
  unfold opnL at h
  split at h
  · cases h
  · exact List.mem_of_mem_take (mem_wrS.mp h)
/-! ### runs -/
structure RunE (js : List JobM) (ms : List Nat) (st : RunM) : Prop where
  le : st.ended.length = js.length
  en : ∀ q, q < js.length → ∀ k, st.ended.getD q none = some k ↔ endAt js ms k = some q
  bg : ∀ q, q < js.length → q ∈ ms → st.begun.getD q none = some (ms.idxOf q)
theorem runE_new (js : List JobM) : RunE js [] (newRun js.length) where
  le := List.length_replicate ..
  en q hq k := by
    have e1 : (newRun js.length).ended.getD q none = none := by
      show (List.replicate js.length (none : Option Nat)).getD q none = none
      rw [List.getD_eq_getElem?_getD, List.getElem?_replicate]
      split <;> rfl
    rw [e1]
    constructor
    · intro h; cases h
    · intro h
      have := (endAt_eq.mp h).1
      simp at this
  bg q _ h := by cases h
theorem getD_set {α : Type} {l : List α} {i j : Nat} {x d : α} (h : i < l.length) : (l.set i x).getD j d = if i = j then x else l.getD j d := by
  rw [List.getD_eq_getElem?_getD, List.getElem?_set]
  by_cases e : i = j
  · subst e; rw [if_pos rfl, if_pos h, if_pos rfl]; rfl
  · rw [if_neg e, if_neg e, ← List.getD_eq_getElem?_getD]
theorem runE_go {st : RunM} {p : Nat} (I : RunInv js ms st) (E : RunE js ms st) (len : st.moves.length = ms.length) (hp : p < js.length) (b : BegM js (ms ++ [p])) : RunE js (ms ++ [p]) (goM js st p) := by
  have cp := I.cnt p hp
  have cle : ms.count p ≤ lenOf js p := by
    have := b.2 p
    rw [List.count_append] at this
    simp at this
    omega
  have en1 : ∀ k, k < ms.length → endAt js (ms ++ [p]) k = endAt js ms k := fun k hk => by
    unfold endAt
    rw [List.getElem?_append_left hk, List.take_append_of_le_length (Nat.le_of_lt hk)]
  have en2 : endAt js (ms ++ [p]) ms.length = if ms.count p = lenOf js p then some p else none := by
    unfold endAt
    rw [List.getElem?_append_right (Nat.le_refl _), Nat.sub_self, List.take_left]
    rfl
  have lt : ∀ {k q : Nat}, endAt js (ms ++ [p]) k = some q → k < ms.length ∨ k = ms.length := fun {k q} h => by
    have := (List.getElem?_eq_some_iff.mp (endAt_eq.mp h).1).1
    rw [List.length_append, List.length_singleton] at this
    omega
  refine ⟨?_, fun q hq k => ?_, fun q hq hm => ?_⟩
  · unfold goM
    dsimp only
    split
    · rw [List.length_set]; exact E.le
    · exact E.le
  · show (if st.counts.getD p 0 = lenOf js p then st.ended.set p (some st.moves.length) else st.ended).getD q none = some k ↔ _
    rw [cp, len]
    by_cases c : ms.count p = lenOf js p
    · rw [if_pos c, getD_set (by rw [E.le]; exact hp)]
      by_cases e : p = q
      · subst e
        rw [if_pos rfl]
        constructor
        · intro h
          obtain rfl := Option.some.inj h
          rw [en2, if_pos c]
        · intro h
          rcases lt h with hk | hk
          · rw [en1 k hk] at h
            obtain ⟨h1, h2⟩ := endAt_eq.mp h
            have := count_at h1
            omega
          · rw [hk]
      · rw [if_neg e, E.en q hq]
        constructor
        · intro h
          rw [en1 k (by have := (List.getElem?_eq_some_iff.mp (endAt_eq.mp h).1).1; exact this)]
          exact h
        · intro h
          rcases lt h with hk | hk
          · rw [en1 k hk] at h; exact h
          · rw [hk, en2, if_pos c] at h
            exact absurd (Option.some.inj h) e
    · rw [if_neg c, E.en q hq]
      constructor
      · intro h
        rw [en1 k (by have := (List.getElem?_eq_some_iff.mp (endAt_eq.mp h).1).1; exact this)]
        exact h
      · intro h
        rcases lt h with hk | hk
        · rw [en1 k hk] at h; exact h
        · rw [hk, en2, if_neg c] at h; cases h
  · show (if st.counts.getD p 0 = 0 then st.begun.set p (some st.moves.length) else st.begun).getD q none = _
    rw [cp, len]
    by_cases c : ms.count p = 0
    · have np : p ∉ ms := List.count_eq_zero.mp c
      rw [if_pos c, getD_set (by rw [I.lb]; exact hp)]
      by_cases e : p = q
      · subst e
        rw [if_pos rfl, List.idxOf_append, if_neg np]
        simp
      · rw [if_neg e]
        have hm' : q ∈ ms := by
          rcases List.mem_append.mp hm with z | z
          · exact z
          · exact absurd (List.mem_singleton.mp z).symm e
        rw [E.bg q hq hm', List.idxOf_append, if_pos hm']
    · rw [if_neg c]
      have hm' : q ∈ ms := by
        rcases List.mem_append.mp hm with z | z
        · exact z
        · rw [List.mem_singleton.mp z]
          exact List.count_pos_iff.mp (by omega)
      rw [E.bg q hq hm', List.idxOf_append, if_pos hm']
end
end Kz

namespace Kz
open PySem PySem.Spec PyProof.Rows L2 RZ Kt Kx
section
variable {js : List JobM} {ms : List Nat}
theorem runE (b : BegM js ms) : RunE js ms (runM js ms) := by
  have gen : ∀ (n : Nat), n ≤ ms.length → RunE js (ms.take n) (runM js (ms.take n)) := by
    intro n
    induction n with
    | zero => intro _; exact runE_new js
    | succ n ih =>
      intro hn
      have hl : n < ms.length := hn
      have bn : ∀ m, BegM js (ms.take m) := fun m => ⟨fun q h => b.1 q (List.mem_of_mem_take h), fun q => Nat.le_trans (count_take_le ms m q) (b.2 q)⟩
      have b1 := bn (n + 1)
      rw [List.take_add_one, List.getElem?_eq_getElem hl] at b1 ⊢
      show RunE js (ms.take n ++ [ms[n]]) (runM js (ms.take n ++ [ms[n]]))
      rw [runM_snoc]
      exact runE_go (runInv js _ (bn n).1) (ih (Nat.le_of_lt hl)) (runM_len js _) (b.1 _ (List.getElem_mem hl)) b1
  have := gen ms.length (Nat.le_refl _)
  rw [List.take_length] at this
  exact this
/-- who holds what -/
theorem holds_iff (b : BegM js ms) {q : Nat} (hq : q < js.length) (r : Str) (n : Nat) : holdsM js (runM js (ms.take n)) q r = true ↔ r ∈ opnL js ms n q := by
  have bn : BegM js (ms.take n) := ⟨fun q h => b.1 q (List.mem_of_mem_take h), fun q => Nat.le_trans (count_take_le ms n q) (b.2 q)⟩
  have I := runInv js _ bn.1
  have E := runE bn
  unfold holdsM opnL
  rw [I.cnt q hq, Bool.and_eq_true, decide_eq_true_eq, decide_eq_true_eq]
  have key : (runM js (ms.take n)).ended.getD q none = none ↔ (ms.take n).count q ≠ lenOf js q + 1 := by
    constructor
    · intro h c
      -- the last place of q is its commit
      have : ∀ m, m ≤ (ms.take n).length → ((ms.take n).take m).count q = lenOf js q + 1 → ∃ k, endAt js (ms.take n) k = some q := by
        intro m
        induction m with
        | zero => intro _ h; simp at h
        | succ m ih =>
          intro hm h
          have hl : m < (ms.take n).length := hm
          have hg : (ms.take n)[m]? = some (ms.take n)[m] := List.getElem?_eq_getElem hl
          rw [count_succ hg] at h
          by_cases e : (ms.take n)[m] = q
          · rw [if_pos e] at h
            exact ⟨m, endAt_eq.mpr ⟨by rw [hg, e], by omega⟩⟩
          · rw [if_neg e] at h
            exact ih (Nat.le_of_lt hl) h
      obtain ⟨k, hk⟩ := this _ (Nat.le_refl _) (by rw [List.take_length]; exact c)
      rw [(E.en q hq k).mpr hk] at h
      cases h
    · intro c
      cases h : (runM js (ms.take n)).ended.getD q none with
      | none => rfl
      | some k =>
        obtain ⟨h1, h2⟩ := endAt_eq.mp ((E.en q hq k).mp h)
        have := count_at h1
        have := bn.2 q
        omega
  rw [key]
  by_cases c : (ms.take n).count q = lenOf js q + 1
  · rw [if_pos c]
    constructor
    · rintro ⟨h, _⟩; exact absurd c h
    · intro h; cases h
  · rw [if_neg c, mem_wrS]
    exact ⟨fun h => h.2, fun h => ⟨c, h⟩⟩
/-- the versions that are there -/
theorem waM_eq (b : BegM js ms) (r : Str) (i : Nat) : waM js (runM js ms) r i = (verL js ms i r).map fun q => ((q : Nat) : Int) := by
  have E := runE b
  let zf : Nat → Option (Int × Int) := fun k => (endAt js ms k).bind fun q => if (true, r) ∈ stepsOf js q then some ((k : Nat), (q : Nat)) else none
  have ez : (verL js ms i r).map (fun q => ((q : Nat) : Int)) = ((List.range i).filterMap zf).map (·.2) := by
    unfold verL
    rw [List.map_filterMap, List.map_filterMap]
    congr 1
    funext k
    show Option.map _ (Option.bind _ _) = Option.map _ (Option.bind _ _)
    cases endAt js ms k with
    | none => rfl
    | some q =>
      show Option.map _ (if _ then _ else _) = Option.map _ (if _ then _ else _)
      split <;> rfl
  rw [ez]
  unfold waM
  congr 1
  symm
  have zmem : ∀ k q : Nat, ((((k : Nat) : Int), ((q : Nat) : Int)) : Int × Int) ∈ (List.range i).filterMap zf ↔ k < i ∧ endAt js ms k = some q ∧ (true, r) ∈ stepsOf js q := by
    intro k q
    rw [List.mem_filterMap]
    constructor
    · rintro ⟨k', hk', hz⟩
      have hk2 := List.mem_range.mp hk'
      show _
      cases he : endAt js ms k' with
      | none =>
        have : zf k' = none := by show Option.bind _ _ = _; rw [he]; rfl
        rw [this] at hz; cases hz
      | some q' =>
        have e1 : zf k' = if (true, r) ∈ stepsOf js q' then some (((k' : Nat) : Int), ((q' : Nat) : Int)) else none := by show Option.bind _ _ = _; rw [he]; rfl
        rw [e1] at hz
        by_cases m : (true, r) ∈ stepsOf js q'
        · rw [if_pos m] at hz
          have e2 := Option.some.inj hz
          have a1 : ((k' : Nat) : Int) = k := congrArg Prod.fst e2
          have a2 : ((q' : Nat) : Int) = q := congrArg Prod.snd e2
          obtain rfl : k' = k := by omega
          obtain rfl : q' = q := by omega
          exact ⟨hk2, he, m⟩
        · rw [if_neg m] at hz; cases hz
    · rintro ⟨hk, he, m⟩
      refine ⟨k, List.mem_range.mpr hk, ?_⟩
      show Option.bind _ _ = _
      rw [he]
      exact if_pos m
  have zform : ∀ z ∈ (List.range i).filterMap zf, ∃ k q : Nat, z = (((k : Nat) : Int), ((q : Nat) : Int)) := by
    intro z hz
    obtain ⟨k, _, h⟩ := List.mem_filterMap.mp hz
    cases he : endAt js ms k with
    | none =>
      have : zf k = none := by show Option.bind _ _ = _; rw [he]; rfl
      rw [this] at h; cases h
    | some q =>
      have e1 : zf k = if (true, r) ∈ stepsOf js q then some (((k : Nat) : Int), ((q : Nat) : Int)) else none := by show Option.bind _ _ = _; rw [he]; rfl
      rw [e1] at h
      split at h
      · exact ⟨k, q, (Option.some.inj h).symm⟩
      · cases h
  have zfirst : ∀ k z, zf k = some z → z.1 = ((k : Nat) : Int) := by
    intro k z h
    cases he : endAt js ms k with
    | none =>
      have : zf k = none := by show Option.bind _ _ = _; rw [he]; rfl
      rw [this] at h; cases h
    | some q =>
      have e1 : zf k = if (true, r) ∈ stepsOf js q then some (((k : Nat) : Int), ((q : Nat) : Int)) else none := by show Option.bind _ _ = _; rw [he]; rfl
      rw [e1] at h
      split at h
      · rw [← Option.some.inj h]
      · cases h
  have zpw : ((List.range i).filterMap zf).Pairwise (fun a b => a.1 < b.1) := by
    rw [List.pairwise_filterMap]
    refine List.Pairwise.imp ?_ (List.pairwise_lt_range (n := i))
    intro a b' hab x hx y hy
    rw [zfirst a x hx, zfirst b' y hy]
    omega
  refine sortP_of (zpw.imp fun {a b} h => lexB_no.mpr (by omega)) ?_
  refine (List.perm_ext_iff_of_nodup (zpw.imp fun {a b} h e => by rw [e] at h; omega) ?_).mpr ?_
  · unfold waPairs
    have wform : ∀ p z, waAt js (runM js ms) r i p = some z → z.2 = ((p : Nat) : Int) := by
      intro p z h
      unfold waAt at h
      cases hd : (runM js ms).ended.getD p none with
      | none => rw [hd] at h; cases h
      | some e =>
        rw [hd] at h
        dsimp only at h
        split at h
        · rw [← Option.some.inj h]
        · cases h
    have : ((List.range js.length).filterMap (waAt js (runM js ms) r i)).Pairwise (fun a b => a.2 < b.2) := by
      rw [List.pairwise_filterMap]
      refine List.Pairwise.imp ?_ (List.pairwise_lt_range (n := js.length))
      intro a b' hab x hx y hy
      rw [wform a x hx, wform b' y hy]
      omega
    exact this.imp fun {a b} h e => by rw [e] at h; omega
  · intro z
    constructor
    · intro hz
      obtain ⟨k, q, rfl⟩ := zform z hz
      obtain ⟨h1, h2, h3⟩ := (zmem k q).mp hz
      have hq : q < js.length := b.1 q (List.mem_of_getElem? (endAt_eq.mp h2).1)
      unfold waPairs
      rw [List.mem_filterMap]
      refine ⟨q, List.mem_range.mpr hq, ?_⟩
      unfold waAt
      rw [(E.en q hq k).mpr h2]
      exact if_pos ⟨by omega, h3⟩
    · intro hz
      unfold waPairs at hz
      obtain ⟨q, hq, h⟩ := List.mem_filterMap.mp hz
      have hq' := List.mem_range.mp hq
      unfold waAt at h
      cases hd : (runM js ms).ended.getD q none with
      | none => rw [hd] at h; cases h
      | some e =>
        rw [hd] at h
        dsimp only at h
        split at h
        · rename_i c
          rw [← Option.some.inj h]
          exact (zmem e q).mpr ⟨by omega, (E.en q hq' e).mp hd, c.2⟩
        · cases h
theorem versD_eq (b : BegM js ms) (r : Str) (i : Nat) : versD js ms r i = verT (verL js ms i r) := by
  unfold versD verT
  rw [waM_eq b r i, List.map_map]
  rfl
end
end Kz

namespace Kz
open PySem PySem.Spec PyProof.Rows L2 RZ Kt Kx
/-! ### pairs of a text and a place, in order -/
def prD (p : Str × Nat) : PyData := pairD p.1 p.2
def ltQ (a b : Str × Nat) : Prop := ltS a.1 b.1 ∨ (a.1 = b.1 ∧ a.2 < b.2)
instance (a b : Str × Nat) : Decidable (ltQ a b) := inferInstanceAs (Decidable (_ ∨ _))
def leQ (a b : Str × Nat) : Bool := !decide (ltQ b a)
theorem dataLt_pr (a b : Str × Nat) : PySem.W.dataLt (prD a) (prD b) = decide (ltQ a b) := by
  show PySem.W.dataLt (.tuple [.str a.1, .int (a.2 : Nat)]) (.tuple [.str b.1, .int (b.2 : Nat)]) = _
  rw [PySem.W.dataLt_pair (by simp [PySem.W.alike]) (by simp [PySem.W.alike]), PySem.W.dataLt_str, PySem.W.dataLt_int]
  simp only [PyData.eqv, beq_iff_eq]
  by_cases e : a.1 = b.1
  · rw [if_pos e]
    have n : ¬ ltS a.1 b.1 := by rw [e]; exact ltS_irrefl _
    by_cases f : ((a.2 : Nat) : Int) = ((b.2 : Nat) : Int)
    · rw [if_pos f]
      refine (decide_eq_false (p := ltQ a b) fun h => ?_).symm
      rcases h with h | h
      · exact n h
      · have := h.2; omega
    · rw [if_neg f]
      by_cases l : a.2 < b.2
      · have c : ltQ a b := .inr ⟨e, l⟩
        rw [decide_eq_true c]
        exact decide_eq_true (by omega)
      · have c : ¬ ltQ a b := fun h => h.elim n fun h => l h.2
        rw [decide_eq_false c]
        exact decide_eq_false (by omega)
  · rw [if_neg e]
    by_cases l : ltS a.1 b.1
    · have c : ltQ a b := .inl l
      rw [decide_eq_true c]
      exact decide_eq_true l
    · have c : ¬ ltQ a b := fun h => h.elim l fun h => e h.1
      rw [decide_eq_false c]
      exact decide_eq_false l
theorem leQ_data (a b : Str × Nat) : leQ a b = PySem.W.dataLe false id (prD a) (prD b) := by
  show (!decide (ltQ b a)) = (!PySem.W.dataLt (id (prD b)) (id (prD a)))
  rw [id, id, dataLt_pr]
theorem leQ_iff {a b : Str × Nat} : leQ a b = true ↔ ¬ ltQ b a := by
  unfold leQ
  simp
theorem ltQ_tri {a b : Str × Nat} (h : ¬ ltQ a b) : ltQ b a ∨ a = b := by
  unfold ltQ at *
  by_cases e : a.1 = b.1
  · by_cases f : a.2 = b.2
    · exact .inr (Prod.ext e f)
    · refine .inl (.inr ⟨e.symm, ?_⟩)
      have : ¬ a.2 < b.2 := fun q => h (.inr ⟨e, q⟩)
      omega
  · exact .inl (.inl (ltS_tri (fun q => h (.inl q)) e))
theorem ltQ_trans {a b c : Str × Nat} (h : ltQ a b) (k : ltQ b c) : ltQ a c := by
  unfold ltQ at *
  rcases h with h | ⟨h1, h2⟩
  · rcases k with k | ⟨k1, k2⟩
    · exact .inl (ltS_trans h k)
    · exact .inl (by rw [← k1]; exact h)
  · rcases k with k | ⟨k1, k2⟩
    · exact .inl (by rw [h1]; exact k)
    · exact .inr ⟨h1.trans k1, by omega⟩
theorem ltQ_irrefl (a : Str × Nat) : ¬ ltQ a a := fun h => h.elim (ltS_irrefl _) fun h => Nat.lt_irrefl _ h.2
theorem leQ_trans (a b c : Str × Nat) (h : leQ a b = true) (k : leQ b c = true) : leQ a c = true := by
  rw [leQ_iff] at *
  intro q
  rcases ltQ_tri h with h' | rfl
  · rcases ltQ_tri k with k' | rfl
    · exact ltQ_irrefl _ (ltQ_trans (ltQ_trans h' k') q)
    · exact h q
  · exact k q
theorem leQ_total (a b : Str × Nat) : (leQ a b || leQ b a) = true := by
  rw [Bool.or_eq_true, leQ_iff, leQ_iff]
  by_cases h : ltQ b a
  · exact .inr fun q => ltQ_irrefl _ (ltQ_trans h q)
  · exact .inl h
theorem leQ_anti (a b : Str × Nat) (h : leQ a b = true) (k : leQ b a = true) : a = b := by
  rw [leQ_iff] at *
  exact (ltQ_tri h).elim (fun q => absurd q k) Eq.symm
/-- the pairs that are held, in order -/
def HL (js : List JobM) (st : RunM) : List (Str × Nat) := (rowsM js).flatMap fun r => ((List.range js.length).filter fun q => holdsM js st q r).map fun q => (r, q)
theorem HL_kept (js : List JobM) (st : RunM) : kept (heldO js st).flatten = (HL js st).map prD := by
  unfold heldO HL
  generalize rowsM js = l
  induction l with
  | nil => rfl
  | cons r t ih =>
    rw [List.map_cons, List.flatten_cons, List.flatMap_cons, List.map_append, ← ih]
    unfold kept
    rw [List.filterMap_append]
    congr 1
    generalize List.range js.length = m
    induction m with
    | nil => rfl
    | cons q u ih2 =>
      rw [List.map_cons]
      by_cases h : holdsM js st q r = true
      · rw [List.filter_cons_of_pos (p := fun q => holdsM js st q r) h, if_pos h, List.filterMap_cons_some (f := id) (a := some (pairD r q)) (b := pairD r q) rfl, List.map_cons, List.map_cons, ih2]
        rfl
      · rw [List.filter_cons_of_neg (p := fun q => holdsM js st q r) h, if_neg h, List.filterMap_cons_none (f := id) (a := (none : Option PyData)) rfl, ih2]
theorem HL_sorted (js : List JobM) (st : RunM) : (HL js st).Pairwise ltQ := by
  unfold HL
  have h : (rowsM js).Pairwise ltS := inc_ascS _
  revert h
  generalize rowsM js = l
  intro h
  induction l with
  | nil => exact List.Pairwise.nil
  | cons r t ih =>
    obtain ⟨h1, h2⟩ := List.pairwise_cons.mp h
    rw [List.flatMap_cons, List.pairwise_append]
    refine ⟨?_, ih h2, ?_⟩
    · rw [List.pairwise_map]
      refine List.Pairwise.imp (fun {a b} q => ?_) ((List.pairwise_lt_range (n := js.length)).sublist List.filter_sublist)
      exact .inr ⟨rfl, q⟩
    · intro a ha b hb
      obtain ⟨q, _, rfl⟩ := List.mem_map.mp ha
      obtain ⟨r', hr', hb'⟩ := List.mem_flatMap.mp hb
      obtain ⟨q', _, rfl⟩ := List.mem_map.mp hb'
      exact .inl (h1 r' hr')
theorem HL_mem {js : List JobM} {st : RunM} {r : Str} {q : Nat} : (r, q) ∈ HL js st ↔ q < js.length ∧ holdsM js st q r = true := by
  unfold HL
  rw [List.mem_flatMap]
  constructor
  · rintro ⟨r', _, h⟩
    obtain ⟨q', h', e⟩ := List.mem_map.mp h
    have e1 : r' = r := congrArg Prod.fst e
    have e2 : q' = q := congrArg Prod.snd e
    subst e1 e2
    obtain ⟨h1, h2⟩ := List.mem_filter.mp h'
    exact ⟨List.mem_range.mp h1, h2⟩
  · rintro ⟨h1, h2⟩
    refine ⟨r, ?_, List.mem_map.mpr ⟨q, List.mem_filter.mpr ⟨List.mem_range.mpr h1, h2⟩, rfl⟩⟩
    unfold holdsM at h2
    rw [Bool.and_eq_true, decide_eq_true_eq, decide_eq_true_eq] at h2
    have hs := List.mem_of_mem_take h2.2
    unfold rowsM
    rw [mem_ascS]
    unfold allRows
    rw [List.mem_flatMap]
    refine ⟨js[q], List.getElem_mem h1, List.mem_map.mpr ⟨(true, r), ?_, rfl⟩⟩
    unfold stepsOf at hs
    rw [List.getElem?_eq_getElem h1] at hs
    exact hs
theorem held_sorted {js : List JobM} {st : RunM} {hl : List (Str × Nat)} (nd : hl.Nodup) (mem : ∀ r q, (r, q) ∈ hl ↔ q < js.length ∧ holdsM js st q r = true) : (hl.map prD).mergeSort (PySem.W.dataLe false id) = kept (heldO js st).flatten := by
  have pm : (HL js st).Perm hl := (List.perm_ext_iff_of_nodup (List.Pairwise.imp (S := (· ≠ ·)) (fun {a b} (h : ltQ a b) (e : a = b) => ltQ_irrefl a (by rw [← e] at h; exact h)) (HL_sorted js st)) nd).mpr fun x => by
    obtain ⟨r, q⟩ := x
    rw [HL_mem, mem]
  have e := PySem.W.Srt.the_of_perm (le := leQ) leQ_trans leQ_total leQ_anti pm ((HL_sorted js st).imp fun {a b} h => leQ_iff.mpr fun k => ltQ_irrefl _ (ltQ_trans h k))
  rw [HL_kept, e]
  exact (PySem.W.sort_maps prD fun a _ b _ => leQ_data a b).symm
end Kz

namespace Kz
open PySem PySem.Spec PyProof.Rows L2 RZ Kt Kx
section
variable {K : PySem.W.Frag}
/-! ### what stands at each turn of the play -/
theorem dp_verT_up {B B' : Hp} (s : Same B B') {kvs : List (Key × V)} {f : Str → List Nat} (h : VerD K B kvs f) : VerD K B' kvs f := by
  obtain ⟨tl, d, e⟩ := h
  exact ⟨tl, d.mono fun v l => dp_same s, e⟩
theorem rowOk_up {B B' : Hp} (s : Same B B') {js : List JobM} {ms : List Nat} {k : Nat} {v : V} (h : RowOk K B js ms k v) : RowOk K B' js ms k v := by
  obtain ⟨a, d, hv, sl, kvs, sv, e1, e2, e3, e4, e5, e6, e7⟩ := h
  exact ⟨a, d, hv, sl, kvs, sv, e1, seqT_same s e2, s _ _ e3, dp_verT_up s e4, dp_same s e5, s _ _ e6, dpAll_same s e7⟩
def ShotR (K : PySem.W.Frag) (B : Hp) (js : List JobM) (ms : List Nat) (v : V) (n : Nat) : Prop := ∃ d kvs, v = .ref d ∧ B d = some (.dK kvs) ∧ VerD K B kvs (verL js ms n)
structure PlayG (K : PySem.W.Frag) (H0 : Hp) (js : List JobM) (ms : List Nat) (nT : Nat) (fT : Str → List Nat) (iS iO : Nat) (t s o f : Addr) (H : Hp) : Prop where
  ts : t ≠ s
  to : t ≠ o
  tf : t ≠ f
  so : s ≠ o
  sf : s ≠ f
  of : o ≠ f
  nt : H0 t = none
  ns : H0 s = none
  no : H0 o = none
  nf : H0 f = none
  s0 : Same H0 H
  there : ∃ kvs, H t = some (.dK kvs) ∧ kvs.length ≤ nT ∧ VerD K (delS [t, s, o, f] H) kvs fT
  shots : ∃ kvs sl, H s = some (.dK kvs) ∧ kvs.length ≤ iS ∧ DK encN (ShotR K (delS [t, s, o, f] H) js ms) kvs sl ∧ ∀ q, lkA sl q = if q ∈ ms.take iS then some (ms.idxOf q) else none
  opn : ∃ kvs ol, H o = some (.dK kvs) ∧ kvs.length ≤ iO ∧ DK encN (fun v rs => Dp K (delS [t, s, o, f] H) v (.tuple (rs.map PyData.str))) kvs ol ∧ (ol.map (·.1)).Nodup ∧ (∀ q ∈ ol.map (·.1), q < js.length) ∧ ∀ q, (lkA ol q).getD [] = opnL js ms iO q
abbrev PlayI (K : PySem.W.Frag) (H0 : Hp) (js : List JobM) (ms : List Nat) (i iS iO : Nat) (t s o f : Addr) (H : Hp) : Prop := PlayG K H0 js ms (1000 * i) (verL js ms i) iS iO t s o f H
def FoundI (K : PySem.W.Frag) (js : List JobM) (ms : List Nat) (iF : Nat) (t s o f : Addr) (H : Hp) : Prop := ∃ rows, H f = some (.lst rows) ∧ rows.length = iF ∧ ∀ k v, rows[k]? = some v → RowOk K (delS [t, s, o, f] H) js ms k v
variable {H0 H H' : Hp} {js : List JobM} {ms : List Nat} {i iS iO iF nT : Nat} {fT : Str → List Nat} {t s o f : Addr}
theorem PlayG.same (p : PlayG K H0 js ms nT fT iS iO t s o f H) (e : Same H H') : PlayG K H0 js ms nT fT iS iO t s o f H' := by
  obtain ⟨k1, a1, a2, a3⟩ := p.there
  obtain ⟨k2, sl, b1, b2, b3, b4⟩ := p.shots
  obtain ⟨k3, ol, c1, c2, c3, c4⟩ := p.opn
  have d := delS_mono (S := [t, s, o, f]) e
  exact { p with
    s0 := p.s0.trans e
    there := ⟨k1, e _ _ a1, a2, dp_verT_up d a3⟩
    shots := ⟨k2, sl, e _ _ b1, b2, b3.mono (fun v n => by
      rintro ⟨x, kv, h1, h2, h3⟩
      exact ⟨x, kv, h1, d _ _ h2, dp_verT_up d h3⟩), b4⟩
    opn := ⟨k3, ol, e _ _ c1, c2, c3.mono (fun v rs => dp_same d), c4⟩ }
theorem FoundI.same (p : FoundI K js ms iF t s o f H) (e : Same H H') : FoundI K js ms iF t s o f H' := by
  obtain ⟨rows, h1, h2, h3⟩ := p
  exact ⟨rows, e _ _ h1, h2, fun k v hv => rowOk_up (delS_mono e) (h3 k v hv)⟩
theorem len_putK (kvs : List (Key × V)) (k : Key) (v : V) : (putK kvs k v).length ≤ kvs.length + 1 := by
  unfold putK
  split
  · rw [List.length_map]; omega
  · rw [List.length_append]; exact Nat.le_refl _
/-- the shots are written -/
theorem PlayG.putS (p : PlayG K H0 js ms nT fT iS iO t s o f H) {kvs : List (Key × V)} (hs : H s = some (.dK kvs)) {q d : Nat} {kt : List (Key × V)} (hq : ms[iS]? = some q) (nq : q ∉ ms.take iS) (hd : H d = some (.dK kt)) (nd : d ∉ [t, s, o, f]) (hv : VerD K (delS [t, s, o, f] H) kt (verL js ms iS)) :
    PlayG K H0 js ms nT fT (iS + 1) iO t s o f (upd H s (.dK (putK kvs (encN q) (.ref d)))) := by
  obtain ⟨k1, a1, a2, a3⟩ := p.there
  obtain ⟨k2, sl, b1, b2, b3, b4⟩ := p.shots
  obtain ⟨k3, ol, c1, c2, c3, c4⟩ := p.opn
  rw [hs] at b1
  obtain rfl : kvs = k2 := by cases b1; rfl
  have e : delS [t, s, o, f] (upd H s (.dK (putK kvs (encN q) (.ref d)))) = delS [t, s, o, f] H := delS_upd (by simp)
  have idx : ms.idxOf q = iS := by
    have h1 : ms = ms.take iS ++ ms.drop iS := (List.take_append_drop iS ms).symm
    have hl := (List.getElem?_eq_some_iff.mp hq).1
    have h2 : ms.drop iS = q :: ms.drop (iS + 1) := by
      rw [List.drop_eq_getElem_cons hl]
      congr 1
      rw [List.getElem?_eq_getElem hl] at hq
      exact Option.some.inj hq
    rw [h1, List.idxOf_append, if_neg nq, h2, List.length_take]
    simp
    omega
  exact { p with
    s0 := same_upd p.ns p.s0
    there := ⟨k1, (upd_ne p.ts).trans a1, a2, by rw [e]; exact a3⟩
    shots := ⟨_, putA sl q iS, upd_same, by have := len_putK kvs (encN q) (.ref d); omega, by
      rw [e]
      exact b3.put inj_nat ⟨d, kt, rfl, delS_at nd hd, hv⟩, fun q' => by
      rw [lkA_put, b4, take_succ hq]
      by_cases c : q = q'
      · subst c
        rw [if_pos rfl, if_pos (List.mem_append_right _ (List.mem_singleton.mpr rfl)), idx]
      · rw [if_neg c]
        by_cases m : q' ∈ ms.take iS
        · rw [if_pos m, if_pos (List.mem_append_left _ m)]
        · rw [if_neg m, if_neg (fun z => (List.mem_append.mp z).elim m fun z => c (List.mem_singleton.mp z).symm)]⟩
    opn := ⟨k3, ol, (upd_ne p.so.symm).trans c1, c2, by rw [e]; exact c3, c4⟩ }
/-- .. nothing is written -/
theorem PlayG.putS0 (p : PlayG K H0 js ms nT fT iS iO t s o f H) {q : Nat} (hq : ms[iS]? = some q) (nq : q ∈ ms.take iS) : PlayG K H0 js ms nT fT (iS + 1) iO t s o f H := by
  obtain ⟨k2, sl, b1, b2, b3, b4⟩ := p.shots
  exact { p with
    shots := ⟨k2, sl, b1, by omega, b3, fun q' => by
      rw [b4, take_succ hq]
      by_cases m : q' ∈ ms.take iS
      · rw [if_pos m, if_pos (List.mem_append_left _ m)]
      · rw [if_neg m, if_neg (fun z => (List.mem_append.mp z).elim m fun z => m (by rw [List.mem_singleton.mp z]; exact nq))]⟩ }
/-- what is open is written -/
theorem PlayG.putO (p : PlayG K H0 js ms nT fT iS iO t s o f H) {kvs : List (Key × V)} (ho : H o = some (.dK kvs)) {q : Nat} {v : V} {rs : List Str} (hq : q < js.length) (hv : Dp K (delS [t, s, o, f] H) v (.tuple (rs.map PyData.str))) (e1 : opnL js ms (iO + 1) q = rs) (e2 : ∀ q', q ≠ q' → opnL js ms (iO + 1) q' = opnL js ms iO q') :
    PlayG K H0 js ms nT fT iS (iO + 1) t s o f (upd H o (.dK (putK kvs (encN q) v))) := by
  obtain ⟨k1, a1, a2, a3⟩ := p.there
  obtain ⟨k2, sl, b1, b2, b3, b4⟩ := p.shots
  obtain ⟨k3, ol, c1, c2, c3, c4, c5, c6⟩ := p.opn
  rw [ho] at c1
  obtain rfl : kvs = k3 := by cases c1; rfl
  have e : delS [t, s, o, f] (upd H o (.dK (putK kvs (encN q) v))) = delS [t, s, o, f] H := delS_upd (by simp)
  exact { p with
    s0 := same_upd p.no p.s0
    there := ⟨k1, (upd_ne p.to).trans a1, a2, by rw [e]; exact a3⟩
    shots := ⟨k2, sl, (upd_ne p.so).trans b1, b2, by rw [e]; exact b3, b4⟩
    opn := ⟨_, putA ol q rs, upd_same, by have := len_putK kvs (encN q) v; omega, by rw [e]; exact c3.put inj_nat hv, nodup_put c4 q rs, fun q' h => by
      rw [keys_put] at h
      split at h
      · exact c5 q' h
      · rcases List.mem_append.mp h with z | z
        · exact c5 q' z
        · rw [List.mem_singleton.mp z]; exact hq, fun q' => by
      rw [lkA_put]
      by_cases c : q = q'
      · subst c; rw [if_pos rfl]; exact e1.symm
      · rw [if_neg c, c6, e2 q' c]⟩ }
theorem PlayG.keepO (p : PlayG K H0 js ms nT fT iS iO t s o f H) (e : ∀ q', opnL js ms (iO + 1) q' = opnL js ms iO q') : PlayG K H0 js ms nT fT iS (iO + 1) t s o f H := by
  obtain ⟨k3, ol, c1, c2, c3, c4, c5, c6⟩ := p.opn
  exact { p with opn := ⟨k3, ol, c1, by omega, c3, c4, c5, fun q => by rw [c6, e]⟩ }
theorem PlayG.keepT (p : PlayG K H0 js ms nT fT iS iO t s o f H) {nT' : Nat} {fT' : Str → List Nat} (h : nT ≤ nT') (e : ∀ r, fT' r = fT r) : PlayG K H0 js ms nT' fT' iS iO t s o f H := by
  obtain ⟨k1, a1, a2, tl, a3, a4⟩ := p.there
  exact { p with there := ⟨k1, a1, by omega, tl, a3, fun r => by rw [a4, e]⟩ }
/-- a version is written -/
theorem PlayG.putT (p : PlayG K H0 js ms nT fT iS iO t s o f H) {kvs : List (Key × V)} (ht : H t = some (.dK kvs)) {r : Str} {v : V} {l : List Nat} (hv : Dp K (delS [t, s, o, f] H) v (verT l)) : PlayG K H0 js ms (nT + 1) (fun r' => if r = r' then l else fT r') iS iO t s o f (upd H t (.dK (putK kvs (encS r) v))) := by
  obtain ⟨k1, a1, a2, tl, a3, a4⟩ := p.there
  obtain ⟨k2, sl, b1, b2, b3, b4⟩ := p.shots
  obtain ⟨k3, ol, c1, c2, c3, c4⟩ := p.opn
  rw [ht] at a1
  obtain rfl : kvs = k1 := by cases a1; rfl
  have e : delS [t, s, o, f] (upd H t (.dK (putK kvs (encS r) v))) = delS [t, s, o, f] H := delS_upd (by simp)
  exact { p with
    s0 := same_upd p.nt p.s0
    there := ⟨_, upd_same, by have := len_putK kvs (encS r) v; omega, putA tl r l, by rw [e]; exact a3.put inj_str hv, fun r' => by
      rw [lkA_put]
      by_cases c : r = r'
      · rw [if_pos c]; exact (if_pos c).symm
      · rw [if_neg c, a4]; exact (if_neg c).symm⟩
    shots := ⟨k2, sl, (upd_ne p.ts.symm).trans b1, b2, by rw [e]; exact b3, b4⟩
    opn := ⟨k3, ol, (upd_ne p.to.symm).trans c1, c2, by rw [e]; exact c3, c4⟩ }
/-- tuples are none of the four -/
theorem PlayG.tsd (p : PlayG K H0 js ms nT fT iS iO t s o f H) (hf : ∃ rows, H f = some (.lst rows)) : TS0 K H (delS [t, s, o, f] H) := fun a zs hz => by
  obtain ⟨k1, t1, _⟩ := p.there
  obtain ⟨k2, _, t2, _⟩ := p.shots
  obtain ⟨k3, _, t3, _⟩ := p.opn
  obtain ⟨rows, t4⟩ := hf
  have na : ∀ {u : Addr}, (∃ kv, H u = some (.dK kv)) ∨ (∃ kv, H u = some (.lst kv)) → (H a = some (.tup zs) ∨ ∃ o, H a = some (.frz o (.tup zs))) → a ≠ u := fun {u} hu hz e => by
    subst e
    rcases hu with ⟨kv, hu⟩ | ⟨kv, hu⟩ <;> rcases hz with hz | ⟨o, hz⟩ <;> (rw [hu] at hz; cases hz)
  rcases hz with hz | hz
  · have nS : a ∉ [t, s, o, f] := by
      simp only [List.mem_cons, List.not_mem_nil, or_false, not_or]
      exact ⟨na (.inl ⟨_, t1⟩) hz, na (.inl ⟨_, t2⟩) hz, na (.inl ⟨_, t3⟩) hz, na (.inr ⟨_, t4⟩) hz⟩
    rcases hz with hz | ⟨o', hz⟩
    · exact .inl (.inl (delS_at nS hz))
    · exact .inl (.inr ⟨o', delS_at nS hz⟩)
  · exact .inr hz
/-- a row more is found -/
theorem FoundI.put (p : PlayG K H0 js ms nT fT iS iO t s o f H) (F : FoundI K js ms iF t s o f H) {rows : List V} (hf : H f = some (.lst rows)) {v : V} (hv : RowOk K (delS [t, s, o, f] H) js ms iF v) :
    PlayG K H0 js ms nT fT iS iO t s o f (upd H f (.lst (rows ++ [v]))) ∧ FoundI K js ms (iF + 1) t s o f (upd H f (.lst (rows ++ [v]))) := by
  obtain ⟨k1, a1, a2, a3⟩ := p.there
  obtain ⟨k2, sl, b1, b2, b3, b4⟩ := p.shots
  obtain ⟨k3, ol, c1, c2, c3, c4⟩ := p.opn
  obtain ⟨rows', h1, h2, h3⟩ := F
  rw [hf] at h1
  obtain rfl : rows = rows' := by cases h1; rfl
  have e : delS [t, s, o, f] (upd H f (.lst (rows ++ [v]))) = delS [t, s, o, f] H := delS_upd (by simp)
  refine ⟨{ p with
    s0 := same_upd p.nf p.s0
    there := ⟨k1, (upd_ne p.tf).trans a1, a2, by rw [e]; exact a3⟩
    shots := ⟨k2, sl, (upd_ne p.sf).trans b1, b2, by rw [e]; exact b3, b4⟩
    opn := ⟨k3, ol, (upd_ne p.of).trans c1, c2, by rw [e]; exact c3, c4⟩ }, _, upd_same, by rw [List.length_append, h2]; rfl, fun k x hx => ?_⟩
  rw [e]
  rw [List.getElem?_append] at hx
  by_cases c : k < rows.length
  · rw [if_pos c] at hx
    exact h3 k x hx
  · rw [if_neg c] at hx
    have c0 : k - rows.length = 0 := by
      have := (List.getElem?_eq_some_iff.mp hx).1
      simp at this
      omega
    rw [c0] at hx
    obtain rfl := Option.some.inj hx
    obtain rfl : k = iF := by omega
    exact hv
end
end Kz

namespace Kz
open PySem PySem.Spec PyProof.Rows L2 RZ Kt Kx
theorem rest_then {P : Hp → Prop} {Goal : Prop} (C : Hp → Prop) (split : (∀ H3, P H3 → C H3) → Goal) (rest : ∀ H3, P H3 → C H3) : Goal := split rest
theorem seq_then {t u : TS} {D : Ends} {σ : L2.St} {H : Hp} (P : L2.St → Hp → Prop) (h1 : ∀ N : L2.St → Hp → Prop, (∀ σ' H', P σ' H' → N σ' H') → t { D with nx := N } σ H) (h2 : ∀ σ' H', P σ' H' → u D σ' H') : tSeq t u D σ H := h1 (u D) h2
theorem slF_take {K : PySem.W.Frag} {H : Hp} {a : Addr} {xs : List V} {m : Nat} {Q : VK} (h : TupF H a xs) (q : ∀ H' b, Same H H' → TupF H' b (xs.take m) → Q (.ref b) H') : rSlF K (.ref a) none (some (m : Int)) H Q := by
  refine ⟨a, xs, rfl, h.sq, fun wh => ?_, fun _ p o hp po => ?_⟩
  · rw [HT.sIx_nat] at wh
    refine q H a (fun _ _ z => z) ?_
    rw [List.take_of_length_le (by have := wh.2; omega)]
    exact h
  · rw [cut_take]
    exact q _ p (new_same hp) ⟨o, upd_same, po⟩
theorem catA_sq {K : PySem.W.Frag} {H : Hp} {a b : Addr} {xs ys : List V} {Q : VK} (h1 : SqT K H a xs) (h2 : SqT K H b ys) (few : xs.length + ys.length ≤ sizeLine) (q : ∀ H' u, Same H H' → SqT K H' u (xs ++ ys) → Q (.ref u) H') : rCatA K (.ref a) (.ref b) H Q := by
  refine ⟨a, b, xs, ys, rfl, rfl, h1, h2, few, fun e => ?_, fun _ e => ?_, fun _ _ p hp => ?_⟩
  · subst e; exact q H b (fun _ _ z => z) h2
  · subst e; exact q H a (fun _ _ z => z) (by rw [List.append_nil]; exact h1)
  · exact q _ p (new_same hp) (SqT.of upd_same)
theorem sumL_rd {K : PySem.W.Frag} {H : Hp} {D e : Addr} {bs : List Addr} {ls : List (List V)} {dss : List (List PyData)} {Q : VK} (hD : H D = some (.lst (bs.map V.ref))) (he : H e = some (.lst [])) (L : LL K D H bs ls dss) (bd : dss.flatten.length ≤ sizeLine)
    (q : ∀ H' t zs, Same H H' → H' t = some (.lst zs) → DpAll K H' zs dss.flatten → (t = e ∨ H t = none) → Q (.ref t) H') : rSumL [.ref D, .ref e] H Q := by
  have fl := L.flat
  refine ⟨D, e, bs, ls, [], rfl, hD, he, by rw [L.lb, L.ll], fun i b hb => ?_, by rw [List.nil_append, dpAll_len fl]; exact bd, fun el => ?_, fun t ht => ?_⟩
  · obtain ⟨_, xs, ds, g1, g2, g3, g4⟩ := L.at_ i b hb
    exact ⟨xs, g1, g3⟩
  · refine q H e ls.flatten (fun _ _ z => z) ?_ fl (.inl rfl)
    rw [el]; exact he
  · have st := new_same (o := .lst ([] ++ ls.flatten)) ht
    exact q _ t ls.flatten st upd_same (dpAll_same st fl) (.inr ht)
theorem dk_at {α β : Type} [DecidableEq α] {enc : α → Key} {R : V → β → Prop} : ∀ {kvs : List (Key × V)} {l : List (α × β)} {i : Nat} {k : Key} {v : V}, DK enc R kvs l → kvs[i]? = some (k, v) → ∃ e, l[i]? = some e ∧ k = enc e.1 ∧ R v e.2
  | _, _, _, _, _, .nil, h => by simp at h
  | _, _, 0, _, _, .cons (b := e) a t, h => by
    have h' := Option.some.inj h
    subst h'
    exact ⟨e, rfl, a.1, a.2⟩
  | _, _, i + 1, _, _, .cons a t, h => dk_at (i := i) t h
theorem flat_le {α : Type} {c : Nat} : ∀ {L : List (List α)}, (∀ l ∈ L, l.length ≤ c) → L.flatten.length ≤ L.length * c
  | [], _ => by simp
  | l :: t, h => by
    rw [List.flatten_cons, List.length_append, List.length_cons, Nat.succ_mul]
    have := flat_le (L := t) fun x hx => h x (List.mem_cons_of_mem _ hx)
    have := h l List.mem_cons_self
    omega
theorem opnL_len {js : List JobM} (ok : okJs js) (ms : List Nat) (i q : Nat) : (opnL js ms i q).length ≤ 1000 := by
  unfold opnL
  split
  · exact Nat.zero_le _
  · unfold wrS
    rw [List.length_map]
    refine Nat.le_trans (List.length_filter_le ..) ?_
    rw [List.length_take]
    refine Nat.le_trans (Nat.min_le_right ..) ?_
    unfold stepsOf
    cases h : js[q]? with
    | none => exact Nat.zero_le _
    | some j => exact (ok.2 j (List.mem_of_getElem? h)).2.1
/-- the pairs that a dict of what is open gives -/
def hdL (ol : List (Nat × List Str)) : List (Str × Nat) := ol.flatMap fun e => e.2.map fun r => (r, e.1)
theorem hdL_flat (ol : List (Nat × List Str)) : (ol.map fun e => e.2.map fun r => prD (r, e.1)).flatten = (hdL ol).map prD := by
  unfold hdL
  induction ol with
  | nil => rfl
  | cons e t ih => rw [List.map_cons, List.flatten_cons, ih, List.flatMap_cons, List.map_append, List.map_map]; rfl
theorem hdL_mem {js : List JobM} {ms : List Nat} {i : Nat} {ol : List (Nat × List Str)} (nd : (ol.map (·.1)).Nodup) (eq : ∀ q, (lkA ol q).getD [] = opnL js ms i q) (r : Str) (q : Nat) : (r, q) ∈ hdL ol ↔ r ∈ opnL js ms i q := by
  unfold hdL
  rw [List.mem_flatMap]
  constructor
  · rintro ⟨e, he, h⟩
    obtain ⟨r', h', ee⟩ := List.mem_map.mp h
    have e1 : r' = r := congrArg Prod.fst ee
    have e2 : e.1 = q := congrArg Prod.snd ee
    subst e1
    have := (lkA_mem nd).mp (show (q, e.2) ∈ ol by rw [← e2]; exact he)
    rw [← eq q, this]
    exact h'
  · intro h
    rw [← eq q] at h
    cases hl : lkA ol q with
    | none => rw [hl] at h; cases h
    | some rs =>
      rw [hl] at h
      exact ⟨(q, rs), (lkA_mem nd).mpr hl, List.mem_map.mpr ⟨r, h, rfl⟩⟩
theorem hdL_nodup {js : List JobM} {ms : List Nat} {i : Nat} (ndj : ∀ j ∈ js, j.st.Nodup) : ∀ {ol : List (Nat × List Str)}, (ol.map (·.1)).Nodup → (∀ e ∈ ol, e.2 = opnL js ms i e.1) → (hdL ol).Nodup
  | [], _, _ => List.nodup_nil
  | e :: t, nd, eq => by
    rw [List.map_cons] at nd
    obtain ⟨n1, n2⟩ := List.nodup_cons.mp nd
    have ih := hdL_nodup ndj (ol := t) n2 fun x hx => eq x (List.mem_cons_of_mem _ hx)
    show ((e.2.map fun r => (r, e.1)) ++ hdL t).Nodup
    rw [List.nodup_append]
    refine ⟨?_, ih, fun a ha b hb h => ?_⟩
    · rw [eq e List.mem_cons_self]
      have := opnL_nodup ndj (ms := ms) i e.1
      exact List.Pairwise.map (fun r => (r, e.1)) (fun a b (h : a ≠ b) q => h (congrArg Prod.fst q)) this
    · obtain ⟨r, _, rfl⟩ := List.mem_map.mp ha
      unfold hdL at hb
      obtain ⟨e', he', hb'⟩ := List.mem_flatMap.mp hb
      obtain ⟨r', _, rfl⟩ := List.mem_map.mp hb'
      have : e.1 = e'.1 := congrArg Prod.snd h
      exact n1 (by rw [this]; exact List.mem_map.mpr ⟨e', he', rfl⟩)
theorem wk_keys {H0 : Hp} {d : Addr} {od : Obj} {kvs : List (Key × V)} (h : H0 d = some (.frz od (.dK kvs))) : Wk (Itk d od kvs) H0 kvs.length (fun i x _ => ∃ k v, kvs[i]? = some (k, v) ∧ x = kV k) where
  stop H s := ⟨s _ _ h, Nat.le_refl _⟩
  go i H s hi := ⟨s _ _ h, hi⟩
  yld i H x H' s hi y := by
    obtain ⟨rfl, k, v, e1, e2⟩ := y
    exact ⟨fun _ _ z => z, k, v, e1, e2⟩
theorem FoundI.upd {K : PySem.W.Frag} {H : Hp} {js : List JobM} {ms : List Nat} {iF : Nat} {t s o f : Addr} (p : FoundI K js ms iF t s o f H) {D : Addr} {u : HO} (m : D ∈ [t, s, o, f]) (n : f ≠ D) : FoundI K js ms iF t s o f (upd H D u) := by
  obtain ⟨rows, h1, h2, h3⟩ := p
  exact ⟨rows, (upd_ne n).trans h1, h2, fun k v hv => by rw [delS_upd m]; exact h3 k v hv⟩
section
variable {P : Program} {w : World} {K : PySem.W.Frag} {mg : Str → Option Value} {base : Heap}
def spPlayed (K : PySem.W.Frag) : Sp := fun vs H Q _ => ∃ (v : V) (ma : Addr) (js : List JobM) (ms : List Nat), vs = [v, .ref ma] ∧ Dp K H v (dJobs js) ∧ TupF H ma (vM ms) ∧ okJs js ∧ fewR js ∧ FullM js ms ∧ (∀ j ∈ js, j.st.Nodup) ∧ ms.length ≤ 1000 ∧
  ∀ (H' : Hp) (a fa ta : Addr) (rows : List V) (kvs : List (Key × V)), Same H H' → SqT K H' a [.ref fa, .ref ta] → H' fa = some (.lst rows) → rows.length = ms.length → (∀ k v, rows[k]? = some v → RowOk K H' js ms k v) → H' ta = some (.dK kvs) → VerD K H' kvs (verL js ms ms.length) → Q (.ref a) H'
theorem ok_played {f : Addr} {fd : FuncData} {k : Nat} (F : Fun K "_law_played" "_law_played" sPlayed f fd) (T : Nat0 mg) : FnOk P w K mg base CX0 (k + 1) f fd ["_law_jobs_so", "_law_mix_so"] (spPlayed K) := by
  refine F.ok scPlay (fun vs H Q E h => ?_) (fun cdv A outer s H vs Q E hr h => ?_)
  · obtain ⟨v, ma, js, ms, rfl, _⟩ := h
    rfl
  · obtain ⟨v, ma, js, ms, rfl, dv, tm, ok, fw, full, nd, few, z⟩ := h
    have hu := hu_of hr
    have hu65 := room65 hr
    refine ⟨_, pss_cons (ps_asg (pe_tup (pa_cons pe_dnewK (pa_cons pe_dnewK (pa_cons pe_dnewK (pa_cons (pe_lst pa_nil) pa_nil))))) (pg_tup (by rfl) (pgs_cons (pg_name (i := 2) scPlay.nd rfl (Or.inl rfl)) (pgs_cons (pg_name (i := 3) scPlay.nd rfl (Or.inl rfl)) (pgs_cons (pg_name (i := 4) scPlay.nd rfl (Or.inr rfl)) (pgs_cons (pg_name (i := 5) scPlay.nd rfl (Or.inl rfl)) pgs_nil))))))
      (pss_cons (ps_for PassesOwn.never rfl (pi_enumT (by rfl) T.enumerate (pa_cons (pv 1) pa_nil)) (pg_tup rfl (pgs_cons (pg_name (i := 6) scPlay.nd rfl (Or.inl rfl)) (pgs_cons (pg_name (i := 7) scPlay.nd rfl (Or.inl rfl)) pgs_nil)))
        (pss_cons (ps_if (pt_cmp (pc_dnotin hu (pv 7) (pv 3))) (pss_one (ps_dput hu (pv 3) (pv 7) (pe_callTy cr_dictOf (by rfl) T.dict (by decide +kernel) (pa_cons (pv 2) pa_nil)) rfl)) pss_nil)
        (pss_cons (ps_set (i := 8) scPlay.nd rfl (Or.inl rfl) (pe_ix ix_tup (pe_op op_catA (pe_ix ix_tup (pe_ix ix_tup (pv 0) (pv 7) (fun _ _ => rfl)) pe_int (fun _ _ => rfl)) (pe_tup (pa_cons pe_non pa_nil))) (pe_bmF PySem.F.slot_tuple_count PySem.F.type_tuple_count mt_tcount (pe_slice sl_tupF (pv 1) po_none (po_some (pv 6))) (pa_cons (pv 7) pa_nil)) (fun _ _ => rfl)))
        (pss_cons (ps_par (i := 10) (j := 11) (by rfl) scPlay.nd rfl rfl (by decide) rfl rfl (pa_cons (pe_callB (cr_sumL rfl) (by rfl) T.sum (by decide +kernel) (pa_cons (pe_lock (pe_lc (own := [("_law_k", 13)]) (g := gName 13) (tt := tYes) (te := tInH K) rfl scPlay.nd (pi_keys (pv 4)) (blkOk_by (own := [("_law_k", 13)]) (N := nPlay) (sc := defScope sPlayed) (by decide +kernel))
            (fun _ _ _ _ _ => pg_name (i := 13) scPlay.nd rfl (Or.inr rfl)) (fun _ _ _ _ _ => pts_nil)
            (fun _ _ _ _ _ => by exact (pe_lc (own := [("_law_own", 9)]) (g := gName 9) (tt := tYes) (te := tTup (tCons (tVar 9) (tCons (tVar 13) tNil))) rfl scPlay.nd (pi_tupK (K := K) rfl (pe_dget hu (pv 4) (pv 13) (fun _ _ => rfl))) (blkOk_by (own := [("_law_own", 9)]) (N := nPlay) (sc := scKN) (by decide +kernel)) (fun _ _ _ _ _ => pg_name (i := 9) scPlay.nd rfl (Or.inl rfl)) (fun _ _ _ _ _ => pts_nil) (fun _ _ _ _ _ => by exact (pe_tup (pa_cons (pv 9) (pa_cons (pv 13) pa_nil)))))))) (pa_cons (pe_lst pa_nil) pa_nil))) (pa_cons (pe_lst pa_nil) pa_nil)) (by rfl))
        (pss_cons (ps_if (PW.pt (pw_and (pt_cmpR op_notN (pv 8) pe_non (nomark _)) (pw_and1 (pt_cmpR op_eq (pe_ix ix_tup (pv 8) pe_int (fun _ _ => rfl)) pe_str (nomark _)))))
          (pss_cons (ps_set (i := 12) scPlay.nd rfl (Or.inl rfl) (pe_ifExp (pt_cmpR op_eq (pe_ix ix_tup (pe_ix ix_tup (pv 0) (pv 7) (fun _ _ => rfl)) pe_int (fun _ _ => rfl)) pe_str (nomark _)) (pv 2) (pe_dget hu (pv 3) (pv 7) (fun _ _ => rfl))))
          (pss_one (ps_set (i := 11) scPlay.nd rfl (Or.inl rfl) (pe_lst (pa_cons (pe_ix ix_tup (pe_dget2 hu (pv 12) (pe_ix ix_tup (pv 8) pe_int (fun _ _ => rfl)) (pe_tup (pa_cons pe_non pa_nil)) ⟨rfl, rfl, rfl, rfl⟩) (pe_un un_neg pe_int) (fun _ _ => rfl)) pa_nil))))) pss_nil)
        (pss_cons (ps_expr (pe_bm PySem.F.plainAttrs_list PySem.F.slot_list_append PySem.F.type_list_append mt_append (pv 5) (pa_cons (pe_tup (pa_cons (pe_callTy cr_dictOf (by rfl) T.dict (by decide +kernel) (pa_cons (pv 2) pa_nil)) (pa_cons (pe_callTy call_tuple_of (by rfl) T.tuple bt_tuple (pa_cons (pe_callB (cr_sortedD hu65) (by rfl) T.sorted bt_sorted (pa_cons (pv 10) pa_nil)) pa_nil)) (pa_cons (pv 11) pa_nil)))) pa_nil)))
        (pss_one (ps_if (pt_cmpR op_isN (pv 8) pe_non (nomark _))
          (pss_cons (ps_for PassesOwn.never rfl (pi_tup (pe_dget2 hu (pv 4) (pv 7) (pe_tup pa_nil) ⟨rfl, rfl, rfl, rfl⟩)) (pg_name (i := 9) scPlay.nd rfl (Or.inl rfl)) (pss_one (ps_dput hu (pv 2) (pv 9) (pe_op op_catA (pe_dget2 hu (pv 2) (pv 9) (pe_tup (pa_cons pe_non pa_nil)) ⟨rfl, rfl, rfl, rfl⟩) (pe_tup (pa_cons (pv 7) pa_nil))) rfl)))
            (pss_one (ps_dput hu (pv 4) (pv 7) (pe_tup pa_nil) rfl)))
          (pss_one (ps_if (pt_cmpR op_eq (pe_ix ix_tup (pv 8) pe_int (fun _ _ => rfl)) pe_str (nomark _)) (pss_one (ps_dput hu (pv 4) (pv 7) (pe_op op_catA (pe_dget2 hu (pv 4) (pv 7) (pe_tup pa_nil) ⟨rfl, rfl, rfl, rfl⟩) (pe_tup (pa_cons (pe_ix ix_tup (pv 8) pe_int (fun _ _ => rfl)) pa_nil))) rfl)) pss_nil))))))))))
      (pss_one (ps_ret (pe_tup (pa_cons (pv 5) (pa_cons (pv 2) pa_nil)))))), ?_⟩
    have beg := full_beg full
    obtain ⟨ja, xs, rfl, hsJ, hxJ⟩ := dp_tup_inv dv
    refine fun t ht s hs o ho => ⟨Nat.zero_le _, fun fa hfa => ⟨(by show 4 ≤ sizeLine; decide), fun tt htt => ?_⟩⟩
    have s1 := new_same (o := .dK []) ht
    have s2 := s1.trans (new_same (o := .dK []) hs)
    have s3 := s2.trans (new_same (o := .dK []) ho)
    have s4 := s3.trans (new_same (o := .lst []) hfa)
    have s5 := new_same (o := .tup [V.ref t, V.ref s, V.ref o, V.ref fa]) htt
    have fr : ∀ {Ha Hb : Hp} {x : Addr}, Same Ha Hb → Hb x = none → Ha x = none := fun {Ha Hb x} e h => by
      cases hh : Ha x with
      | none => rfl
      | some u => rw [e _ _ hh] at h; cases h
    have p0 : PlayI K H js ms 0 0 0 t s o fa (upd (upd (upd (upd (upd H t (.dK [])) s (.dK [])) o (.dK [])) fa (.lst [])) tt (.tup [V.ref t, V.ref s, V.ref o, V.ref fa])) := by
      have ets : t ≠ s := ne_of_none upd_same hs
      have eto : t ≠ o := ne_of_none ((new_same hs) _ _ upd_same) ho
      have etf : t ≠ fa := ne_of_none ((new_same ho) _ _ ((new_same hs) _ _ upd_same)) hfa
      have eso : s ≠ o := ne_of_none upd_same ho
      have esf : s ≠ fa := ne_of_none ((new_same ho) _ _ upd_same) hfa
      have eof : o ≠ fa := ne_of_none upd_same hfa
      have vz : ∀ r, verL js ms 0 r = [] := fun r => rfl
      refine ⟨ets, eto, etf, eso, esf, eof, ht, fr s1 hs, fr s2 ho, fr s3 hfa, s4.trans s5, ⟨[], s5 _ _ ((new_same hfa) _ _ ((new_same ho) _ _ ((new_same hs) _ _ upd_same))), Nat.zero_le _, [], .nil, fun r => rfl⟩, ⟨[], [], s5 _ _ ((new_same hfa) _ _ ((new_same ho) _ _ upd_same)), Nat.zero_le _, .nil, fun q => ?_⟩, ⟨[], [], s5 _ _ ((new_same hfa) _ _ upd_same), Nat.zero_le _, .nil, List.nodup_nil, (fun q h => by cases h), fun q => ?_⟩⟩
      · rw [List.take_zero, if_neg (by simp)]; rfl
      · unfold opnL
        rw [List.take_zero, List.count_nil, if_neg (by omega)]; rfl
    have f0 : FoundI K js ms 0 t s o fa (upd (upd (upd (upd (upd H t (.dK [])) s (.dK [])) o (.dK [])) fa (.lst [])) tt (.tup [V.ref t, V.ref s, V.ref o, V.ref fa])) := ⟨[], s5 _ _ upd_same, rfl, fun k v h => by simp at h⟩
    refine ⟨tt, _, rfl, SqT.of upd_same, rfl, _, _, rfl, _, _, rfl, _, _, rfl, _, _, rfl, rfl, ?_⟩
    revert p0 f0
    generalize upd (upd (upd (upd (upd H t (.dK [])) s (.dK [])) o (.dK [])) fa (.lst [])) tt (.tup [V.ref t, V.ref s, V.ref o, V.ref fa]) = G
    intro p0 f0
    have lv : (vM ms).length = ms.length := by unfold vM; rw [List.length_map]
    refine ⟨_, rfl, ma, _, rfl, (tm.same p0.s0).sq, ?_⟩
    refine for_wk (wk_enumT (K := K) tm.sq) (fun i σ H' => ∃ v6 v7 v8 v9 v10 v11 v12 v13, σ = [some (.ref ja), some (.ref ma), some (.ref t), some (.ref s), some (.ref o), some (.ref fa), v6, v7, v8, v9, v10, v11, v12, v13] ∧ PlayI K H js ms i i i t s o fa H' ∧ FoundI K js ms i t s o fa H')
      ⟨none, none, none, none, none, none, none, none, rfl, p0, f0⟩ (fun i σ H' ⟨_, _, _, _, _, _, _, _, _, p, _⟩ => p.s0) ?_ ?_
    · rintro i x σ H1 H2 hi ⟨v6, v7, v8, v9, v10, v11, v12, v13, rfl, p, fo⟩ s12 ⟨TT, y, rfl, hTT, hy⟩
      rw [lv] at hi
      obtain ⟨q, hq, rfl⟩ : ∃ q, ms[i]? = some q ∧ y = V.int ((q : Nat) : Int) := by
        unfold vM at hy
        rw [List.getElem?_map, List.getElem?_eq_getElem hi] at hy
        exact ⟨ms[i], List.getElem?_eq_getElem hi, (Option.some.inj hy).symm⟩
      have hqj : q < js.length := full.1 q (List.mem_of_getElem? hq)
      refine ⟨TT, _, rfl, SqT.of hTT, rfl, _, _, rfl, _, _, rfl, rfl, ?_⟩
      have p2 := p.same s12
      have f2 := fo.same s12
      clear p fo
      obtain ⟨ks, sl, hks, lks, dks, sks⟩ := id p2.shots
      refine ⟨_, rfl, _, rfl, s, _, rfl, DGet.k (k := encN q) hks, _, rfl, ?_⟩
      refine rest_then (P := fun H3 => PlayI K H js ms i (i + 1) i t s o fa H3 ∧ FoundI K js ms i t s o fa H3) _ (by
        intro rest
        by_cases old : q ∈ ms.take i
        · obtain ⟨sv, hsv, _⟩ := dks.some inj_nat q (by rw [sks, if_pos old])
          rw [hsv]
          exact iteF (rest H2 ⟨p2.putS0 hq old, f2⟩)
        · have hsv := dks.none inj_nat q (by rw [sks, if_neg old])
          rw [hsv]
          refine iteT ?_
          obtain ⟨kt, hkt, lkt, vkt⟩ := p2.there
          refine ⟨_, rfl, t, kt, rfl, hkt, fun dd hdd => ⟨_, rfl, _, rfl, s, _, rfl, DPut.k (k := encN q) ((new_same hdd) _ _ hks) (by rw [sizeLine_eq]; omega), ?_⟩⟩
          have sdd := new_same (o := .dK kt) hdd
          have p3 := (p2.same sdd).putS (sdd _ _ hks) hq old (upd_same (H := H2) (a := dd) (o := .dK kt)) (by
            simp only [List.mem_cons, List.not_mem_nil, or_false, not_or]
            obtain ⟨k3, ol, ho3, _⟩ := p2.opn
            obtain ⟨rows, hr3, _⟩ := f2
            exact ⟨(ne_of_none hkt hdd).symm, (ne_of_none hks hdd).symm, (ne_of_none ho3 hdd).symm, (ne_of_none hr3 hdd).symm⟩) (dp_verT_up (delS_mono sdd) vkt)
          have f3 := (f2.same sdd).upd (D := s) (u := .dK (putK ks (encN q) (.ref dd))) (by simp) p2.sf.symm
          exact rest _ ⟨p3, f3⟩) ?_
      rintro H3 ⟨p3, f3⟩
      obtain ⟨jv, gj, dj⟩ := job_at hxJ hqj
      obtain ⟨a1, b1, ys, rfl, h1, h2, h3⟩ := dp_job_inv dj
      have lys : ys.length = lenOf js q := by rw [dpAll_len h3, List.length_map, lenOf_steps]; unfold stepsOf; rw [List.getElem?_eq_getElem hqj]; rfl
      have eys : js[q].st = stepsOf js q := by unfold stepsOf; rw [List.getElem?_eq_getElem hqj]; rfl
      have oj := ok.2 _ (List.getElem_mem hqj)
      have e3 := p3.s0
      have cle := beg_le beg hq
      refine ⟨_, rfl, _, rfl, ja, xs, (q : Nat), .ref a1, rfl, rfl, seqT_same e3 hsJ, atI_nat (j := q) gj, a1, _, 1, .ref b1, rfl, rfl, seqT_same e3 h1, atI_nat (j := 1) rfl, (by show 1 ≤ sizeLine; decide), fun tn htn => ?_⟩
      have en := new_same (o := .tup [V.non]) htn
      refine catA_sq (seqT_same (e3.trans en) h2) (SqT.of upd_same) (by rw [dpAll_len h3, List.length_map, sizeLine_eq, List.length_singleton]; have := oj.2.1; omega) fun H4 u s4 hu4 => ?_
      have e4 := en.trans s4
      refine ⟨_, rfl, _, rfl, _, rfl, ?_⟩
      refine slF_take ((tm.same e3).same e4) fun H5 ma5 s5' hm5 => ?_
      have ecut : (vM ms).take i = vM (ms.take i) := by unfold vM; rw [List.map_take]
      rw [ecut] at hm5
      have ecnt : ∀ l : List Nat, (l.map fun q => ((q : Nat) : Int)).count ((q : Nat) : Int) = l.count q := fun l => by
        induction l with
        | nil => rfl
        | cons x t ih =>
          rw [List.map_cons, List.count_cons, List.count_cons, ih]
          by_cases e : x = q
          · subst e; simp
          · have : ¬ ((x : Nat) : Int) = ((q : Nat) : Int) := fun z => e (by omega)
            simp [e, this]
      refine ⟨⟨ma5, _, rfl, hm5⟩, _, rfl, ma5, (ms.take i).map (fun q => ((q : Nat) : Int)), (q : Nat), rfl, rfl, ?_, ?_⟩
      · rw [List.map_map]; exact hm5.sq
      rw [ecnt]
      have e5 := e4.trans s5'
      have p5 := p3.same e5
      have f5 := f3.same e5
      generalize hc : (ms.take i).count q = c at cle
      obtain ⟨sv, hsv, dsv⟩ : ∃ sv, (ys ++ [V.non])[c]? = some sv ∧ ((c = lenOf js q ∧ sv = .non) ∨ ∃ st, (stepsOf js q)[c]? = some st ∧ c < lenOf js q ∧ st ∈ js[q].st ∧ Dp K H sv (dStep st)) := by
        by_cases e : c = lenOf js q
        · exact ⟨.non, by rw [List.getElem?_append_right (by omega), lys, e, Nat.sub_self]; rfl, .inl ⟨e, rfl⟩⟩
        · have hl : c < ys.length := by omega
          have h1 : ys[c]? = some ys[c] := List.getElem?_eq_getElem hl
          obtain ⟨d, hd, dd⟩ := dpAll_at h3 h1
          rw [List.getElem?_map] at hd
          cases hst : js[q].st[c]? with
          | none => rw [hst] at hd; cases hd
          | some st =>
            rw [hst] at hd
            obtain rfl := Option.some.inj hd
            exact ⟨ys[c], by rw [List.getElem?_append_left hl, h1], .inr ⟨st, by rw [← eys]; exact hst, by omega, List.mem_of_getElem? hst, dd⟩⟩
      refine ⟨u, _, (c : Nat), sv, rfl, rfl, seqT_same s5' hu4, atI_nat (j := c) hsv, ?_⟩
      clear hm5 hu4 s4 s5' e4 en htn f3 hs hks dks sks lks
      have dv5 : Dp K H5 (.ref ja) (dJobs js) := dp_same p5.s0 dv
      clear e5 p3 e3
      revert p5 f5 dv5
      generalize H5 = H5
      intro p5 f5 dv5
      obtain ⟨ko, ol, hko, lko, dko, ndo, lto, eqo⟩ := id p5.opn
      have eqe : ∀ e ∈ ol, e.2 = opnL js ms i e.1 := fun e he => by
        have := (lkA_mem ndo (a := e.1) (b := e.2)).mp he
        rw [← eqo e.1, this]; rfl
      have sDG : ∀ od, Same (delS [t, s, o, fa] H5) (upd H5 o (.frz od (.dK ko))) := fun od => same_upd (if_pos (by simp)) delS_same
      refine ⟨o, _, hko, trivial, fun od => ?_⟩
      refine ⟨_, rfl, o, od, rfl, .inl ⟨ko, upd_same, fun D hD => lc_gotLL (K := K) (dss := ol.map fun e => e.2.map fun r => prD (r, e.1)) (wk_keys upd_same) (by rw [List.length_map]; exact dko.len) hD (fun ds hds => ?_) (by rw [List.length_map, ← dko.len, sizeLine_eq]; omega) (fun ix ds hds => ?_) (fun Hf pf => ?_)⟩⟩
      · obtain ⟨e, _, rfl⟩ := List.mem_map.mp hds
        exact onlyTs_of fun x hx => by
          obtain ⟨r, _, rfl⟩ := List.mem_map.mp hx
          simp [prD, pairD, onlyT, onlyTs]
      · rintro x Hx N Z ⟨kk, vv, hkv, rfl⟩ sx hDl n1
        obtain ⟨e, he, rfl, hve⟩ := dk_at dko hkv
        rw [List.getElem?_map, he] at hds
        obtain rfl := Option.some.inj hds
        have em := List.mem_of_getElem? he
        obtain ⟨v', hv', dv'⟩ := dko.some inj_nat e.1 ((lkA_mem ndo).mp em)
        obtain ⟨oa, zs, rfl, hoa, hzs⟩ := dp_tup_inv dv'
        obtain rfl := strs_dp hzs
        have hoa' := seqT_same (sx) (seqT_same (sDG od) hoa)
        refine ⟨rfl, ?_⟩
        unfold tYes
        dsimp only
        rw [if_pos rfl]
        have lo2 : (e.2.map V.str).length = (e.2.map fun r => some (prD (r, e.1))).length := by rw [List.length_map, List.length_map]
        have ek : kept (e.2.map fun r => some (prD (r, e.1))) = e.2.map fun r => prD (r, e.1) := by
          unfold kept
          rw [List.filterMap_map]
          exact congrFun (List.filterMap_eq_map' (f := fun r : Str => prD (r, e.1))) e.2
        refine ⟨_, rfl, _, rfl, o, _, rfl, .inl ⟨ko, encN e.1, .inr ⟨od, sx _ _ upd_same⟩, rfl, hv'.symm⟩, oa, rfl, ⟨_, hoa'⟩, fun D2 hD2 => lc_got (K := K) (wk_tup hoa') lo2 hD2 (fun y hy => ?_) (by rw [List.length_map, sizeLine_eq, eqe e em]; have := opnL_len ok ms i e.1; omega) (fun k2 o2 ho2 => ?_) (fun Hg pg => ?_)⟩
        · rw [ek] at hy
          obtain ⟨r, _, rfl⟩ := List.mem_map.mp hy
          simp [prD, pairD, onlyT, onlyTs]
        · intro y Hy N2 Z2 hy sy n2 _
          rw [List.getElem?_map] at hy ho2
          cases hr2 : e.2[k2]? with
          | none => rw [hr2] at ho2; cases ho2
          | some r =>
            rw [hr2] at hy ho2
            obtain rfl := Option.some.inj hy
            obtain rfl := Option.some.inj ho2
            refine ⟨rfl, ?_⟩
            unfold tYes
            dsimp only
            rw [if_pos rfl]
            refine ⟨_, rfl, _, rfl, (by show 2 ≤ sizeLine; decide), fun t2 ht2 => ?_⟩
            exact n2 (prD (r, e.1)) _ _ rfl (new_same ht2) (.tup (SqT.of upd_same) (.cons (.str _) (.cons (.int _) .nil)))
        · obtain ⟨sg, zs, hz, dz⟩ := pg
          rw [ek] at dz
          obtain ⟨l0, hl0⟩ := hDl
          exact n1 D2 zs Hg sg (fun e => by rw [e, hl0] at hD2; cases hD2) hz dz
      · obtain ⟨sf, bs, ls, hDf, L⟩ := pf
        have hof := sf _ _ (upd_same (H := H5) (a := o) (o := .frz od (.dK ko)))
        refine ⟨hof, Nat.zero_le _, fun el hel => ?_⟩
        have s52 : Same H5 (upd Hf o (.dK ko)) := fun b u e => by
          by_cases q' : b = o
          · subst q'
            rw [upd_same, ← hko]; exact e
          · rw [upd_ne q']
            exact sf _ _ ((upd_ne q').trans e)
        have ntf : NoTup Hf o := ⟨(fun _ e => by rw [hof] at e; cases e), (fun _ _ e => by rw [hof] at e; cases e)⟩
        have otd : ∀ ds ∈ ol.map (fun e => e.2.map fun r => prD (r, e.1)), onlyTs ds = true := fun ds hds => by
          obtain ⟨e, _, rfl⟩ := List.mem_map.mp hds
          exact onlyTs_of fun x hx => by
            obtain ⟨r, _, rfl⟩ := List.mem_map.mp hx
            simp [prD, pairD, onlyT, onlyTs]
        have sel := new_same (o := .lst []) hel
        have L2 : LL K D (upd (upd Hf o (.dK ko)) el (.lst [])) bs ls _ := LL.same (D := D) ⟨L.lb, L.ll, fun i b hb => by
          obtain ⟨n, xs', ds', g1, g2, g3, g4⟩ := L.at_ i b hb
          exact ⟨n, xs', ds', g1, g2, (upd_ne (fun e => by rw [e, hof] at g3; cases g3)).trans g3, dpAll_put ntf g4 (otd ds' (List.mem_of_getElem? g2))⟩⟩ sel
        have bdl : (ol.map fun e => e.2.map fun r => prD (r, e.1)).flatten.length ≤ sizeLine := by
          have h1 := flat_le (L := ol.map fun e => e.2.map fun r => prD (r, e.1)) (c := 1000) (fun l hl => by
            obtain ⟨e, he, rfl⟩ := List.mem_map.mp hl
            rw [List.length_map, eqe e he]
            exact opnL_len ok ms i e.1)
          rw [List.length_map, ← dko.len] at h1
          rw [sizeLine_eq]
          have : ko.length * 1000 ≤ 1000 * 1000 := Nat.mul_le_mul_right _ (by omega)
          omega
        have hDn : (upd Hf o (.dK ko)) D = some (.lst (bs.map V.ref)) := (upd_ne (fun e => by rw [e, hof] at hDf; cases hDf)).trans hDf
        dsimp only [tNil]
        refine sumL_rd (K := K) (D := D) (e := el) (sel _ _ hDn) upd_same L2 bdl ?_
        intro H6 hl hxs s6 hhl dhl hnew
        refine ⟨Nat.zero_le _, fun sl0 hsl0 => ⟨_, _, rfl, ?_⟩⟩
        rw [hdL_flat] at dhl
        have s56 := (s52.trans sel).trans s6
        have s67 := new_same (o := .lst []) hsl0
        have s57 := s56.trans s67
        have hln : H5 hl = none := hnew.elim (fun e => by rw [e]; exact fr s52 hel) (fun e => fr (s52.trans sel) e)
        have sln : H5 sl0 = none := fr s56 hsl0
        have hls : hl ≠ sl0 := ne_of_none hhl hsl0
        have hhl7 := s67 _ _ hhl
        have hsl7 : (upd H6 sl0 (.lst [])) sl0 = some (.lst []) := upd_same
        have dhl7 := dpAll_same s67 dhl
        have bdh : ((hdL ol).map prD).length ≤ sizeLine := by rw [← hdL_flat]; exact bdl
        clear hhl dhl L2 L bdl otd ntf sel hof hDf hDn s52 s56 s67 s6 hsl0 hnew sf
        revert s57 hhl7 hsl7 dhl7
        generalize upd H6 sl0 (.lst []) = H7
        intro s57 hhl7 hsl7 dhl7
        have p7 := p5.same s57
        have f7 := f5.same s57
        have frS : ∀ {a : Addr}, H5 a = none → a ∉ [t, s, o, fa] := fun {a} ha => by
          simp only [List.mem_cons, List.not_mem_nil, or_false, not_or]
          obtain ⟨k1, h1, _⟩ := p5.there
          obtain ⟨k2, _, h2, _⟩ := p5.shots
          obtain ⟨rows, h4, _⟩ := f5
          exact ⟨(ne_of_none h1 ha).symm, (ne_of_none h2 ha).symm, (ne_of_none hko ha).symm, (ne_of_none h4 ha).symm⟩
        have gq : ms.getD i 0 = q := by rw [List.getD_eq_getElem?_getD, hq]; rfl
        have lvq : lvOf js q = js[q].lv := by unfold lvOf; rw [List.getElem?_eq_getElem hqj]; rfl
        refine seq_then (fun σ' H8 => ∃ sl x12, σ' = [some (.ref ja), some (.ref ma), some (.ref t), some (.ref s), some (.ref o), some (.ref fa), some (.int (i : Nat)), some (.int (q : Nat)), some sv, v9, some (.ref hl), some (.ref sl), x12, v13] ∧ Same H7 H8 ∧ sl ∉ [t, s, o, fa] ∧ ∃ sv2, H8 sl = some (.lst sv2) ∧ DpAll K (delS [t, s, o, fa] H8) sv2 (seenP js ms i)) (fun N rest => ?_) ?_
        · have rest0 : ∀ e : readStep js ms i = none, N [some (.ref ja), some (.ref ma), some (.ref t), some (.ref s), some (.ref o), some (.ref fa), some (.int (i : Nat)), some (.int (q : Nat)), some sv, v9, some (.ref hl), some (.ref sl0), v12, v13] H7 := fun e => rest _ _ ⟨sl0, v12, rfl, fun _ _ z => z, frS sln, [], hsl7, by unfold seenP; rw [e]; exact .nil⟩
          rcases id dsv with ⟨ce, hsn⟩ | ⟨st, hst, cl, mem, dst⟩
          · have e0 : readStep js ms i = none := by
              unfold readStep
              rw [gq, hc, List.getElem?_eq_none (by rw [ce, lenOf_steps]; exact Nat.le_refl _)]
            refine ⟨_, rfl, rfl, _, rfl, ?_⟩
            rw [decide_eq_true hsn]
            refine iteF (iteF ?_)
            exact rest0 e0
          · obtain ⟨sa, hsr, hsa⟩ := dp_step_inv dst
            have hs7 := seqT_same p7.s0 hsa
            refine ⟨_, rfl, rfl, _, rfl, ?_⟩
            rw [decide_eq_false (show ¬ sv = V.non by rw [hsr]; intro e; cases e)]
            refine iteT ⟨_, rfl, sa, _, 0, .str (kindS st.1), hsr, rfl, hs7, atI_nat (j := 0) rfl, rfl, _, rfl, ite2 (fun ck => ?_) (fun ck => ?_)⟩
            · have k1 : st.1 = false := by
                cases h : st.1 with
                | false => rfl
                | true =>
                  rw [h] at ck
                  exact absurd (V.str.inj (of_decide_eq_true ck)) (by decide +kernel)
              obtain ⟨k0, r⟩ := st
              dsimp only at k1
              subst k1
              have e1 : readStep js ms i = some r := by
                unfold readStep
                rw [gq, hc, hst]
              refine seq_then (fun σ' H' => ∃ kd kk, σ' = [some (.ref ja), some (.ref ma), some (.ref t), some (.ref s), some (.ref o), some (.ref fa), some (.int (i : Nat)), some (.int (q : Nat)), some sv, v9, some (.ref hl), some (.ref sl0), some (.ref kd), v13] ∧ H' = H7 ∧ H7 kd = some (.dK kk) ∧ VerD K (delS [t, s, o, fa] H7) kk (verL js ms (sinceP js ms i))) (fun N2 rest2 => ?_) ?_
              · refine ⟨_, rfl, _, rfl, ja, xs, (q : Nat), .ref a1, rfl, rfl, seqT_same p7.s0 hsJ, atI_nat (j := q) gj, a1, _, 0, .str js[q].lv, rfl, rfl, seqT_same p7.s0 h1, atI_nat (j := 0) rfl, rfl, _, rfl, ite2 (fun cp => ?_) (fun cp => ?_)⟩
                · obtain ⟨kt, hkt, _, vkt⟩ := p7.there
                  have es : sinceP js ms i = i := by
                    unfold sinceP
                    rw [gq, lvq, if_pos (V.str.inj (of_decide_eq_true cp))]
                  exact ⟨_, rfl, rest2 _ _ ⟨t, kt, rfl, rfl, hkt, by rw [es]; exact vkt⟩⟩
                · obtain ⟨k2, sl2, hk2, _, dk2, sk2⟩ := p7.shots
                  have es : sinceP js ms i = ms.idxOf q := by
                    unfold sinceP
                    rw [gq, lvq, if_neg (fun e => cp (decide_eq_true (by rw [e])))]
                  obtain ⟨v', hv', d', kk, rfl, hd', vd'⟩ := dk2.some inj_nat q (by rw [sk2, take_succ hq, if_pos (List.mem_append_right _ (List.mem_singleton.mpr rfl))])
                  exact ⟨_, rfl, _, rfl, s, _, rfl, .inl ⟨k2, encN q, .inl hk2, rfl, hv'.symm⟩, rest2 _ _ ⟨d', kk, rfl, rfl, delS_same _ _ hd', by rw [es]; exact vd'⟩⟩
              · rintro σ' H' ⟨kd, kk, rfl, rfl, hkd, tl, dkd, ekd⟩
                refine ⟨_, rfl, kd, rfl, .inl ⟨kk, .inl hkd⟩, _, rfl, sa, _, 1, .str r, hsr, rfl, hs7, atI_nat (j := 1) rfl, (by show 1 ≤ sizeLine; decide), fun tn htn => ⟨_, DGet.k (k := encS r) ((new_same htn) _ _ hkd), ?_⟩⟩
                have stn := new_same (o := .tup [V.non]) htn
                obtain ⟨va, vxs, x, hval, hsq, hlast, dx⟩ : ∃ va vxs x, (valV kk (encS r)).getD (.ref tn) = .ref va ∧ SqT K (upd H' tn (.tup [V.non])) va vxs ∧ vxs.getLast? = some x ∧ ∀ B, Dp K B x (lastD (verL js ms (sinceP js ms i) r)) := by
                  have er := ekd r
                  cases hlk : lkA tl r with
                  | none =>
                    rw [hlk] at er
                    refine ⟨tn, [.non], .non, by rw [dkd.none inj_str r hlk]; rfl, SqT.of upd_same, rfl, fun B => ?_⟩
                    rw [← er]
                    exact .non
                  | some l =>
                    rw [hlk] at er
                    obtain ⟨v', hv', dv'⟩ := dkd.some inj_str r hlk
                    obtain ⟨va, vxs, rfl, hva, hvx⟩ := dp_tup_inv dv'
                    have ge : ∀ {B : Hp} (l : List Nat) (zs : List V), DpAll K B zs (l.map fun q => PyData.int (q : Nat)) → zs = l.map fun q => V.int (q : Nat) := by
                      intro B l
                      induction l with
                      | nil => intro zs h; cases h; rfl
                      | cons y t ih =>
                        intro zs h
                        cases h with
                        | cons a b =>
                          cases a
                          rw [ih _ b]
                          rfl
                    cases hvx with
                    | cons ha hb =>
                      cases ha
                      obtain rfl := ge l _ hb
                      cases hg : l.getLast? with
                      | none =>
                        refine ⟨va, _, .non, by rw [hv']; rfl, seqT_same (delS_same.trans stn) hva, ?_, fun B => ?_⟩
                        · rw [List.getLast?_eq_none_iff.mp hg]; rfl
                        · rw [← er]
                          show Dp K B .non (lastD l)
                          unfold lastD
                          rw [hg]
                          exact .non
                      | some y =>
                        refine ⟨va, _, .int (y : Nat), by rw [hv']; rfl, seqT_same (delS_same.trans stn) hva, ?_, fun B => ?_⟩
                        · rw [List.getLast?_cons, List.getLast?_map, hg]; rfl
                        · rw [← er]
                          show Dp K B _ (lastD l)
                          unfold lastD
                          rw [hg]
                          exact .int _
                rw [hval]
                refine ⟨1, rfl, va, vxs, -1, x, rfl, rfl, hsq, atI_end hlast, (by show 1 ≤ sizeLine; decide), fun sl hsl => ?_⟩
                have ssl := new_same (o := .lst [x]) hsl
                refine rest _ _ ⟨sl, _, rfl, stn.trans ssl, frS (fr s57 (fr stn hsl)), [x], upd_same, ?_⟩
                unfold seenP
                rw [e1]
                exact .cons (dx _) .nil
            · have k1 : st.1 = true := by
                cases h : st.1 with
                | true => rfl
                | false => rw [h] at ck; exact absurd (decT _) ck
              have e0 : readStep js ms i = none := by
                unfold readStep
                rw [gq, hc, hst]
                obtain ⟨k0, r0⟩ := st
                subst k1
                rfl
              exact rest0 e0
        rintro σ' H8 ⟨sl, x12, rfl, s78, slS, sv2, hsl8, dsl8⟩
        have p8 := p7.same s78
        have f8 := f7.same s78
        have hhl8 := s78 _ _ hhl7
        have dhl8 := dpAll_same s78 dhl7
        have s58 := s57.trans s78
        refine seq_then (fun σ' H9 => σ' = [some (.ref ja), some (.ref ma), some (.ref t), some (.ref s), some (.ref o), some (.ref fa), some (.int (i : Nat)), some (.int (q : Nat)), some sv, v9, some (.ref hl), some (.ref sl), x12, v13] ∧ PlayI K H js ms i (i + 1) i t s o fa H9 ∧ FoundI K js ms (i + 1) t s o fa H9) (fun N rest => ?_) ?_
        · obtain ⟨kt, hkt, lkt, vkt⟩ := id p8.there
          obtain ⟨rows, hr8, lr8, rr8⟩ := id f8
          refine ⟨_, rfl, .inl ⟨rfl, _, SqL.of hr8⟩, _, rfl, t, kt, rfl, hkt, fun d1 hd1 => ?_⟩
          have sd1 := new_same (o := .dK kt) hd1
          have ndl := hdL_nodup (js := js) (ms := ms) (i := i) nd ndo eqe
          have hsort := held_sorted (js := js) (st := runM js (ms.take i)) ndl (fun r q' => by
            rw [hdL_mem ndo eqo]
            constructor
            · intro h
              have hq' : q' < js.length := by
                have hm := opnL_sub h
                unfold stepsOf at hm
                cases hj : js[q']? with
                | none => rw [hj] at hm; cases hm
                | some j => exact (List.getElem?_eq_some_iff.mp hj).1
              exact ⟨hq', (holds_iff beg hq' r i).mpr h⟩
            · rintro ⟨h1', h2'⟩
              exact (holds_iff beg h1' r i).mp h2')
          refine ⟨_, rfl, hl, hxs, (hdL ol).map prD, rfl, SqL.of (sd1 _ _ hhl8), dpAll_same sd1 dhl8, PySem.W.AllAlike.of (fun b b' => by simp [prD, pairD, PySem.W.alike, PySem.W.alikeAll]), PySem.W.Sortable.tuples (fun b => ⟨_, _, rfl⟩), ?_, (fun d hd => by
            obtain ⟨b, _, rfl⟩ := List.mem_map.mp hd
            simp [prD, pairD, PyData.depth, PyData.depthAll]), fun ys pp hpp dys => ?_⟩
          · exact bdh
          rw [hsort] at dys
          have spp := new_same (o := .lst ys) hpp
          refine ⟨pp, ys, rfl, .inl ⟨SqL.of upd_same, fun tp htp => ?_⟩⟩
          have stp := new_same (o := .tup ys) htp
          refine ⟨_, rfl, (by show 3 ≤ sizeLine; decide), fun ra hra => ?_⟩
          have sra := new_same (o := .tup [V.ref d1, V.ref tp, V.ref sl]) hra
          have s8a := ((sd1.trans spp).trans stp).trans sra
          have pA := p8.same s8a
          have fA := f8.same s8a
          have hrA := s8a _ _ hr8
          have frA : ∀ {a : Addr}, H8 a = none → a ∉ [t, s, o, fa] := fun {a} ha => frS (fr s58 ha)
          refine ⟨fa, rows, .ref ra, rfl, rfl, hrA, by rw [lr8, sizeLine_eq]; omega, ?_⟩
          have hrow : RowOk K (delS [t, s, o, fa] (upd (upd (upd (upd H8 d1 (.dK kt)) pp (.lst ys)) tp (.tup ys)) ra (.tup [V.ref d1, V.ref tp, V.ref sl]))) js ms i (.ref ra) := by
            have d1S := frA hd1
            have tpS := frA (fr (sd1.trans spp) htp)
            have raS := frA (fr ((sd1.trans spp).trans stp) hra)
            refine ⟨ra, d1, .ref tp, sl, kt, sv2, rfl, SqT.of (delS_at raS upd_same), delS_at d1S (sra _ _ (stp _ _ (spp _ _ upd_same))), dp_verT_up (delS_mono s8a) vkt, ?_, delS_at slS (s8a _ _ hsl8), dpAll_same (delS_mono s8a) dsl8⟩
            unfold heldD
            refine .tup (SqT.of (delS_at tpS (sra _ _ upd_same))) ?_
            refine dpAll_ts (H := upd (upd (upd (upd H8 d1 (.dK kt)) pp (.lst ys)) tp (.tup ys)) ra (.tup [V.ref d1, V.ref tp, V.ref sl])) (pA.tsd ⟨_, hrA⟩) (dpAll_same (spp.trans (stp.trans sra)) dys) (onlyTs_of fun x hx => ?_)
            rw [HL_kept] at hx
            obtain ⟨b, _, rfl⟩ := List.mem_map.mp hx
            simp [prD, pairD, onlyT, onlyTs]
          obtain ⟨pB, fB⟩ := FoundI.put pA fA hrA hrow
          exact rest _ _ ⟨rfl, pB, fB⟩
        rintro σ' H9 ⟨rfl, p9, f9⟩
        obtain ⟨ko9, ol9, hko9, lko9, dko9, ndo9, lto9, eqo9⟩ := id p9.opn
        -- what is open of q
        have getO : ∀ (Hx : Hp) (te : Addr), Same H9 Hx → SqT K Hx te [] → ∃ va, (valV ko9 (encN q)).getD (.ref te) = .ref va ∧ SqT K Hx va ((opnL js ms i q).map V.str) := fun Hx te sx hte => by
          have er := eqo9 q
          cases hlk : lkA ol9 q with
          | none =>
            rw [hlk] at er
            exact ⟨te, by rw [dko9.none inj_nat q hlk]; rfl, by rw [← er]; exact hte⟩
          | some l =>
            rw [hlk] at er
            obtain ⟨v', hv', dv'⟩ := dko9.some inj_nat q hlk
            obtain ⟨va, vxs, rfl, hva, hvx⟩ := dp_tup_inv dv'
            obtain rfl := strs_dp hvx
            exact ⟨va, by rw [hv']; rfl, by rw [← er]; exact seqT_same (delS_same.trans sx) hva⟩
        rcases id dsv with ⟨ce, hsn⟩ | ⟨st, hst, cl, mem, dst⟩
        · have hcq : (ms.take i).count q = lenOf js q := by rw [hc]; exact ce
          refine ⟨_, rfl, rfl, _, rfl, ?_⟩
          rw [decide_eq_true hsn]
          refine iteT ?_
          have oE := opnL_end hq hcq
          generalize hrs : wrS (stepsOf js q) = rs at oE
          have ndr : rs.Nodup := by
            rw [← hrs, ← eys]
            exact wrS_nodup (nd _ (List.getElem_mem hqj))
          have lrs : rs.length ≤ 1000 := by
            have := opnL_len ok ms i q
            rw [oE.2] at this
            exact this
          let fT : Nat → Str → List Nat := fun m r => verL js ms i r ++ if r ∈ rs.take m then [q] else []
          refine seq_then (fun σ' Ha => ∃ x9, σ' = [some (.ref ja), some (.ref ma), some (.ref t), some (.ref s), some (.ref o), some (.ref fa), some (.int (i : Nat)), some (.int (q : Nat)), some sv, x9, some (.ref hl), some (.ref sl), x12, v13] ∧ PlayI K H js ms (i + 1) (i + 1) i t s o fa Ha ∧ FoundI K js ms (i + 1) t s o fa Ha) (fun N rest => ?_) ?_
          · refine ⟨_, rfl, o, rfl, .inl ⟨ko9, .inl hko9⟩, _, rfl, Nat.zero_le _, fun te hte => ⟨_, DGet.k (k := encN q) ((new_same hte) _ _ hko9), ?_⟩⟩
            have ste := new_same (o := .tup []) hte
            obtain ⟨va, hval, hva⟩ := getO _ te ste (SqT.of upd_same)
            rw [hval]
            rw [oE.2] at hva
            refine ⟨va, rfl, ⟨_, hva⟩, ?_⟩
            have pA := p9.same ste
            have fA := f9.same ste
            revert hva pA fA
            generalize upd H9 te (.tup []) = HA
            intro hva pA fA
            obtain ⟨rowsA, hrA, _⟩ := id fA
            have hvB := pA.tsd ⟨_, hrA⟩ _ _ hva
            have lmap : (rs.map V.str).length = rs.length := List.length_map ..
            refine for_wk (wk_tup hvB) (fun m σ H' => Same (delS [t, s, o, fa] HA) H' ∧ ∃ x9, σ = [some (.ref ja), some (.ref ma), some (.ref t), some (.ref s), some (.ref o), some (.ref fa), some (.int (i : Nat)), some (.int (q : Nat)), some sv, x9, some (.ref hl), some (.ref sl), x12, v13] ∧ PlayG K H js ms (1000 * i + m) (fT m) (i + 1) i t s o fa H' ∧ FoundI K js ms (i + 1) t s o fa H')
              ⟨delS_same, v9, rfl, pA.keepT (Nat.le_add_right _ _) (fun r => by show verL js ms i r ++ (if r ∈ rs.take 0 then [q] else []) = _; rw [List.take_zero, if_neg (by simp), List.append_nil]), fA⟩ (fun m σ H' p => p.1) ?_ ?_
            · rintro m x σ Hm Hm' hm ⟨sB, x9, rfl, pm, fm⟩ smm hx
              rw [lmap] at hm
              rw [List.getElem?_map, List.getElem?_eq_getElem hm] at hx
              obtain rfl := Option.some.inj hx
              generalize hr0 : rs[m] = r
              have pm' := pm.same smm
              have fm' := fm.same smm
              obtain ⟨kt, hkt, lkt, tl, dkt, ekt⟩ := id pm'.there
              refine ⟨_, rfl, t, rfl, .inl ⟨kt, .inl hkt⟩, _, rfl, (by show 1 ≤ sizeLine; decide), fun tn htn => ⟨_, DGet.k (k := encS r) ((new_same htn) _ _ hkt), ?_⟩⟩
              have stn := new_same (o := .tup [V.non]) htn
              have ge : ∀ {B : Hp} (l : List Nat) (zs : List V), DpAll K B zs (l.map fun q => PyData.int (q : Nat)) → zs = l.map fun q => V.int (q : Nat) := by
                intro B l
                induction l with
                | nil => intro zs h; cases h; rfl
                | cons y t ih =>
                  intro zs h
                  cases h with
                  | cons a b =>
                    cases a
                    rw [ih _ b]
                    rfl
              obtain ⟨va1, hval1, hva1⟩ : ∃ va1, (valV kt (encS r)).getD (.ref tn) = .ref va1 ∧ SqT K (upd Hm' tn (.tup [V.non])) va1 (.non :: (fT m r).map fun q => V.int (q : Nat)) := by
                have er := ekt r
                cases hlk : lkA tl r with
                | none =>
                  rw [hlk] at er
                  exact ⟨tn, by rw [dkt.none inj_str r hlk]; rfl, by rw [← er]; exact SqT.of upd_same⟩
                | some l =>
                  rw [hlk] at er
                  obtain ⟨v', hv', dv'⟩ := dkt.some inj_str r hlk
                  obtain ⟨va, vxs, rfl, hva, hvx⟩ := dp_tup_inv dv'
                  cases hvx with
                  | cons ha hb =>
                    cases ha
                    obtain rfl := ge l _ hb
                    exact ⟨va, by rw [hv']; rfl, by rw [← er]; exact seqT_same (delS_same.trans stn) hva⟩
              rw [hval1]
              refine ⟨_, rfl, (by show 1 ≤ sizeLine; decide), fun tq htq => ?_⟩
              have stq := new_same (o := .tup [V.int ((q : Nat) : Int)]) htq
              have lfT : (fT m r).length ≤ 1001 := by
                show (verL js ms i r ++ _).length ≤ 1001
                rw [List.length_append]
                have h1 : (verL js ms i r).length ≤ i := by
                  unfold verL
                  refine Nat.le_trans (List.length_filterMap_le ..) ?_
                  rw [List.length_range]
                  exact Nat.le_refl _
                have h2 : (if r ∈ rs.take m then [q] else []).length ≤ 1 := by split <;> simp
                omega
              refine catA_sq (seqT_same stq hva1) (SqT.of upd_same) (by rw [List.length_cons, List.length_map, List.length_singleton, sizeLine_eq]; omega) fun Hc u sc hu => ?_
              have smc := (stn.trans stq).trans sc
              have pc := pm'.same smc
              have fc := fm'.same smc
              obtain ⟨rowsC, hrC, _⟩ := id fc
              have hktc := smc _ _ hkt
              have du : Dp K Hc (.ref u) (verT (fT m r ++ [q])) := .tup hu (.cons .non (by
                have gi : ∀ l : List Nat, DpAll K Hc (l.map fun q => V.int (q : Nat)) (l.map fun q => PyData.int (q : Nat)) := fun l => by
                  induction l with
                  | nil => exact .nil
                  | cons y t ih => exact .cons (.int _) ih
                have := gi (fT m r ++ [q])
                rw [List.map_append] at this
                exact this))
              have oTu : onlyT (verT (fT m r ++ [q])) = true := by
                unfold verT
                rw [onlyT, onlyTs]
                rw [onlyTs_of (xs := (fT m r ++ [q]).map fun q => PyData.int (q : Nat)) fun x hx => by
                  obtain ⟨y, _, rfl⟩ := List.mem_map.mp hx
                  rw [onlyT]]
                simp [onlyT]
              have dB := dp_ts (pc.tsd ⟨_, hrC⟩) du oTu
              have tkm : rs.take (m + 1) = rs.take m ++ [r] := by rw [List.take_add_one, List.getElem?_eq_getElem hm, hr0]; rfl
              have nrm : r ∉ rs.take m := by
                intro hin
                have nd2 : (rs.take (m + 1)).Nodup := (List.take_sublist _ _).nodup ndr
                rw [tkm, List.nodup_append] at nd2
                exact nd2.2.2 r hin r (List.mem_singleton.mpr rfl) rfl
              refine ⟨_, rfl, _, rfl, t, _, rfl, DPut.k (k := encS r) hktc (by rw [sizeLine_eq]; omega), ?_⟩
              refine ⟨same_upd (if_pos (by simp)) ((sB.trans smm).trans smc), _, rfl, (pc.putT hktc dB).keepT (by omega) (fun r' => ?_), fc.upd (by simp) pc.tf.symm⟩
              show verL js ms i r' ++ (if r' ∈ rs.take (m + 1) then [q] else []) = if r = r' then fT m r ++ [q] else fT m r'
              rw [tkm]
              by_cases e : r = r'
              · subst e
                rw [if_pos rfl, if_pos (List.mem_append_right _ (List.mem_singleton.mpr rfl))]
                show _ = (verL js ms i r ++ (if r ∈ rs.take m then [q] else [])) ++ [q]
                rw [if_neg nrm, List.append_nil]
              · rw [if_neg e]
                show _ = verL js ms i r' ++ (if r' ∈ rs.take m then [q] else [])
                by_cases h : r' ∈ rs.take m
                · rw [if_pos h, if_pos (List.mem_append_left _ h)]
                · rw [if_neg h, if_neg (fun z => (List.mem_append.mp z).elim h fun z => e (List.mem_singleton.mp z).symm)]
            · rintro σ Hm ⟨sB, x9, rfl, pm, fm⟩
              rw [lmap] at pm
              refine rest _ _ ⟨x9, rfl, pm.keepT (by omega) (fun r => ?_), fm⟩
              show verL js ms (i + 1) r = verL js ms i r ++ (if r ∈ rs.take rs.length then [q] else [])
              rw [verL_yes hq hcq, hrs, List.take_length]
          · rintro σ' Ha ⟨x9, rfl, pa, fa9⟩
            refine ⟨Nat.zero_le _, fun tz htz => ?_⟩
            have stz := new_same (o := .tup []) htz
            have pz := pa.same stz
            have fz := fa9.same stz
            obtain ⟨kz, olz, hkz, lkz, _⟩ := id pz.opn
            obtain ⟨rows, hrz, _⟩ := id fz
            refine ⟨_, rfl, _, rfl, o, _, rfl, DPut.k (k := encN q) hkz (by rw [sizeLine_eq]; omega), ?_⟩
            refine ⟨_, _, _, _, _, _, _, _, rfl, pz.putO (rs := []) hkz hqj (dp_ts (pz.tsd ⟨_, hrz⟩) (.tup (SqT.of upd_same) .nil) (by simp [onlyT, onlyTs])) oE.1 (fun q' n => opnL_other hq n), fz.upd (by simp) pz.of.symm⟩
        · obtain ⟨sa, hsr, hsa⟩ := dp_step_inv dst
          have hs9 := seqT_same p9.s0 hsa
          have hcq : (ms.take i).count q < lenOf js q := by rw [hc]; exact cl
          have hstc : (stepsOf js q)[(ms.take i).count q]? = some st := by rw [hc]; exact hst
          have vT : ∀ r, verL js ms (i + 1) r = verL js ms i r := verL_no hq (by omega)
          refine ⟨_, rfl, rfl, _, rfl, ?_⟩
          rw [decide_eq_false (show ¬ sv = V.non by rw [hsr]; intro e; cases e)]
          refine iteF ⟨_, rfl, sa, _, 0, .str (kindS st.1), hsr, rfl, hs9, atI_nat (j := 0) rfl, rfl, _, rfl, ite2 (fun ck => ?_) (fun ck => ?_)⟩
          · have k1 : st.1 = true := by
              cases h : st.1 with
              | true => rfl
              | false =>
                rw [h] at ck
                exact absurd (V.str.inj (of_decide_eq_true ck)) (by decide +kernel)
            refine ⟨_, rfl, o, rfl, .inl ⟨ko9, .inl hko9⟩, _, rfl, Nat.zero_le _, fun te hte => ⟨_, DGet.k (k := encN q) ((new_same hte) _ _ hko9), ?_⟩⟩
            have ste := new_same (o := .tup []) hte
            obtain ⟨va, hval, hva⟩ := getO _ te ste (SqT.of upd_same)
            rw [hval]
            refine ⟨_, rfl, sa, _, 1, .str st.2, hsr, rfl, seqT_same ste hs9, atI_nat (j := 1) rfl, (by show 1 ≤ sizeLine; decide), fun t1 ht1 => ?_⟩
            have st1 := new_same (o := .tup [V.str st.2]) ht1
            have lop := opnL_len ok ms i q
            refine catA_sq (seqT_same st1 hva) (SqT.of upd_same) (by rw [List.length_map, List.length_singleton, sizeLine_eq]; omega) fun Hc u sc hu => ?_
            have s9c := (ste.trans st1).trans sc
            have pc := p9.same s9c
            have fc := f9.same s9c
            obtain ⟨rows, hrz, _⟩ := id fc
            have hkc := s9c _ _ hko9
            refine ⟨_, rfl, _, rfl, o, _, rfl, DPut.k (k := encN q) hkc (by rw [sizeLine_eq]; omega), ?_⟩
            have oS := opnL_step hq hcq hstc
            rw [if_pos k1] at oS
            have du : Dp K Hc (.ref u) (.tuple ((opnL js ms i q ++ [st.2]).map PyData.str)) := .tup (xs := (opnL js ms i q ++ [st.2]).map V.str) (by rw [List.map_append]; exact hu) (dp_strs _)
            refine ⟨_, _, _, _, _, _, _, _, rfl, (pc.putO (rs := opnL js ms i q ++ [st.2]) hkc hqj (dp_ts (pc.tsd ⟨_, hrz⟩) du ?_) oS (fun q' n => opnL_other hq n)).keepT (Nat.mul_le_mul_left _ (Nat.le_succ i)) vT, fc.upd (by simp) pc.of.symm⟩
            rw [onlyT]
            exact onlyTs_of fun x hx => by
              obtain ⟨y, _, rfl⟩ := List.mem_map.mp hx
              rw [onlyT]
          · have k1 : st.1 = false := by
              cases h : st.1 with
              | false => rfl
              | true => rw [h] at ck; exact absurd (decT _) ck
            have oS := opnL_step hq hcq hstc
            rw [k1, if_neg Bool.false_ne_true, List.append_nil] at oS
            refine ⟨_, _, _, _, _, _, _, _, rfl, (p9.keepO fun q' => ?_).keepT (Nat.mul_le_mul_left _ (Nat.le_succ i)) vT, f9⟩
            by_cases e : q = q'
            · subst e; exact oS
            · exact opnL_other hq e
    · rintro σ H' ⟨v6, v7, v8, v9, v10, v11, v12, v13, rfl, p, fo⟩
      rw [lv] at p fo
      obtain ⟨rows, hr1, hr2, hr3⟩ := fo
      obtain ⟨kt, hkt, _, vkt⟩ := p.there
      refine ⟨_, rfl, _, rfl, (by show 2 ≤ sizeLine; decide), fun a ha => ?_⟩
      have sa := new_same (o := .tup [V.ref fa, V.ref t]) ha
      exact z _ a fa t rows kt (p.s0.trans sa) (SqT.of upd_same) (sa _ _ hr1) hr2 (fun k x hx => rowOk_up (delS_same.trans sa) (hr3 k x hx)) (sa _ _ hkt) (dp_verT_up (delS_same.trans sa) vkt)
end
end Kz

namespace Kx
open PySem PySem.Spec PyProof.Rows L2
/-- the ends of a suite whose name goes behind it -/
def unset (i : Nat) (D : Ends) : Ends where
  nx := fun τ G => D.nx (τ.set i none) G
  rt := D.rt
  bk := fun τ G => D.bk (τ.set i none) G
  ct := fun τ G => D.ct (τ.set i none) G
abbrev Suit := Addr → Value → Option Addr → TS
/-- several clauses, each with a name: what they ask of an exception of the body -/
def wNamed (K : PySem.W.Frag) (O : WX) (D : Ends) : List (Value × Nat × Suit) → WX
  | [] => O
  | e :: r => fun k d τ G => ∃ y, PySem.W.exmOne K k e.1 = some y ∧ (y = true → ∀ p, G p = none → e.2.2 p k d (unset e.2.1 D) (τ.set e.2.1 (some (.ref p))) G) ∧ (y = false → wNamed K O D r k d τ G)
inductive Clauses (X : Cx) : List ExceptHandler → List (Value × Nat × Suit) → Prop
  | nil : Clauses X [] []
  | cons {x n : Str} {c : Value} {i : Nat} {ts : Suit} {b : Stmt} {bs : List Stmt} {p q : Pos} {hd : List ExceptHandler} {l : List (Value × Nat × Suit)} (nm : Names X x c) (hi : X.N[i]? = some n) (hl : X.env.kindOf n = some .local)
      (su : ∀ (a : Addr) (o : Obj) (k : Value) (d : Option Addr) (pn : List (Addr × Obj)), Zc k d o → (∃ vs, o.data = .fields vs) → PSs (X.suite a ((a, o) :: pn)) (b :: bs) (ts a k d)) (r : Clauses X hd l) :
      Clauses X (.ExceptHandler (some (.Name x p)) (some n) (b :: bs) q :: hd) ((c, i, ts) :: l)
section
variable {X : Cx} {body : List Stmt} {h1 : ExceptHandler} {hd : List ExceptHandler} {l : List (Value × Nat × Suit)} {pos : Pos} {tb : WX → TS} {O : WX}
theorem ps_try_named (st : X.stack = X.env :: X.outer) (fr : X.env.frame = some X.env.locals) (nd : X.N.Nodup) (tk : Takes X O)
    (bo : ∀ (W : WX) (pn : List (Addr × Obj)) (E : Value → Shared → Prop), Takes (X.tr pn E) W → PassesOwn (model X.prog X.w) X.A X.env E → PSs (X.tr pn E) body (tb W))
    (cl : Clauses X (h1 :: hd) l) : PS X (.Try body (h1 :: hd) [] [] pos) (fun D σ H => tb (wNamed X.K O D l) D σ H) := by
  constructor
  intro ps s0 σ H D I h
  have ok := I.ok
  have frames : X.A.frames = some (X.env :: X.outer) := by
    rw [ok.frames, st]
  let EE : Value → Shared → Prop := fun e t₁ => wpAny (model X.prog X.w) X.A (noteFrame e X.env) (fun _ t₂ => wpAny (model X.prog X.w) X.A (setFlight e none) (fun _ t₃ => wpAny (model X.prog X.w) X.A (handleBy e X.env (h1 :: hd)) (SP X ps D) X.xe t₃) X.xe t₂) X.xe t₁
  refine wpAny_Try_except ?_
  refine wpAny_mono ((bo (wNamed X.K O D l) (X.pn ++ ps) EE (fun u s' xx => ?_) PassesOwn.looking).run [] s0 σ H D (I.toTry _) h) (fun f s1 hsp => ?_) (fun e s1 he => he)
  · obtain ⟨a, B, sI, ps', τ, G, k, d, rfl, J', nb, up, sky, na, os, ag, w⟩ := xx
    have J : Inv X ps τ G sI := J'.ofTry ok
    have sky' : Sky B (X.env :: X.outer) a (Zc k d) X.env.locals s'.heap := st ▸ sky
    show wpAny (model X.prog X.w) X.A (noteFrame (.ref a) X.env) _ _ _
    refine Sky.land Zc.steady frames fr sky' fun g3 f3 up3 => ?_
    have J3 : Inv X ps τ G { s' with heap := g3 } := J.landed nb f3.1 (up.trans up3) os ag
    obtain ⟨o3, v3, at3, z3, dt3⟩ := f3.there
    have out : a ∉ frs (X.env :: X.outer) := by
      intro hm
      obtain ⟨_, o', e', hnf⟩ := f3.2.2.1.mem hm
      rw [at3] at e'; cases e'
      exact hnf _ dt3
    have nL : a ≠ X.env.locals := by
      intro z
      exact out (List.mem_filterMap.mpr ⟨X.env, List.mem_cons_self, by rw [fr, z]⟩)
    have nF : a ∉ X.fs := by
      intro hm
      obtain ⟨e, he, q⟩ := List.mem_filterMap.mp hm
      exact out (List.mem_filterMap.mpr ⟨e, List.mem_cons_of_mem _ he, q⟩)
    have S3 := J3.suite at3 dt3 na nL nF
    have go : ∀ {hh : List ExceptHandler} {ll : List (Value × Nat × Suit)}, Clauses X hh ll → wNamed X.K O D ll k d τ G → wpAny (model X.prog X.w) X.A (handleBy (.ref a) X.env hh) (SP X ps D) X.xe { s' with heap := g3 } := by
      intro hh ll ck
      induction ck with
      | nil =>
        intro w
        refine wpAny_handleBy_nil ?_
        obtain ⟨_, _, _, o, vs, T, oT, ts', he, hz, dt, ix, hr⟩ := id f3
        unfold PySem.passOn
        refine wpAny_bind (wpAny_field he dt ix ?_)
        rw [if_neg (show ¬ ((Value.ref T == Value.none) = true) by simp)]
        have fin : wpAny (model X.prog X.w) X.A (setFlight (.ref a) X.env.frame) (fun _ t4 => wpAny (model X.prog X.w) X.A (throw (.ref a) : Sem Flow) (SP X ps D) X.xe t4) X.xe { s' with heap := g3 } := by
          rw [fr]
          refine HandSPX.setFlight_upZ f3 fun g4 hg4 up4 => wpAny_throw (tk _ _ ?_)
          exact ⟨a, B, sI, ps, τ, G, k, d, rfl, J, nb, (up.trans up3).trans up4, .inr (.inr (st ▸ hg4)), na, os, ag, w⟩
        first
          | exact wpAny_bind (wpAny_pure (wpAny_bind fin))
          | exact wpAny_bind fin
      | @cons x n c i ts b bs p q hd2 l2 nm hi hl su r ih =>
        intro w
        obtain ⟨y, hy, yes, no⟩ := w
        refine wpAny_handleBy_cons (codeAny_handlers_test ?_) (by intro q; cases q)
        have LT : PySem.W.Looks (model X.prog X.w) g3 (typeOf (.ref a)) k := fun A Q E s k' q => wpAny_typeOf_ref (k' _ _ at3) (z3.1.symm ▸ q)
        have LM := PySem.W.exm_one (M := model X.prog X.w) (J3.kIn) LT hy
        have asks : ∀ {Q : Value → Shared → Prop} {E : Value → Shared → Prop}, Q c { s' with heap := g3 } → wpAny (model X.prog X.w) (X.A.mark (some (.ref a))) (eval (.Name x p) X.env) Q E { s' with heap := g3 } := by
          intro Q E q
          obtain ⟨gg, dbg, m | ⟨m, bb, nn⟩⟩ := nm
          · exact ld_glob (X := X.suite a ((a, o3) :: (X.pn ++ ps))) S3 gg m q dbg
          · exact ld_blt (X := X.suite a ((a, o3) :: (X.pn ++ ps))) S3 gg m bb q nn dbg
        refine asks (LM.here ?_)
        cases y with
        | false =>
          show wpAny _ X.A (handleBy (.ref a) X.env hd2) _ _ _
          exact ih (no rfl)
        | true =>
          refine codeAny_handlers_suite_as ?_
          refine HandSPX.lands_againZ f3 fun g4 f4 up4 => ?_
          have J4 : Inv X ps τ G { s' with heap := g4 } := J.landed nb f4.1 ((up.trans up3).trans up4) os ag
          obtain ⟨o4, v4, at4, z4, dt4⟩ := f4.there
          have S4 := J4.suite at4 dt4 na nL nF
          refine store_ok (X := X.suite a ((a, o4) :: (X.pn ++ ps))) (v := .ref a) S4 nd hi (.inl hl) rfl (fun s5 S5 => ?_) (.inr hl)
          refine wpAny_mono ((su a o4 k d (X.pn ++ ps) z4 ⟨_, dt4⟩).run [] s5 _ G _ S5 (yes rfl a na)) (fun f s6 hsp => ?_) (fun _ _ z => z.elim)
          have over : ∀ {τ6 : L2.St} {G6 : Hp} {Q : Shared → Prop}, Inv (X.suite a ((a, o4) :: (X.pn ++ ps))) [] τ6 G6 s6 → (∀ s7, Inv X ps (τ6.set i none) G6 s7 → Q s7) →
              wpAny (model X.prog X.w) X.A (do bindName X.env n .none; unbindBehindTheSuite X.env n q) (fun _ s7 => Q s7) X.xe s6 := fun {τ6 G6 Q} S6 hq => gone_ok (S6.unsuite ok) nd hi hl hq
          cases f with
          | ret u =>
            obtain ⟨v6, τ6, G6, S6, r6, q6⟩ := hsp
            exact over S6 fun s7 J7 => ⟨_, _, _, J7, r6, q6⟩
          | next =>
            obtain ⟨τ6, G6, S6, q6⟩ := hsp
            exact over S6 fun s7 J7 => ⟨_, _, J7, q6⟩
          | brk =>
            obtain ⟨τ6, G6, S6, q6⟩ := hsp
            exact over S6 fun s7 J7 => ⟨_, _, J7, q6⟩
          | cont =>
            obtain ⟨τ6, G6, S6, q6⟩ := hsp
            exact over S6 fun s7 J7 => ⟨_, _, J7, q6⟩
    exact go cl w
  · cases f with
    | ret u =>
      obtain ⟨v, τ, G, J', r, q⟩ := hsp
      exact ⟨v, τ, G, J'.ofTry ok, r, q⟩
    | next =>
      obtain ⟨τ, G, J', q⟩ := hsp
      exact wpAny_execs_nil ⟨τ, G, J'.ofTry ok, q⟩
    | brk =>
      obtain ⟨τ, G, J', q⟩ := hsp
      exact ⟨τ, G, J'.ofTry ok, q⟩
    | cont =>
      obtain ⟨τ, G, J', q⟩ := hsp
      exact ⟨τ, G, J'.ofTry ok, q⟩
end
end Kx

namespace Kx
open PySem PySem.Spec PyProof.Rows L2
section
variable {X : Cx} {a C : Addr} {oe : Obj} {cls : Value} {d : Option Addr} {pn : List (Addr × Obj)} {f x : Str} {B newId : String} {e : Expr} {te : TE} {pos : Pos}
/-- a field of the error that the suite holds -/
def tHeld (C : Addr) (f : Str) (a : Addr) (cls : Value) (d : Option Addr) (te : TE) : TE := fun σ H Q => te σ H fun y G => y = .ref a ∧ cls = .ref C ∧ ∃ (dd : Addr) (v : V), d = some dd ∧ G dd = some (.xd [(f, v)]) ∧ Q v G
theorem pe_held (T : EC X.K X.mg x C B newId) (no : PySem.W.findIn X.K (.ref C) f = some none) (hz : Zc cls d oe) (hf : ∃ vs, oe.data = .fields vs) (he : PE (X.suite a ((a, oe) :: pn)) e te) (hb : attributeBase e f X.env (eval e X.env) = eval e X.env := by rfl) :
    PE (X.suite a ((a, oe) :: pn)) (.Attribute e f pos) (tHeld C f a cls d te) := by
  refine ⟨fun ps s σ H Q I h => ?_⟩
  refine attr_of hb (thn (he.run ps s σ H _ I h) fun u s1 hh => ?_)
  obtain ⟨y, G, I1, ry, ey, ec, dd, v, ed, ea, q⟩ := hh
  subst ey ec ed
  obtain rfl : u = Value.ref a := ry
  obtain ⟨at1, _⟩ := I1.pin (a, oe) (List.mem_append_left _ List.mem_cons_self)
  obtain ⟨vs, dt⟩ := hf
  have ok : ObjOk X.prog X.w G s1.heap dd (.xd [(f, v)]) := I1.hok dd _ ea
  obtain ⟨mA, ns, rel⟩ := ok
  obtain ⟨od, ho, lk⟩ := lookIn_ns ns
  have l : List.lookup f [(f, v)] = some v := by simp [List.lookup]
  obtain ⟨u, hu, ru⟩ := RelO.some_of (v := v) (o := mA f) (by rw [← l]; exact rel f)
  have J : PySem.W.InstAt s1.heap a oe C (some od) := ⟨at1, hz.1, (by unfold PySem.W.notCls; rw [dt] <;> rfl), (by rw [hz.2]; exact ho)⟩
  exact PySem.HandSPX.exc_get I1.kIn J T.ex.hg T.ex.hk T.ex.hs (PySem.W.findObj_own T.ex.hd no rfl (by rw [lk, hu])) (handed_of ru) ⟨v, G, I1.tok _, ru, q⟩
/-- isinstance(it, c), it the error that the suite holds -/
def rIsH (K : PySem.W.Frag) (a : Addr) (cls : Value) (d : Option Addr) : List V → Hp → VK → Prop := fun xs H Q => ∃ (C : Addr) (c : V) (cv : Value) (b : Bool), xs = [.ref a, c] ∧ ClsV c cv ∧ cls = .ref C ∧ ExcC K C ∧
  (d = none ∨ ∃ (dd : Addr) (fs : List (Str × V)), d = some dd ∧ H dd = some (.xd fs)) ∧ PySem.W.kitOne K (.ref C) cv = some b ∧ Q (.bl b) H
theorem call_isH (hz : Zc cls d oe) (hf : ∃ vs, oe.data = .fields vs) : CallR (X.suite a ((a, oe) :: pn)) (.builtin "isinstance") (rIsH X.K a cls d) := by
  intro ps s σ H xs us Q I r h
  obtain ⟨C, c, cv, b, rfl, kc, ec, T, hd, e, q⟩ := h
  obtain ⟨u1, u2, rfl, r1, r2⟩ := vals2 r
  cases r1
  have e2 := kc.eq r2
  subst e2 ec
  obtain ⟨at1, _⟩ := I.pin (a, oe) (List.mem_append_left _ List.mem_cons_self)
  obtain ⟨vs, dt⟩ := hf
  have nc : PySem.W.notCls oe = true := by unfold PySem.W.notCls; rw [dt] <;> rfl
  rcases hd with rfl | ⟨dd, fs, rfl, ea⟩
  · have J : PySem.W.InstAt s.heap a oe C none := ⟨at1, hz.1, nc, by rw [hz.2]; exact trivial⟩
    exact PySem.W.kia_one (kit_exc (ox := oe) (od := none) T) I.kIn J e (fun z => nomatch z) fun tk => ⟨.bl b, H, I.tok tk, rfl, q⟩
  · have ok : ObjOk X.prog X.w H s.heap dd (.xd fs) := I.hok dd _ ea
    obtain ⟨mA, ns, _⟩ := ok
    obtain ⟨od, ho, _⟩ := lookIn_ns ns
    have J : PySem.W.InstAt s.heap a oe C (some od) := ⟨at1, hz.1, nc, by rw [hz.2]; exact ho⟩
    exact PySem.W.kia_one (kit_exc (ox := oe) (od := some od) T) I.kIn J e (fun z => nomatch z) fun tk => ⟨.bl b, H, I.tok tk, rfl, q⟩
end
end Kx

namespace Kz
open PySem PySem.Spec PyProof.Rows L2
/-! ### two lists that grow beside one another: what is told, what is due -/
def FrD (K : PySem.W.Frag) (H H' : Hp) (u : V) (d : PyData) : Prop := Dp K (newH H H') u d ∨ (onlyT d = true ∧ Dp K H' u d)
theorem FrD.dp {K : PySem.W.Frag} {H H' : Hp} {u : V} {d : PyData} (h : FrD K H H' u d) : Dp K H' u d := h.elim (dp_same newH_same) fun h => h.2
theorem fresh_back {H H' : Hp} {a : Addr} (s : Same H H') (n : H' a = none) : H a = none := by
  cases h : H a with
  | none => rfl
  | some o => rw [s _ _ h] at n; cases n
theorem newH_delS {S : List Addr} {H H' : Hp} (h : ∀ a ∈ S, H a ≠ none) : Same (newH H H') (delS S H') := fun b o e => by
  unfold delS
  by_cases q : b ∈ S
  · cases hh : H b with
    | none => exact absurd hh (h b q)
    | some u => exact (newH_new e hh).elim
  · rw [if_neg q]; exact newH_same _ _ e
theorem ts_delS {K : PySem.W.Frag} {S : List Addr} {H : Hp} (h : ∀ a ∈ S, NoTup H a) : TS0 K H (delS S H) := fun a xs z => by
  rcases z with (z | ⟨u, z⟩) | z
  · have ne : a ∉ S := fun e => (h a e).1 xs z
    exact .inl (.inl (by unfold delS; rw [if_neg ne]; exact z))
  · have ne : a ∉ S := fun e => (h a e).2 u xs z
    exact .inl (.inr ⟨u, by unfold delS; rw [if_neg ne]; exact z⟩)
  · exact .inr z
theorem FrD.away {K : PySem.W.Frag} {S : List Addr} {H H' : Hp} {u : V} {d : PyData} (h : FrD K H H' u d) (s : Same H H') (l : ∀ a ∈ S, ∃ xs, H a = some (.lst xs)) : Dp K (delS S H') u d := by
  rcases h with h | ⟨o, h⟩
  · exact dp_same (newH_delS fun a m => by obtain ⟨xs, e⟩ := l a m; rw [e]; exact fun q => by cases q) h
  · exact dp_ts (ts_delS fun a m => by obtain ⟨xs, e⟩ := l a m; exact noTup_lst (s _ _ e)) h o
theorem delS_out {S : List Addr} {H : Hp} {b : Addr} {o : HO} (n : b ∉ S) (e : H b = some o) : delS S H b = some o := by unfold delS; rw [if_neg n]; exact e
theorem delS_in {S : List Addr} {H : Hp} {b : Addr} {o : HO} (e : delS S H b = some o) : b ∉ S ∧ H b = some o := by
  unfold delS at e
  by_cases q : b ∈ S
  · rw [if_pos q] at e; cases e
  · rw [if_neg q] at e; exact ⟨q, e⟩
structure GD (K : PySem.W.Frag) (g e : Addr) (dg dd : List PyData) (H : Hp) : Prop where
  ne : g ≠ e
  lg : ∃ xs, H g = some (.lst xs) ∧ DpAll K (delS [g, e] H) xs dg
  le : ∃ xs, H e = some (.lst xs) ∧ DpAll K (delS [g, e] H) xs dd
theorem delS_swap {g e : Addr} {H : Hp} : delS [g, e] H = delS [e, g] H := funext fun b => by
  unfold delS
  by_cases h : b ∈ [g, e]
  · rw [if_pos h, if_pos (by simp at h ⊢; exact h.symm)]
  · rw [if_neg h, if_neg (by simp at h ⊢; exact ⟨h.2, h.1⟩)]
namespace GD
variable {K : PySem.W.Frag} {g e : Addr} {dg dd : List PyData} {H : Hp}
theorem swap (p : GD K g e dg dd H) : GD K e g dd dg H := ⟨p.ne.symm, by rw [delS_swap]; exact p.le, by rw [delS_swap]; exact p.lg⟩
theorem up {H' : Hp} (p : GD K g e dg dd H) (s : Same H H') : GD K g e dg dd H' := by
  obtain ⟨xs, h1, h2⟩ := p.lg
  obtain ⟨ys, h3, h4⟩ := p.le
  exact ⟨p.ne, ⟨xs, s _ _ h1, dpAll_same (delS_mono s) h2⟩, ⟨ys, s _ _ h3, dpAll_same (delS_mono s) h4⟩⟩
theorem both (p : GD K g e dg dd H) : ∀ a ∈ [g, e], ∃ xs, H a = some (.lst xs) := fun a m => by
  rcases List.mem_cons.mp m with rfl | m
  · exact ⟨_, p.lg.choose_spec.1⟩
  · rw [List.mem_singleton.mp m]; exact ⟨_, p.le.choose_spec.1⟩
/-- one item more at the end -/
theorem app {xs : List V} {v : V} {d : PyData} (p : GD K g e dg dd H) (hx : H g = some (.lst xs)) (hv : Dp K (delS [g, e] H) v d) : GD K g e (dg ++ [d]) dd (upd H g (.lst (xs ++ [v]))) := by
  obtain ⟨xs', h1, h2⟩ := p.lg
  obtain ⟨ys, h3, h4⟩ := p.le
  rw [hx] at h1
  cases h1
  refine ⟨p.ne, ⟨_, upd_same, ?_⟩, ⟨ys, (upd_ne p.ne.symm).trans h3, ?_⟩⟩ <;> rw [delS_upd List.mem_cons_self]
  · exact dpAll_snoc h2 hv
  · exact h4
/-- a new list: that one, and some items more -/
theorem cat {xs zs : List V} {ds : List PyData} {g' : Addr} (p : GD K g e dg dd H) (hx : H g = some (.lst xs)) (hv : DpAll K (delS [g, e] H) zs ds) (n : H g' = none) : GD K g' e (dg ++ ds) dd (upd H g' (.lst (xs ++ zs))) := by
  obtain ⟨xs', h1, h2⟩ := p.lg
  obtain ⟨ys, h3, h4⟩ := p.le
  rw [hx] at h1
  cases h1
  have ne : g' ≠ e := fun q => by rw [q, h3] at n; cases n
  have s : Same (delS [g, e] H) (delS [g', e] (upd H g' (.lst (xs ++ zs)))) := fun b o q => by
    obtain ⟨m, hb⟩ := delS_in q
    have nb : b ≠ g' := fun z => by rw [z, n] at hb; cases hb
    refine delS_out (fun z => ?_) ((upd_ne nb).trans hb)
    rcases List.mem_cons.mp z with z | z
    · exact nb z
    · exact m (List.mem_cons_of_mem _ z)
  exact ⟨ne, ⟨_, upd_same, dpAll_app (dpAll_same s h2) (dpAll_same s hv)⟩, ⟨ys, (upd_ne ne.symm).trans h3, dpAll_same s h4⟩⟩
end GD
/-! ### a comprehension away from some lists -/
def GotS (K : PySem.W.Frag) (S : List Addr) (H0 : Hp) (D : Addr) (ds : List PyData) (H : Hp) : Prop := Same H0 H ∧ ∃ ys, H D = some (.lst ys) ∧ DpAll K (delS (D :: S) H) ys ds
theorem lc_gotS {K : PySem.W.Frag} {S : List Addr} {J : It} {H0 : Hp} {n : Nat} {R : Nat → V → Hp → Prop} {D : Addr} {os : List PyData} {g : TG} {tt : TT} {te : TE} {vs : List Nat} {σ : L2.St} {Qd : Hp → Prop} (wk : Wk J H0 n R) (len : n = os.length) (hD : H0 D = none) (few : os.length < sizeLine)
    (t : ∀ (i : Nat) (d : PyData), os[i]? = some d → ∀ (x : V) (H : Hp) (N : V → Hp → Prop) (Z : Hp → Prop), R i x H → Same H0 H → (∃ l, H D = some (.lst l)) → (∀ y H4, Same H H4 → Dp K (delS (D :: S) H4) y d → N y H4) →
      g x (wipe σ vs) H fun σ2 H2 => wipe σ2 vs = wipe σ vs ∧ tt σ2 H2 fun b H3 => if b = true then te σ2 H3 N else Z H3) (fin : ∀ H, GotS K S H0 D os H → Qd H) :
    ∃ W : Nat → Nat → Hp → Prop, (∃ m, W 0 m (upd H0 D (.lst []))) ∧ ∀ i m H, W i m H → (J.stop i H ∧ Qd H) ∨ (J.go i H ∧ ∃ Nx : Hp → Prop, (∀ H', Nx H' → ∃ m', m' < m ∧ W (i + 1) m' H') ∧ ∀ x H', J.yld i H x H' →
      g x (wipe σ vs) H' fun σ2 H2 => wipe σ2 vs = wipe σ vs ∧ tt σ2 H2 fun b H3 => if b = true then te σ2 H3 fun y H4 => ∃ acc, H4 D = some (.lst acc) ∧ acc.length < sizeLine ∧ Nx (upd H4 D (.lst (acc ++ [y]))) else Nx H3) := by
  refine lc_wk (K := K) wk (fun i H => GotS K S H0 D (os.take i) H) ⟨new_same hD, [], upd_same, .nil⟩ (fun i H p => p.1) (fun i x H H' hi p s r => ?_) (fun H p => fin H (by rw [len, List.take_length] at p; exact p))
  obtain ⟨s0, ys, hy, hd⟩ := p
  have hi' : i < os.length := len ▸ hi
  have ho : os[i]? = some os[i] := List.getElem?_eq_getElem hi'
  have tk : os.take (i + 1) = os.take i ++ [os[i]] := by rw [List.take_add_one, ho]; rfl
  refine t i _ ho x H' _ _ r (s0.trans s) ⟨ys, s _ _ hy⟩ (fun y H4 s4 d4 => ?_)
  have hy4 := s4 _ _ (s _ _ hy)
  refine ⟨ys, hy4, ?_, same_upd hD ((s0.trans s).trans s4), ys ++ [y], upd_same, ?_⟩
  · rw [dpAll_len hd, List.length_take]
    exact Nat.lt_of_le_of_lt (Nat.min_le_right ..) few
  · rw [delS_upd List.mem_cons_self, tk]
    exact dpAll_snoc (dpAll_same (delS_mono (s.trans s4)) hd) d4
/-- what is made so, as an item: away from the lists -/
theorem GotS.item {K : PySem.W.Frag} {S : List Addr} {H0 : Hp} {D : Addr} {ds : List PyData} {H : Hp} (p : GotS K S H0 D ds H) (hD : H0 D = none) (l : ∀ a ∈ S, H0 a ≠ none) : Dp K (delS S H) (.ref D) (.list ds) := by
  obtain ⟨s, ys, hy, hd⟩ := p
  have nD : D ∉ S := fun m => l D m hD
  refine .lst (.inl (.inl (delS_out nD hy))) (dpAll_same (fun b o q => ?_) hd)
  obtain ⟨m, hb⟩ := delS_in q
  exact delS_out (fun z => m (List.mem_cons_of_mem _ z)) hb
end Kz

namespace Kz
open PySem PySem.Spec PyProof.Rows L2 RZ Kt Kx
/-! ### _law_heard -/
/-- what the three clauses want of the three classes -/
structure Catch (K : PySem.W.Frag) (mg : Str → Option Value) (CN CR CC : Addr) : Prop where
  N : EC K mg "NoNumber" CN "LookupError" "LookupError.__new__"
  R : EC K mg "NoRow" CR "LookupError" "LookupError.__new__"
  C : EC K mg "CanNot" CC "ValueError" "ValueError.__new__"
  noN : PySem.W.findIn K (.ref CN) "number" = some none
  noR : PySem.W.findIn K (.ref CR) "row" = some none
  nn : PySem.W.exmOne K (.ref CN) (.ref CN) = some true
  rn : PySem.W.exmOne K (.ref CR) (.ref CN) = some false
  cn : PySem.W.exmOne K (.ref CC) (.ref CN) = some false
  rr : PySem.W.exmOne K (.ref CR) (.ref CR) = some true
  cr : PySem.W.exmOne K (.ref CC) (.ref CR) = some false
  cc : PySem.W.exmOne K (.ref CC) (.ref CC) = some true
  kN : PySem.W.kitOne K (.ref CN) (.type "LookupError") = some true
  kR : PySem.W.kitOne K (.ref CR) (.type "LookupError") = some true
  kC : PySem.W.kitOne K (.ref CC) (.type "ValueError") = some true
  le : mg "LookupError" = none
  ve : mg "ValueError" = none
/-- what is heard at the door with this number -/
def heardD (js : List JobM) (ms : List Nat) (door : Nat) (r : Str) (i : Int) : PyData :=
  if ¬ (0 ≤ i ∧ i < ms.length) then .list [.str "no number", .int i, .bool true]
  else match door with
    | 0 => heldD js ms i.toNat
    | 1 => if readAt js ms i.toNat then odI (vsAt js (runM js ms) i.toNat) else .list [.str "can not", .bool true]
    | _ => if r ∈ allRows js then versD js ms r i else .list [.str "no row", .str r, .bool true]
abbrev nHeard : List Str := ["_law_door", "_law_jobs_so", "_law_mix_so", "_law_row_so", "_law_at_so", "_law_caught", "_law_found", "error_n", "error_r", "error_c"]
abbrev pHeard : List Str := ["_law_door", "_law_jobs_so", "_law_mix_so", "_law_row_so", "_law_at_so"]
theorem scHeard : FnScope nHeard pHeard (defScope sHeard) := ⟨rfl, rfl, rfl, by decide +kernel, rfl, by decide +kernel, by decide +kernel⟩
theorem oT_heldD (js : List JobM) (ms : List Nat) (n : Nat) : onlyT (heldD js ms n) = true := by
  rw [heldD, HL_kept, onlyT]
  exact onlyTs_of fun x hx => by
    obtain ⟨y, _, rfl⟩ := List.mem_map.mp hx
    simp [prD, pairD, onlyT, onlyTs]
theorem oT_versD (js : List JobM) (ms : List Nat) (r : Str) (i : Int) : onlyT (versD js ms r i) = true := by
  rw [versD, onlyT, onlyTs, Bool.and_eq_true]
  exact ⟨rfl, onlyTs_of fun x hx => by
    obtain ⟨y, _, rfl⟩ := List.mem_map.mp hx
    rw [onlyT]⟩
def spHeard (K : PySem.W.Frag) : Sp := fun vs H Q _ => ∃ (door : Nat) (vj vm : V) (js : List JobM) (ms : List Nat) (r : Str) (i : Int), vs = [.int door, vj, vm, .str r, .int i] ∧ door ≤ 2 ∧ IsJ K H vj js ∧ IsM K H vm ms ∧ okJs js ∧ BegM js ms ∧ ms.length ≤ 1000000 ∧ fewR js ∧ PyData.strOk r = true ∧
  ∀ H' u, Same H H' → FrD K H H' u (heardD js ms door r i) → Q u H'
theorem ifd_t {p : Prop} [Decidable p] {A B : Prop} (c : p) (h : A) : if decide p = true then A else B := by
  rw [decide_eq_true c]; exact iteT h
theorem ifd_f {p : Prop} [Decidable p] {A B : Prop} (c : ¬ p) (h : B) : if decide p = true then A else B := by
  rw [decide_eq_false c]; exact iteF h
section
variable {P : Program} {w : World} {K : PySem.W.Frag} {mg : Str → Option Value} {base : Heap}
theorem ok_heard {f CN CR CC fH fS fV : Addr} {fd fdH fdS fdV : FuncData} (F : Fun K "_law_heard" "_law_heard" sHeard f fd) (T : Nat0 mg) (C : Catch K mg CN CR CC)
    (GH : FnOk P w K mg base (L2.CX P w) 7 fH fdH ["jobs", "mix", "move"] (spHeldAt K CN)) (kH : PySem.W.keepIn K (.ref fH) = true) (bH : Binds K fdH ["jobs", "mix", "move"] []) (gH : mg "held_at" = some (.ref fH))
    (GS : FnOk P w K mg base (L2.CX P w) 6 fS fdS ["jobs", "mix", "move"] (spSeenAt K CN CC)) (kS : PySem.W.keepIn K (.ref fS) = true) (bS : Binds K fdS ["jobs", "mix", "move"] []) (gS : mg "seen_at" = some (.ref fS))
    (GV : FnOk P w K mg base (L2.CX P w) 6 fV fdV ["jobs", "mix", "row", "move"] (spVersAt K CN CR)) (kV : PySem.W.keepIn K (.ref fV) = true) (bV : Binds K fdV ["jobs", "mix", "row", "move"] []) (gV : mg "versions_at" = some (.ref fV)) :
    FnOk P w K mg base CX0 8 f fd pHeard (spHeard K) := by
  refine F.ok scHeard (fun vs H Q E h => ?_) (fun cdv A outer s H vs Q E hr h => ?_)
  · obtain ⟨door, vj, vm, js, ms, r, i, rfl, _⟩ := h
    rfl
  · have r7 : Room 7 _ := hr.mono (by decide)
    have r6 : Room 6 _ := hr.mono (by decide)
    refine ⟨_, pss_cons (ps_asg (pe_tup (pa_cons pe_non (pa_cons pe_non pa_nil))) (pg_tup (by rfl) (pgs_cons (pg_name (i := 5) scHeard.nd rfl (Or.inl rfl)) (pgs_cons (pg_name (i := 6) scHeard.nd rfl (Or.inl rfl)) pgs_nil))))
      (pss_cons (ps_try_named (O := fun _ _ _ _ => False) rfl rfl scHeard.nd takes0
        (fun W pn E tk _ => pss_one (ps_if (pt_cmpR op_lt (pv 0) pe_int (nomark _))
          (pss_one (ps_set (i := 6) scHeard.nd rfl (Or.inl rfl) (pe_ifExp (pt_cmpR op_eq (pv 0) pe_int (nomark _))
            (pe_callS (E := WE W) GH r7 (by rfl) gH kH bH (fun σ => passAt tk σ) (by exact (pa_cons (pv 1) (pa_cons (pv 2) (pa_cons (pv 4) pa_nil)))))
            (pe_callS (E := WE W) GS r6 (by rfl) gS kS bS (fun σ => passAt tk σ) (by exact (pa_cons (pv 1) (pa_cons (pv 2) (pa_cons (pv 4) pa_nil))))))))
          (pss_one (ps_set (i := 6) scHeard.nd rfl (Or.inl rfl) (pe_callS (E := WE W) GV r6 (by rfl) gV kV bV (fun σ => passAt tk σ) (by exact (pa_cons (pv 1) (pa_cons (pv 2) (pa_cons (pv 3) (pa_cons (pv 4) pa_nil))))))))))
        (.cons (i := 7) ⟨rfl, by decide, Or.inl C.N.g⟩ rfl rfl (fun a oe cls d pn hz hf => pss_one (ps_set (i := 5) scHeard.nd rfl (Or.inl rfl) (by exact (pe_lst (pa_cons pe_str (pa_cons (pe_held C.N C.noN hz hf (pv 7)) (pa_cons (pe_callB (call_isH hz hf) (by rfl) T.isinstance bt_isi (pa_cons (pv 7) (pa_cons (pe_bltn (v := .ty "LookupError") (by rfl) C.le (by decide +kernel) rfl) pa_nil))) pa_nil)))))))
        (.cons (i := 8) ⟨rfl, by decide, Or.inl C.R.g⟩ rfl rfl (fun a oe cls d pn hz hf => pss_one (ps_set (i := 5) scHeard.nd rfl (Or.inl rfl) (by exact (pe_lst (pa_cons pe_str (pa_cons (pe_held C.R C.noR hz hf (pv 8)) (pa_cons (pe_callB (call_isH hz hf) (by rfl) T.isinstance bt_isi (pa_cons (pv 8) (pa_cons (pe_bltn (v := .ty "LookupError") (by rfl) C.le (by decide +kernel) rfl) pa_nil))) pa_nil)))))))
        (.cons (i := 9) ⟨rfl, by decide, Or.inl C.C.g⟩ rfl rfl (fun a oe cls d pn hz hf => pss_one (ps_set (i := 5) scHeard.nd rfl (Or.inl rfl) (by exact (pe_lst (pa_cons pe_str (pa_cons (pe_callB (call_isH hz hf) (by rfl) T.isinstance bt_isi (pa_cons (pv 9) (pa_cons (pe_bltn (v := .ty "ValueError") (by rfl) C.ve (by decide +kernel) rfl) pa_nil))) pa_nil)))))) .nil))))
      (pss_one (ps_ret (pe_ifExp (pt_cmpR op_isN (pv 5) pe_non (nomark _)) (pv 6) (pv 5))))), ?_⟩
    obtain ⟨door, vj, vm, js, ms, r, i, rfl, dle, hj, hm, ok, beg, len, fw, or, z⟩ := h
    refine ⟨(by show 2 ≤ sizeLine; decide), fun t0 ht0 => ⟨t0, _, rfl, SqT.of upd_same, rfl, ?_⟩⟩
    have s0 : Same H (upd H t0 (.tup [V.non, V.non])) := new_same ht0
    generalize upd H t0 (.tup [V.non, V.non]) = H0 at s0
    refine ⟨_, _, rfl, ?_⟩
    refine ⟨_, _, rfl, rfl, ?_⟩
    dsimp only [L2.start, nHeard]
    refine seq_then (fun σ' H' => ∃ c g, σ' = [some (.int door), some vj, some vm, some (.str r), some (.int i), some c, some g, none, none, none] ∧ Same H H' ∧ ((c = .non ∧ FrD K H H' g (heardD js ms door r i)) ∨ ∃ a, c = .ref a ∧ FrD K H H' c (heardD js ms door r i))) (fun N hN => ?_) (fun σ' H' hp => ?_)
    · have hN0 : ∀ {g : V} {H' : Hp}, Same H H' → FrD K H H' g (heardD js ms door r i) → N [some (.int door), some vj, some vm, some (.str r), some (.int i), some .non, some g, none, none, none] H' := fun {g H'} s1 dg => hN _ _ ⟨_, _, rfl, s1, .inl ⟨rfl, dg⟩⟩
      have hN1 : ∀ {g : V} {a : Addr} {H' : Hp}, Same H H' → FrD K H H' (.ref a) (heardD js ms door r i) → N [some (.int door), some vj, some vm, some (.str r), some (.int i), some (.ref a), some g, none, none, none] H' := fun {g a H'} s1 dc => hN _ _ ⟨_, _, rfl, s1, .inr ⟨a, rfl, dc⟩⟩
      by_cases d0 : door = 0
      · subst d0
        refine ⟨_, rfl, _, _, rfl, rfl, _, rfl, iteT ?_⟩
        refine ⟨_, rfl, rfl, _, rfl, ifd_t rfl ?_⟩
        refine ⟨_, rfl, _, rfl, _, rfl, vj, vm, js, ms, i, rfl, isJ_same s0 hj, isM_same s0 hm, ok, beg.1, len, fw, fun c H' d s1 hd => ?_, fun n en ln H' u s1 du => ?_⟩
        · refine ⟨true, C.nn, fun _ p hp => ?_, fun q => Bool.noConfusion q⟩
          refine ⟨_, rfl, rfl, rfl, d, _, rfl, upd_same, _, rfl, CN, _, _, true, rfl, .ty _, rfl, C.N.ex, .inr ⟨d, _, rfl, upd_same⟩, C.kN, (by show 3 ≤ sizeLine; decide), fun la hla => ?_⟩
          have HL := (s0.trans s1).trans (new_same (o := .xd [("number", .int i)]) hd)
          refine hN1 (((s0.trans s1).trans (new_same hd)).trans (new_same hla)) ?_
          unfold heardD; rw [if_pos c]
          exact .inl (.lst (SqL.of (newH_at (fresh_back HL hla) upd_same)) (.cons (.str _) (.cons (.int _) (.cons (.bl _) .nil))))
        · refine hN0 (s0.trans s1) ?_
          subst en
          unfold heardD; rw [if_neg (by omega)]
          exact .inr ⟨oT_heldD _ _ _, du⟩
      by_cases d1 : door = 1
      · subst d1
        refine ⟨_, rfl, _, _, rfl, rfl, _, rfl, iteT ?_⟩
        refine ⟨_, rfl, rfl, _, rfl, ifd_f (by intro q; cases q) ?_⟩
        refine ⟨_, rfl, _, rfl, _, rfl, vj, vm, js, ms, i, rfl, isJ_same s0 hj, isM_same s0 hm, ok, beg, len, fun c H' d s1 hd => ?_, fun n en ln rd H' s1 => ?_, fun n en ln rd H' s1 => ?_⟩
        · refine ⟨true, C.nn, fun _ p hp => ?_, fun q => Bool.noConfusion q⟩
          refine ⟨_, rfl, rfl, rfl, d, _, rfl, upd_same, _, rfl, CN, _, _, true, rfl, .ty _, rfl, C.N.ex, .inr ⟨d, _, rfl, upd_same⟩, C.kN, (by show 3 ≤ sizeLine; decide), fun la hla => ?_⟩
          have HL := (s0.trans s1).trans (new_same (o := .xd [("number", .int i)]) hd)
          refine hN1 (((s0.trans s1).trans (new_same hd)).trans (new_same hla)) ?_
          unfold heardD; rw [if_pos c]
          exact .inl (.lst (SqL.of (newH_at (fresh_back HL hla) upd_same)) (.cons (.str _) (.cons (.int _) (.cons (.bl _) .nil))))
        · refine ⟨false, C.cn, fun q => absurd q Bool.false_ne_true, fun _ => ⟨false, C.cr, fun q => absurd q Bool.false_ne_true, fun _ => ⟨true, C.cc, fun _ p hp => ?_, fun q => Bool.noConfusion q⟩⟩⟩
          refine ⟨_, rfl, CC, _, _, true, rfl, .ty _, rfl, C.C.ex, .inl rfl, C.kC, (by show 2 ≤ sizeLine; decide), fun la hla => ?_⟩
          have HL := s0.trans s1
          refine hN1 ((s0.trans s1).trans (new_same hla)) ?_
          subst en
          unfold heardD; rw [if_neg (by omega)]
          show FrD K _ _ _ (if readAt js ms n = true then _ else _)
          rw [if_neg (by rw [rd]; exact Bool.false_ne_true)]
          exact .inl (.lst (SqL.of (newH_at (fresh_back HL hla) upd_same)) (.cons (.str _) (.cons (.bl _) .nil)))
        · refine hN0 (s0.trans s1) ?_
          subst en
          unfold heardD; rw [if_neg (by omega)]
          show FrD K _ _ _ (if readAt js ms n = true then odI (vsAt js (runM js ms) n) else _)
          rw [if_pos rd]
          exact .inr ⟨oT_odI _, dp_odI _⟩
      have d2 : door = 2 := by omega
      subst d2
      refine ⟨_, rfl, _, _, rfl, rfl, _, rfl, iteF ?_⟩
      refine ⟨_, rfl, _, rfl, _, rfl, _, rfl, vj, vm, js, ms, r, i, rfl, isJ_same s0 hj, isM_same s0 hm, ok, beg.1, len, or, fun c H' d s1 hd => ?_, fun c nr H' d s1 hd => ?_, fun c ir H' u s1 du => ?_⟩
      · refine ⟨true, C.nn, fun _ p hp => ?_, fun q => Bool.noConfusion q⟩
        refine ⟨_, rfl, rfl, rfl, d, _, rfl, upd_same, _, rfl, CN, _, _, true, rfl, .ty _, rfl, C.N.ex, .inr ⟨d, _, rfl, upd_same⟩, C.kN, (by show 3 ≤ sizeLine; decide), fun la hla => ?_⟩
        have HL := (s0.trans s1).trans (new_same (o := .xd [("number", .int i)]) hd)
        refine hN1 (((s0.trans s1).trans (new_same hd)).trans (new_same hla)) ?_
        unfold heardD; rw [if_pos c]
        exact .inl (.lst (SqL.of (newH_at (fresh_back HL hla) upd_same)) (.cons (.str _) (.cons (.int _) (.cons (.bl _) .nil))))
      · refine ⟨false, C.rn, fun q => absurd q Bool.false_ne_true, fun _ => ⟨true, C.rr, fun _ p hp => ?_, fun q => Bool.noConfusion q⟩⟩
        refine ⟨_, rfl, rfl, rfl, d, _, rfl, upd_same, _, rfl, CR, _, _, true, rfl, .ty _, rfl, C.R.ex, .inr ⟨d, _, rfl, upd_same⟩, C.kR, (by show 3 ≤ sizeLine; decide), fun la hla => ?_⟩
        have HL := (s0.trans s1).trans (new_same (o := .xd [("row", .str r)]) hd)
        refine hN1 (((s0.trans s1).trans (new_same hd)).trans (new_same hla)) ?_
        unfold heardD; rw [if_neg (not_not_intro c)]
        show FrD K _ _ _ (if r ∈ allRows js then _ else _)
        rw [if_neg nr]
        exact .inl (.lst (SqL.of (newH_at (fresh_back HL hla) upd_same)) (.cons (.str _) (.cons (.str _) (.cons (.bl _) .nil))))
      · refine hN0 (s0.trans s1) ?_
        unfold heardD; rw [if_neg (not_not_intro c)]
        show FrD K _ _ _ (if r ∈ allRows js then _ else _)
        rw [if_pos ir]
        exact .inr ⟨oT_versD _ _ _ _, du⟩
    · obtain ⟨c, g, rfl, s1, ⟨rfl, dg⟩ | ⟨a, rfl, dc⟩⟩ := hp
      · exact ⟨_, rfl, rfl, _, rfl, by rw [decide_eq_true rfl]; exact iteT ⟨_, rfl, z _ _ s1 dg⟩⟩
      · exact ⟨_, rfl, rfl, _, rfl, by rw [decide_eq_false (by intro q; cases q)]; exact iteF ⟨_, rfl, z _ _ s1 dc⟩⟩
end
end Kz

namespace Kz
open PySem PySem.Spec PyProof.Rows L2 RZ Kt Kx
/-! ### what a read sees, by the play and by the run -/
section
variable {js : List JobM} {ms : List Nat}
theorem moves_at (h : ∀ q ∈ ms, q < js.length) {i q : Nat} (hq : ms[i]? = some q) : (runM js ms).moves[i]? = some (q, if (ms.take i).count q = lenOf js q then none else some ((ms.take i).count q)) := by
  have gen : ∀ n, n ≤ ms.length → ∀ i q, i < n → ms[i]? = some q → (runM js (ms.take n)).moves[i]? = some (q, if (ms.take i).count q = lenOf js q then none else some ((ms.take i).count q)) := by
    intro n
    induction n with
    | zero => intro _ i q hi; omega
    | succ n ih =>
      intro hn i q hi hq
      have hl : n < ms.length := hn
      rw [List.take_add_one, List.getElem?_eq_getElem hl]
      show (runM js (ms.take n ++ [ms[n]])).moves[i]? = _
      rw [runM_snoc]
      have len : (runM js (ms.take n)).moves.length = n := by rw [runM_len, List.length_take]; omega
      show ((runM js (ms.take n)).moves ++ [(ms[n], if (runM js (ms.take n)).counts.getD ms[n] 0 = lenOf js ms[n] then none else some ((runM js (ms.take n)).counts.getD ms[n] 0))])[i]? = _
      by_cases c : i < n
      · rw [List.getElem?_append_left (by rw [len]; exact c)]
        exact ih (Nat.le_of_lt hl) i q c hq
      · have ei : i = n := by omega
        subst ei
        rw [List.getElem?_append_right (by rw [len]; exact Nat.le_refl _), len, Nat.sub_self]
        rw [List.getElem?_eq_getElem hl] at hq
        have e := Option.some.inj hq
        subst e
        have bd := h _ (List.getElem_mem hl)
        have cn := (runInv js (ms.take i) fun q hm => h q (List.mem_of_mem_take hm)).cnt ms[i] bd
        rw [cn]
        rfl
  have hi : i < ms.length := (List.getElem?_eq_some_iff.mp hq).1
  have := gen ms.length (Nat.le_refl _) i q hi hq
  rw [List.take_length] at this
  exact this
theorem lastD_map (l : List Nat) : odI ((l.map fun q => ((q : Nat) : Int)).getLast?) = lastD l := by
  unfold lastD
  rw [List.getLast?_map]
  cases l.getLast? <;> rfl
theorem read_at (b : BegM js ms) {k q : Nat} (hq : ms[k]? = some q) : readAt js ms k = (readStep js ms k).isSome ∧ ∀ r, readStep js ms k = some r → odI (vsAt js (runM js ms) k) = lastD (verL js ms (sinceP js ms k) r) := by
  have hm : q ∈ ms := List.mem_of_getElem? hq
  have hql := b.1 q hm
  have gd : ms.getD k 0 = q := by rw [List.getD_eq_getElem?_getD, hq]; rfl
  have mv := moves_at b.1 hq
  unfold readAt readStep isRd sinceP lvOf
  rw [gd, mv]
  by_cases c : (ms.take k).count q = lenOf js q
  · rw [if_pos c]
    have : (stepsOf js q)[(ms.take k).count q]? = none := by rw [c, lenOf_steps]; exact List.getElem?_eq_none (Nat.le_refl _)
    rw [this]
    exact ⟨rfl, fun r h => by cases h⟩
  · rw [if_neg c]
    have lt : (ms.take k).count q < (stepsOf js q).length := by
      have := beg_le b hq
      rw [← lenOf_steps]
      omega
    obtain ⟨⟨w, r0⟩, g⟩ : ∃ s, (stepsOf js q)[(ms.take k).count q]? = some s := ⟨_, List.getElem?_eq_getElem lt⟩
    cases w with
    | true => exact ⟨by simp [g], fun r h => by simp [g] at h⟩
    | false =>
      refine ⟨by simp [g], fun r h => ?_⟩
      simp only [g] at h
      obtain rfl := Option.some.inj h
      unfold vsAt
      rw [mv, if_neg c]
      show odI (vsM js (runM js ms) q ((ms.take k).count q) k) = _
      unfold vsM sinceM
      rw [g]
      show odI ((waM js (runM js ms) r0 _).getLast?) = _
      by_cases pl : (js[q]?.map JobM.lv).getD "" = ("plain" : Str)
      · rw [if_pos pl, if_pos pl, waM_eq b, lastD_map]
      · rw [if_neg pl, if_neg pl, (runE b).bg q hql hm]
        show odI ((waM js (runM js ms) r0 ((ms.idxOf q : Nat) : Int)).getLast?) = _
        rw [waM_eq b, lastD_map]
theorem seenP_no {k : Nat} (h : readStep js ms k = none) : seenP js ms k = [] := by unfold seenP; rw [h]; rfl
/-- what is heard at the second door, by the play -/
def seenR (l : List PyData) : PyData := match l with
  | x :: _ => x
  | [] => .list [.str "can not", .bool true]
theorem heard_seen (b : BegM js ms) {k : Nat} (hk : k < ms.length) (r : Str) : heardD js ms 1 r (k : Nat) = seenR (seenP js ms k) := by
  have hq : ms[k]? = some ms[k] := List.getElem?_eq_getElem hk
  obtain ⟨h1, h2⟩ := read_at b hq
  unfold heardD
  rw [if_neg (by omega)]
  show (if readAt js ms ((k : Nat) : Int).toNat = true then odI (vsAt js (runM js ms) ((k : Nat) : Int).toNat) else _) = _
  rw [Int.toNat_natCast, h1]
  unfold seenP
  cases e : readStep js ms k with
  | none => rfl
  | some x => exact h2 x e
end
end Kz

namespace Kz
open PySem PySem.Spec PyProof.Rows L2 RZ Kt Kx
/-! ### _law_moves_right -/
abbrev nMvs : List Str := ["_law_jobs_so", "_law_mix_so", "_law_rows", "_law_names_so", "_law_got", "_law_due", "_law_at_so", "_law_there_so", "_law_held_so", "_law_seen_so", "_law_own", "_law_door"]
abbrev pMvs : List Str := ["_law_jobs_so", "_law_mix_so", "_law_rows"]
theorem scMvs : FnScope nMvs pMvs (defScope sMovesR) := ⟨rfl, rfl, rfl, by decide +kernel, rfl, by decide +kernel, by decide +kernel⟩
def spMvs (K : PySem.W.Frag) : Sp := fun vs H Q _ => ∃ (v : V) (ma fa : Addr) (js : List JobM) (ms : List Nat) (rows : List V), vs = [v, .ref ma, .ref fa] ∧ Dp K H v (dJobs js) ∧ TupF H ma (vM ms) ∧ okJs js ∧ fewR js ∧ FullM js ms ∧ ms.length ≤ 1000 ∧ ms ≠ [] ∧ ("none" : Str) ∉ allRows js ∧
  H fa = some (.lst rows) ∧ rows.length = ms.length ∧ (∀ k v, rows[k]? = some v → RowOk K H js ms k v) ∧ ∀ H', Same H H' → Q (.bl true) H'
/-! ### what is told move by move, as data -/
def mvK (js : List JobM) (ms : List Nat) (k : Nat) : List PyData := [heldD js ms k, heardD js ms 1 "" (k : Nat), .list ((rowsM js).map fun r => versD js ms r (k : Nat))]
def mvD (js : List JobM) (ms : List Nat) (n : Nat) : List PyData := (List.range n).flatMap (mvK js ms)
theorem mvD_succ (js : List JobM) (ms : List Nat) (n : Nat) : mvD js ms (n + 1) = mvD js ms n ++ mvK js ms n := by
  unfold mvD
  rw [List.range_succ, List.flatMap_append, List.flatMap_singleton]
theorem mvD_len (js : List JobM) (ms : List Nat) (k : Nat) : (mvD js ms k).length ≤ 3 * k := by
  unfold mvD
  have := flat_le (c := 3) (L := (List.range k).map (mvK js ms)) (fun l hl => by obtain ⟨y, _, rfl⟩ := List.mem_map.mp hl; exact Nat.le_refl 3)
  rw [List.length_map, List.length_range] at this
  rw [List.flatMap_def]
  omega
theorem ok_held {js : List JobM} (ok : okJs js) (fw : fewR js) (ms : List Nat) (n : Nat) : (heldD js ms n).depth ≤ 2 ∧ small (heldD js ms n) := by
  rw [heldD, HL_kept]
  constructor
  · rw [PyData.depth]
    exact Nat.succ_le_succ (depth_all fun x hx => by
      obtain ⟨y, _, rfl⟩ := List.mem_map.mp hx
      simp [prD, pairD, PyData.depth, PyData.depthAll])
  · rw [small, List.length_map]
    refine ⟨?_, small_all fun x hx => by
      obtain ⟨y, _, rfl⟩ := List.mem_map.mp hx
      simp [prD, pairD, small, smallAll]⟩
    unfold HL
    have := flat_le (c := 1000) (L := (rowsM js).map fun r => ((List.range js.length).filter fun q => holdsM js (runM js (ms.take n)) q r).map fun q => (r, q)) (fun l hl => by
      obtain ⟨r, _, rfl⟩ := List.mem_map.mp hl
      rw [List.length_map]
      refine Nat.le_trans (List.length_filter_le ..) ?_
      rw [List.length_range]
      exact ok.1)
    rw [List.length_map] at this
    rw [List.flatMap_def]
    have := fw.2
    omega
theorem ok_vers {js : List JobM} (ok : okJs js) (ms : List Nat) (r : Str) (i : Int) : (versD js ms r i).depth ≤ 1 ∧ small (versD js ms r i) := by
  constructor
  · rw [versD, PyData.depth, PyData.depthAll]
    refine Nat.succ_le_succ (Nat.max_le.mpr ⟨by rw [PyData.depth]; exact Nat.le_refl _, depth_all fun x hx => ?_⟩)
    obtain ⟨y, _, rfl⟩ := List.mem_map.mp hx
    rw [PyData.depth]
    exact Nat.le_refl _
  · rw [versD, small, List.length_cons, List.length_map, smallAll]
    refine ⟨?_, trivial, small_all fun x hx => ?_⟩
    · have := waM_len js (runM js ms) r i
      have := ok.1
      omega
    · obtain ⟨y, _, rfl⟩ := List.mem_map.mp hx
      trivial
theorem ok_seenR {js : List JobM} (ms : List Nat) (k : Nat) : (seenR (seenP js ms k)).depth ≤ 2 ∧ small (seenR (seenP js ms k)) := by
  unfold seenP
  cases readStep js ms k with
  | none => exact ⟨by show PyData.depth (.list [.str "can not", .bool true]) ≤ 2; decide +kernel, by simp [seenR, small, smallAll]⟩
  | some r =>
    show (lastD _).depth ≤ 2 ∧ small (lastD _)
    unfold lastD
    cases (verL js ms (sinceP js ms k) r).getLast? with
    | none => exact ⟨by rw [PyData.depth]; decide, trivial⟩
    | some y => exact ⟨by rw [PyData.depth]; decide, trivial⟩
theorem ok_mvD {js : List JobM} {ms : List Nat} (ok : okJs js) (fw : fewR js) (beg : BegM js ms) : ∀ x ∈ mvD js ms ms.length, x.depth ≤ 3 ∧ small x := fun x hx => by
  unfold mvD at hx
  obtain ⟨k, hk, hx⟩ := List.mem_flatMap.mp hx
  have hk := List.mem_range.mp hk
  unfold mvK at hx
  rw [heard_seen beg hk ""] at hx
  rcases List.mem_cons.mp hx with rfl | hx
  · have := ok_held ok fw ms k
    exact ⟨by omega, this.2⟩
  rcases List.mem_cons.mp hx with rfl | hx
  · have := ok_seenR (js := js) ms k
    exact ⟨by omega, this.2⟩
  rw [List.mem_singleton.mp hx]
  constructor
  · rw [PyData.depth]
    refine Nat.succ_le_succ (depth_all fun y hy => ?_)
    obtain ⟨r, _, rfl⟩ := List.mem_map.mp hy
    have := (ok_vers ok ms r (k : Nat)).1
    omega
  · rw [small, List.length_map]
    refine ⟨by have := fw.2; omega, small_all fun y hy => ?_⟩
    obtain ⟨r, _, rfl⟩ := List.mem_map.mp hy
    exact (ok_vers ok ms r (k : Nat)).2
def noD (i : Int) : PyData := .list [.str "no number", .int i, .bool true]
def no3 (i : Int) : PyData := .list (List.replicate 3 (noD i))
def nrD : PyData := .list [.str "no row", .str "none", .bool true]
theorem get_ver {K : PySem.W.Frag} {B H : Hp} {kvs : List (Key × V)} {f : Str → List Nat} {tn : Addr} (dk : VerD K B kvs f) (sB : Same B H) (hn : H tn = some (.tup [.non])) (r : Str) : Dp K H ((valV kvs (encS r)).getD (.ref tn)) (verT (f r)) := by
  obtain ⟨tl, d, e⟩ := dk
  have er := e r
  cases hl : lkA tl r with
  | none =>
    rw [hl] at er
    rw [d.none inj_str r hl, ← er]
    exact .tup (SqT.of hn) (.cons .non .nil)
  | some l =>
    rw [hl] at er
    obtain ⟨v', hv', dv'⟩ := d.some inj_str r hl
    rw [hv', ← er]
    exact dp_same sB dv'
theorem oT_verT (l : List Nat) : onlyT (verT l) = true := by
  rw [verT, onlyT, onlyTs, Bool.and_eq_true]
  exact ⟨rfl, onlyTs_of fun x hx => by
    obtain ⟨y, _, rfl⟩ := List.mem_map.mp hx
    rw [onlyT]⟩
theorem dp_vM {K : PySem.W.Frag} {H : Hp} : ∀ ms : List Nat, DpAll K H (vM ms) (ms.map fun q => PyData.int (q : Nat))
  | [] => .nil
  | q :: t => .cons (.int _) (dp_vM t)
theorem if_seen {K : PySem.W.Frag} {σ : L2.St} {B H : Hp} {sl : Addr} {sv : List V} {js : List JobM} {ms : List Nat} {k : Nat} {Q : VK} (e9 : σ[9]? = some (some (.ref sl))) (hsl : H sl = some (.lst sv)) (dsv : DpAll K B sv (seenP js ms k)) (sB : Same B H)
    (q : ∀ H' u, Same H H' → FrD K H H' u (seenR (seenP js ms k)) → Q u H') :
    tIf (tTest (tOp (rNeD K) (tVar 9) (tLst tNil))) (tOp (rIxL K) (tVar 9) (tC (.int 0))) (tLst (tCons (tC (.str "can not")) (tCons (tC (.bl true)) tNil))) σ H Q := by
  refine ⟨_, e9, Nat.zero_le _, fun t2 ht2 => ?_⟩
  have s2 := new_same (o := .lst []) ht2
  have dl : DpAll K (upd H t2 (.lst [])) sv (seenP js ms k) := dpAll_same (sB.trans s2) dsv
  have la : ∀ l : List Nat, (lastD l).canLay0 = true ∧ (lastD l).depth = 0 ∧ onlyT (lastD l) = true := fun l => by
    unfold lastD
    cases l.getLast? with
    | none => exact ⟨by rw [PyData.canLay0], by rw [PyData.depth], by rw [onlyT]⟩
    | some y => exact ⟨by rw [PyData.canLay0], by rw [PyData.depth], by rw [onlyT]⟩
  cases hr : readStep js ms k with
  | none =>
    have es : seenP js ms k = [] := seenP_no hr
    rw [es] at dl q
    cases dl
    refine ⟨.list [], .list [], .lst (SqL.of (s2 _ _ hsl)) .nil, .lst (SqL.of upd_same) .nil, by decide +kernel, by decide +kernel, _, rfl, ?_⟩
    refine iteF ⟨by show 2 ≤ sizeLine; decide, fun t3 ht3 => ?_⟩
    refine q _ _ (s2.trans (new_same ht3)) (.inl (.lst (SqL.of (newH_at (fresh_back s2 ht3) upd_same)) (.cons (.str _) (.cons (.bl _) .nil))))
  | some r =>
    have es : seenP js ms k = [lastD (verL js ms (sinceP js ms k) r)] := by unfold seenP; rw [hr]; rfl
    obtain ⟨l1, l2, l3⟩ := la (verL js ms (sinceP js ms k) r)
    rw [es] at dl q
    generalize lastD (verL js ms (sinceP js ms k) r) = x at dl q l1 l2 l3
    cases dl with
    | cons dx nl =>
      cases nl
      refine ⟨.list [x], .list [], .lst (SqL.of (s2 _ _ hsl)) (.cons dx .nil), .lst (SqL.of upd_same) .nil, shaped_of (n := 1) (by rw [PyData.canLay0]; exact canLay_all fun y hy => by rw [List.mem_singleton.mp hy]; exact l1) (by rw [PyData.depth, PyData.depthAll, PyData.depthAll, l2]; exact Nat.le_refl _) (by decide), by decide +kernel, _, rfl, ?_⟩
      refine iteT ?_
      exact ⟨_, e9, sl, _, 0, _, rfl, rfl, SqL.of (s2 _ _ hsl), atI_nat (j := 0) rfl, q _ _ s2 (.inr ⟨l3, dx⟩)⟩
theorem heard_no {js : List JobM} {ms : List Nat} {door : Nat} {r : Str} {i : Int} (c : ¬ (0 ≤ i ∧ i < ms.length)) : heardD js ms door r i = noD i := by unfold heardD; rw [if_pos c]; rfl
theorem new_out {S : List Addr} {H : Hp} {a : Addr} (n : H a = none) (d : ∀ b ∈ S, H b ≠ none) : a ∉ S := fun m => d a m n
theorem GD.dne {K : PySem.W.Frag} {g e : Addr} {dg dd : List PyData} {H : Hp} (p : GD K g e dg dd H) : ∀ b ∈ [g, e], H b ≠ none := fun a m => by obtain ⟨xs, h⟩ := p.both a m; rw [h]; exact fun q => by cases q
/-- the state behind so many moves -/
def MvI (K : PySem.W.Frag) (Ho H0 : Hp) (js : List JobM) (ms : List Nat) (v : V) (ma fa nl : Addr) (n : Nat) (σ : L2.St) (H : Hp) : Prop := ∃ g e x6 x7 x8 x9 x10, σ = [some v, some (.ref ma), some (.ref fa), some (.ref nl), some (.ref g), some (.ref e), x6, x7, x8, x9, x10, none] ∧ Same H0 H ∧ GD K g e (mvD js ms n) (mvD js ms n) H ∧ Ho g = none ∧ Ho e = none
section
variable {P : Program} {w : World} {K : PySem.W.Frag} {mg : Str → Option Value} {base : Heap}
theorem ok_mvs {f fN fH fS fV fE fQ : Addr} {fd fdN fdH fdV fdE fdQ : FuncData} {CN CR : Addr} (F : Fun K "_law_moves_right" "_law_moves_right" sMovesR f fd) (T : Nat0 mg)
    (GN : FnOk P w K mg base CX0 1 fN fdN ["_law_jobs_so", "_law_words_so"] (spNames K)) (kN : PySem.W.keepIn K (.ref fN) = true) (bN : Binds K fdN ["_law_jobs_so", "_law_words_so"] []) (gN : mg "_law_names" = some (.ref fN))
    (GH : FnOk P w K mg base (L2.CX P w) 7 fH fdH ["jobs", "mix", "move"] (spHeldAt K CN)) (kH : PySem.W.keepIn K (.ref fH) = true) (bH : Binds K fdH ["jobs", "mix", "move"] []) (gH : mg "held_at" = some (.ref fH))
    (GV : FnOk P w K mg base (L2.CX P w) 6 fV fdV ["jobs", "mix", "row", "move"] (spVersAt K CN CR)) (kV : PySem.W.keepIn K (.ref fV) = true) (bV : Binds K fdV ["jobs", "mix", "row", "move"] []) (gV : mg "versions_at" = some (.ref fV))
    (GE : FnOk P w K mg base CX0 8 fE fdE pHeard (spHeard K)) (kE : PySem.W.keepIn K (.ref fE) = true) (bE : Binds K fdE pHeard []) (gE : mg "_law_heard" = some (.ref fE))
    (GQ : FnOk P w K mg base CX0 7 fQ fdQ ["_law_got", "_law_due"] (spSame K 6)) (kQ : PySem.W.keepIn K (.ref fQ) = true) (bQ : Binds K fdQ ["_law_got", "_law_due"] []) (gQ : mg "_law_same" = some (.ref fQ)) :
    FnOk P w K mg base CX0 9 f fd pMvs (spMvs K) := by
  refine F.ok scMvs (fun vs H Q E h => ?_) (fun cdv A outer s H vs Q E hr h => ?_)
  · obtain ⟨v, ma, fa, js, ms, rows, rfl, _⟩ := h
    rfl
  · have hu := hu_of hr
    have hu65 := room65 hr
    have r8 : Room 8 _ := hr
    have r7 : Room 7 _ := hr.mono (by decide)
    have r6 : Room 6 _ := hr.mono (by decide)
    have r1 : Room 1 _ := hr.mono (by decide)
    refine ⟨_, pss_cons (ps_par3 (i := 3) (j := 4) (l := 5) (by rfl) scMvs.nd rfl rfl rfl (by decide) (by decide) (by decide) rfl rfl rfl (pa_cons (pe_call GN r1 (by rfl) gN kN bN .nil pass0 (pa_cons (pv 0) (pa_cons (pe_tup (pa_cons pe_str (pa_cons pe_str (pa_nil)))) (pa_nil)))) (pa_cons (pe_lst pa_nil) (pa_cons (pe_lst pa_nil) (pa_nil)))) (by rfl))
      (pss_cons (ps_for PassesOwn.never rfl (pi_enum (by rfl) T.enumerate (pa_cons (pv 2) (pa_nil))) (pg_tup rfl (pgs_cons (pg_name (i := 6) scMvs.nd rfl (Or.inr rfl)) (pgs_cons (pg_tup rfl (pgs_cons (pg_name (i := 7) scMvs.nd rfl (Or.inr rfl)) (pgs_cons (pg_name (i := 8) scMvs.nd rfl (Or.inl rfl)) (pgs_cons (pg_name (i := 9) scMvs.nd rfl (Or.inl rfl)) (pgs_nil))))) (pgs_nil))))
        (pss_cons (ps_set (i := 4) scMvs.nd rfl (Or.inl rfl) (pe_op op_cat (pv 4) (pe_lst (pa_cons (pe_callS (E := WE (fun _ _ _ _ => False)) GH r7 (by rfl) gH kH bH (fun σ => passAt takes0 σ) (by exact (pa_cons (pv 0) (pa_cons (pv 1) (pa_cons (pv 6) (pa_nil)))))) (pa_cons (pe_call GE r8 (by rfl) gE kE bE .nil pass0 (pa_cons pe_int (pa_cons (pv 0) (pa_cons (pv 1) (pa_cons pe_str (pa_cons (pv 6) (pa_nil))))))) (pa_nil))))))
      (pss_cons (ps_set (i := 5) scMvs.nd rfl (Or.inl rfl) (pe_op op_cat (pv 5) (pe_lst (pa_cons (pv 8) (pa_cons (pe_ifExp (pt_cmpR (op_neD hr.units) (pv 9) (pe_lst pa_nil) (nomark _)) (pe_ix ix_list (pv 9) pe_int (fun _ _ => rfl)) (pe_lst (pa_cons pe_str (pa_cons pe_bl (pa_nil))))) (pa_nil))))))
      (pss_cons (ps_expr (pe_bm PySem.F.plainAttrs_list PySem.F.slot_list_append PySem.F.type_list_append mt_append (pv 4) (pa_cons (pe_lc (own := [("_law_own", 10)]) (g := gName 10) (tt := tYes) rfl scMvs.nd (pi_list (pv 3)) (blkOk_by (own := [("_law_own", 10)]) (N := nMvs) (sc := defScope sMovesR) (by decide +kernel)) (fun _ _ _ _ _ => pg_name (i := 10) scMvs.nd rfl (Or.inl rfl)) (fun _ _ _ _ _ => pts_nil) (fun _ _ _ _ _ => pe_callS (E := WE (fun _ _ _ _ => False)) GV r6 (by rfl) gV kV bV (fun σ => passAt takes0 σ) (by exact (pa_cons (pv 0) (pa_cons (pv 1) (pa_cons (pv 10) (pa_cons (pv 6) (pa_nil)))))))) (pa_nil))))
      (pss_one (ps_expr (pe_bm PySem.F.plainAttrs_list PySem.F.slot_list_append PySem.F.type_list_append mt_append (pv 5) (pa_cons (pe_lc (own := [("_law_own", 10)]) (g := gName 10) (tt := tYes) rfl scMvs.nd (pi_list (pv 3)) (blkOk_by (own := [("_law_own", 10)]) (N := nMvs) (sc := defScope sMovesR) (by decide +kernel)) (fun _ _ _ _ _ => pg_name (i := 10) scMvs.nd rfl (Or.inl rfl)) (fun _ _ _ _ _ => pts_nil) (fun _ _ _ _ _ => pe_dget2 hu (pv 7) (pv 10) (pe_tup (pa_cons pe_non pa_nil)) ⟨rfl, rfl, rfl, rfl⟩)) (pa_nil)))))))))
      (pss_cons (ps_for PassesOwn.never rfl (pi_tup (pe_tup (pa_cons (pe_un un_neg pe_int) (pa_cons (pe_callB call_len_seq (by rfl) T.len PySem.boot_len (pa_cons (pv 1) (pa_nil))) (pa_nil))))) (pg_name (i := 10) scMvs.nd rfl (Or.inr rfl))
        (pss_cons (ps_expr (pe_bm PySem.F.plainAttrs_list PySem.F.slot_list_append PySem.F.type_list_append mt_append (pv 4) (pa_cons (pe_lc (own := [("_law_door", 11)]) (g := gName 11) (tt := tYes) rfl scMvs.nd (pi_range1 (by rfl) T.range (pa_cons pe_int (pa_nil))) (blkOk_by (own := [("_law_door", 11)]) (N := nMvs) (sc := defScope sMovesR) (by decide +kernel)) (fun _ _ _ _ _ => pg_name (i := 11) scMvs.nd rfl (Or.inl rfl)) (fun _ _ _ _ _ => pts_nil) (fun _ _ _ _ _ => pe_call GE r8 (by rfl) gE kE bE .nil pass0 (pa_cons (pv 11) (pa_cons (pv 0) (pa_cons (pv 1) (pa_cons pe_str (pa_cons (pv 10) (pa_nil)))))))) (pa_nil))))
      (pss_one (ps_expr (pe_bm PySem.F.plainAttrs_list PySem.F.slot_list_append PySem.F.type_list_append mt_append (pv 5) (pa_cons (pe_op op_rep (pe_lst (pa_cons (pe_lst (pa_cons pe_str (pa_cons (pv 10) (pa_cons pe_bl (pa_nil))))) (pa_nil))) pe_int) (pa_nil)))))))
      (pss_cons (ps_expr (pe_bm PySem.F.plainAttrs_list PySem.F.slot_list_append PySem.F.type_list_append mt_append (pv 4) (pa_cons (pe_call GE r8 (by rfl) gE kE bE .nil pass0 (pa_cons pe_int (pa_cons (pv 0) (pa_cons (pv 1) (pa_cons pe_str (pa_cons pe_int (pa_nil))))))) (pa_nil))))
      (pss_one (ps_ret (pe_call GQ r7 (by rfl) gQ kQ bQ .nil pass0 (pa_cons (pv 4) (pa_cons (pe_op op_cat (pv 5) (pe_lst (pa_cons (pe_lst (pa_cons pe_str (pa_cons pe_str (pa_cons pe_bl (pa_nil))))) (pa_nil)))) (pa_nil))))))))), ?_⟩
    obtain ⟨v, ma, fa, js, ms, rows, rfl, dv, tm, ok, fw, full, few, nn, nr, hfa, lr, hrow, z⟩ := h
    have beg := full_beg full
    have big : ∀ {n : Nat}, n ≤ 100000 → n ≤ sizeLine := fun h => by rw [sizeLine_eq]; omega
    have hJ : ∀ {H'}, Same H H' → IsJ K H' v js := fun s => isJ_same s (isJ_of dv ok)
    have dM : Dp K H (.ref ma) (dMix ms) := .tup tm.sq (dp_vM ms)
    have hM : ∀ {H'}, Same H H' → IsM K H' (.ref ma) ms := fun s => isM_same s (isM_of dM (by omega))
    refine ⟨_, rfl, (by show 2 ≤ sizeLine; decide), fun tw htw => ?_⟩
    have sw := new_same (o := .tup [V.str "read", V.str "write"]) htw
    refine ⟨v, tw, js, true, rfl, dp_same sw dv, SqT.of upd_same, ok, fw, fun H1 nl s1 n1 hnl => ?_⟩
    refine ⟨Nat.zero_le _, fun g hg => ⟨Nat.zero_le _, fun e he => ⟨_, _, _, rfl, ?_⟩⟩⟩
    have sg := new_same (o := .lst []) hg
    have se := new_same (o := .lst []) he
    have H02 := ((sw.trans s1).trans sg).trans se
    have hnl2 := se _ _ (sg _ _ hnl)
    rw [namesM_all] at hnl2
    have neG : g ≠ e := ne_of_none upd_same he
    have gd0 : GD K g e [] [] (upd (upd H1 g (.lst [])) e (.lst [])) := ⟨neG, ⟨[], se _ _ upd_same, .nil⟩, ⟨[], upd_same, .nil⟩⟩
    generalize hH2 : upd (upd H1 g (.lst [])) e (.lst []) = H2 at gd0 H02 hnl2
    have hfa2 := H02 _ _ hfa
    have og : H g = none := fresh_back (sw.trans s1) hg
    have oe : H e = none := fresh_back ((sw.trans s1).trans sg) he
    have hrow2 : ∀ k v, rows[k]? = some v → RowOk K H2 js ms k v := fun k v h => rowOk_up H02 (hrow k v h)
    clear hrow hfa hnl hg he
    dsimp only [L2.start, nMvs]
    refine seq_then (fun σ' H' => ∃ g e x6 x7 x8 x9 x10, σ' = [some v, some (.ref ma), some (.ref fa), some (.ref nl), some (.ref g), some (.ref e), x6, x7, x8, x9, x10, none] ∧ Same H2 H' ∧ GD K g e (mvD js ms ms.length) (mvD js ms ms.length) H' ∧ H g = none ∧ H e = none) (fun N hN => ?_) (fun σ' H' hp => ?_)
    · refine ⟨_, rfl, fa, rows, rfl, SqL.of hfa2, for_wk (wk_enum (K := K) (SqL.of hfa2)) (MvI K H H2 js ms v ma fa nl) ⟨g, e, _, _, _, _, _, rfl, fun _ _ z => z, gd0, og, oe⟩ (fun i σ H' p => p.choose_spec.choose_spec.choose_spec.choose_spec.choose_spec.choose_spec.choose_spec.2.1) (fun k x σ Ha Hb hk p sab hx => ?_) (fun σ' H' p => hN _ _ (by rw [lr] at p; exact p))⟩
      obtain ⟨g, e, x6, x7, x8, x9, x10, rfl, sA, gd, og, oe⟩ := p
      obtain ⟨T, y, rfl, hT, hy⟩ := hx
      rw [lr] at hk
      obtain ⟨a, d, hv, sl, kvs, sv, rfl, hra, hd, vd, dh, hsl, dsv⟩ := hrow2 k y hy
      have sB := sA.trans sab
      refine ⟨T, _, rfl, SqT.of hT, rfl, _, _, rfl, ?_⟩
      refine ⟨_, _, rfl, a, _, rfl, seqT_same sB hra, rfl, _, _, rfl, ?_⟩
      refine ⟨_, _, rfl, _, _, rfl, rfl, rfl, ?_⟩
      have sb := H02.trans sB
      have gdB := gd.up sab
      have lmv := mvD_len js ms k
      refine ⟨_, rfl, _, rfl, _, rfl, _, rfl, v, .ref ma, js, ms, (k : Nat), rfl, hJ sb, hM sb, ok, beg.1, by omega, fw, fun c => absurd ⟨by omega, by omega⟩ c, fun n en ln H3 u1 s3 d1 => ?_⟩
      obtain rfl : k = n := by omega
      refine ⟨_, rfl, _, rfl, _, rfl, 1, v, .ref ma, js, ms, "", (k : Nat), rfl, by decide, hJ (sb.trans s3), hM (sb.trans s3), ok, beg, by omega, fw, by decide +kernel, fun H4 u2 s4 d2 => ⟨big (by show 2 ≤ _; decide), fun t1 ht1 => ?_⟩⟩
      have st1 := new_same (o := .lst [u1, u2]) ht1
      obtain ⟨xg, hxg, dxg⟩ := gdB.lg
      have gd4 := ((gdB.up s3).up s4).up st1
      have bothB := gdB.both
      have both3 := (gdB.up s3).both
      have hg5 := st1 _ _ (s4 _ _ (s3 _ _ hxg))
      have a1 : Dp K (delS [g, e] (upd H4 t1 (.lst [u1, u2]))) u1 (heldD js ms k) := dp_same (delS_mono (s4.trans st1)) (FrD.away (H := Hb) (.inr ⟨oT_heldD js ms k, d1⟩) s3 bothB)
      have a2 : Dp K (delS [g, e] (upd H4 t1 (.lst [u1, u2]))) u2 (heardD js ms 1 "" (k : Nat)) := dp_same (delS_mono st1) (d2.away s4 both3)
      refine ⟨g, t1, xg, _, rfl, rfl, hg5, upd_same, big (by rw [dpAll_len dxg]; show _ + 2 ≤ _; omega), fun g' hg' => ?_⟩
      have gd5 := gd4.cat hg5 (.cons a1 (.cons a2 .nil)) hg'
      have sg' := new_same (o := .lst (xg ++ [u1, u2])) hg'
      have s5 := ((s3.trans s4).trans st1).trans sg'
      generalize upd (upd H4 t1 (.lst [u1, u2])) g' (.lst (xg ++ [u1, u2])) = H5 at gd5 s5
      have ng : Hb g' = none := fresh_back ((s3.trans s4).trans st1) hg'
      clear gd4 a1 a2 hg5 st1 sg' hg' ht1 both3 bothB
      have bothE := gd5.both
      have hsl5 := s5 _ _ (sB _ _ hsl)
      refine ⟨_, rfl, _, rfl, if_seen (js := js) (ms := ms) (k := k) rfl hsl5 dsv (sB.trans s5) fun H6 u6 s6 d6 => ⟨big (by show 2 ≤ _; decide), fun t6 ht6 => ?_⟩⟩
      rw [← heard_seen beg hk ""] at d6
      have st6 := new_same (o := .lst [hv, u6]) ht6
      obtain ⟨xe, hxe, dxe⟩ := gd5.swap.lg
      have gd6 := ((gd5.up s6).up st6).swap
      have hx6 := st6 _ _ (s6 _ _ hxe)
      have b1 : Dp K (delS [e, g'] (upd H6 t6 (.lst [hv, u6]))) hv (heldD js ms k) := by
        rw [← delS_swap]
        exact dp_same (delS_mono st6) (FrD.away (H := H5) (.inr ⟨oT_heldD js ms k, dp_same ((sB.trans s5).trans s6) dh⟩) s6 bothE)
      have b2 : Dp K (delS [e, g'] (upd H6 t6 (.lst [hv, u6]))) u6 (heardD js ms 1 "" (k : Nat)) := by
        rw [← delS_swap]
        exact dp_same (delS_mono st6) (d6.away s6 bothE)
      refine ⟨e, t6, xe, _, rfl, rfl, hx6, upd_same, big (by rw [dpAll_len dxe]; show _ + 2 ≤ _; omega), fun e' he' => ?_⟩
      have gd7 := (gd6.cat hx6 (.cons b1 (.cons b2 .nil)) he').swap
      have se' := new_same (o := .lst (xe ++ [hv, u6])) he'
      have s7 := ((s5.trans s6).trans st6).trans se'
      generalize upd (upd H6 t6 (.lst [hv, u6])) e' (.lst (xe ++ [hv, u6])) = H7 at gd7 s7
      have nee : Hb e' = none := fresh_back ((s5.trans s6).trans st6) he'
      clear gd5 gd6 b1 b2 hx6 st6 se' he' ht6 bothE
      have bothF := gd7.both
      have snl := sB.trans s7
      have hn7 := snl _ _ hnl2
      have hd7 := snl _ _ hd
      have sb7 := sb.trans s7
      clear gdB hxg dxg hxe dxe
      obtain ⟨xg, hxg, dxg⟩ := gd7.lg
      have dne : ∀ a ∈ [g', e'], H7 a ≠ none := fun a m => by obtain ⟨xs, h⟩ := bothF a m; rw [h]; exact fun q => by cases q
      refine ⟨_, rfl, .inl ⟨rfl, _, SqL.of hxg⟩, _, rfl, nl, rfl, ⟨_, SqL.of hn7⟩, fun D hD => lc_gotS (K := K) (S := [g', e']) (os := (rowsM js).map fun r => versD js ms r (k : Nat)) (wk_list (SqL.of hn7)) (by rw [List.length_map, List.length_map]) hD (by rw [List.length_map, sizeLine_eq]; have := fw.2; omega) (fun ix dx hdx x Hx N Z hx sx hDl n1 => ?_) (fun Hf pf => ?_)⟩
      · rw [List.getElem?_map] at hx hdx
        cases hrx : (rowsM js)[ix]? with
        | none => rw [hrx] at hx; cases hx
        | some r =>
          rw [hrx] at hx hdx
          obtain rfl := Option.some.inj hx
          obtain rfl := Option.some.inj hdx
          have rm := List.mem_of_getElem? hrx
          have ra : r ∈ allRows js := mem_ascS.mp rm
          refine ⟨rfl, ?_⟩
          unfold tYes
          dsimp only
          rw [if_pos rfl]
          refine ⟨_, rfl, _, rfl, _, rfl, _, rfl, v, .ref ma, js, ms, r, (k : Nat), rfl, hJ (sb7.trans sx), hM (sb7.trans sx), ok, beg.1, by omega, strOk_row ok rm, fun c => absurd ⟨by omega, by omega⟩ c, fun _ c => absurd ra c, fun _ _ H8 u8 s8 d8 => ?_⟩
          obtain ⟨ld, hld⟩ := hDl
          refine n1 _ _ s8 (FrD.away (H := Hx) (.inr ⟨oT_versD js ms r _, d8⟩) s8 fun a m => ?_)
          rcases List.mem_cons.mp m with rfl | m
          · exact ⟨ld, hld⟩
          · obtain ⟨xs, h⟩ := bothF a m
            exact ⟨xs, sx _ _ h⟩
      have hgf := pf.1 _ _ hxg
      have gdf := (gd7.up pf.1).app hgf (pf.item hD dne)
      refine ⟨g', xg, _, rfl, rfl, hgf, by rw [dpAll_len dxg, sizeLine_eq, List.length_append]; show _ + 2 < _; omega, ?_⟩
      have s8 := same_upd (o := .lst (xg ++ [V.ref D])) ng (s7.trans pf.1)
      generalize upd Hf g' (.lst (xg ++ [V.ref D])) = H8 at gdf s8
      clear pf hgf hD
      have bothG := gdf.both
      have dne8 : ∀ a ∈ [g', e'], H8 a ≠ none := fun a m => by obtain ⟨xs, h⟩ := bothG a m; rw [h]; exact fun q => by cases q
      obtain ⟨xe, hxe, dxe⟩ := gdf.swap.lg
      have hn8 := s8 _ _ (sB _ _ hnl2)
      have hd8 := s8 _ _ (sB _ _ hd)
      have sB8 := sB.trans s8
      refine ⟨_, rfl, .inl ⟨rfl, _, SqL.of hxe⟩, _, rfl, nl, rfl, ⟨_, SqL.of hn8⟩, fun D2 hD2 => lc_gotS (K := K) (S := [g', e']) (os := (rowsM js).map fun r => versD js ms r (k : Nat)) (wk_list (SqL.of hn8)) (by rw [List.length_map, List.length_map]) hD2 (by rw [List.length_map, sizeLine_eq]; have := fw.2; omega) (fun ix dx hdx x Hx N Z hx sx hDl n1 => ?_) (fun Hf pf => ?_)⟩
      · rw [List.getElem?_map] at hx hdx
        cases hrx : (rowsM js)[ix]? with
        | none => rw [hrx] at hx; cases hx
        | some r =>
          rw [hrx] at hx hdx
          obtain rfl := Option.some.inj hx
          obtain rfl := Option.some.inj hdx
          refine ⟨rfl, ?_⟩
          unfold tYes
          dsimp only
          rw [if_pos rfl]
          refine ⟨_, rfl, d, rfl, .inl ⟨kvs, .inl (sx _ _ hd8)⟩, _, rfl, (by show 1 ≤ sizeLine; decide), fun tn htn => ⟨_, DGet.k (k := encS r) ((new_same htn) _ _ (sx _ _ hd8)), ?_⟩⟩
          have stn := new_same (o := .tup [V.non]) htn
          obtain ⟨ld, hld⟩ := hDl
          have gv := get_ver vd ((sB8.trans sx).trans stn) upd_same r
          refine n1 _ _ stn (FrD.away (H := Hx) (.inr ⟨oT_versD js ms r _, ?_⟩) stn fun a m => ?_)
          · show Dp K _ _ (versD js ms r (k : Nat))
            rw [versD_eq beg]
            exact gv
          · rcases List.mem_cons.mp m with rfl | m
            · exact ⟨ld, hld⟩
            · obtain ⟨xs, h⟩ := bothG a m
              exact ⟨xs, sx _ _ h⟩
      have hef := pf.1 _ _ hxe
      have gde := ((gdf.up pf.1).swap.app hef (by rw [delS_swap]; exact pf.item hD2 dne8)).swap
      refine ⟨e', xe, _, rfl, rfl, hef, by rw [dpAll_len dxe, sizeLine_eq, List.length_append]; show _ + 2 < _; omega, ?_⟩
      have s9 := same_upd (o := .lst (xe ++ [V.ref D2])) nee (s8.trans pf.1)
      refine ⟨g', e', _, _, _, _, _, rfl, sA.trans (sab.trans s9), ?_, fresh_back sb ng, fresh_back sb nee⟩
      rw [mvD_succ]
      have ea : mvD js ms k ++ mvK js ms k = mvD js ms k ++ [heldD js ms k, heardD js ms 1 "" (k : Nat)] ++ [.list ((rowsM js).map fun r => versD js ms r (k : Nat))] := by rw [List.append_assoc]; rfl
      rw [ea]
      exact gde
    · obtain ⟨g, e, x6, x7, x8, x9, x10, rfl, sA, gd, og, oe⟩ := hp
      have sO := H02.trans sA
      have ldg := mvD_len js ms ms.length
      have okdg := ok_mvD ok fw beg
      generalize mvD js ms ms.length = dg at gd ldg okdg
      refine ⟨1, rfl, _, rfl, ma, vM ms, rfl, .inr (seqT_same sO tm.sq), ?_⟩
      refine ⟨by show 2 ≤ sizeLine; decide, fun tt htt => ⟨tt, rfl, ⟨_, SqT.of upd_same⟩, ?_⟩⟩
      have stt := new_same (o := .tup [V.int (-1), V.int ((vM ms).length : Nat)]) htt
      have gd1 := gd.up stt
      have ntt := new_out htt gd.dne
      have sO1 := sO.trans stt
      have lvm : (vM ms).length = ms.length := by unfold vM; rw [List.length_map]
      rw [lvm] at stt gd1 sO1 ⊢
      have htt1 : delS [g, e] (upd H' tt (.tup [V.int (-1), V.int (ms.length : Nat)])) tt = some (.tup ([-1, (ms.length : Int)].map V.int)) := delS_out ntt upd_same
      have sB1 : Same H (delS [g, e] (upd H' tt (.tup [V.int (-1), V.int (ms.length : Nat)]))) := delS_of (fun a m => by
        rcases List.mem_cons.mp m with rfl | m
        · exact og
        · rw [List.mem_singleton.mp m]; exact oe) sO1
      have sB2 : Same (delS [g, e] (upd H' tt (.tup [V.int (-1), V.int (ms.length : Nat)]))) (upd H' tt (.tup [V.int (-1), V.int (ms.length : Nat)])) := delS_same
      have ng0 : delS [g, e] (upd H' tt (.tup [V.int (-1), V.int (ms.length : Nat)])) g = none := by unfold delS; rw [if_pos (by simp)]
      have ne0 : delS [g, e] (upd H' tt (.tup [V.int (-1), V.int (ms.length : Nat)])) e = none := by unfold delS; rw [if_pos (by simp)]
      generalize delS [g, e] (upd H' tt (.tup [V.int (-1), V.int (ms.length : Nat)])) = B0 at htt1 sB1 sB2 ng0 ne0
      refine for_wk (wk_tup (K := K) (SqT.of htt1)) (fun n σ' H' => ∃ x10, σ' = [some v, some (.ref ma), some (.ref fa), some (.ref nl), some (.ref g), some (.ref e), x6, x7, x8, x9, x10, none] ∧ Same B0 H' ∧ GD K g e (dg ++ ([-1, (ms.length : Int)].take n).map no3) (dg ++ ([-1, (ms.length : Int)].take n).map no3) H') ⟨x10, rfl, sB2, by simpa using gd1⟩ (fun i σ H' p => p.choose_spec.2.1) (fun i x σ Ha Hb hi p sab hx => ?_) (fun σ' H' p => ?_)
      · obtain ⟨x10, rfl, sA, gd⟩ := p
        rw [List.getElem?_map] at hx
        cases how : ([-1, (ms.length : Int)])[i]? with
        | none => rw [how] at hx; cases hx
        | some own =>
          rw [how] at hx
          obtain rfl := Option.some.inj hx
          have tk : ([-1, (ms.length : Int)]).take (i + 1) = ([-1, (ms.length : Int)]).take i ++ [own] := by rw [List.take_add_one, how]; rfl
          have cown : ¬ (0 ≤ own ∧ own < ms.length) := by
            have := List.mem_of_getElem? how
            simp at this
            omega
          rw [tk, List.map_append, ← List.append_assoc]
          have ldq : (dg ++ (([-1, (ms.length : Int)]).take i).map no3).length ≤ 3002 := by
            rw [List.length_append, List.length_map, List.length_take]
            show _ + min i 2 ≤ _
            omega
          generalize dg ++ (([-1, (ms.length : Int)]).take i).map no3 = dq at gd ldq ⊢
          have sBb := sA.trans sab
          have gb := gd.up sab
          obtain ⟨xg, hxg, dxg⟩ := gb.lg
          have bothB := gb.both
          have sJ := sB1.trans sBb
          have dneB := gb.dne
          refine ⟨_, rfl, .inl ⟨rfl, _, SqL.of hxg⟩, 3, rfl, by decide, by decide, fun D hD => lc_gotS (K := K) (S := [g, e]) (os := List.replicate 3 (noD own)) (wk_rng 0 3) rfl hD (by rw [sizeLine_eq]; show 3 < _; decide) (fun ix dx hdx x Hx N Z hx sx hDl n1 => ?_) (fun Hf pf => ?_)⟩
          · have ix3 : ix < 3 := (List.getElem?_eq_some_iff.mp hdx).1
            rw [List.getElem?_replicate, if_pos ix3] at hdx
            obtain rfl := Option.some.inj hdx
            rw [Int.zero_add] at hx
            subst hx
            refine ⟨rfl, ?_⟩
            unfold tYes
            dsimp only
            rw [if_pos rfl]
            refine ⟨_, rfl, _, rfl, _, rfl, _, rfl, ix, v, .ref ma, js, ms, "none", own, rfl, by omega, hJ (sJ.trans sx), hM (sJ.trans sx), ok, beg, by omega, fw, by decide +kernel, fun H8 u8 s8 d8 => ?_⟩
            rw [heard_no cown] at d8
            obtain ⟨ld, hld⟩ := hDl
            refine n1 _ _ s8 (d8.away s8 fun a m => ?_)
            rcases List.mem_cons.mp m with rfl | m
            · exact ⟨ld, hld⟩
            · obtain ⟨xs, h⟩ := bothB a m
              exact ⟨xs, sx _ _ h⟩
          have hgf := pf.1 _ _ hxg
          have gdf := (gb.up pf.1).app hgf (pf.item hD dneB)
          refine ⟨g, xg, _, rfl, rfl, hgf, by rw [dpAll_len dxg, sizeLine_eq]; omega, ?_⟩
          have s8 := same_upd (o := .lst (xg ++ [V.ref D])) ng0 (sBb.trans pf.1)
          generalize upd Hf g (.lst (xg ++ [V.ref D])) = H8 at gdf s8
          obtain ⟨xe, hxe, dxe⟩ := gdf.swap.lg
          refine ⟨_, rfl, .inl ⟨rfl, _, SqL.of hxe⟩, _, rfl, by show 3 ≤ sizeLine; decide, fun t1 ht1 => ⟨by show 1 ≤ sizeLine; decide, fun t2 ht2 => ⟨t2, 3, _, rfl, rfl, upd_same, by decide, by decide, by show 1 * 3 ≤ sizeLine; decide, fun p hp => ?_⟩⟩⟩
          have st1 := new_same (o := .lst [V.str "no number", V.int own, V.bl true]) ht1
          have st2 := new_same (o := .lst [V.ref t1]) ht2
          have sp := new_same (o := .lst [V.ref t1, V.ref t1, V.ref t1]) hp
          have sall := (st1.trans st2).trans sp
          have n1 := new_out ht1 gdf.dne
          have np := new_out (fresh_back (st1.trans st2) hp) gdf.dne
          have a1 : Dp K (delS [g, e] (upd (upd (upd H8 t1 (.lst [V.str "no number", V.int own, V.bl true])) t2 (.lst [V.ref t1])) p (.lst [V.ref t1, V.ref t1, V.ref t1]))) (.ref t1) (noD own) := .lst (SqL.of (delS_out n1 (sp _ _ (st2 _ _ upd_same)))) (.cons (.str _) (.cons (.int _) (.cons (.bl _) .nil)))
          have ap : Dp K (delS [g, e] (upd (upd (upd H8 t1 (.lst [V.str "no number", V.int own, V.bl true])) t2 (.lst [V.ref t1])) p (.lst [V.ref t1, V.ref t1, V.ref t1]))) (.ref p) (no3 own) := .lst (SqL.of (delS_out np upd_same)) (.cons a1 (.cons a1 (.cons a1 .nil)))
          have hep := sall _ _ hxe
          refine ⟨e, xe, _, rfl, rfl, hep, by rw [dpAll_len dxe, sizeLine_eq]; omega, ?_⟩
          refine ⟨_, rfl, same_upd ne0 (s8.trans sall), ?_⟩
          exact ((gdf.up sall).swap.app hep (by rw [delS_swap]; exact ap)).swap
      · obtain ⟨x10, rfl, sA, gd⟩ := p
        have sJ := sB1.trans sA
        have lp : 0 < ms.length := List.length_pos_iff.mpr nn
        have etk : ([-1, (ms.length : Int)]).take ([-1, (ms.length : Int)].map V.int).length = [-1, (ms.length : Int)] := rfl
        rw [etk] at gd
        have hno : heardD js ms 2 "none" 0 = nrD := by
          unfold heardD
          rw [if_neg (by omega)]
          show (if ("none" : Str) ∈ allRows js then _ else _) = _
          rw [if_neg nr]
          rfl
        have okd : ∀ x ∈ dg ++ ([-1, (ms.length : Int)]).map no3, x.depth ≤ 3 ∧ small x := fun x hx => by
          rcases List.mem_append.mp hx with hx | hx
          · exact okdg x hx
          · obtain ⟨i, _, rfl⟩ := List.mem_map.mp hx
            exact ⟨by simp [no3, noD, PyData.depth, PyData.depthAll, List.replicate], by simp [no3, noD, small, smallAll, List.replicate]⟩
        have ldq : (dg ++ ([-1, (ms.length : Int)]).map no3).length ≤ 3002 := by
          rw [List.length_append, List.length_map]
          show _ + 2 ≤ _
          omega
        generalize dg ++ ([-1, (ms.length : Int)]).map no3 = dq at gd okd ldq
        obtain ⟨xg, hxg, dxg⟩ := gd.lg
        refine ⟨_, rfl, .inl ⟨rfl, _, SqL.of hxg⟩, _, rfl, _, rfl, 2, v, .ref ma, js, ms, "none", 0, rfl, by decide, hJ sJ, hM sJ, ok, beg, by omega, fw, by decide +kernel, fun H8 u8 s8 d8 => ?_⟩
        rw [hno] at d8
        have hg8 := s8 _ _ hxg
        have gd8 := (gd.up s8).app hg8 (d8.away s8 gd.both)
        refine ⟨g, xg, _, rfl, rfl, hg8, by rw [dpAll_len dxg, sizeLine_eq]; omega, ?_⟩
        have sg8 := same_upd (o := .lst (xg ++ [u8])) ng0 (sA.trans s8)
        generalize upd H8 g (.lst (xg ++ [u8])) = H9 at gd8 sg8
        obtain ⟨xe, hxe, dxe⟩ := gd8.swap.lg
        refine ⟨_, rfl, _, rfl, by show 3 ≤ sizeLine; decide, fun t1 ht1 => ⟨by show 1 ≤ sizeLine; decide, fun t2 ht2 => ?_⟩⟩
        have st1 := new_same (o := .lst [V.str "no row", V.str "none", V.bl true]) ht1
        have st2 := new_same (o := .lst [V.ref t1]) ht2
        have sall := st1.trans st2
        have hep := sall _ _ hxe
        refine ⟨e, t2, xe, _, rfl, rfl, hep, upd_same, by rw [dpAll_len dxe, sizeLine_eq]; show _ + 1 ≤ _; omega, fun e' he' => ?_⟩
        have n1 := new_out ht1 gd8.swap.dne
        have a1 := (.lst (SqL.of (delS_out n1 (st2 _ _ upd_same))) (.cons (.str _) (.cons (.str _) (.cons (.bl _) .nil))) : Dp K (delS [e, g] (upd (upd H9 t1 (.lst [V.str "no row", V.str "none", V.bl true])) t2 (.lst [V.ref t1]))) (.ref t1) nrD)
        have gdl := (gd8.up sall).swap.cat hep (.cons a1 .nil) he'
        obtain ⟨ye, hye, dye⟩ := gdl.lg
        obtain ⟨yg, hyg, dyg⟩ := gdl.le
        refine ⟨.ref g, .ref e', .list (dq ++ [nrD]), rfl, .lst (SqL.of hyg) (dpAll_same delS_same dyg), .lst (SqL.of hye) (dpAll_same delS_same dye), ?_, ?_, fun H' s' => z _ ?_⟩
        · rw [PyData.depth]
          refine Nat.le_trans (Nat.succ_le_succ (depth_all (n := 3) fun x hx => ?_)) (by decide)
          rcases List.mem_append.mp hx with hx | hx
          · exact (okd x hx).1
          · rw [List.mem_singleton.mp hx]
            decide +kernel
        · rw [small, List.length_append]
          refine ⟨by show _ + 1 ≤ _; omega, small_all fun x hx => ?_⟩
          rcases List.mem_append.mp hx with hx | hx
          · exact (okd x hx).2
          · rw [List.mem_singleton.mp hx]
            simp [nrD, small, smallAll]
        · exact ((sB1.trans sg8).trans (sall.trans (new_same he'))).trans s'
end
end Kz

namespace Kx
open PySem PySem.Spec PyProof.Rows L2
section
variable {X : Cx} {CX : CXT} {k : Nat} {f : Addr} {fd : FuncData} {ps ks : List Str} {sp : Sp} {E : XK} {x : Str} {p pos : Pos} {kws : List Keyword} {tk : TA} {g : List Value → List Value → List Value} {gV : List V → List V → List V}
/-- a call with keywords alone -/
theorem pe_callO (F : FnOk X.prog X.w X.K X.mg X.base CX k f fd ps sp) (room : Room k X.A) (gl : Gl X x) (mx : X.mg x = some (.ref f)) (kp : PySem.W.keepIn X.K (.ref f) = true) (bi : KBinds X.K fd ps ks g gV) (pa : Passes CX X E) (kw : PK X kws tk)
    (al : (backToKw pos (keywordEach kws X.env)).all (·.1.isSome) = true := by rfl) (ek : (backToKw pos (keywordEach kws X.env)).filterMap (·.1) = ks := by rfl) (db : (x == ("__debug__" : Str)) = false := by decide)
    (pl : ((backTo pos (starEach [] X.env)).any (·.1) || (backToKw pos (keywordEach kws X.env)).any (·.1.isNone)) = false := by rfl) : PE X (.Call (.Name x p) [] kws pos) (tCallK sp gV E tNil tk) := by
  constructor
  intro pins s σ H Q I h
  have h' : tk σ H fun zs G => sp (gV [] zs) G Q E := h
  refine wpAny_Call_Name_kw (ld_glob I gl mx ?_ db)
  refine PySem.W.callWith_KW0 (h₀ := X.base) I.ok.mod.kin kp al (thn (kw.run pos pins s σ H _ I h') fun ws s1 hh => ?_) pl
  obtain ⟨zs, G, J, rz, q⟩ := hh
  refine ⟨J.kIn, ?_⟩
  rw [ek]
  exact run_fnk F room bi pa J .nil rz q
end
def mix2 {α : Type} : List α → List α
  | [m, j] => [j, m]
  | _ => []
def mix3 {α : Type} : List α → List α
  | [v, m, j] => [j, m, v]
  | _ => []
def mix4 {α : Type} : List α → List α
  | [v, r, m, j] => [j, m, r, v]
  | _ => []
def kO {α : Type} (m : List α → List α) : List α → List α → List α
  | [], ws => m ws
  | _ :: _, _ => []
theorem kO_rel {m : List V → List V} {m' : List Value → List Value} (h : ∀ {zs ws}, Vals zs ws → Vals (m zs) (m' ws)) : ∀ {vs : List V} {us : List Value} {zs : List V} {ws : List Value}, Vals vs us → Vals zs ws → Vals (kO m vs zs) (kO m' us ws)
  | _, _, _, _, .nil, r => h r
  | _, _, _, _, .cons _ _, _ => .nil
theorem mix2_rel {vs : List V} {us : List Value} (h : Vals vs us) : Vals (mix2 vs) (mix2 us) := by
  cases h with
  | nil => exact .nil
  | cons a h => cases h with
    | nil => exact .nil
    | cons b h => cases h with
      | nil => exact .cons b (.cons a .nil)
      | cons c h => exact .nil
theorem mix3_rel {vs : List V} {us : List Value} (h : Vals vs us) : Vals (mix3 vs) (mix3 us) := by
  cases h with
  | nil => exact .nil
  | cons a h => cases h with
    | nil => exact .nil
    | cons b h => cases h with
      | nil => exact .nil
      | cons c h => cases h with
        | nil => exact .cons c (.cons b (.cons a .nil))
        | cons d h => exact .nil
theorem mix4_rel {vs : List V} {us : List Value} (h : Vals vs us) : Vals (mix4 vs) (mix4 us) := by
  cases h with
  | nil => exact .nil
  | cons a h => cases h with
    | nil => exact .nil
    | cons b h => cases h with
      | nil => exact .nil
      | cons c h => cases h with
        | nil => exact .nil
        | cons d h => cases h with
          | nil => exact .cons d (.cons c (.cons b (.cons a .nil)))
          | cons e h => exact .nil
theorem mix2_len {α : Type} : ∀ {ws : List α}, (mix2 ws).length = 2 → ∃ m j, ws = [m, j]
  | [m, j], _ => ⟨m, j, rfl⟩
  | [], h => by cases h
  | [_], h => by cases h
  | _ :: _ :: _ :: _, h => by cases h
theorem mix3_len {α : Type} : ∀ {ws : List α}, (mix3 ws).length = 3 → ∃ v m j, ws = [v, m, j]
  | [v, m, j], _ => ⟨v, m, j, rfl⟩
  | [], h => by cases h
  | [_], h => by cases h
  | [_, _], h => by cases h
  | _ :: _ :: _ :: _ :: _, h => by cases h
theorem mix4_len {α : Type} : ∀ {ws : List α}, (mix4 ws).length = 4 → ∃ v r m j, ws = [v, r, m, j]
  | [v, r, m, j], _ => ⟨v, r, m, j, rfl⟩
  | [], h => by cases h
  | [_], h => by cases h
  | [_, _], h => by cases h
  | [_, _, _], h => by cases h
  | _ :: _ :: _ :: _ :: _ :: _, h => by cases h
section
variable {K : PySem.W.Frag} {x qual : Str} {st : Stmt} {f : Addr} {fd : FuncData}
theorem kb2 (F : Fun K x qual st f fd) (h : ∀ (kV doc pm : Value) (an : Option Addr) (cdv ct m j : Value), bindArgs (PySem.W.fnOf x qual (defArgs st) (defBody st) (defScope st) .none kV doc pm an cdv ct) ⟨[], ([("mix", m), ("jobs", j)] : List (Str × Value))⟩ = pure ([("jobs", j), ("mix", m)] : List (Str × Value))) :
    KBinds K fd ["jobs", "mix"] ["mix", "jobs"] (kO mix2) (kO mix2) := by
  obtain ⟨oc, od, kV, doc, pm, an, cdv, ct, osl, rfl, lk, hcd⟩ := F.ex
  refine ⟨fun s us ws _ l => ?_, kO_rel mix2_rel⟩
  cases us with
  | cons u us => cases l
  | nil =>
    obtain ⟨m, j, rfl⟩ := mix2_len (show (mix2 ws).length = 2 from l)
    exact .of_eq (h kV doc pm an cdv ct m j)
theorem kb3 (F : Fun K x qual st f fd) (h : ∀ (kV doc pm : Value) (an : Option Addr) (cdv ct v m j : Value), bindArgs (PySem.W.fnOf x qual (defArgs st) (defBody st) (defScope st) .none kV doc pm an cdv ct) ⟨[], ([("move", v), ("mix", m), ("jobs", j)] : List (Str × Value))⟩ = pure ([("jobs", j), ("mix", m), ("move", v)] : List (Str × Value))) :
    KBinds K fd ["jobs", "mix", "move"] ["move", "mix", "jobs"] (kO mix3) (kO mix3) := by
  obtain ⟨oc, od, kV, doc, pm, an, cdv, ct, osl, rfl, lk, hcd⟩ := F.ex
  refine ⟨fun s us ws _ l => ?_, kO_rel mix3_rel⟩
  cases us with
  | cons u us => cases l
  | nil =>
    obtain ⟨v, m, j, rfl⟩ := mix3_len (show (mix3 ws).length = 3 from l)
    exact .of_eq (h kV doc pm an cdv ct v m j)
theorem kb4 (F : Fun K x qual st f fd) (h : ∀ (kV doc pm : Value) (an : Option Addr) (cdv ct v r m j : Value), bindArgs (PySem.W.fnOf x qual (defArgs st) (defBody st) (defScope st) .none kV doc pm an cdv ct) ⟨[], ([("move", v), ("row", r), ("mix", m), ("jobs", j)] : List (Str × Value))⟩ = pure ([("jobs", j), ("mix", m), ("row", r), ("move", v)] : List (Str × Value))) :
    KBinds K fd ["jobs", "mix", "row", "move"] ["move", "row", "mix", "jobs"] (kO mix4) (kO mix4) := by
  obtain ⟨oc, od, kV, doc, pm, an, cdv, ct, osl, rfl, lk, hcd⟩ := F.ex
  refine ⟨fun s us ws _ l => ?_, kO_rel mix4_rel⟩
  cases us with
  | cons u us => cases l
  | nil =>
    obtain ⟨v, r, m, j, rfl⟩ := mix4_len (show (mix4 ws).length = 4 from l)
    exact .of_eq (h kV doc pm an cdv ct v r m j)
end
end Kx

namespace Kz
open PySem PySem.Spec PyProof.Rows L2 RZ Kt Kx
/-! ### the OUTCOME, by the play -/
def spotsM (js : List JobM) (ms : List Nat) (q : Nat) : List Nat := (List.range ms.length).filter fun k => decide (ms.getD k 0 = q) && !(seenP js ms k).isEmpty
def headP (js : List JobM) (ms : List Nat) (k : Nat) : PyData := seenR (seenP js ms k)
section
variable {js : List JobM} {ms : List Nat}
theorem seenP_empty (b : BegM js ms) {k : Nat} (hk : k < ms.length) : (!(seenP js ms k).isEmpty) = readAt js ms k := by
  rw [(read_at b (List.getElem?_eq_getElem hk)).1]
  unfold seenP
  cases readStep js ms k <;> rfl
theorem isRd_at (b : BegM js ms) {k : Nat} (hk : k < ms.length) (q : Nat) : isRd js (runM js ms) q k = (decide (ms.getD k 0 = q) && readAt js ms k) := by
  have gd : ms.getD k 0 = ms[k] := by rw [List.getD_eq_getElem?_getD, List.getElem?_eq_getElem hk]; rfl
  have mv := moves_at b.1 (List.getElem?_eq_getElem hk)
  unfold readAt isRd
  rw [gd, mv]
  by_cases c : (ms.take k).count ms[k] = lenOf js ms[k]
  · rw [if_pos c]
    simp
  · rw [if_neg c]
    by_cases e : ms[k] = q
    · subst e; simp
    · simp [e]
theorem rm_spots (b : BegM js ms) (q : Nat) : rmM js (runM js ms) q = spotsM js ms q := by
  unfold rmM spotsM
  rw [runM_len]
  refine List.filter_congr fun k hk => ?_
  have hk := List.mem_range.mp hk
  rw [isRd_at b hk, seenP_empty b hk]
theorem seen_play (b : BegM js ms) : seenD js (runM js ms) = .tuple ((List.range js.length).map fun q => .tuple ((spotsM js ms q).map (headP js ms))) := by
  unfold seenD seenRow
  congr 1
  refine List.map_congr_left fun q _ => ?_
  rw [rm_spots b]
  congr 1
  refine List.map_congr_left fun k hk => ?_
  have hk1 := List.mem_range.mp (List.mem_filter.mp hk).1
  have hk2 := (List.mem_filter.mp hk).2
  rw [Bool.and_eq_true] at hk2
  rw [seenP_empty b hk1] at hk2
  obtain ⟨h1, h2⟩ := read_at b (List.getElem?_eq_getElem hk1)
  rw [h1] at hk2
  unfold headP seenP
  cases e : readStep js ms k with
  | none => rw [e] at hk2; exact absurd hk2.2 Bool.false_ne_true
  | some r => exact h2 r e
theorem rows_play (b : BegM js ms) : rowsD js ms (rowsM js) = (namesM js false).map fun r => .tuple [.str r, .tuple ((verL js ms ms.length r).map fun q => .int (q : Nat))] := by
  have e : (rowsM js).filter (isWr js) = namesM js false := by
    refine inc_eq (List.Pairwise.filter _ (inc_ascS _)) (inc_ascS _) fun y => ?_
    rw [List.mem_filter]
    unfold namesM rowsM
    rw [mem_ascS, mem_ascS]
    unfold isWr selR allRows
    simp only [List.mem_flatMap, List.any_eq_true, List.mem_map, List.mem_filter, decide_eq_true_eq, Bool.false_or]
    constructor
    · rintro ⟨_, j, hj, h⟩
      exact ⟨j, hj, (true, y), ⟨h, rfl⟩, rfl⟩
    · rintro ⟨j, hj, ⟨w, r⟩, ⟨h, hw⟩, rfl⟩
      have hw' : w = true := hw
      subst hw'
      exact ⟨⟨j, hj, _, h, rfl⟩, j, hj, h⟩
  unfold rowsD
  rw [e]
  refine List.map_congr_left fun r _ => ?_
  unfold rowD
  rw [waM_eq b, List.map_map]
  rfl
end
end Kz

namespace Kz
open PySem PySem.Spec PyProof.Rows L2 RZ Kt Kx
theorem count_find {j : Nat} : ∀ {ms : List Nat} {c : Nat}, c < ms.count j → ∃ k : Nat, ms[k]? = some j ∧ (ms.take k).count j = c
  | [], c, h => by simp at h
  | a :: t, c, h => by
    by_cases e : a = j
    · subst e
      cases c with
      | zero => exact ⟨0, rfl, rfl⟩
      | succ c =>
        rw [List.count_cons_self] at h
        obtain ⟨k, h1, h2⟩ := count_find (j := a) (ms := t) (c := c) (by omega)
        exact ⟨k + 1, h1, by rw [List.take_succ_cons, List.count_cons_self, h2]⟩
    · rw [List.count_cons_of_ne e] at h
      obtain ⟨k, h1, h2⟩ := count_find (ms := t) (c := c) h
      exact ⟨k + 1, h1, by rw [List.take_succ_cons, List.count_cons_of_ne e, h2]⟩
theorem ver_ne {js : List JobM} {ms : List Nat} (full : FullM js ms) {r : Str} (hr : r ∈ namesM js false) : verL js ms ms.length r ≠ [] := by
  unfold namesM at hr
  rw [mem_ascS] at hr
  obtain ⟨jb, hj, h⟩ := List.mem_flatMap.mp hr
  unfold selR at h
  obtain ⟨⟨w, r'⟩, h1, h2⟩ := List.mem_map.mp h
  obtain ⟨h1, h3⟩ := List.mem_filter.mp h1
  have h2' : r' = r := h2
  have h3' : w = true := by simpa using h3
  subst h2' h3'
  obtain ⟨q, hq⟩ := List.getElem?_of_mem hj
  have ql : q < js.length := (List.getElem?_eq_some_iff.mp hq).1
  have hc := full.2 q ql
  obtain ⟨k, k1, k2⟩ := count_find (ms := ms) (j := q) (c := lenOf js q) (by omega)
  have es : stepsOf js q = jb.st := by unfold stepsOf; rw [hq]; rfl
  intro e
  have : q ∈ verL js ms ms.length r' := by
    unfold verL
    rw [List.mem_filterMap]
    refine ⟨k, List.mem_range.mpr (List.getElem?_eq_some_iff.mp k1).1, ?_⟩
    rw [endAt_eq.mpr ⟨k1, k2⟩]
    show (if (true, r') ∈ stepsOf js q then some q else none) = some q
    rw [if_pos (by rw [es]; exact h1)]
  rw [e] at this
  cases this
/-- the pair of a ROW and of all who wrote it, in their order -/
def rowP (js : List JobM) (ms : List Nat) (r : Str) : PyData := .tuple [.str r, .tuple ((verL js ms ms.length r).map fun q => .int (q : Nat))]
theorem oT_rowP (js : List JobM) (ms : List Nat) (r : Str) : onlyT (rowP js ms r) = true := by
  have h : onlyTs ((verL js ms ms.length r).map fun q => PyData.int (q : Nat)) = true := onlyTs_of fun x hx => by
    obtain ⟨y, _, rfl⟩ := List.mem_map.mp hx
    rw [onlyT]
  simp [rowP, onlyT, onlyTs, h]
theorem out_play {js : List JobM} {ms : List Nat} (b : BegM js ms) : outD js ms = .tuple [seenD js (runM js ms), .tuple ((namesM js false).map (rowP js ms))] := by
  unfold outD
  rw [rows_play b]
  rfl
end Kz

namespace Kz
open PySem PySem.Spec PyProof.Rows L2 RZ Kt Kx
mutual
theorem tupD_lstD : ∀ d : PyData, tupD (lstD d) = tupD d
  | .list xs => by rw [lstD, tupD, tupD, tupDs_lstDs xs]
  | .tuple xs => by rw [lstD, tupD, tupD, tupDs_lstDs xs]
  | .none => by rw [lstD]
  | .bool _ => by rw [lstD]
  | .int _ => by rw [lstD]
  | .str _ => by rw [lstD]
  | .dict _ => by rw [lstD]
theorem tupDs_lstDs : ∀ xs : List PyData, tupDs (lstDs xs) = tupDs xs
  | [] => by rw [lstDs]
  | x :: r => by rw [lstDs, tupDs, tupDs, tupD_lstD x, tupDs_lstDs r]
end
mutual
theorem dep_lstD : ∀ d : PyData, (lstD d).depth = d.depth
  | .list xs => by rw [lstD, PyData.depth, PyData.depth, deps_lstDs xs]
  | .tuple xs => by rw [lstD, PyData.depth, PyData.depth, deps_lstDs xs]
  | .none => by rw [lstD]
  | .bool _ => by rw [lstD]
  | .int _ => by rw [lstD]
  | .str _ => by rw [lstD]
  | .dict _ => by rw [lstD]
theorem deps_lstDs : ∀ xs : List PyData, PyData.depthAll (lstDs xs) = PyData.depthAll xs
  | [] => by rw [lstDs]
  | x :: r => by rw [lstDs, PyData.depthAll, PyData.depthAll, dep_lstD x, deps_lstDs r]
end
mutual
theorem small_lstD : ∀ d : PyData, small d → small (lstD d)
  | .list xs, h => by
    rw [small] at h
    rw [lstD, small, lstDs_map, List.length_map, ← lstDs_map]
    exact ⟨h.1, smalls_lstDs xs h.2⟩
  | .tuple xs, h => by
    rw [small] at h
    rw [lstD, small, lstDs_map, List.length_map, ← lstDs_map]
    exact ⟨h.1, smalls_lstDs xs h.2⟩
  | .none, h => by rw [lstD]; exact h
  | .bool _, h => by rw [lstD]; exact h
  | .int _, h => by rw [lstD]; exact h
  | .str _, h => by rw [lstD]; exact h
  | .dict _, h => by rw [lstD]; exact h
theorem smalls_lstDs : ∀ xs : List PyData, smallAll xs → smallAll (lstDs xs)
  | [], _ => by rw [lstDs, smallAll]; trivial
  | x :: r, h => by
    rw [smallAll] at h
    rw [lstDs, smallAll]
    exact ⟨small_lstD x h.1, smalls_lstDs r h.2⟩
end
def dMixL (ms : List Nat) : PyData := .list (ms.map fun p => .int (p : Nat))
theorem isJ_lists {K : PySem.W.Frag} {H : Hp} {u : V} {js : List JobM} (h : Dp K H u (lstD (dJobs js))) (ok : okJs js) : IsJ K H u js :=
  ⟨_, h, (tupD_lstD _).trans (tupD_jobs js), by rw [dep_lstD]; exact dep_jobs js, small_lstD _ (small_jobs ok)⟩
theorem dep_mixL (ms : List Nat) : (dMixL ms).depth ≤ 1 := by
  rw [dMixL, PyData.depth]
  refine Nat.succ_le_succ (depth_all fun x hx => ?_)
  obtain ⟨y, _, rfl⟩ := List.mem_map.mp hx
  rw [PyData.depth]
  exact Nat.le_refl _
theorem small_mixL {ms : List Nat} (o : ms.length ≤ 1000000) : small (dMixL ms) := by
  rw [dMixL, small, List.length_map]
  refine ⟨o, small_all fun x hx => ?_⟩
  obtain ⟨y, _, rfl⟩ := List.mem_map.mp hx
  simp [small]
theorem isM_list {K : PySem.W.Frag} {H : Hp} {u : V} {ms : List Nat} (h : Dp K H u (dMixL ms)) (o : ms.length ≤ 1000000) : IsM K H u ms := by
  refine ⟨_, h, ?_, Nat.le_trans (dep_mixL ms) (by decide), small_mixL o⟩
  rw [dMixL, tupD, map_same (fun x => by rw [tupD]), dMix]
theorem held0 {js : List JobM} {ms : List Nat} (b : BegM js ms) : heldD js ms 0 = .tuple [] := by
  rw [heldD, HL_kept]
  have e : HL js (runM js (ms.take 0)) = [] := by
    refine List.eq_nil_iff_forall_not_mem.mpr fun x hx => ?_
    obtain ⟨r, q⟩ := x
    obtain ⟨h1, h2⟩ := HL_mem.mp hx
    have h3 := (holds_iff b h1 r 0).mp h2
    unfold opnL at h3
    rw [List.take_zero, List.count_nil, if_neg (by omega), List.take_zero] at h3
    cases h3
  rw [e]
  rfl
theorem vers0 {js : List JobM} {ms : List Nat} (b : BegM js ms) (r : Str) : versD js ms r ((0 : Nat) : Int) = .tuple [.none] := by
  rw [versD_eq b]
  rfl
theorem ok_rowP {js : List JobM} {ms : List Nat} (few : ms.length ≤ 1000) (r : Str) : (rowP js ms r).depth ≤ 2 ∧ small (rowP js ms r) := by
  have l : (verL js ms ms.length r).length ≤ ms.length := by
    unfold verL
    refine Nat.le_trans (List.length_filterMap_le ..) ?_
    rw [List.length_range]
    exact Nat.le_refl _
  have d : PyData.depthAll ((verL js ms ms.length r).map fun q => PyData.int (q : Nat)) ≤ 0 := depth_all fun x hx => by
    obtain ⟨y, _, rfl⟩ := List.mem_map.mp hx
    rw [PyData.depth]
    exact Nat.le_refl _
  constructor
  · simp only [rowP, PyData.depth, PyData.depthAll]
    omega
  · simp only [rowP, small, smallAll, List.length_map]
    refine ⟨by show 2 ≤ _; decide, trivial, ⟨by omega, small_all fun x hx => ?_⟩, trivial⟩
    obtain ⟨y, _, rfl⟩ := List.mem_map.mp hx
    trivial
end Kz

namespace Kz
open PySem PySem.Spec PyProof.Rows L2 RZ Kt Kx
/-! ### _law_case_right -/
theorem op_neDK {X : Cx} {K : PySem.W.Frag} (hK : X.K = K) (hu : X.A.units + 64 < cLine) : OpR X (compareOp .NotEq) (rNeD K) := by subst hK; exact op_neD hu
theorem sl_tupK {X : Cx} {K : PySem.W.Frag} (hK : X.K = K) : SlR X (rSlT K) := by subst hK; exact sl_tup
abbrev nCase : List Str := ["_law_jobs_so", "_law_mix_so", "_law_rows", "_law_last_so", "_law_soft_so", "_law_seen_so", "_law_j", "_law_own", "_law_spots_so", "_law_goal_so", "_law_got", "_law_due", "_law_at_so"]
abbrev pCase : List Str := ["_law_jobs_so", "_law_mix_so"]
theorem scCase : FnScope nCase pCase (defScope sCaseR) := ⟨rfl, rfl, rfl, by decide +kernel, rfl, by decide +kernel, by decide +kernel⟩
def tSpot (K : PySem.W.Frag) : TT := tAnd (tTest (tOp rEq (tVar 7) (tVar 6))) (tTest (tOp (rNeD K) (tOp (rIxT K) (tOp (rIxL K) (tVar 2) (tVar 12)) (tC (.int 2))) (tLst tNil)))
def tRow0 (K : PySem.W.Frag) : TE := tOp (rIxL K) (tOp (rIxT K) (tOp (rIxL K) (tVar 2) (tVar 12)) (tC (.int 2))) (tC (.int 0))
def tLastR (K : PySem.W.Frag) : TE := tTup (tCons (tVar 7) (tCons (tSl (rSlT K) (tDGet (tVar 3) (tVar 7)) (tPart (tC (.int 1))) tNoPart) tNil))
def spCase (K : PySem.W.Frag) : Sp := fun vs H Q _ => ∃ (v : V) (ma : Addr) (js : List JobM) (ms : List Nat), vs = [v, .ref ma] ∧ Dp K H v (dJobs js) ∧ TupF H ma (vM ms) ∧ okJs js ∧ fewR js ∧ FullM js ms ∧ (∀ j ∈ js, j.st.Nodup) ∧ ms.length ≤ 1000 ∧ ms ≠ [] ∧ ("none" : Str) ∉ allRows js ∧ ∀ H', Same H H' → Q (.bl true) H'
theorem rd_sl {σ : L2.St} {H : Hp} {fa : Addr} {k : Nat} {rows : List V} {vr : V} {js : List JobM} {ms : List Nat} {Q : VK} {K : PySem.W.Frag} (e2 : σ[2]? = some (some (.ref fa))) (e12 : σ[12]? = some (some (.int (k : Nat)))) (hfa : H fa = some (.lst rows)) (hk : rows[k]? = some vr) (row : RowOk K H js ms k vr)
    (q : ∀ sl sv, H sl = some (.lst sv) → DpAll K H sv (seenP js ms k) → Q (.ref sl) H) : tOp (rIxT K) (tOp (rIxL K) (tVar 2) (tVar 12)) (tC (.int 2)) σ H Q := by
  obtain ⟨a, d, hv, sl, kvs, sv, rfl, hra, hd, vd, dh, hsl, dsv⟩ := row
  exact ⟨_, e2, _, e12, fa, rows, (k : Nat), .ref a, rfl, rfl, SqL.of hfa, atI_nat (j := k) hk, a, _, 2, .ref sl, rfl, rfl, hra, atI_nat (j := 2) rfl, q sl sv hsl dsv⟩
theorem seen_shape (js : List JobM) (ms : List Nat) (k : Nat) : seenP js ms k = [] ∨ ∃ l, seenP js ms k = [lastD l] := by
  unfold seenP
  cases readStep js ms k with
  | none => exact .inl rfl
  | some r => exact .inr ⟨_, rfl⟩
theorem last_ok (l : List Nat) : (lastD l).canLay0 = true ∧ (lastD l).depth = 0 ∧ onlyT (lastD l) = true ∧ small (lastD l) := by
  unfold lastD
  cases l.getLast? with
  | none => exact ⟨by rw [PyData.canLay0], by rw [PyData.depth], by rw [onlyT], trivial⟩
  | some y => exact ⟨by rw [PyData.canLay0], by rw [PyData.depth], by rw [onlyT], trivial⟩
theorem rd_spot {σ : L2.St} {H : Hp} {fa : Addr} {k own j : Nat} {rows : List V} {vr : V} {js : List JobM} {ms : List Nat} {Q : Bool → Hp → Prop} {K : PySem.W.Frag} (e2 : σ[2]? = some (some (.ref fa))) (e12 : σ[12]? = some (some (.int (k : Nat)))) (e7 : σ[7]? = some (some (.int (own : Nat)))) (e6 : σ[6]? = some (some (.int (j : Nat))))
    (hfa : H fa = some (.lst rows)) (hk : rows[k]? = some vr) (row : RowOk K H js ms k vr) (q : ∀ H', Same H H' → Q (decide (own = j) && !(seenP js ms k).isEmpty) H') : tSpot K σ H Q := by
  refine ⟨_, e7, _, e6, rfl, _, rfl, ?_⟩
  by_cases c : own = j
  · subst c
    refine ifd_t rfl ?_
    refine rd_sl e2 e12 hfa hk row fun sl sv hsl dsv => ⟨Nat.zero_le _, fun t ht => ?_⟩
    have st := new_same (o := .lst []) ht
    have dl := dpAll_same st dsv
    have q' := q _ st
    rw [decide_eq_true rfl, Bool.true_and] at q'
    rcases seen_shape js ms k with e | ⟨l, e⟩
    · rw [e] at dl q'
      exact ⟨.list [], .list [], .lst (SqL.of (st _ _ hsl)) dl, .lst (SqL.of upd_same) .nil, by decide +kernel, by decide +kernel, _, rfl, q'⟩
    · obtain ⟨l1, l2, _⟩ := last_ok l
      rw [e] at dl q'
      generalize lastD l = x at dl q' l1 l2
      exact ⟨.list [x], .list [], .lst (SqL.of (st _ _ hsl)) dl, .lst (SqL.of upd_same) .nil, shaped_of (n := 1) (by rw [PyData.canLay0]; exact canLay_all fun y hy => by rw [List.mem_singleton.mp hy]; exact l1) (by rw [PyData.depth, PyData.depthAll, PyData.depthAll, l2]; exact Nat.le_refl _) (by decide), by decide +kernel, _, rfl, q'⟩
  · refine ifd_f (fun h => c (by have := V.int.inj h; omega)) ?_
    have q' := q H fun _ _ z => z
    rw [decide_eq_false c, Bool.false_and] at q'
    exact q'
theorem rd_row0 {σ : L2.St} {H : Hp} {fa : Addr} {k : Nat} {rows : List V} {vr : V} {js : List JobM} {ms : List Nat} {Q : VK} {K : PySem.W.Frag} (e2 : σ[2]? = some (some (.ref fa))) (e12 : σ[12]? = some (some (.int (k : Nat)))) (hfa : H fa = some (.lst rows)) (hk : rows[k]? = some vr) (row : RowOk K H js ms k vr) (ne : (!(seenP js ms k).isEmpty) = true)
    (q : ∀ y, Dp K H y (headP js ms k) → Q y H) : tRow0 K σ H Q := by
  refine rd_sl e2 e12 hfa hk row fun sl sv hsl dsv => ?_
  unfold headP at q
  rcases seen_shape js ms k with e | ⟨l, e⟩
  · rw [e] at ne; cases ne
  · rw [e] at dsv q
    cases dsv with
    | cons dx nl =>
      cases nl
      exact ⟨sl, _, 0, _, rfl, rfl, SqL.of hsl, atI_nat (j := 0) rfl, q _ dx⟩
theorem spots_mem {js : List JobM} {ms : List Nat} {q k : Nat} (h : k ∈ spotsM js ms q) : k < ms.length ∧ (!(seenP js ms k).isEmpty) = true ∧ onlyT (headP js ms k) = true ∧ (headP js ms k).depth = 0 ∧ small (headP js ms k) := by
  unfold spotsM at h
  obtain ⟨h1, h2⟩ := List.mem_filter.mp h
  rw [Bool.and_eq_true] at h2
  refine ⟨List.mem_range.mp h1, h2.2, ?_⟩
  unfold headP
  rcases seen_shape js ms k with e | ⟨l, e⟩
  · rw [e] at h2; cases h2.2
  · rw [e]
    obtain ⟨_, a, b, c⟩ := last_ok l
    exact ⟨b, a, c⟩
def seenQ (js : List JobM) (ms : List Nat) (q : Nat) : PyData := .tuple ((spotsM js ms q).map (headP js ms))
theorem oT_seenQ (js : List JobM) (ms : List Nat) (q : Nat) : onlyT (seenQ js ms q) = true := by
  rw [seenQ, onlyT]
  exact onlyTs_of fun x hx => by
    obtain ⟨k, hk, rfl⟩ := List.mem_map.mp hx
    exact (spots_mem hk).2.2.1
def spotsO (js : List JobM) (ms : List Nat) (q : Nat) : List (Option PyData) := (List.range ms.length).map fun k => if (decide (ms.getD k 0 = q) && !(seenP js ms k).isEmpty) = true then some (.int (k : Nat)) else none
theorem kept_spots (js : List JobM) (ms : List Nat) (q : Nat) : kept (spotsO js ms q) = (spotsM js ms q).map fun k => PyData.int (k : Nat) := by
  unfold kept spotsO spotsM
  rw [List.filterMap_map]
  induction List.range ms.length with
  | nil => rfl
  | cons k t ih =>
    by_cases c : (decide (ms.getD k 0 = q) && !(seenP js ms k).isEmpty) = true
    · rw [List.filterMap_cons_some (b := PyData.int (k : Nat)) (by show id _ = _; exact if_pos c), List.filter_cons_of_pos (p := fun k => decide (ms.getD k 0 = q) && !(seenP js ms k).isEmpty) c, List.map_cons, ih]
    · rw [List.filterMap_cons_none (by show id _ = _; exact if_neg c), List.filter_cons_of_neg (p := fun k => decide (ms.getD k 0 = q) && !(seenP js ms k).isEmpty) c, ih]
theorem ok_seenD {js : List JobM} {ms : List Nat} (ok : okJs js) (b : BegM js ms) (few : ms.length ≤ 1000) : (seenD js (runM js ms)).depth ≤ 2 ∧ small (seenD js (runM js ms)) := by
  rw [seen_play b]
  constructor
  · rw [PyData.depth]
    refine Nat.succ_le_succ (depth_all fun x hx => ?_)
    obtain ⟨q, _, rfl⟩ := List.mem_map.mp hx
    rw [PyData.depth]
    refine Nat.succ_le_succ (depth_all fun y hy => ?_)
    obtain ⟨k, hk, rfl⟩ := List.mem_map.mp hy
    rw [(spots_mem hk).2.2.2.1]
    exact Nat.le_refl _
  · rw [small, List.length_map, List.length_range]
    refine ⟨Nat.le_trans ok.1 (by decide), small_all fun x hx => ?_⟩
    obtain ⟨q, _, rfl⟩ := List.mem_map.mp hx
    rw [small, List.length_map]
    refine ⟨?_, small_all fun y hy => ?_⟩
    · unfold spotsM
      refine Nat.le_trans (List.length_filter_le ..) ?_
      rw [List.length_range]
      omega
    · obtain ⟨k, hk, rfl⟩ := List.mem_map.mp hy
      exact (spots_mem hk).2.2.2.2
theorem ok_outD {js : List JobM} {ms : List Nat} (ok : okJs js) (fw : fewR js) (b : BegM js ms) (few : ms.length ≤ 1000) : (outD js ms).depth ≤ 4 ∧ small (outD js ms) := by
  obtain ⟨h1, h2⟩ := ok_seenD ok b few
  rw [out_play b]
  have d : PyData.depthAll ((namesM js false).map (rowP js ms)) ≤ 2 := depth_all fun x hx => by
    obtain ⟨y, _, rfl⟩ := List.mem_map.mp hx
    exact (ok_rowP few y).1
  have nf := names_few fw false
  constructor
  · simp only [PyData.depth, PyData.depthAll]
    omega
  · simp only [small, smallAll, List.length_map]
    refine ⟨by show 2 ≤ _; decide, h2, ⟨by omega, small_all fun x hx => ?_⟩, trivial⟩
    obtain ⟨y, _, rfl⟩ := List.mem_map.mp hx
    exact (ok_rowP few y).2
theorem oT_seenD {js : List JobM} {ms : List Nat} (b : BegM js ms) : onlyT (seenD js (runM js ms)) = true := by
  rw [seen_play b, onlyT]
  exact onlyTs_of fun x hx => by
    obtain ⟨q, _, rfl⟩ := List.mem_map.mp hx
    exact oT_seenQ js ms q
theorem oT_outD {js : List JobM} {ms : List Nat} (b : BegM js ms) : onlyT (outD js ms) = true := by
  have h : onlyTs ((namesM js false).map (rowP js ms)) = true := onlyTs_of fun x hx => by
    obtain ⟨q, _, rfl⟩ := List.mem_map.mp hx
    exact oT_rowP js ms q
  rw [out_play b]
  simp [onlyT, onlyTs, h, oT_seenD b]
theorem ints_dp {K : PySem.W.Frag} {B : Hp} : ∀ {l : List Nat} {zs : List V}, DpAll K B zs (l.map fun q => PyData.int (q : Nat)) → zs = l.map fun q => V.int (q : Nat)
  | [], _, h => by cases h; rfl
  | y :: t, _, h => by
    cases h with
    | cons a b =>
      cases a
      rw [ints_dp b]
      rfl
theorem cut1 (x : V) (xs : List V) : cutV (x :: xs) (some 1) none = xs := by
  unfold cutV
  rw [show (1 : Int) = ((1 : Nat) : Int) from rfl, HT.sIx_nat, HT.sIx_none]
  have e : min 1 (x :: xs).length = 1 := by rw [List.length_cons]; omega
  rw [e]
  show (xs.drop 0).take ((x :: xs).length - 1) = xs
  rw [List.drop_zero, List.length_cons, Nat.add_sub_cancel, List.take_length]
theorem rd_last {σ : L2.St} {H B : Hp} {ta : Addr} {kvs : List (Key × V)} {js : List JobM} {ms : List Nat} {r : Str} {Q : VK} {K : PySem.W.Frag} (e3 : σ[3]? = some (some (.ref ta))) (e7 : σ[7]? = some (some (.str r))) (hta : H ta = some (.dK kvs)) (vd : VerD K B kvs (verL js ms ms.length)) (sB : Same B H)
    (ne : verL js ms ms.length r ≠ []) (q : ∀ H' u, Same H H' → Dp K H' u (rowP js ms r) → Q u H') : tLastR K σ H Q := by
  obtain ⟨tl, d, e⟩ := vd
  have er := e r
  cases hl : lkA tl r with
  | none => rw [hl] at er; exact absurd er.symm ne
  | some l =>
    rw [hl] at er
    have er' : l = verL js ms ms.length r := er
    subst er'
    obtain ⟨v', hv', dv'⟩ := d.some inj_str r hl
    obtain ⟨va, xs, rfl, hsq, hxs⟩ := dp_tup_inv dv'
    cases hxs with
    | cons ha hb =>
      cases ha
      obtain rfl := ints_dp hb
      refine ⟨_, e7, _, e3, _, e7, ta, _, rfl, .inl ⟨kvs, encS r, .inl hta, rfl, hv'.symm⟩, 1, rfl, va, _, rfl, seqT_same sB hsq, ?_, fun p hp => ⟨by show 2 ≤ sizeLine; decide, fun t ht => ?_⟩⟩
      · rw [show (1 : Int) = ((1 : Nat) : Int) from rfl, HT.sIx_nat]
        intro h
        have := h.1
        rw [List.length_cons] at this
        omega
      · rw [cut1] at ht ⊢
        have sp := new_same (o := .tup ((verL js ms ms.length r).map fun q => V.int (q : Nat))) hp
        have st := new_same (o := .tup [V.str r, V.ref p]) ht
        exact q _ _ (sp.trans st) (.tup (SqT.of upd_same) (.cons (.str _) (.cons (.tup (SqT.of (st _ _ upd_same)) (dp_vM _)) .nil)))
theorem kept_somes {l : List PyData} : kept (l.map some) = l := by
  unfold kept
  rw [List.filterMap_map]
  show List.filterMap some l = l
  exact List.filterMap_some
section
variable {P : Program} {w : World} {K : PySem.W.Frag} {mg : Str → Option Value} {base : Heap}
theorem ok_case {f fP fL fN fS fO fH fV fQ fM : Addr} {fd fdP fdL fdN fdS fdO fdH fdV fdQ fdM : FuncData} {CN CR : Addr} (F : Fun K "_law_case_right" "_law_case_right" sCaseR f fd) (T : Nat0 mg)
    (GP : FnOk P w K mg base CX0 1 fP fdP ["_law_jobs_so", "_law_mix_so"] (spPlayed K)) (kP : PySem.W.keepIn K (.ref fP) = true) (bP : Binds K fdP ["_law_jobs_so", "_law_mix_so"] []) (gP : mg "_law_played" = some (.ref fP))
    (GL : FnOk P w K mg base CX0 5 fL fdL ["_law_matter_so"] (spLists K 4)) (kL : PySem.W.keepIn K (.ref fL) = true) (bL : Binds K fdL ["_law_matter_so"] []) (gL : mg "_law_lists" = some (.ref fL))
    (GN : FnOk P w K mg base CX0 1 fN fdN ["_law_jobs_so", "_law_words_so"] (spNames K)) (kN : PySem.W.keepIn K (.ref fN) = true) (bN : Binds K fdN ["_law_jobs_so", "_law_words_so"] []) (gN : mg "_law_names" = some (.ref fN))
    (GS : FnOk P w K mg base CX0 6 fS fdS ["jobs", "mix"] (spSeenBy K)) (kS : PySem.W.keepIn K (.ref fS) = true) (bS : Binds K fdS ["jobs", "mix"] []) (kbS : KBinds K fdS ["jobs", "mix"] ["mix", "jobs"] (kO mix2) (kO mix2)) (gS : mg "seen_by" = some (.ref fS))
    (GO : FnOk P w K mg base CX0 7 fO fdO ["jobs", "mix"] (spOut K)) (kO' : PySem.W.keepIn K (.ref fO) = true) (bO : Binds K fdO ["jobs", "mix"] []) (kbO : KBinds K fdO ["jobs", "mix"] ["mix", "jobs"] (kO mix2) (kO mix2)) (gO : mg "outcome" = some (.ref fO))
    (GH : FnOk P w K mg base (L2.CX P w) 7 fH fdH ["jobs", "mix", "move"] (spHeldAt K CN)) (kH : PySem.W.keepIn K (.ref fH) = true) (kbH : KBinds K fdH ["jobs", "mix", "move"] ["move", "mix", "jobs"] (kO mix3) (kO mix3)) (gH : mg "held_at" = some (.ref fH))
    (GV : FnOk P w K mg base (L2.CX P w) 6 fV fdV ["jobs", "mix", "row", "move"] (spVersAt K CN CR)) (kV : PySem.W.keepIn K (.ref fV) = true) (kbV : KBinds K fdV ["jobs", "mix", "row", "move"] ["move", "row", "mix", "jobs"] (kO mix4) (kO mix4)) (gV : mg "versions_at" = some (.ref fV))
    (GQ : FnOk P w K mg base CX0 7 fQ fdQ ["_law_got", "_law_due"] (spSame K 6)) (kQ : PySem.W.keepIn K (.ref fQ) = true) (bQ : Binds K fdQ ["_law_got", "_law_due"] []) (gQ : mg "_law_same" = some (.ref fQ))
    (GM : FnOk P w K mg base CX0 9 fM fdM pMvs (spMvs K)) (kM : PySem.W.keepIn K (.ref fM) = true) (bM : Binds K fdM pMvs []) (gM : mg "_law_moves_right" = some (.ref fM)) :
    FnOk P w K mg base CX0 10 f fd pCase (spCase K) := by
  refine F.ok scCase (fun vs H Q E h => ?_) (fun cdv A outer s H vs Q E hr h => ?_)
  · obtain ⟨v, ma, js, ms, rfl, _⟩ := h
    rfl
  · have hu := hu_of hr
    have r9 : Room 9 _ := hr
    have r7 : Room 7 _ := hr.mono (by decide)
    have r6 : Room 6 _ := hr.mono (by decide)
    have r5 : Room 5 _ := hr.mono (by decide)
    have r1 : Room 1 _ := hr.mono (by decide)
    refine ⟨_, pss_cons (ps_asg (pe_call GP r1 (by rfl) gP kP bP .nil pass0 (pa_cons (pv 0) (pa_cons (pv 1) (pa_nil)))) (pg_tup (by rfl) (pgs_cons (pg_name (i := 2) scCase.nd rfl (Or.inr rfl)) (pgs_cons (pg_name (i := 3) scCase.nd rfl (Or.inr rfl)) (pgs_nil)))))
      (pss_cons (ps_par (i := 4) (j := 5) (by rfl) scCase.nd rfl rfl (by decide) rfl rfl (pa_cons (pe_lst (pa_cons (pe_call GL r5 (by rfl) gL kL bL .nil pass0 (pa_cons (pv 0) (pa_nil))) (pa_cons (pe_callTy call_list_of (by rfl) T.list bt_list (pa_cons (pv 1) (pa_nil))) (pa_nil)))) (pa_cons (pe_lst pa_nil) (pa_nil))) (by rfl))
      (pss_cons (ps_for PassesOwn.never rfl (pi_range1 (by rfl) T.range (pa_cons (pe_callB call_len_seq (by rfl) T.len PySem.boot_len (pa_cons (pv 0) (pa_nil))) (pa_nil))) (pg_name (i := 6) scCase.nd rfl (Or.inr rfl))
        (pss_cons (ps_setLc (i := 8) (own := [("_law_at_so", 12), ("_law_own", 7)]) (g := gTup K 2 (gCons (gName 12) (gCons (gName 7) gNil))) (tt := tSpot K) (te := tVar 12) (by rfl) scCase.nd rfl rfl (sw_true rfl rfl rfl (by decide +kernel)) (pi_enumT (by rfl) T.enumerate (pa_cons (pv 1) (pa_nil))) (blkOk_by (own := [("_law_at_so", 12), ("_law_own", 7)]) (N := nCase) (sc := defScope sCaseR) (by decide +kernel)) (fun _ _ _ _ _ => by exact (pg_tup rfl (pgs_cons (pg_name (i := 12) scCase.nd rfl (Or.inl rfl)) (pgs_cons (pg_name (i := 7) scCase.nd rfl (Or.inl rfl)) (pgs_nil))))) (fun _ _ _ _ _ => by exact (pts_one (PW.pt (pw_and (pt_cmpR op_eq (pv 7) (pv 6) (nomark _)) (pw_and1 (pt_cmpR (op_neDK (K := K) rfl hr.units) (pe_ix (ix_tupK (K := K) rfl) (pe_ix (ix_listK (K := K) rfl) (pv 2) (pv 12) (fun _ _ => rfl)) pe_int (fun _ _ => rfl)) (pe_lst pa_nil) (nomark _))))))) (fun _ _ _ _ _ => pv 12))
      (pss_one (ps_expr (pe_bm PySem.F.plainAttrs_list PySem.F.slot_list_append PySem.F.type_list_append mt_append (pv 5) (pa_cons (pe_callTy call_tuple_of (by rfl) T.tuple bt_tuple (pa_cons (pe_lc (own := [("_law_at_so", 12)]) (g := gName 12) (tt := tYes) (te := tRow0 K) rfl scCase.nd (pi_list (pv 8)) (blkOk_by (own := [("_law_at_so", 12)]) (N := nCase) (sc := defScope sCaseR) (by decide +kernel)) (fun _ _ _ _ _ => pg_name (i := 12) scCase.nd rfl (Or.inl rfl)) (fun _ _ _ _ _ => pts_nil) (fun _ _ _ _ _ => by exact (pe_ix (ix_listK (K := K) rfl) (pe_ix (ix_tupK (K := K) rfl) (pe_ix (ix_listK (K := K) rfl) (pv 2) (pv 12) (fun _ _ => rfl)) pe_int (fun _ _ => rfl)) pe_int (fun _ _ => rfl)))) (pa_nil))) (pa_nil)))))))
      (pss_cons (ps_set (i := 9) scCase.nd rfl (Or.inl rfl) (pe_tup (pa_cons (pe_callTy call_tuple_of (by rfl) T.tuple bt_tuple (pa_cons (pv 5) (pa_nil))) (pa_cons (pe_callTy call_tuple_of (by rfl) T.tuple bt_tuple (pa_cons (pe_lc (own := [("_law_own", 7)]) (g := gName 7) (tt := tYes) (te := tLastR K) rfl scCase.nd (pi_list (pe_call GN r1 (by rfl) gN kN bN .nil pass0 (pa_cons (pv 0) (pa_cons (pe_tup (pa_cons pe_str (pa_nil))) (pa_nil))))) (blkOk_by (own := [("_law_own", 7)]) (N := nCase) (sc := defScope sCaseR) (by decide +kernel)) (fun _ _ _ _ _ => pg_name (i := 7) scCase.nd rfl (Or.inl rfl)) (fun _ _ _ _ _ => pts_nil) (fun _ _ _ _ _ => by exact (pe_tup (pa_cons (pv 7) (pa_cons (pe_slice (sl_tupK (K := K) rfl) (pe_dget hu (pv 3) (pv 7) (fun _ _ => rfl)) (po_some pe_int) po_none) (pa_nil)))))) (pa_nil))) (pa_nil)))))
      (pss_cons (ps_set (i := 10) scCase.nd rfl (Or.inl rfl) (pe_lst (pa_cons (pe_call GS r6 (by rfl) gS kS bS .nil pass0 (pa_cons (pv 0) (pa_cons (pv 1) (pa_nil)))) (pa_cons (pe_call GO r7 (by rfl) gO kO' bO .nil pass0 (pa_cons (pv 0) (pa_cons (pv 1) (pa_nil)))) (pa_cons (pe_callO (E := E0) GO r7 (by rfl) gO kO' kbO pass0 (pk_cons (pe_ix ix_list (pv 4) (pe_int) (fun _ _ => rfl)) (pk_cons (pe_ix ix_list (pv 4) (pe_int) (fun _ _ => rfl)) (pk_nil)))) (pa_nil))))))
      (pss_cons (ps_set (i := 10) scCase.nd rfl (Or.inl rfl) (pe_op op_cat (pv 10) (pe_lst (pa_cons (pe_callO (E := E0) GS r6 (by rfl) gS kS kbS pass0 (pk_cons (pe_ix ix_list (pv 4) (pe_int) (fun _ _ => rfl)) (pk_cons (pe_ix ix_list (pv 4) (pe_int) (fun _ _ => rfl)) (pk_nil)))) (pa_cons (pe_callO (E := fun _ _ _ => False) GH r7 (by rfl) gH kH kbH (passes_call takes0 (fun _ _ _ _ h => h)) (pk_cons (pe_int) (pk_cons (pe_ix ix_list (pv 4) (pe_int) (fun _ _ => rfl)) (pk_cons (pe_ix ix_list (pv 4) (pe_int) (fun _ _ => rfl)) (pk_nil))))) (pa_nil))))))
      (pss_cons (ps_set (i := 11) scCase.nd rfl (Or.inl rfl) (pe_lst (pa_cons (pe_ix ix_tup (pv 9) (pe_int) (fun _ _ => rfl)) (pa_cons (pv 9) (pa_cons (pv 9) (pa_cons (pe_ix ix_tup (pv 9) (pe_int) (fun _ _ => rfl)) (pa_cons (pe_tup pa_nil) (pa_nil))))))))
      (pss_cons (ps_for PassesOwn.never rfl (pi_list (pe_slice sl_list (pe_call GN r1 (by rfl) gN kN bN .nil pass0 (pa_cons (pv 0) (pa_cons (pe_tup (pa_cons pe_str (pa_cons pe_str (pa_nil)))) (pa_nil)))) po_none (po_some pe_int))) (pg_name (i := 7) scCase.nd rfl (Or.inl rfl))
        (pss_cons (ps_expr (pe_bm PySem.F.plainAttrs_list PySem.F.slot_list_append PySem.F.type_list_append mt_append (pv 10) (pa_cons (pe_callO (E := fun _ _ _ => False) GV r6 (by rfl) gV kV kbV (passes_call takes0 (fun _ _ _ _ h => h)) (pk_cons (pe_int) (pk_cons (pv 7) (pk_cons (pe_ix ix_list (pv 4) (pe_int) (fun _ _ => rfl)) (pk_cons (pe_ix ix_list (pv 4) (pe_int) (fun _ _ => rfl)) (pk_nil)))))) (pa_nil))))
      (pss_one (ps_expr (pe_bm PySem.F.plainAttrs_list PySem.F.slot_list_append PySem.F.type_list_append mt_append (pv 11) (pa_cons (pe_tup (pa_cons pe_non pa_nil)) (pa_nil)))))))
      (pss_cons (ps_set (i := 10) scCase.nd rfl (Or.inl rfl) (pe_op op_cat (pv 10) (pv 4)))
      (pss_cons (ps_set (i := 11) scCase.nd rfl (Or.inl rfl) (pe_op op_cat (pv 11) (pe_lst (pa_cons (pe_call GL r5 (by rfl) gL kL bL .nil pass0 (pa_cons (pv 0) (pa_nil))) (pa_cons (pe_callTy call_list_of (by rfl) T.list bt_list (pa_cons (pv 1) (pa_nil))) (pa_nil))))))
      (pss_one (ps_ret (pe_and (pe_call GQ r7 (by rfl) gQ kQ bQ .nil pass0 (pa_cons (pv 10) (pa_cons (pv 11) (pa_nil)))) (pe_one (pe_call GM r9 (by rfl) gM kM bM .nil pass0 (pa_cons (pv 0) (pa_cons (pv 1) (pa_cons (pv 2) (pa_nil)))))))))))))))))), ?_⟩
    obtain ⟨v, ma, js, ms, rfl, dv, tm, ok, fw, full, nd, few, nn, nr, z⟩ := h
    have beg := full_beg full
    have big : ∀ {n : Nat}, n ≤ 100000 → n ≤ sizeLine := fun h => by rw [sizeLine_eq]; omega
    have hJ : ∀ {H'}, Same H H' → IsJ K H' v js := fun s => isJ_same s (isJ_of dv ok)
    have dM : Dp K H (.ref ma) (dMix ms) := .tup tm.sq (dp_vM ms)
    have hM : ∀ {H'}, Same H H' → IsM K H' (.ref ma) ms := fun s => isM_same s (isM_of dM (by omega))
    have lvm : (vM ms).length = ms.length := by unfold vM; rw [List.length_map]
    refine ⟨_, rfl, _, rfl, v, ma, js, ms, rfl, dv, tm, ok, fw, full, nd, few, fun H1 a fa ta rows kvs s1 ha hfa lr hrow hta vd => ?_⟩
    refine ⟨a, _, rfl, ha, rfl, _, _, rfl, ?_⟩
    refine ⟨_, _, rfl, rfl, ?_⟩
    dsimp only [L2.start, nCase]
    refine ⟨_, rfl, v, dJobs js, rfl, dp_same s1 dv, dep_jobs js, small_jobs ok, fun H2 u2 s2 d2 => ?_⟩
    refine ⟨_, rfl, ma, vM ms, rfl, .inr (seqT_same (s1.trans s2) tm.sq), fun lm hlm => ⟨by show 2 ≤ sizeLine; decide, fun so hso => ⟨Nat.zero_le _, fun se hse => ⟨_, _, rfl, ?_⟩⟩⟩⟩
    have sl1 := new_same (o := .lst (vM ms)) hlm
    have sl2 := new_same (o := .lst [u2, V.ref lm]) hso
    have sl3 := new_same (o := .lst []) hse
    have s25 := (sl1.trans sl2).trans sl3
    have s15 := s2.trans s25
    have ose := fresh_back ((s2.trans sl1).trans sl2) hse
    have du2 := dp_same newH_same d2
    have n2 : H2 se = none := fresh_back (sl1.trans sl2) hse
    have s2B : Same H2 (delS [se] (upd (upd (upd H2 lm (.lst (vM ms))) so (.lst [u2, V.ref lm])) se (.lst []))) := delS_of (fun a m => by rw [List.mem_singleton.mp m]; exact n2) s25
    have duB := dp_same s2B du2
    have hlmB : delS [se] (upd (upd (upd H2 lm (.lst (vM ms))) so (.lst [u2, V.ref lm])) se (.lst [])) lm = some (.lst (vM ms)) := delS_out (fun m => by rw [List.mem_singleton.mp m] at hlm; exact (ne_of_none ((new_same hso) _ _ (upd_same (H := H2) (a := lm) (o := .lst (vM ms)))) hse) (List.mem_singleton.mp m)) (sl3 _ _ (sl2 _ _ upd_same))
    have hsoB : delS [se] (upd (upd (upd H2 lm (.lst (vM ms))) so (.lst [u2, V.ref lm])) se (.lst [])) so = some (.lst [u2, V.ref lm]) := delS_out (fun m => (ne_of_none (upd_same (H := upd H2 lm (.lst (vM ms))) (a := so) (o := .lst [u2, V.ref lm])) hse) (List.mem_singleton.mp m)) (sl3 _ _ upd_same)
    have hse5 : upd (upd (upd H2 lm (.lst (vM ms))) so (.lst [u2, V.ref lm])) se (.lst []) se = some (.lst []) := upd_same
    generalize upd (upd (upd H2 lm (.lst (vM ms))) so (.lst [u2, V.ref lm])) se (.lst []) = H5 at s15 duB hlmB hsoB hse5
    clear sl1 sl2 sl3 s25 hlm hso hse d2 du2 s2 s2B n2
    have s05 := s1.trans s15
    have s1B : Same H1 (delS [se] H5) := delS_of (fun a m => by rw [List.mem_singleton.mp m]; exact ose) s15
    have nB : delS [se] H5 se = none := by unfold delS; rw [if_pos (by simp)]
    have B5 : Same (delS [se] H5) H5 := delS_same
    have hfaB := s1B _ _ hfa
    have htaB := s1B _ _ hta
    have hrowB : ∀ k v, rows[k]? = some v → RowOk K (delS [se] H5) js ms k v := fun k v h => rowOk_up s1B (hrow k v h)
    have vdB := dp_verT_up s1B vd
    have sB0 := s1.trans s1B
    clear hrow hfa hta vd
    obtain ⟨ja, xj, rfl, hsj, hxj⟩ := dp_tup_inv dv
    have lxj : xj.length = js.length := by rw [dpAll_len hxj, List.length_map]
    generalize delS [se] H5 = B at s1B nB B5 hfaB htaB hrowB vdB sB0 duB hlmB hsoB
    dsimp only
    refine seq_then (fun σ' H' => ∃ x6 x7 x8, σ' = [some (.ref ja), some (.ref ma), some (.ref fa), some (.ref ta), some (.ref so), some (.ref se), x6, x7, x8, none, none, none, none] ∧ Same B H' ∧ ∃ ys, H' se = some (.lst ys) ∧ DpAll K H' ys ((List.range js.length).map (seenQ js ms))) (fun N hN => ?_) (fun σ' H' hp => ?_)
    · refine ⟨_, rfl, ja, xj, rfl, .inr (seqT_same s05 hsj), xj.length, rfl, by have := ok.1; omega, by have := ok.1; omega, ?_⟩
      rw [Int.toNat_natCast, lxj]
      refine for_wk (wk_rng (H0 := B) 0 js.length) (fun n σ' H' => ∃ x6 x7 x8, σ' = [some (.ref ja), some (.ref ma), some (.ref fa), some (.ref ta), some (.ref so), some (.ref se), x6, x7, x8, none, none, none, none] ∧ Same B H' ∧ ∃ ys, H' se = some (.lst ys) ∧ DpAll K H' ys ((List.range n).map (seenQ js ms))) ⟨_, _, _, rfl, B5, [], hse5, .nil⟩ (fun i σ H p => p.choose_spec.choose_spec.choose_spec.2.1) (fun q x σ Ha Hb hq p sab hx => ?_) (fun σ' H' p => hN _ _ p)
      obtain ⟨x6, x7, x8, rfl, sA, ys, hys, dys⟩ := p
      rw [Int.zero_add] at hx
      subst hx
      have sBb := sA.trans sab
      have tmb : SqT K Hb ma (vM ms) := seqT_same (sB0.trans sBb) tm.sq
      have hfab := sBb _ _ hfaB
      have hrowb : ∀ k v, rows[k]? = some v → RowOk K Hb js ms k v := fun k v h => rowOk_up sBb (hrowB k v h)
      refine ⟨_, rfl, ma, vM ms, rfl, tmb, fun D hD => lc_got (K := K) (os := spotsO js ms q) (wk_enumT tmb) (by unfold spotsO; rw [List.length_map, List.length_range, lvm]) hD (fun y hy => by rw [kept_spots] at hy; obtain ⟨k, _, rfl⟩ := List.mem_map.mp hy; rw [onlyT]) (by unfold spotsO; rw [List.length_map, List.length_range, sizeLine_eq]; omega) (fun k o ho => ?_) (fun Hf pf => ?_)⟩
      · rintro x Hx N Z ⟨T, y, rfl, hT, hy⟩ sx n1 n2
        unfold vM at hy
        rw [List.getElem?_map] at hy
        cases hms : ms[k]? with
        | none => rw [hms] at hy; cases hy
        | some own =>
          rw [hms] at hy
          obtain rfl := Option.some.inj hy
          have hk : k < ms.length := (List.getElem?_eq_some_iff.mp hms).1
          have gd : ms.getD k 0 = own := by rw [List.getD_eq_getElem?_getD, hms]; rfl
          unfold spotsO at ho
          rw [List.getElem?_map, List.getElem?_range hk] at ho
          obtain rfl := Option.some.inj ho
          dsimp only at n1 n2
          rw [gd] at n1 n2
          have hvr : rows[k]? = some (rows[k]'(by rw [lr]; exact hk)) := List.getElem?_eq_getElem _
          refine ⟨T, _, rfl, SqT.of hT, rfl, _, _, rfl, ?_⟩
          refine ⟨_, _, rfl, rfl, rfl, ?_⟩
          refine rd_spot (js := js) (ms := ms) (k := k) (own := own) (j := q) rfl rfl rfl rfl (sx _ _ hfab) hvr (rowOk_up sx (hrowb k _ hvr)) fun H3 s3 => ?_
          by_cases c : (decide (own = q) && !(seenP js ms k).isEmpty) = true
          · rw [if_pos c]
            exact ⟨_, rfl, n1 _ _ _ (if_pos c) s3 (.int _)⟩
          · rw [if_neg c]
            exact n2 (if_neg c) _ s3
      obtain ⟨sf, zs, hDf, dzs⟩ := pf
      rw [kept_spots] at dzs
      obtain rfl := ints_dp dzs
      have hsef := sf _ _ (sab _ _ hys)
      refine ⟨_, rfl, .inl ⟨rfl, _, SqL.of hsef⟩, _, rfl, D, rfl, ⟨_, SqL.of hDf⟩, fun D2 hD2 => lc_got (K := K) (os := ((spotsM js ms q).map (headP js ms)).map some) (wk_list (SqL.of hDf)) (by rw [List.length_map, List.length_map, List.length_map]) hD2 (fun y hy => by
        rw [kept_somes] at hy
        obtain ⟨k, hk, rfl⟩ := List.mem_map.mp hy
        exact (spots_mem hk).2.2.1) (by
          rw [List.length_map, List.length_map, sizeLine_eq]
          unfold spotsM
          have := List.length_filter_le (fun k => decide (ms.getD k 0 = q) && !(seenP js ms k).isEmpty) (List.range ms.length)
          rw [List.length_range] at this
          omega) (fun i2 o ho => ?_) (fun Hg pg => ?_)⟩
      · intro x Hx N Z hx sx n1 n2
        rw [List.getElem?_map] at hx ho
        rw [List.getElem?_map] at ho
        cases hsp : (spotsM js ms q)[i2]? with
        | none => rw [hsp] at hx; cases hx
        | some k =>
          rw [hsp] at hx ho
          obtain rfl := Option.some.inj hx
          obtain rfl := Option.some.inj ho
          obtain ⟨hk, ne, ot, _⟩ := spots_mem (List.mem_of_getElem? hsp)
          have hvr : rows[k]? = some (rows[k]'(by rw [lr]; exact hk)) := List.getElem?_eq_getElem _
          refine ⟨rfl, ?_⟩
          unfold tYes
          dsimp only
          rw [if_pos rfl]
          exact rd_row0 (js := js) (ms := ms) (k := k) rfl rfl (sx _ _ (sf _ _ hfab)) hvr (rowOk_up (sf.trans sx) (hrowb k _ hvr)) ne fun y dy => n1 _ _ _ rfl (fun _ _ z => z) dy
      obtain ⟨sg, ws, hDg, dws⟩ := pg
      rw [kept_somes] at dws
      refine ⟨D2, ws, rfl, .inl ⟨SqL.of hDg, fun l2 hl2 => ?_⟩⟩
      have sl2 := new_same (o := .tup ws) hl2
      have sfg := (sf.trans sg).trans sl2
      have hse2 := sfg _ _ (sab _ _ hys)
      refine ⟨se, ys, _, rfl, rfl, hse2, by rw [dpAll_len dys, List.length_map, List.length_range, sizeLine_eq]; have := ok.1; omega, ?_⟩
      have dq : Dp K (upd Hg l2 (.tup ws)) (.ref l2) (seenQ js ms q) := .tup (SqT.of upd_same) (dpAll_same sl2 dws)
      refine ⟨_, _, _, rfl, same_upd nB (sBb.trans sfg), ys ++ [.ref l2], upd_same, ?_⟩
      rw [List.range_succ, List.map_append]
      exact dpAll_put (noTup_lst hse2) (dpAll_snoc (dpAll_same (sab.trans sfg) dys) dq) (onlyTs_of fun x hx => by
        rcases List.mem_append.mp hx with hx | hx
        · obtain ⟨y, _, rfl⟩ := List.mem_map.mp hx
          exact oT_seenQ js ms y
        · rw [List.mem_singleton.mp hx]
          exact oT_seenQ js ms q)
    · obtain ⟨x6, x7, x8, rfl, sA, ys, hys, dys⟩ := hp
      have dSeen : ∀ {Hx : Hp} {t1 : Addr}, DpAll K Hx ys ((List.range js.length).map (seenQ js ms)) → Hx t1 = some (.tup ys) → Dp K Hx (.ref t1) (seenD js (runM js ms)) := fun h1 h2 => by
        rw [seen_play beg]
        exact .tup (SqT.of h2) h1
      refine ⟨_, rfl, se, ys, rfl, .inl ⟨SqL.of hys, fun t1 ht1 => ?_⟩⟩
      have st1 := new_same (o := .tup ys) ht1
      have dt1 := dSeen (dpAll_same st1 dys) upd_same
      have sB1 := sA.trans st1
      generalize upd H' t1 (.tup ys) = H6 at dt1 sB1
      refine ⟨_, rfl, by show 1 ≤ sizeLine; decide, fun tw htw => ?_⟩
      have stw := new_same (o := .tup [V.str "write"]) htw
      refine ⟨.ref ja, tw, js, false, rfl, dp_same ((sB0.trans sB1).trans stw) dv, SqT.of upd_same, ok, fw, fun Hn nl sn nn' hnl => ?_⟩
      have s6n := stw.trans sn
      refine ⟨nl, rfl, ⟨_, SqL.of hnl⟩, fun D hD => lc_got (K := K) (os := ((namesM js false).map (rowP js ms)).map some) (wk_list (SqL.of hnl)) (by rw [List.length_map, List.length_map, List.length_map]) hD (fun y hy => by
        rw [kept_somes] at hy
        obtain ⟨r, _, rfl⟩ := List.mem_map.mp hy
        exact oT_rowP js ms r) (by
          rw [List.length_map, List.length_map, sizeLine_eq]
          have := names_few fw false
          omega) (fun i2 o ho => ?_) (fun Hg pg => ?_)⟩
      · intro x Hx N Z hx sx n1 n2
        rw [List.getElem?_map] at hx ho
        rw [List.getElem?_map] at ho
        cases hrx : (namesM js false)[i2]? with
        | none => rw [hrx] at hx; cases hx
        | some r =>
          rw [hrx] at hx ho
          obtain rfl := Option.some.inj hx
          obtain rfl := Option.some.inj ho
          refine ⟨rfl, ?_⟩
          unfold tYes
          dsimp only
          rw [if_pos rfl]
          have sBx := (sB1.trans s6n).trans sx
          exact rd_last (js := js) (ms := ms) rfl rfl (sBx _ _ htaB) vdB sBx (ver_ne full (List.mem_of_getElem? hrx)) fun H7 u s7 d7 => n1 _ _ _ rfl s7 d7
      obtain ⟨sg, ws, hDg, dws⟩ := pg
      rw [kept_somes] at dws
      refine ⟨D, ws, rfl, .inl ⟨SqL.of hDg, fun t2 ht2 => ⟨by show 2 ≤ sizeLine; decide, fun go hgo => ?_⟩⟩⟩
      have st2 := new_same (o := .tup ws) ht2
      have sgo := new_same (o := .tup [V.ref t1, V.ref t2]) hgo
      have s6g := ((s6n.trans sg).trans st2).trans sgo
      have dgo : Dp K (upd (upd Hg t2 (.tup ws)) go (.tup [V.ref t1, V.ref t2])) (.ref go) (outD js ms) := by
        rw [out_play beg]
        exact .tup (SqT.of upd_same) (.cons (dp_same s6g dt1) (.cons (.tup (SqT.of (sgo _ _ upd_same)) (dpAll_same (st2.trans sgo) dws)) .nil))
      have hgo8 : upd (upd Hg t2 (.tup ws)) go (.tup [V.ref t1, V.ref t2]) go = some (.tup [V.ref t1, V.ref t2]) := upd_same
      have dt8 := dp_same s6g dt1
      have sB8 := sB1.trans s6g
      generalize upd (upd Hg t2 (.tup ws)) go (.tup [V.ref t1, V.ref t2]) = H8 at dgo hgo8 dt8 sB8
      have hsoX := sB8 _ _ hsoB
      have hjX : ∀ {Hx}, Same H8 Hx → IsJ K Hx (.ref ja) js := fun s => hJ ((sB0.trans sB8).trans s)
      have hmX : ∀ {Hx}, Same H8 Hx → IsM K Hx (.ref ma) ms := fun s => hM ((sB0.trans sB8).trans s)
      have hjL : ∀ {Hx}, Same H8 Hx → IsJ K Hx u2 js := fun s => isJ_lists (dp_same (sB8.trans s) duB) ok
      have hmL : ∀ {Hx}, Same H8 Hx → IsM K Hx (.ref lm) ms := fun s => isM_list (.lst (SqL.of (s _ _ (sB8 _ _ hlmB))) (dp_vM ms)) (by omega)
      have lp : 0 < ms.length := List.length_pos_iff.mpr nn
      refine ⟨_, rfl, _, rfl, .ref ja, .ref ma, js, ms, rfl, hjX (fun _ _ z => z), hmX (fun _ _ z => z), ok, beg, by omega, fun Ha u9 s9 d9 => ?_⟩
      refine ⟨_, rfl, _, rfl, .ref ja, .ref ma, js, ms, rfl, hjX s9, hmX s9, ok, beg, by omega, fw, fun Hb u10 s10 d10 => ?_⟩
      have sab := s9.trans s10
      refine ⟨_, rfl, so, _, 1, .ref lm, rfl, rfl, SqL.of (sab _ _ hsoX), atI_nat (j := 1) rfl, _, rfl, so, _, 0, u2, rfl, rfl, SqL.of (sab _ _ hsoX), atI_nat (j := 0) rfl, u2, .ref lm, js, ms, rfl, hjL sab, hmL sab, ok, beg, by omega, fw, fun Hc u11 s11 d11 => ⟨by show 3 ≤ sizeLine; decide, fun g0 hg0 => ?_⟩⟩
      have sg0 := new_same (o := .lst [u9, u10, u11]) hg0
      have dl0 : DpAll K (upd Hc g0 (.lst [u9, u10, u11])) [u9, u10, u11] [seenD js (runM js ms), outD js ms, outD js ms] := .cons (dp_same ((s10.trans s11).trans sg0) d9) (.cons (dp_same (s11.trans sg0) d10) (.cons (dp_same sg0 d11) .nil))
      have hl0 : upd Hc g0 (.lst [u9, u10, u11]) g0 = some (.lst [u9, u10, u11]) := upd_same
      have s8g := (sab.trans s11).trans sg0
      generalize upd Hc g0 (.lst [u9, u10, u11]) = Hd at dl0 hl0 s8g
      clear s9 d9 s10 d10 sab s11 d11 sg0 hg0
      refine ⟨_, rfl, _, rfl, so, _, 1, .ref lm, rfl, rfl, SqL.of (s8g _ _ hsoX), atI_nat (j := 1) rfl, _, rfl, so, _, 0, u2, rfl, rfl, SqL.of (s8g _ _ hsoX), atI_nat (j := 0) rfl, u2, .ref lm, js, ms, rfl, hjL s8g, hmL s8g, ok, beg, by omega, fun He u12 s12 d12 => ?_⟩
      have s8e := s8g.trans s12
      refine ⟨_, rfl, so, _, 1, .ref lm, rfl, rfl, SqL.of (s8e _ _ hsoX), atI_nat (j := 1) rfl, _, rfl, so, _, 0, u2, rfl, rfl, SqL.of (s8e _ _ hsoX), atI_nat (j := 0) rfl, u2, .ref lm, js, ms, 0, rfl, hjL s8e, hmL s8e, ok, beg.1, by omega, fw, fun c => absurd ⟨by omega, by omega⟩ c, fun n en ln Hf u13 s13 d13 => ⟨by show 2 ≤ sizeLine; decide, fun t3 ht3 => ?_⟩⟩
      obtain rfl : n = 0 := by omega
      rw [held0 beg] at d13
      have st3 := new_same (o := .lst [u12, u13]) ht3
      have sdf := (s12.trans s13).trans st3
      refine ⟨g0, t3, _, _, rfl, rfl, sdf _ _ hl0, upd_same, by show 3 + 2 ≤ sizeLine; decide, fun g hg => ?_⟩
      have sg := new_same (o := .lst ([u9, u10, u11] ++ [u12, u13])) hg
      have dl1 : DpAll K (upd (upd Hf t3 (.lst [u12, u13])) g (.lst ([u9, u10, u11] ++ [u12, u13]))) ([u9, u10, u11] ++ [u12, u13]) ([seenD js (runM js ms), outD js ms, outD js ms] ++ [seenD js (runM js ms), .tuple []]) :=
        dpAll_app (dpAll_same (sdf.trans sg) dl0) (.cons (dp_same ((s13.trans st3).trans sg) d12) (.cons (dp_same (st3.trans sg) d13) .nil))
      have hl1 : upd (upd Hf t3 (.lst [u12, u13])) g (.lst ([u9, u10, u11] ++ [u12, u13])) g = some (.lst ([u9, u10, u11] ++ [u12, u13])) := upd_same
      have s8h := (s8g.trans sdf).trans sg
      have n8g := fresh_back (s8g.trans sdf) hg
      generalize upd (upd Hf t3 (.lst [u12, u13])) g (.lst ([u9, u10, u11] ++ [u12, u13])) = Hg at dl1 hl1 s8h
      clear s12 d12 s13 d13 st3 sdf dl0 hl0 ht3 hg s8e
      have hgoX := s8h _ _ hgo8
      refine ⟨_, rfl, go, _, 0, .ref t1, rfl, rfl, SqT.of hgoX, atI_nat (j := 0) rfl, _, rfl, _, rfl, _, rfl, go, _, 0, .ref t1, rfl, rfl, SqT.of hgoX, atI_nat (j := 0) rfl, Nat.zero_le _, fun te hte => ⟨by show 5 ≤ sizeLine; decide, fun e he => ?_⟩⟩
      have ste := new_same (o := .tup []) hte
      have se' := new_same (o := .lst [V.ref t1, V.ref go, V.ref go, V.ref t1, V.ref te]) he
      have n8e := fresh_back (s8h.trans ste) he
      have s8i := (s8h.trans ste).trans se'
      have ge : g ≠ e := ne_of_none (ste _ _ hl1) he
      have hg2 := (ste.trans se') _ _ hl1
      have he2 : upd (upd Hg te (.tup [])) e (.lst [V.ref t1, V.ref go, V.ref go, V.ref t1, V.ref te]) e = some (.lst [V.ref t1, V.ref go, V.ref go, V.ref t1, V.ref te]) := upd_same
      have dte : Dp K (upd (upd Hg te (.tup [])) e (.lst [V.ref t1, V.ref go, V.ref go, V.ref t1, V.ref te])) (.ref te) (.tuple []) := .tup (SqT.of (se' _ _ upd_same)) .nil
      have dl1' := dpAll_same (ste.trans se') dl1
      generalize upd (upd Hg te (.tup [])) e (.lst [V.ref t1, V.ref go, V.ref go, V.ref t1, V.ref te]) = Hi at dl1' hg2 he2 dte s8i
      clear ste se' hte he hl1 dl1 s8h hgoX
      have o1 := oT_seenD beg
      have o2 := oT_outD beg
      have o3 : onlyT (.tuple []) = true := by rw [onlyT, onlyTs]
      have ts : TS0 K Hi (delS [g, e] Hi) := ts_delS fun a m => by
        rcases List.mem_cons.mp m with rfl | m
        · exact noTup_lst hg2
        · rw [List.mem_singleton.mp m]; exact noTup_lst he2
      have dg8 := dp_same s8i dgo
      have d18 := dp_same s8i dt8
      have gd : GD K g e [seenD js (runM js ms), outD js ms, outD js ms, seenD js (runM js ms), .tuple []] [seenD js (runM js ms), outD js ms, outD js ms, seenD js (runM js ms), .tuple []] Hi := ⟨ge,
        ⟨_, hg2, dpAll_ts ts dl1' (by simp [onlyTs, o1, o2, o3])⟩,
        ⟨_, he2, dpAll_ts ts (.cons d18 (.cons dg8 (.cons dg8 (.cons d18 (.cons dte .nil))))) (by simp [onlyTs, o1, o2, o3])⟩⟩
      have okd : ∀ x ∈ [seenD js (runM js ms), outD js ms, outD js ms, seenD js (runM js ms), .tuple []], x.depth ≤ 4 ∧ small x := fun x hx => by
        obtain ⟨a1, a2⟩ := ok_seenD ok beg few
        obtain ⟨b1, b2⟩ := ok_outD ok fw beg few
        simp only [List.mem_cons, List.mem_nil_iff, or_false] at hx
        rcases hx with rfl | rfl | rfl | rfl | rfl
        · exact ⟨by omega, a2⟩
        · exact ⟨by omega, b2⟩
        · exact ⟨by omega, b2⟩
        · exact ⟨by omega, a2⟩
        · exact ⟨by decide +kernel, by simp [small, smallAll]⟩
      have ld : [seenD js (runM js ms), outD js ms, outD js ms, seenD js (runM js ms), .tuple []].length = 5 := rfl
      generalize [seenD js (runM js ms), outD js ms, outD js ms, seenD js (runM js ms), .tuple []] = dg at gd okd ld
      clear dl1' hg2 he2 dte ts dg8 d18
      dsimp only
      refine seq_then (fun σ' H' => ∃ x7 dq, σ' = [some (.ref ja), some (.ref ma), some (.ref fa), some (.ref ta), some (.ref so), some (.ref se), x6, x7, x8, some (.ref go), some (.ref g), some (.ref e), none] ∧ Same H8 H' ∧ GD K g e dq dq H' ∧ (∀ x ∈ dq, x.depth ≤ 4 ∧ small x) ∧ dq.length ≤ 6) (fun N hN => ?_) (fun σ' H' hp => ?_)
      · refine ⟨_, rfl, by show 2 ≤ sizeLine; decide, fun tw2 htw2 => ?_⟩
        have stw2 := new_same (o := .tup [V.str "read", V.str "write"]) htw2
        refine ⟨.ref ja, tw2, js, true, rfl, dp_same ((sB0.trans (sB8.trans s8i)).trans stw2) dv, SqT.of upd_same, ok, fw, fun Hn2 nl2 sn2 nn2 hnl2 => ⟨1, rfl, nl2, _, rfl, SqL.of hnl2, fun p2 hp2 => ?_⟩⟩
        rw [namesM_all] at hnl2 ⊢
        rw [show (1 : Int) = ((1 : Nat) : Int) from rfl, cut_take, ← List.map_take]
        have sp2 := new_same (o := .lst (((rowsM js).take 1).map V.str)) hp2
        have sin := (stw2.trans sn2).trans sp2
        have s8n := s8i.trans sin
        have gdn := gd.up sin
        have np2 := new_out (fresh_back (stw2.trans sn2) hp2) gd.dne
        have hp3 : upd Hn2 p2 (.lst (((rowsM js).take 1).map V.str)) p2 = some (.lst (((rowsM js).take 1).map V.str)) := upd_same
        generalize upd Hn2 p2 (.lst (((rowsM js).take 1).map V.str)) = Hk at gdn s8n hp3
        have hpB := delS_out np2 hp3
        have s8B : Same H8 (delS [g, e] Hk) := delS_of (fun a m => by
          rcases List.mem_cons.mp m with rfl | m
          · exact n8g
          · rw [List.mem_singleton.mp m]; exact n8e) s8n
        have sBk : Same (delS [g, e] Hk) Hk := delS_same
        have ng0 : delS [g, e] Hk g = none := by unfold delS; rw [if_pos (by simp)]
        have ne0 : delS [g, e] Hk e = none := by unfold delS; rw [if_pos (by simp)]
        generalize delS [g, e] Hk = B0 at hpB s8B sBk ng0 ne0
        refine ⟨p2, rfl, ⟨_, SqL.of hp3⟩, for_wk (wk_list (K := K) (SqL.of hpB)) (fun n σ' H' => ∃ x7, σ' = [some (.ref ja), some (.ref ma), some (.ref fa), some (.ref ta), some (.ref so), some (.ref se), x6, x7, x8, some (.ref go), some (.ref g), some (.ref e), none] ∧ Same B0 H' ∧ GD K g e (dg ++ List.replicate n (.tuple [.none])) (dg ++ List.replicate n (.tuple [.none])) H') ⟨x7, rfl, sBk, by simpa using gdn⟩ (fun i σ H p => p.choose_spec.2.1) (fun i x σ Ha Hb hi p sab hx => ?_) (fun σ' H' p => ?_)⟩
        · obtain ⟨x7, rfl, sA2, gd2⟩ := p
          rw [List.getElem?_map] at hx
          cases hrx : ((rowsM js).take 1)[i]? with
          | none => rw [hrx] at hx; cases hx
          | some r =>
            rw [hrx] at hx
            obtain rfl := Option.some.inj hx
            have rm : r ∈ rowsM js := List.mem_of_mem_take (List.mem_of_getElem? hrx)
            have ra : r ∈ allRows js := mem_ascS.mp rm
            have i1 : i < 1 := by
              rw [List.length_map, List.length_take] at hi
              omega
            rw [List.replicate_succ', ← List.append_assoc]
            have ldq : (dg ++ List.replicate i (PyData.tuple [.none])).length ≤ 6 := by
              rw [List.length_append, List.length_replicate]
              omega
            generalize dg ++ List.replicate i (PyData.tuple [.none]) = dq at gd2 ldq ⊢
            have sBb := sA2.trans sab
            have gb := gd2.up sab
            obtain ⟨xg, hxg, dxg⟩ := gb.lg
            have s8b := s8B.trans sBb
            have hsob := s8b _ _ hsoX
            refine ⟨_, rfl, .inl ⟨rfl, _, SqL.of hxg⟩, _, rfl, _, rfl, so, _, 1, .ref lm, rfl, rfl, SqL.of hsob, atI_nat (j := 1) rfl, _, rfl, so, _, 0, u2, rfl, rfl, SqL.of hsob, atI_nat (j := 0) rfl, u2, .ref lm, js, ms, r, 0, rfl, hjL s8b, hmL s8b, ok, beg.1, by omega, strOk_row ok rm, fun c => absurd ⟨by omega, by omega⟩ c, fun _ c => absurd ra c, fun _ _ Hv uv sv dv' => ?_⟩
            have dv2 : Dp K Hv uv (.tuple [.none]) := by
              have := vers0 (js := js) (ms := ms) beg r
              rw [← this]
              exact dv'
            have ot0 : onlyT (.tuple [.none]) = true := by simp [onlyT, onlyTs]
            have hgv := sv _ _ hxg
            have gdf := (gb.up sv).app hgv (FrD.away (H := Hb) (.inr ⟨ot0, dv2⟩) sv gb.both)
            refine ⟨g, xg, _, rfl, rfl, hgv, by rw [dpAll_len dxg, sizeLine_eq]; omega, ?_⟩
            have s8 := same_upd (o := .lst (xg ++ [uv])) ng0 (sBb.trans sv)
            generalize upd Hv g (.lst (xg ++ [uv])) = Hw at gdf s8
            obtain ⟨xe, hxe, dxe⟩ := gdf.swap.lg
            refine ⟨_, rfl, .inl ⟨rfl, _, SqL.of hxe⟩, by show 1 ≤ sizeLine; decide, fun tn htn => ?_⟩
            have stn := new_same (o := .tup [V.non]) htn
            have hen := stn _ _ hxe
            have ap : Dp K (delS [e, g] (upd Hw tn (.tup [V.non]))) (.ref tn) (.tuple [.none]) := .tup (SqT.of (delS_out (new_out htn gdf.swap.dne) upd_same)) (.cons .non .nil)
            refine ⟨e, xe, _, rfl, rfl, hen, by rw [dpAll_len dxe, sizeLine_eq]; omega, ?_⟩
            exact ⟨_, rfl, same_upd ne0 (s8.trans stn), ((gdf.up stn).swap.app hen ap).swap⟩
        · obtain ⟨x7, rfl, sA2, gd2⟩ := p
          refine hN _ _ ⟨x7, _, rfl, s8B.trans sA2, gd2, fun x hx => ?_, ?_⟩
          · rcases List.mem_append.mp hx with hx | hx
            · exact okd x hx
            · rw [List.eq_of_mem_replicate hx]
              exact ⟨by decide +kernel, by simp [small, smallAll]⟩
          · rw [List.length_append, List.length_replicate, List.length_map, List.length_take]
            omega
      · obtain ⟨x7, dq, rfl, s8j, gdj, okq, lq⟩ := hp
        have s8D : Same H8 (delS [g, e] H') := delS_of (fun a m => by
          rcases List.mem_cons.mp m with rfl | m
          · exact n8g
          · rw [List.mem_singleton.mp m]; exact n8e) s8j
        obtain ⟨xg, hxg, dxg⟩ := gdj.lg
        have hsoj := s8j _ _ hsoX
        have a1 : Dp K (delS [g, e] H') u2 (lstD (dJobs js)) := dp_same (sB8.trans s8D) duB
        have a2 : Dp K (delS [g, e] H') (.ref lm) (dMixL ms) := .lst (SqL.of (s8D _ _ (sB8 _ _ hlmB))) (dp_vM ms)
        refine ⟨_, rfl, _, rfl, g, so, xg, _, rfl, rfl, hxg, hsoj, by rw [dpAll_len dxg, sizeLine_eq]; show _ + 2 ≤ _; omega, fun g' hg' => ?_⟩
        have gdk := gdj.cat hxg (.cons a1 (.cons a2 .nil)) hg'
        have sg' := new_same (o := .lst (xg ++ [u2, V.ref lm])) hg'
        have s8k := s8j.trans sg'
        generalize upd H' g' (.lst (xg ++ [u2, V.ref lm])) = Hk at gdk s8k
        obtain ⟨xe, hxe, dxe⟩ := gdk.swap.lg
        refine ⟨_, rfl, _, rfl, .ref ja, dJobs js, rfl, dp_same (sB0.trans (sB8.trans s8k)) dv, dep_jobs js, small_jobs ok, fun Hl ul sl dl => ?_⟩
        refine ⟨_, rfl, ma, vM ms, rfl, .inr (seqT_same ((sB0.trans (sB8.trans s8k)).trans sl) tm.sq), fun l2 hl2 => ⟨by show 2 ≤ sizeLine; decide, fun t4 ht4 => ?_⟩⟩
        have sl2 := new_same (o := .lst (vM ms)) hl2
        have st4 := new_same (o := .lst [ul, V.ref l2]) ht4
        have sall := (sl.trans sl2).trans st4
        have hea := sall _ _ hxe
        have gda := (gdk.up sall).swap
        have b1 : Dp K (delS [e, g'] (upd (upd Hl l2 (.lst (vM ms))) t4 (.lst [ul, V.ref l2]))) ul (lstD (dJobs js)) := dp_same (delS_mono (sl2.trans st4)) (FrD.away (.inl dl) sl gdk.swap.both)
        have b2 : Dp K (delS [e, g'] (upd (upd Hl l2 (.lst (vM ms))) t4 (.lst [ul, V.ref l2]))) (.ref l2) (dMixL ms) := .lst (SqL.of (delS_out (new_out (fresh_back sl hl2) gdk.swap.dne) (st4 _ _ upd_same))) (dp_vM ms)
        refine ⟨e, t4, xe, _, rfl, rfl, hea, upd_same, by rw [dpAll_len dxe, sizeLine_eq]; show _ + 2 ≤ _; omega, fun e' he' => ?_⟩
        have gdl := gda.cat hea (.cons b1 (.cons b2 .nil)) he'
        have se' := new_same (o := .lst (xe ++ [ul, V.ref l2])) he'
        have s8z := (s8k.trans sall).trans se'
        generalize upd (upd (upd Hl l2 (.lst (vM ms))) t4 (.lst [ul, V.ref l2])) e' (.lst (xe ++ [ul, V.ref l2])) = Hz at gdl s8z
        obtain ⟨ye, hye, dye⟩ := gdl.lg
        obtain ⟨yg, hyg, dyg⟩ := gdl.le
        refine ⟨_, rfl, _, rfl, .ref g', .ref e', .list (dq ++ [lstD (dJobs js), dMixL ms]), rfl, .lst (SqL.of hyg) (dpAll_same delS_same dyg), .lst (SqL.of hye) (dpAll_same delS_same dye), ?_, ?_, fun Hx sx => ⟨true, rfl, iteT ?_⟩⟩
        · rw [PyData.depth]
          refine Nat.le_trans (Nat.succ_le_succ (depth_all (n := 4) fun x hx => ?_)) (by decide)
          rcases List.mem_append.mp hx with hx | hx
          · exact (okq x hx).1
          · rcases List.mem_cons.mp hx with rfl | hx
            · rw [dep_lstD]; exact dep_jobs js
            · rw [List.mem_singleton.mp hx]
              exact Nat.le_trans (dep_mixL ms) (by decide)
        · rw [small, List.length_append]
          refine ⟨by show _ + 2 ≤ _; omega, small_all fun x hx => ?_⟩
          rcases List.mem_append.mp hx with hx | hx
          · exact (okq x hx).2
          · rcases List.mem_cons.mp hx with rfl | hx
            · exact small_lstD _ (small_jobs ok)
            · rw [List.mem_singleton.mp hx]
              exact small_mixL (by omega)
        · have sBx := sB8.trans (s8z.trans sx)
          exact ⟨_, rfl, _, rfl, _, rfl, .ref ja, ma, fa, js, ms, rows, rfl, dp_same (sB0.trans sBx) dv, tm.same (sB0.trans sBx), ok, fw, full, few, nn, nr, sBx _ _ hfaB, lr, fun k v h => rowOk_up sBx (hrowB k v h), fun Hy sy => z _ ((sB0.trans sBx).trans sy)⟩
end
end Kz

namespace Kz
open PySem PySem.Spec PyProof.Rows L2
/-! ### tuples of tuples written out, with names in them -/
inductive Lt
  | v (i : Nat)
  | n
  | b (k : Bool)
  | i (k : Int)
  | s (x : Str)
  | t (xs : List Lt)
mutual
def tLt : Lt → TE
  | .v i => tVar i
  | .n => tC .non
  | .b k => tC (.bl k)
  | .i k => tC (.int k)
  | .s x => tC (.str x)
  | .t xs => tTup (tLts xs)
def tLts : List Lt → TA
  | [] => tNil
  | x :: r => tCons (tLt x) (tLts r)
end
mutual
def dLt (ρ : Nat → PyData) : Lt → PyData
  | .v i => ρ i
  | .n => .none
  | .b k => .bool k
  | .i k => .int k
  | .s x => .str x
  | .t xs => .tuple (dLts ρ xs)
def dLts (ρ : Nat → PyData) : List Lt → List PyData
  | [] => []
  | x :: r => dLt ρ x :: dLts ρ r
end
mutual
def okLt (K : PySem.W.Frag) (ρ : Nat → PyData) (σ : L2.St) (H : Hp) : Lt → Prop
  | .v i => ∃ w, σ[i]? = some (some w) ∧ Dp K H w (ρ i)
  | .t xs => xs.length ≤ 1000 ∧ okLts K ρ σ H xs
  | _ => True
def okLts (K : PySem.W.Frag) (ρ : Nat → PyData) (σ : L2.St) (H : Hp) : List Lt → Prop
  | [] => True
  | x :: r => okLt K ρ σ H x ∧ okLts K ρ σ H r
end
theorem dLts_len (ρ : Nat → PyData) : ∀ xs : List Lt, (dLts ρ xs).length = xs.length
  | [] => by rw [dLts]; rfl
  | x :: r => by rw [dLts, List.length_cons, List.length_cons, dLts_len ρ r]
section
variable {K : PySem.W.Frag} {ρ : Nat → PyData} {σ : L2.St}
mutual
theorem okLt_up {H H' : Hp} (s : Same H H') : ∀ (x : Lt), okLt K ρ σ H x → okLt K ρ σ H' x
  | .v i, h => by
    rw [okLt] at h ⊢
    obtain ⟨w, e, d⟩ := h
    exact ⟨w, e, dp_same s d⟩
  | .t xs, h => by
    rw [okLt] at h ⊢
    exact ⟨h.1, okLts_up s xs h.2⟩
  | .n, _ => by simp [okLt]
  | .b _, _ => by simp [okLt]
  | .i _, _ => by simp [okLt]
  | .s _, _ => by simp [okLt]
theorem okLts_up {H H' : Hp} (s : Same H H') : ∀ (xs : List Lt), okLts K ρ σ H xs → okLts K ρ σ H' xs
  | [], _ => by rw [okLts]; trivial
  | x :: r, h => by
    rw [okLts] at h ⊢
    exact ⟨okLt_up s x h.1, okLts_up s r h.2⟩
end
mutual
theorem rd_lt : ∀ (x : Lt) {H : Hp} {Q : VK}, okLt K ρ σ H x → (∀ H' u, Same H H' → Dp K H' u (dLt ρ x) → Q u H') → tLt x σ H Q
  | .v i, H, Q, h, q => by
    rw [okLt] at h
    obtain ⟨w, e, d⟩ := h
    rw [tLt]
    rw [dLt] at q
    exact ⟨w, e, q H w (fun _ _ z => z) d⟩
  | .n, H, Q, _, q => by rw [tLt]; rw [dLt] at q; exact q H _ (fun _ _ z => z) .non
  | .b k, H, Q, _, q => by rw [tLt]; rw [dLt] at q; exact q H _ (fun _ _ z => z) (.bl k)
  | .i k, H, Q, _, q => by rw [tLt]; rw [dLt] at q; exact q H _ (fun _ _ z => z) (.int k)
  | .s x, H, Q, _, q => by rw [tLt]; rw [dLt] at q; exact q H _ (fun _ _ z => z) (.str x)
  | .t xs, H, Q, h, q => by
    rw [okLt] at h
    rw [tLt]
    rw [dLt] at q
    refine rd_lts xs h.2 fun H1 us s1 ds => ?_
    have l : us.length = xs.length := by rw [dpAll_len ds, dLts_len]
    refine ⟨by rw [l, sizeLine_eq]; omega, fun p hp => ?_⟩
    have sp := new_same (o := .tup us) hp
    exact q _ _ (s1.trans sp) (.tup (SqT.of upd_same) (dpAll_same sp ds))
theorem rd_lts : ∀ (xs : List Lt) {H : Hp} {Q : List V → Hp → Prop}, okLts K ρ σ H xs → (∀ H' us, Same H H' → DpAll K H' us (dLts ρ xs) → Q us H') → tLts xs σ H Q
  | [], H, Q, _, q => by rw [tLts]; rw [dLts] at q; exact q H [] (fun _ _ z => z) .nil
  | x :: r, H, Q, h, q => by
    rw [okLts] at h
    rw [tLts]
    rw [dLts] at q
    refine rd_lt x h.1 fun H1 u s1 d1 => ?_
    refine rd_lts r (okLts_up s1 r h.2) fun H2 us s2 ds => ?_
    exact q H2 (u :: us) (s1.trans s2) (.cons (dp_same s2 d1) ds)
end
/-- a list of such -/
theorem rd_ltl (xs : List Lt) {H : Hp} {Q : VK} (h : okLts K ρ σ H xs) (few : xs.length ≤ 1000) (ot : onlyTs (dLts ρ xs) = true) (q : ∀ H' u, Same H H' → (∀ S : List Addr, (∀ a ∈ S, ∃ zs, H a = some (.lst zs)) → Dp K (delS S H') u (.list (dLts ρ xs))) → (∃ a, u = .ref a ∧ ∃ zs, H' a = some (.lst zs) ∧ H a = none) → Q u H') : tLst (tLts xs) σ H Q := by
  refine rd_lts xs h fun H1 us s1 ds => ?_
  have l : us.length = xs.length := by rw [dpAll_len ds, dLts_len]
  refine ⟨by rw [l, sizeLine_eq]; omega, fun p hp => ?_⟩
  have sp := new_same (o := .lst us) hp
  refine q _ _ (s1.trans sp) (fun S hS => ?_) ⟨p, rfl, us, upd_same, fresh_back s1 hp⟩
  have np : p ∉ S := fun m => by
    obtain ⟨zs, e⟩ := hS p m
    rw [s1 _ _ e] at hp
    cases hp
  refine .lst (SqL.of (delS_out np upd_same)) ?_
  exact dpAll_ts (ts_delS fun a m => by obtain ⟨zs, e⟩ := hS a m; exact noTup_lst (sp _ _ (s1 _ _ e))) (dpAll_same sp ds) ot
end
end Kz

namespace Kt
open PySem PySem.Spec PyProof.Rows L2
/-! ### sum of tuples, from a tuple on -/
/-- a tuple that was there, or a new one -/
def TT (old : Addr → List Value → Prop) (no : Addr → Prop) (h : Heap) (t : Addr) (its : List Value) : Prop := old t its ∨ (no t ∧ h.get? t = some { cls := .type "tuple", data := .seq its.toArray })
theorem addT {P : Program} {w : World} {A : Around} {E : Value → Shared → Prop} {s : Shared} {t b : Addr} {vs ws : List Value} {Q : Value → Shared → Prop} (ht : IsTup s.heap t vs.toArray) (hb : IsTup s.heap b ws.toArray) (sz : vs.length + ws.length ≤ sizeLine)
    (q : ∀ (h1 : Heap) (r : Addr), (∀ b o, s.heap.get? b = some o → h1.get? b = some o) → (r = t ∧ ws = [] ∨ r = b ∧ vs = [] ∨ (s.heap.objs.size ≤ r ∧ h1.get? r = some { cls := .type "tuple", data := .seq (vs ++ ws).toArray })) → Q (.ref r) { s with heap := h1 }) : wpAny (model P w) A (binaryOp .Add (.ref t) (.ref b)) Q E s := by
  by_cases e : vs = []
  · subst e
    exact cat_tup0 ht hb (q s.heap b (fun _ _ z => z) (.inr (.inl ⟨rfl, rfl⟩)))
  · refine HT.cat_tup ht hb e (fun w0 => q s.heap t (fun _ _ z => z) (.inl ⟨rfl, w0⟩)) (fun _ => q _ _ (fun b o z => Heap.get?_push_of_some _ z) (.inr (.inr ⟨Nat.le_refl _, Heap.get?_push_size _ rfl⟩))) sz
section
variable {P : Program} {w : World} {A : Around} {I : Addr} {fp wr : List Addr} {G : Array GenState → Array GenState → Prop} {n : Nat} {Pv : Nat → Value → Prop} {St : Nat → Shared → Prop} {R : Result → Shared → Prop}
theorem sumT_loop (W : WalksS P w A.in1 I fp wr G n Pv St) (S : Addr) (out : S ∉ fp) (wrl : ∀ i s, St i s → ∀ b ∈ wr, b < s.heap.objs.size) (ls : List (List Value)) (en : ls.length = n) (h0 : Heap) (nS : ∀ b ∈ S :: wr, h0.get? b = none) (hS0 : h0.objs.size ≤ S) (st0 : List Value) (bd : (st0 ++ ls.flatten).length ≤ sizeLine)
    (old : Addr → List Value → Prop) (oldT : ∀ t its, old t its → IsTup h0 t its.toArray) (val : ∀ i v, Pv i v → ∃ b its, v = Value.ref b ∧ ls[i]? = some its ∧ old b its) : ∀ (m i : Nat) (s : Shared) (t : Addr) (c : Nat), m + i = n → St i s → (∀ b o, h0.get? b = some o → s.heap.get? b = some o) →
      s.heap.get? S = some (lob [.ref t] c) → TT old (fun t => t ∉ S :: wr ∧ h0.objs.size ≤ t) s.heap t (st0 ++ (ls.take i).flatten) →
      (∀ s' t', Moved (S :: wr) G s s' → TT old (fun t => t ∉ S :: wr ∧ h0.objs.size ≤ t) s'.heap t' (st0 ++ ls.flatten) → R (.ok (.ret (.ref t'))) s') →
      codeAny (model P w) A (Code.builtin "sum.loop" ⟨[.ref I, .ref S, rawInt 2, rawInt 0], []⟩) R s := by
  have nw : S ∉ wr := fun q => out (W.sub S q)
  have up : ∀ b ∈ wr, b ∈ S :: wr := fun _ q => List.mem_cons_of_mem S q
  have isT : ∀ {s : Shared} {t : Addr} {its : List Value}, (∀ b o, h0.get? b = some o → s.heap.get? b = some o) → TT old (fun t => t ∉ S :: wr ∧ h0.objs.size ≤ t) s.heap t its → IsTup s.heap t its.toArray := fun {s t its} k q => by
    rcases q with q | ⟨_, q⟩
    · obtain ⟨o, ho, hc, hd⟩ := oldT t its q
      exact ⟨o, k _ _ ho, hc, hd⟩
    · exact ⟨_, q, rfl, 0, rfl⟩
  have keepT : ∀ {h h' : Heap} {t : Addr} {its : List Value}, (∀ b o, b ∉ S :: wr → h.get? b = some o → h'.get? b = some o) → TT old (fun t => t ∉ S :: wr ∧ h0.objs.size ≤ t) h t its → TT old (fun t => t ∉ S :: wr ∧ h0.objs.size ≤ t) h' t its := fun {h h' t its} k q => by
    rcases q with q | ⟨z, q⟩
    · exact .inl q
    · exact .inr ⟨z, k _ _ z.1 q⟩
  intro m
  induction m with
  | zero =>
    intro i s t c ei st k0 eS et fin
    have ei' : i = n := by omega
    subst ei'
    apply codeAny_builtin PySem.F.entry_sum_loop
    rw [Around.under_plainId PySem.F.plain_sum_loop]
    show wpAny _ A.in1 (seqItems? (.ref S) >>= _) _ _ s
    apply wpAny_bind
    apply wpAny_seqItems eS rfl
    show wpAny _ A.in1 (tryCatch (pyNext (.ref I)) _ >>= _) _ _ s
    apply wpAny_bind
    apply wpAny_tryCatch
    apply W.done s _ _ st
    intro s' mv
    refine wpAny_pure (fin s' t (mv.mono up) ?_)
    rw [← en, List.take_length] at et
    exact keepT (fun b o nb q => mv.heap b o (fun z => nb (up b z)) q) et
  | succ m ih =>
    intro i s t c ei st k0 eS et fin
    apply codeAny_builtin PySem.F.entry_sum_loop
    rw [Around.under_plainId PySem.F.plain_sum_loop]
    show wpAny _ A.in1 (seqItems? (.ref S) >>= _) _ _ s
    apply wpAny_bind
    apply wpAny_seqItems eS rfl
    show wpAny _ A.in1 (tryCatch (pyNext (.ref I)) _ >>= _) _ _ s
    apply wpAny_bind
    apply wpAny_tryCatch
    apply W.item i s _ _ (by omega) st
    intro v s' pv st' mv
    obtain ⟨b, its, rfl, hl, hb⟩ := val i v pv
    have eS' := mv.heap S _ nw eS
    have k0' : ∀ b o, h0.get? b = some o → s'.heap.get? b = some o := fun b o q => by
      have nb2 : b ∉ S :: wr := fun z => by have := nS b z; rw [q] at this; cases this
      exact mv.heap b o (fun z => nb2 (up b z)) (k0 b o q)
    have et' : TT old (fun t => t ∉ S :: wr ∧ h0.objs.size ≤ t) s'.heap t (st0 ++ (ls.take i).flatten) := keepT (fun b o nb q => mv.heap b o (fun z => nb (up b z)) q) et
    have it' := isT (s := s') k0' et'
    have ib' : IsTup s'.heap b its.toArray := isT (s := s') k0' (.inl hb)
    have tk : st0 ++ (ls.take (i + 1)).flatten = (st0 ++ (ls.take i).flatten) ++ its := by rw [List.take_add_one, hl, Option.toList_some, List.flatten_append]; simp
    have sz : ((st0 ++ (ls.take i).flatten) ++ its).length ≤ sizeLine := by
      rw [← tk]
      refine Nat.le_trans ?_ bd
      have q : ls.flatten = (ls.take (i + 1)).flatten ++ (ls.drop (i + 1)).flatten := by rw [← List.flatten_append, List.take_append_drop]
      rw [q]
      simp only [List.length_append]
      omega
    show wpAny _ A.in1 ((holding [Value.ref b] (binaryOp .Add (.ref t) (.ref b))).attempt >>= _) _ _ _
    apply wpAny_bind
    apply wpAny_attempt
    apply wpAny_holding
    refine addT it' ib' (by rw [← List.length_append]; exact sz) fun h1 r k1 hr => ?_
    have tr : TT old (fun t => t ∉ S :: wr ∧ h0.objs.size ≤ t) h1 r (st0 ++ (ls.take (i + 1)).flatten) := by
      rw [tk]
      rcases hr with ⟨rfl, e⟩ | ⟨rfl, e⟩ | ⟨lr, hr⟩
      · rw [e, List.append_nil]
        exact keepT (fun b o _ q => k1 b o q) et'
      · rw [e, List.nil_append]
        exact .inl hb
      · have lS : S < r := Nat.lt_of_lt_of_le (Heap.lt_size eS') lr
        refine .inr ⟨⟨fun q => ?_, Nat.le_of_lt (Nat.lt_of_le_of_lt hS0 lS)⟩, hr⟩
        rcases List.mem_cons.mp q with q | q
        · exact Nat.ne_of_gt lS q
        · exact Nat.lt_irrefl _ (Nat.lt_of_lt_of_le (wrl _ s' st' r q) lr)
    have eS1 := k1 _ _ eS'
    show wpAny _ A.in1 (updateSeq S (fun _ => #[Value.ref r]) >>= _) _ _ _
    apply wpAny_bind
    apply wpAny_updateSeq (s := { s' with heap := h1 }) eS1 rfl
    have eS2 : (h1.update S (Obj.mapSeq fun _ => #[Value.ref r])).get? S = _ := Heap.get?_update_self _ eS1 rfl
    apply wpAny_bind
    apply wpAny_letGo
    apply wpAny_bind
    apply wpAny_updateSeq (s := { s' with heap := h1.update S (Obj.mapSeq fun _ => #[Value.ref r]) }) eS2 rfl
    have eS3 : ((h1.update S (Obj.mapSeq fun _ => #[Value.ref r])).update S (Obj.mapSeq fun _ => #[Value.ref r])).get? S = _ := Heap.get?_update_self _ eS2 rfl
    have ot1 : ∀ b o, b ≠ S → h1.get? b = some o → ((h1.update S (Obj.mapSeq fun _ => #[Value.ref r])).update S (Obj.mapSeq fun _ => #[Value.ref r])).get? b = some o := fun b o ne q =>
      (Heap.get?_update_other _ _ (Ne.symm ne)).trans ((Heap.get?_update_other _ _ (Ne.symm ne)).trans q)
    have ot : ∀ b o, b ≠ S → s'.heap.get? b = some o → ((h1.update S (Obj.mapSeq fun _ => #[Value.ref r])).update S (Obj.mapSeq fun _ => #[Value.ref r])).get? b = some o := fun b o ne q => ot1 b o ne (k1 _ _ q)
    refine wpAny_pure ⟨plainId_quiet PySem.F.plain_sum_loop _, ih (i + 1) _ r _ (by omega) (W.frame _ s' _ _ st' (Nat.le_refl _) fun b hb o q => ot b o (fun z => out (z ▸ hb)) q) (fun b o q => ?_) eS3 (keepT (fun b o nb q => ot1 b o (fun z => nb (z ▸ List.mem_cons_self)) q) tr) fun s2 t2 mv2 e2 => ?_⟩
    · have nb2 : b ∉ S :: wr := fun z => by have := nS b z; rw [q] at this; cases this
      exact ot b o (fun z => nb2 (z ▸ List.mem_cons_self)) (k0' b o q)
    · exact fin s2 t2 (Moved.trans W.gtrans ((mv.mono up).then_heap (Nat.le_refl _) fun b o nb q => ot b o (fun z => nb (z ▸ List.mem_cons_self)) q) mv2) e2
end
section
variable {P : Program} {w : World} {A : Around} {E : Value → Shared → Prop} {s : Shared}
theorem t_no_bytes : isSubtype (.type "tuple") (.type "bytes") = pure false := by
  rw [isSubtype_type]
  kernel_rfl
theorem t_no_bytearray : isSubtype (.type "tuple") (.type "bytearray") = pure false := by
  rw [isSubtype_type]
  kernel_rfl
theorem t_no_str : isSubtype (.type "tuple") (.type "str") = pure false := by
  rw [isSubtype_type]
  kernel_rfl
theorem call_sumT {p q : Addr} {bs : List Addr} {ls : List (List Value)} {st0 : List Value} {cp : Nat} {Z : Value → Shared → Prop} (hh : A.handled = none) (old : Addr → List Value → Prop) (oldT : ∀ t its, old t its → IsTup s.heap t its.toArray) (hp : s.heap.get? p = some (lob (bs.map Value.ref) cp)) (hq : old q st0) (len : bs.length = ls.length)
    (val : ∀ (i : Nat) b, bs[i]? = some b → ∃ its, ls[i]? = some its ∧ old b its) (bd : (st0 ++ ls.flatten).length ≤ sizeLine)
    (z : ∀ (h' : Heap) (tk : Nat) (t : Addr), (∀ b o, s.heap.get? b = some o → h'.get? b = some o) → (old t (st0 ++ ls.flatten) ∨ (s.heap.objs.size ≤ t ∧ h'.get? t = some { cls := .type "tuple", data := .seq (st0 ++ ls.flatten).toArray })) → Z (.ref t) { s with heap := h', toks := tk }) :
    wpAny (model P w) A (call (.builtin "sum") [.ref p, .ref q]) Z E s := by
  obtain ⟨oq, hoq, hcq, _⟩ := oldT q st0 hq
  refine call_function_tree PySem.F.kind_sum PySem.F.plain_sum PySem.F.entry_sum (args_sum2 _ _) ?_
  unfold Builtin.«sum»
  simp only [List.length_cons, List.length_nil]
  rw [if_neg (by decide)]
  refine wpAny_bind (wpAny_of_eq (show Builtin.Builtins.bindParams "sum" ["start"] 0 ⟨[.ref q], []⟩ = pure [some (.ref q)] from rfl) ?_)
  apply wpAny_bind
  have ip : s.heap.IsList p (bs.map Value.ref).toArray := ⟨_, hp, rfl, cp, rfl⟩
  apply wpAny_pyIter_list ip
  apply wpAny_bind
  apply wpAny_pure
  simp only [List.forIn_cons, List.forIn_nil]
  have tq : Shared.TypeIs { s with heap := s.heap.push { cls := .type "list_iterator", data := .fields #[.ref p, .int 0 0] } } (.ref q) "tuple" := ⟨_, Heap.get?_push_of_some _ hoq, hcq⟩
  refine wpAny_bind (wpAny_bind (wpAny_bind (wpAny_isInstance (T := "tuple") (b := false) tq t_no_str ?_)))
  simp only [Bool.false_eq_true, if_false]
  refine wpAny_pure (wpAny_bind (wpAny_bind (wpAny_isInstance (T := "tuple") (b := false) tq t_no_bytes ?_)))
  simp only [Bool.false_eq_true, if_false]
  refine wpAny_pure (wpAny_bind (wpAny_bind (wpAny_isInstance (T := "tuple") (b := false) tq t_no_bytearray ?_)))
  simp only [Bool.false_eq_true, if_false]
  refine wpAny_pure (wpAny_pure ?_)
  apply wpAny_bind
  refine wpAny_newList ?_ (by show 1 ≤ sizeLine; decide)
  have lp : p < s.heap.objs.size := Heap.lt_size hp
  have lq : q < s.heap.objs.size := Heap.lt_size hoq
  generalize hI : s.heap.push ({ cls := .type "list_iterator", data := .fields #[.ref p, .int 0 0] } : Obj) = g1
  have z1 : g1.objs.size = s.heap.objs.size + 1 := by rw [← hI]; exact Heap.size_push ..
  have k1 : ∀ b o, s.heap.get? b = some o → g1.get? b = some o := fun b o e => by rw [← hI]; exact Heap.get?_push_of_some _ e
  have eI : g1.get? s.heap.objs.size = some { cls := .type "list_iterator", data := .fields #[.ref p, .int 0 0] } := by rw [← hI]; exact Heap.get?_push_size _ rfl
  show (fun fin s' => _) _ _
  rw [z1]
  generalize hS : g1.push ({ cls := .type "list", data := .seq [Value.ref q].toArray } : Obj) = g2
  have z2 : g2.objs.size = s.heap.objs.size + 1 + 1 := by rw [← hS, Heap.size_push, z1]
  have k2 : ∀ b o, g1.get? b = some o → g2.get? b = some o := fun b o e => by rw [← hS]; exact Heap.get?_push_of_some _ e
  have eS : g2.get? (s.heap.objs.size + 1) = some (lob [.ref q] 0) := by rw [← hS, ← z1]; exact Heap.get?_push_size _ rfl
  have hh1 : A.in1.handled = none := by simp [hh]
  have fr : ∀ b ∈ [s.heap.objs.size + 1, s.heap.objs.size], s.heap.get? b = none := fun b hb => by
    cases e : s.heap.get? b with
    | none => rfl
    | some o =>
      have lb := Heap.lt_size e
      rcases List.mem_cons.mp hb with e1 | e1
      · rw [e1] at lb; exact absurd lb (Nat.not_lt_of_le (Nat.le_succ _))
      · rw [List.mem_singleton.mp e1] at lb; exact absurd lb (Nat.lt_irrefl _)
  refine wpAny_pure ⟨plainId_quiet PySem.F.plain_sum_loop _, ?_⟩
  have kk : ∀ b o, s.heap.get? b = some o → g2.get? b = some o := fun b o e => k2 _ _ (k1 _ _ e)
  have npS : p ≠ s.heap.objs.size := Nat.ne_of_lt lp
  have sizeIt : (bs.map Value.ref).toArray.size = ls.length := by rw [List.size_toArray, List.length_map, len]
  refine sumT_loop (s := { s with heap := g2 }) (Walks.list hh1 _ p npS (bs.map Value.ref).toArray).toS (s.heap.objs.size + 1) (fun e => ?_) (fun i r st b hb => ?_) ls sizeIt.symm s.heap fr (Nat.le_succ _) st0 bd old oldT (fun i v e => ?_) ls.length 0 q 0 (by rw [sizeIt]; rfl) ?_ kk eS (.inl (by rw [List.take_zero, List.flatten_nil, List.append_nil]; exact hq)) ?_
  · rcases List.mem_cons.mp e with e | e
    · exact Nat.succ_ne_self _ e
    · have := List.mem_singleton.mp e
      rw [← this] at lp
      exact Nat.not_lt_of_le (Nat.le_succ _) lp
  · rw [List.mem_singleton.mp hb]
    obtain ⟨o, ho, _⟩ := st.1
    exact Heap.lt_size ho
  · have e' : (bs.map Value.ref)[i]? = some v := by simpa using e
    rw [List.getElem?_map] at e'
    cases hb : bs[i]? with
    | none => rw [hb] at e'; cases e'
    | some b =>
      rw [hb] at e'
      obtain rfl := Option.some.inj e'
      obtain ⟨its, a1, a2⟩ := val i b hb
      exact ⟨b, its, rfl, a1, a2⟩
  · exact ⟨⟨_, k2 _ _ eI, rfl, rfl⟩, ⟨_, kk _ _ hp, rfl, cp, rfl⟩⟩
  · rintro ⟨h', g', d', tk', os'⟩ t mv et
    obtain rfl : g' = s.gens := mv.gens
    obtain rfl : d' = s.drawn := mv.drawn
    obtain rfl : os' = s.os := mv.os
    refine z h' tk' t (fun b o e => mv.heap b o (fun q' => ?_) (kk _ _ e)) (et.imp id fun e => ⟨e.1.2, e.2⟩)
    have := fr b q'
    rw [e] at this
    cases this
end
section
variable {X : Cx}
def toV : Value → V
  | .none => .non
  | .bool b => .bl b
  | .int i _ => .int i
  | .str x _ => .str x
  | .bytes b _ => .byt b
  | .float b _ => .flt b
  | .ref a => .ref a
  | .type n => .ty n
  | _ => .non
theorem toV_of {v : V} {u : Value} (h : L2.RelV v u) : v = toV u := by
  cases v with
  | non => cases h; rfl
  | bl b => cases h; rfl
  | int i => obtain ⟨t, rfl⟩ := h; rfl
  | str x => obtain ⟨t, rfl⟩ := h; rfl
  | byt b => obtain ⟨t, rfl⟩ := h; rfl
  | flt b => obtain ⟨t, rfl⟩ := h; rfl
  | ref a => cases h; rfl
  | ty n => cases h; rfl
theorem relV_inj {v v' : V} {u : Value} (h : L2.RelV v u) (h' : L2.RelV v' u) : v = v' := (toV_of h).trans (toV_of h').symm
theorem vals_inj : ∀ {xs ys : List V} {us : List Value}, Vals xs us → Vals ys us → xs = ys
  | _, _, _, .nil, .nil => rfl
  | _, _, _, .cons a r, .cons b t => by rw [relV_inj a b, vals_inj r t]
/-- sum(xs, start): tuples, all of them such as are read -/
def rSumT (K : PySem.W.Frag) : List V → Hp → VK → Prop := fun vs H Q => ∃ (p q : Addr) (bs : List Addr) (ls : List (List V)) (st0 : List V), vs = [V.ref p, V.ref q] ∧ H p = some (.lst (bs.map V.ref)) ∧ SqT K H q st0 ∧ bs.length = ls.length ∧
  (∀ (i : Nat) b, bs[i]? = some b → ∃ xs, ls[i]? = some xs ∧ SqT K H b xs) ∧ (st0 ++ ls.flatten).length ≤ sizeLine ∧ ∀ H' t, Same H H' → SqT K H' t (st0 ++ ls.flatten) → Q (V.ref t) H'
theorem cr_sumT (hc : X.calm = true) : CallR X (.builtin "sum") (rSumT X.K) := by
  intro pins s σ H vs us Q I r h
  obtain ⟨p, q, bs, ls, st0, rfl, hp, hq, len, it, bd, z⟩ := h
  obtain ⟨v1, v2, rfl, r1, r2⟩ := vals2 r
  cases r1
  cases r2
  obtain ⟨zp, ip, np, rp, lp, ep⟩ := I.lstM hp
  have refs : ∀ (bs : List Addr) (ip : List Value), Vals (bs.map V.ref) ip → ip = bs.map Value.ref := by
    intro bs
    induction bs with
    | nil => intro ip h; cases h; rfl
    | cons b t ih =>
      intro ip h
      cases h with
      | cons a c =>
        cases a
        rw [List.map_cons, ih _ c]
  have eip : ip = bs.map Value.ref := refs bs ip rp
  have gen : ∀ (bs : List Addr) (ls : List (List V)), bs.length = ls.length → (∀ (i : Nat) b, bs[i]? = some b → ∃ xs, ls[i]? = some xs ∧ SqT X.K H b xs) →
      ∃ lv : List (List Value), bs.length = lv.length ∧ (∀ (i : Nat) b, bs[i]? = some b → ∃ its, lv[i]? = some its ∧ IsTup s.heap b its.toArray ∧ ∃ xs, SqT X.K H b xs ∧ Vals xs its) ∧ Vals ls.flatten lv.flatten := by
    intro bs
    induction bs with
    | nil =>
      intro ls e _
      cases ls with
      | nil => exact ⟨[], rfl, fun i b h => by simp at h, .nil⟩
      | cons _ _ => cases e
    | cons b t ih =>
      intro ls e h
      cases ls with
      | nil => cases e
      | cons x ls =>
        obtain ⟨xs, e1, e2⟩ := h 0 b rfl
        obtain rfl : x = xs := Option.some.inj e1
        obtain ⟨its, rr, tt, _⟩ := I.tuple e2
        obtain ⟨lv, a1, a2, a3⟩ := ih ls (Nat.succ.inj e) (fun i b' hb => h (i + 1) b' hb)
        refine ⟨its :: lv, by rw [List.length_cons, List.length_cons, a1], fun i b' hb => ?_, by rw [List.flatten_cons, List.flatten_cons]; exact rr.append a3⟩
        cases i with
        | zero =>
          obtain rfl : b = b' := Option.some.inj hb
          exact ⟨its, rfl, tt, x, e2, rr⟩
        | succ i => exact a2 i b' hb
  obtain ⟨lv, a1, a2, a3⟩ := gen bs ls len it
  obtain ⟨iq, rq, tq, _⟩ := I.tuple hq
  rw [eip] at ep
  have va := rq.append a3
  have bd2 : (iq ++ lv.flatten).length ≤ sizeLine := by rw [← Paired.length va]; exact bd
  refine call_sumT (bs := bs) (ls := lv) (st0 := iq) (I.ok.hd hc) (fun t its => IsTup s.heap t its.toArray ∧ ∃ xs, SqT X.K H t xs ∧ Vals xs its) (fun t its h => h.1) ep ⟨tq, st0, hq, rq⟩ a1 a2 bd2 fun h' tk t k ht => ?_
  rcases ht with ⟨_, xs, hs, hv⟩ | ⟨ht, e⟩
  · have ex : xs = st0 ++ ls.flatten := vals_inj hv va
    subst ex
    exact ⟨.ref t, H, I.kept (t' := tk) k, rfl, z H t (fun _ _ z => z) hs⟩
  · have nt := I.hok.fresh ht
    exact ⟨.ref t, _, I.laid (t' := tk) k ht (show ObjOk X.prog X.w (upd H t (.tup (st0 ++ ls.flatten))) h' t (.tup (st0 ++ ls.flatten)) from ⟨bd, _, va, ⟨_, e, rfl, 0, rfl⟩⟩), rfl, z _ t (Kz.new_same nt) (SqT.of upd_same)⟩
end
end Kt

namespace Kz
open PySem PySem.Spec PyProof.Rows L2 RZ Kt Kx
/-! ### _law_by_hand_right -/
abbrev nHand : List Str := ["_law_both_so", "_law_low_so", "_law_mix_so", "_law_own", "_law_got", "_law_due", "_law_look_so", "_law_put_so", "_law_turn_so", "_law_level_so", "_law_jobs_so", "_law_many_so", "_law_k"]
theorem scHand : FnScope nHand [] (defScope sHandR) := ⟨rfl, rfl, rfl, by decide +kernel, rfl, by decide +kernel, by decide +kernel⟩
def spHand : Sp := fun vs H Q _ => vs = [] ∧ ∀ H', Same H H' → Q (.bl true) H'
theorem seq_lt {K : PySem.W.Frag} {ρ : Nat → PyData} {x : Lt} {i : Nat} {u : TS} {D : Ends} {σ : L2.St} {H : Hp} (ok : okLt K ρ σ H x) (h : ∀ H' w, Same H H' → Dp K H' w (dLt ρ x) → u D (σ.set i (some w)) H') : tSeq (tAsg (tLt x) (gName i)) u D σ H := rd_lt x ok h
theorem seq_tup2 {t1 t2 : TE} {g : TG} {u : TS} {D : Ends} {σ : L2.St} {H : Hp} (h : t1 σ H fun x H1 => t2 σ H1 fun y H2 => [x, y].length ≤ sizeLine ∧ ∀ p, H2 p = none → g (.ref p) σ (upd H2 p (.tup [x, y])) fun σ2 H3 => u D σ2 H3) : tSeq (tAsg (tTup (tCons t1 (tCons t2 tNil))) g) u D σ H := h
/-- a call of two: the arguments come first -/
theorem call_2 {sp : Sp} {E : XK} {t1 t2 : TE} {σ : L2.St} {H : Hp} {Q : VK} (h : t1 σ H fun x H1 => t2 σ H1 fun y H2 => sp [x, y] H2 Q E) : tCall sp [] E (tCons t1 (tCons t2 tNil)) σ H Q := h
theorem seq_lst2 {t1 t2 : TE} {g : TG} {u : TS} {D : Ends} {σ : L2.St} {H : Hp} (h : t1 σ H fun x H1 => t2 σ H1 fun y H2 => [x, y].length ≤ sizeLine ∧ ∀ p, H2 p = none → g (.ref p) σ (upd H2 p (.lst [x, y])) fun σ2 H3 => u D σ2 H3) : tSeq (tAsg (tLst (tCons t1 (tCons t2 tNil))) g) u D σ H := h
theorem seq_app {K : PySem.W.Frag} {i : Nat} {t : TE} {u : TS} {D : Ends} {σ : L2.St} {H : Hp} {a : Addr} {xs : List V} (ei : σ[i]? = some (some (.ref a))) (ha : H a = some (.lst xs)) (h : t σ H fun y H1 => rAppend (.ref a) [y] H1 fun _ H2 => u D σ H2) : tSeq (tDrop (tBM K "list" rAppend (tVar i) (tCons t tNil))) u D σ H := ⟨_, ei, .inl ⟨rfl, xs, SqL.of ha⟩, h⟩
theorem one_app {K : PySem.W.Frag} {i : Nat} {t : TE} {D : Ends} {σ : L2.St} {H : Hp} {a : Addr} {xs : List V} (ei : σ[i]? = some (some (.ref a))) (ha : H a = some (.lst xs)) (h : t σ H fun y H1 => rAppend (.ref a) [y] H1 fun _ H2 => D.nx σ H2) : tDrop (tBM K "list" rAppend (tVar i) (tCons t tNil)) D σ H := ⟨_, ei, .inl ⟨rfl, xs, SqL.of ha⟩, h⟩
theorem seq_op {r : R2} {t1 t2 : TE} {i : Nat} {u : TS} {D : Ends} {σ : L2.St} {H : Hp} (h : t1 σ H fun x H1 => t2 σ H1 fun y H2 => r x y H2 fun z H3 => u D (σ.set i (some z)) H3) : tSeq (tAsg (tOp r t1 t2) (gName i)) u D σ H := h
theorem rep_dp {K : PySem.W.Frag} {H : Hp} {v : V} {d : PyData} (h : Dp K H v d) : ∀ n : Nat, DpAll K H (List.replicate n [v]).flatten (List.replicate n d)
  | 0 => .nil
  | n + 1 => .cons h (rep_dp h n)
/-- got = got + [x, y, z] -/
theorem seq_cat3 {i : Nat} {t1 t2 t3 : TE} {u : TS} {D : Ends} {σ : L2.St} {H : Hp} {a : Addr} (ei : σ[i]? = some (some (.ref a))) (h : t1 σ H fun x H1 => t2 σ H1 fun y H2 => t3 σ H2 fun z H3 => [x, y, z].length ≤ sizeLine ∧ ∀ p, H3 p = none → rCat (.ref a) (.ref p) (upd H3 p (.lst [x, y, z])) fun w H4 => u D (σ.set i (some w)) H4) : tSeq (tAsg (tOp rCat (tVar i) (tLst (tCons t1 (tCons t2 (tCons t3 tNil))))) (gName i)) u D σ H := ⟨_, ei, h⟩
theorem seq_catl {i : Nat} {xs : List Lt} {u : TS} {D : Ends} {σ : L2.St} {H : Hp} {a : Addr} (ei : σ[i]? = some (some (.ref a))) (h : tLts xs σ H fun us H1 => us.length ≤ sizeLine ∧ ∀ p, H1 p = none → rCat (.ref a) (.ref p) (upd H1 p (.lst us)) fun w H4 => u D (σ.set i (some w)) H4) : tSeq (tAsg (tOp rCat (tVar i) (tLst (tLts xs))) (gName i)) u D σ H := ⟨_, ei, h⟩
theorem call_3S {sp : Sp} {E : L2.St → XK} {t1 t2 t3 : TE} {σ : L2.St} {H : Hp} {Q : VK} (h : t1 σ H fun x H1 => t2 σ H1 fun y H2 => t3 σ H2 fun z H3 => sp [x, y, z] H3 Q (E σ)) : tCallS sp E (tCons t1 (tCons t2 (tCons t3 tNil))) σ H Q := h
theorem tup_2 {t1 t2 : TE} {σ : L2.St} {H : Hp} {Q : VK} (h : t1 σ H fun x H1 => t2 σ H1 fun y H2 => [x, y].length ≤ sizeLine ∧ ∀ p, H2 p = none → Q (.ref p) (upd H2 p (.tup [x, y]))) : tTup (tCons t1 (tCons t2 tNil)) σ H Q := h
theorem op_2 {r : R2} {t1 t2 : TE} {σ : L2.St} {H : Hp} {Q : VK} (h : t1 σ H fun x H1 => t2 σ H1 fun y H2 => r x y H2 Q) : tOp r t1 t2 σ H Q := h
theorem call_h {sp : Sp} {E : XK} {t1 t2 : TE} {a i : Int} {r : Str} {σ : L2.St} {H : Hp} {Q : VK} (h : t1 σ H fun x H1 => t2 σ H1 fun y H2 => sp [.int a, x, y, .str r, .int i] H2 Q E) : tCall sp [] E (tCons (tC (.int a)) (tCons t1 (tCons t2 (tCons (tC (.str r)) (tCons (tC (.int i)) tNil))))) σ H Q := h
theorem seq_cat2 {i : Nat} {t1 t2 : TE} {u : TS} {D : Ends} {σ : L2.St} {H : Hp} {a : Addr} (ei : σ[i]? = some (some (.ref a))) (h : t1 σ H fun x H1 => t2 σ H1 fun y H2 => [x, y].length ≤ sizeLine ∧ ∀ p, H2 p = none → rCat (.ref a) (.ref p) (upd H2 p (.lst [x, y])) fun w H4 => u D (σ.set i (some w)) H4) : tSeq (tAsg (tOp rCat (tVar i) (tLst (tCons t1 (tCons t2 tNil)))) (gName i)) u D σ H := ⟨_, ei, h⟩
theorem delS_add {g e : Addr} {H : Hp} {o : HO} (n : H e = none) : Same (delS [g] H) (delS [g, e] (upd H e o)) := fun b u h => by
  obtain ⟨m, hb⟩ := delS_in h
  have nb : b ≠ e := fun z => by rw [z, n] at hb; cases hb
  refine delS_out (fun z => ?_) ((upd_ne nb).trans hb)
  rcases List.mem_cons.mp z with z | z
  · exact m (by rw [z]; exact List.mem_singleton.mpr rfl)
  · exact nb (List.mem_singleton.mp z)
theorem for_tup_i {K : PySem.W.Frag} {tl : TE} {g : TG} {tb : TS} {u : TS} {D : Ends} {σ : L2.St} {H : Hp} (h : tl σ H fun x H1 => ∃ a, x = .ref a ∧ (∃ xs, SqT K H1 a xs) ∧ tSeq (tFor (fun _ G R => R (Itt K a) G) g tb) u D σ H1) : tSeq (tFor (iTup K tl) g tb) u D σ H := by
  revert h
  generalize hq : (fun (x : V) (H1 : Hp) => ∃ a, x = .ref a ∧ (∃ xs, SqT K H1 a xs) ∧ tSeq (tFor (fun _ G R => R (Itt K a) G) g tb) u D σ H1) = q
  intro h
  subst hq
  exact h
theorem lst_i {xs : List Lt} {σ : L2.St} {H : Hp} {Q : VK} (h : tLts xs σ H fun us H1 => us.length ≤ sizeLine ∧ ∀ p, H1 p = none → Q (.ref p) (upd H1 p (.lst us))) : tLst (tLts xs) σ H Q := h
theorem lc_tup_i {K : PySem.W.Frag} {tl : TE} {g : TG} {tt : TT} {te : TE} {vs : List Nat} {σ : L2.St} {H : Hp} {Q : VK} (h : tl σ H fun x H1 => ∃ a, x = .ref a ∧ (∃ xs, SqT K H1 a xs) ∧ tLc (fun _ G R => R (Itt K a) G) g tt te vs σ H1 Q) : tLc (iTup K tl) g tt te vs σ H Q := by
  revert h
  generalize hq : (fun (x : V) (H1 : Hp) => ∃ a, x = .ref a ∧ (∃ xs, SqT K H1 a xs) ∧ tLc (fun _ G R => R (Itt K a) G) g tt te vs σ H1 Q) = q
  intro h
  subst hq
  exact h
abbrev jA : JobM := ⟨"plain", [(false, "x"), (true, "x")]⟩
abbrev jsLow : List JobM := [jA, jA]
abbrev msLow : List Nat := [0, 1, 0, 0, 1, 1]
abbrev dBoth : PyData := .tuple [dStep (false, "x"), dStep (true, "x")]
abbrev jsL (lv : Str) : List JobM := [⟨lv, [(false, "x"), (false, "y")]⟩, ⟨"plain", [(true, "x"), (true, "y")]⟩]
abbrev msT : List Nat := [0, 1, 1, 1, 0, 0]
abbrev lvsT : List (Str × Option Int) := [("plain", some 1), ("shot", none), ("watched", none)]
abbrev ltO : Lt := .t [(.t [(.t [.n, (.v 3)]), (.t [])]), (.t [(.t [(.s "x"), (.t [(.i 1)])]), (.t [(.s "y"), (.t [(.i 1)])])])]
theorem handEq {lv : Str} {ow : Option Int} (h : (lv, ow) ∈ lvsT) : outD (jsL lv) msT = dLt (fun _ => odI ow) ltO ∧ odI (vsAt (jsL lv) (runM (jsL lv) msT) 4) = odI ow ∧ odI (vsAt (jsL lv) (runM (jsL lv) msT) 0) = .none ∧ readAt (jsL lv) msT 4 = true ∧ readAt (jsL lv) msT 0 = true ∧
    heldD (jsL lv) msT 3 = .tuple [.tuple [.str "x", .int 1], .tuple [.str "y", .int 1]] ∧ versD (jsL lv) msT "y" ((4 : Nat) : Int) = .tuple [.none, .int 1] := by
  simp only [List.mem_cons, List.mem_nil_iff, or_false, Prod.mk.injEq] at h
  rcases h with ⟨rfl, rfl⟩ | ⟨rfl, rfl⟩ | ⟨rfl, rfl⟩ <;> exact ⟨rfl, rfl, rfl, rfl, rfl, rfl, rfl⟩
theorem okL {lv : Str} {ow : Option Int} (h : (lv, ow) ∈ lvsT) : okJs (jsL lv) ∧ FullM (jsL lv) msT ∧ fewR (jsL lv) := by
  simp only [List.mem_cons, List.mem_nil_iff, or_false, Prod.mk.injEq] at h
  have k : ∀ lv : Str, PyData.strOk lv = true → okJs (jsL lv) := fun lv e => ⟨by show 2 ≤ 1000; decide, fun j hj => by
    rcases List.mem_cons.mp hj with rfl | hj
    · exact ⟨e, by show 2 ≤ 1000; decide, fun s hs => by
        simp at hs
        rcases hs with rfl | rfl <;> decide +kernel⟩
    · rw [List.mem_singleton.mp hj]
      exact ⟨by decide +kernel, by decide, fun s hs => by
        simp at hs
        rcases hs with rfl | rfl <;> decide +kernel⟩⟩
  rcases h with ⟨rfl, rfl⟩ | ⟨rfl, rfl⟩ | ⟨rfl, rfl⟩ <;> exact ⟨k _ (by decide +kernel), ⟨by decide, by decide⟩, ⟨by decide +kernel, by decide +kernel⟩⟩
def mvH (q : Str × Option Int) : List PyData := [outD (jsL q.1) msT, odI q.2, .none, .list [heldD (jsL q.1) msT 3, versD (jsL q.1) msT "y" ((4 : Nat) : Int)]]
theorem ok_mvH {q : Str × Option Int} (h : q ∈ lvsT) : ∀ x ∈ mvH q, x.depth ≤ 5 ∧ small x := fun x hx => by
  obtain ⟨lv, ow⟩ := q
  obtain ⟨o1, o2, o3⟩ := okL h
  obtain ⟨_, _, _, _, _, q6, q7⟩ := handEq h
  have b1 := ok_outD o1 o3 (full_beg o2) (by decide)
  unfold mvH at hx
  rw [q6, q7] at hx
  simp only [List.mem_cons, List.mem_nil_iff, or_false] at hx
  rcases hx with rfl | rfl | rfl | rfl
  · exact ⟨by omega, b1.2⟩
  · cases ow with
    | none => exact ⟨by decide +kernel, trivial⟩
    | some z => exact ⟨by rw [odI, PyData.depth]; decide, trivial⟩
  · exact ⟨by decide +kernel, trivial⟩
  · exact ⟨by decide +kernel, by simp [small, smallAll]⟩
abbrev jM : JobM := ⟨"plain", [(true, "x")]⟩
abbrev jsM : List JobM := List.replicate 12 jM
abbrev jsS : List JobM := [⟨"shot", []⟩]
theorem okNil : okJs [] ∧ BegM [] [] ∧ fewR [] := ⟨⟨by decide, fun j h => by cases h⟩, ⟨fun q h => (by cases h), fun q => (by simp)⟩, ⟨by decide +kernel, by decide +kernel⟩⟩
theorem okS : okJs jsS ∧ FullM jsS [0] ∧ fewR jsS := ⟨⟨by decide, fun j hj => by
  rw [List.mem_singleton.mp hj]
  exact ⟨by decide +kernel, by decide, fun s hs => by cases hs⟩⟩, ⟨by decide, by decide⟩, ⟨by decide +kernel, by decide +kernel⟩⟩
theorem okM : okJs jsM ∧ fewR jsM := ⟨⟨by decide, fun j hj => by
  rw [List.eq_of_mem_replicate hj]
  exact ⟨by decide +kernel, by decide, fun s hs => by
    rw [List.mem_singleton.mp hs]
    decide +kernel⟩⟩, ⟨by decide +kernel, by decide +kernel⟩⟩
theorem tups_dp {K : PySem.W.Frag} {H : Hp} : ∀ {kss : List (List Int)} {ys : List V}, DpAll K H ys (kss.map fun ks => PyData.tuple (ks.map .int)) → ∃ bs : List Addr, ys = bs.map V.ref ∧ bs.length = kss.length ∧ ∀ (i : Nat) b, bs[i]? = some b → ∃ ks, kss[i]? = some ks ∧ SqT K H b (ks.map V.int)
  | [], _, h => by cases h; exact ⟨[], rfl, rfl, fun i b h => by simp at h⟩
  | ks :: r, _, h => by
    cases h with
    | cons a t =>
      obtain ⟨bs, e1, e2, e3⟩ := tups_dp t
      obtain ⟨b, xs, rfl, hs, hx⟩ := dp_tup_inv a
      have ex : xs = ks.map V.int := by
        clear hs a t e1 e2 e3
        induction ks generalizing xs with
        | nil => cases hx; rfl
        | cons k kr ih =>
          cases hx with
          | cons p q =>
            cases p
            rw [ih _ q]
            rfl
      subst ex
      refine ⟨b :: bs, by rw [e1]; rfl, by rw [List.length_cons, List.length_cons, e2], fun i b' hb => ?_⟩
      cases i with
      | zero => obtain rfl : b = b' := Option.some.inj hb; exact ⟨ks, rfl, hs⟩
      | succ i => exact e3 i b' hb
abbrev kssM : List (List Int) := (List.range 12).map fun (k : Nat) => [(11 : Int) - k, (11 : Int) - k]
abbrev msM : List Nat := [11, 11, 10, 10, 9, 9, 8, 8, 7, 7, 6, 6, 5, 5, 4, 4, 3, 3, 2, 2, 1, 1, 0, 0]
abbrev jsW : List JobM := [⟨"watched", [(false, "x"), (true, "x")]⟩]
theorem okW : okJs jsW ∧ FullM jsW [0, 0, 0] ∧ fewR jsW := ⟨⟨by decide, fun j hj => by
  rw [List.mem_singleton.mp hj]
  exact ⟨by decide +kernel, by decide, fun s hs => by
    simp at hs
    rcases hs with rfl | rfl <;> decide +kernel⟩⟩, ⟨by decide, by decide⟩, ⟨by decide +kernel, by decide +kernel⟩⟩
theorem lowD (ρ : Nat → PyData) (h : ρ 0 = dBoth) : dLt ρ (.t [(.t [(.s "plain"), (.v 0)]), (.t [(.s "plain"), (.v 0)])]) = dJobs jsLow := by
  simp only [dLt, dLts, h]
  rfl
theorem okLow : okJs jsLow := ⟨by decide, fun j hj => by
  have e : j = jA := by simp at hj; exact hj
  subst e
  exact ⟨by decide +kernel, by decide, fun s hs => by
    simp at hs
    rcases hs with rfl | rfl <;> decide +kernel⟩⟩
theorem fullLow : FullM jsLow msLow := ⟨by decide, by decide⟩
theorem fewLow : fewR jsLow := ⟨by decide +kernel, by decide +kernel⟩
section
variable {P : Program} {w : World} {K : PySem.W.Frag} {mg : Str → Option Value} {base : Heap}
theorem ok_hand {f fO fH fA fV fE fQ fC : Addr} {fd fdO fdH fdA fdV fdE fdQ fdC : FuncData} {CN CR CC : Addr} (F : Fun K "_law_by_hand_right" "_law_by_hand_right" sHandR f fd) (T : Nat0 mg)
    (GO : FnOk P w K mg base CX0 7 fO fdO ["jobs", "mix"] (spOut K)) (kO' : PySem.W.keepIn K (.ref fO) = true) (bO : Binds K fdO ["jobs", "mix"] []) (gO : mg "outcome" = some (.ref fO))
    (GH : FnOk P w K mg base (L2.CX P w) 7 fH fdH ["jobs", "mix", "move"] (spHeldAt K CN)) (kH : PySem.W.keepIn K (.ref fH) = true) (bH : Binds K fdH ["jobs", "mix", "move"] []) (gH : mg "held_at" = some (.ref fH))
    (GA : FnOk P w K mg base (L2.CX P w) 6 fA fdA ["jobs", "mix", "move"] (spSeenAt K CN CC)) (kA : PySem.W.keepIn K (.ref fA) = true) (bA : Binds K fdA ["jobs", "mix", "move"] []) (gA : mg "seen_at" = some (.ref fA))
    (GV : FnOk P w K mg base (L2.CX P w) 6 fV fdV ["jobs", "mix", "row", "move"] (spVersAt K CN CR)) (kV : PySem.W.keepIn K (.ref fV) = true) (bV : Binds K fdV ["jobs", "mix", "row", "move"] []) (gV : mg "versions_at" = some (.ref fV))
    (GE : FnOk P w K mg base CX0 8 fE fdE pHeard (spHeard K)) (kE : PySem.W.keepIn K (.ref fE) = true) (bE : Binds K fdE pHeard []) (gE : mg "_law_heard" = some (.ref fE))
    (GQ : FnOk P w K mg base CX0 7 fQ fdQ ["_law_got", "_law_due"] (spSame K 6)) (kQ : PySem.W.keepIn K (.ref fQ) = true) (bQ : Binds K fdQ ["_law_got", "_law_due"] []) (gQ : mg "_law_same" = some (.ref fQ))
    (GC : FnOk P w K mg base CX0 10 fC fdC pCase (spCase K)) (kC : PySem.W.keepIn K (.ref fC) = true) (bC : Binds K fdC pCase []) (gC : mg "_law_case_right" = some (.ref fC)) :
    FnOk P w K mg base CX0 11 f fd [] spHand := by
  refine F.ok scHand (fun vs H Q E h => ?_) (fun cdv A outer s H vs Q E hr h => ?_)
  · rw [h.1]
    rfl
  · have r10 : Room 10 _ := hr
    have r8 : Room 8 _ := hr.mono (by decide)
    have r7 : Room 7 _ := hr.mono (by decide)
    have r6 : Room 6 _ := hr.mono (by decide)
    refine ⟨_, pss_cons (ps_set (i := 0) scHand.nd rfl (Or.inl rfl) (show PE _ _ (tLt (.t [(.t [(.s "read"), (.s "x")]), (.t [(.s "write"), (.s "x")])])) from pe_tup (pa_cons (pe_tup (pa_cons pe_str (pa_cons pe_str (pa_nil)))) (pa_cons (pe_tup (pa_cons pe_str (pa_cons pe_str (pa_nil)))) (pa_nil)))))
      (pss_cons (ps_asg (pe_tup (pa_cons (show PE _ _ (tLt (.t [(.t [(.s "plain"), (.v 0)]), (.t [(.s "plain"), (.v 0)])])) from pe_tup (pa_cons (pe_tup (pa_cons pe_str (pa_cons (pv 0) (pa_nil)))) (pa_cons (pe_tup (pa_cons pe_str (pa_cons (pv 0) (pa_nil)))) (pa_nil)))) (pa_cons (pe_tupF (pa_cons pe_int (pa_cons pe_int (pa_cons pe_int (pa_cons pe_int (pa_cons pe_int (pa_cons pe_int (pa_nil)))))))) (pa_nil)))) (pg_tup (by rfl) (pgs_cons (pg_name (i := 1) scHand.nd rfl (Or.inr rfl)) (pgs_cons (pg_name (i := 2) scHand.nd rfl (Or.inr rfl)) (pgs_nil)))))
      (pss_cons (ps_set (i := 4) scHand.nd rfl (Or.inl rfl) (pe_lst (pa_cons (pe_call GO r7 (by rfl) gO kO' bO .nil pass0 (pa_cons (pv 1) (pa_cons (pv 2) (pa_nil)))) (pa_cons (pe_lc (own := [("_law_own", 3)]) (g := gName 3) (tt := tYes) rfl scHand.nd (pi_range1 (by rfl) T.range (pa_cons pe_int (pa_nil))) (blkOk_by (own := [("_law_own", 3)]) (N := nHand) (sc := defScope sHandR) (by decide +kernel)) (fun _ _ _ _ _ => pg_name (i := 3) scHand.nd rfl (Or.inl rfl)) (fun _ _ _ _ _ => pts_nil) (fun _ _ _ _ _ => by exact (pe_callS (E := WE (fun _ _ _ _ => False)) GH r7 (by rfl) gH kH bH (fun σ => passAt takes0 σ) (by exact (pa_cons (pv 1) (pa_cons (pv 2) (pa_cons (pv 3) (pa_nil)))))))) (pa_nil)))))
      (pss_cons (ps_set (i := 5) scHand.nd rfl (Or.inl rfl) (pe_lst (pa_cons (show PE _ _ (tLt (.t [(.t [(.t [.n]), (.t [.n])]), (.t [(.t [(.s "x"), (.t [(.i 0), (.i 1)])])])])) from pe_tup (pa_cons (pe_tup (pa_cons (pe_tup (pa_cons pe_non (pa_nil))) (pa_cons (pe_tup (pa_cons pe_non (pa_nil))) (pa_nil)))) (pa_cons (pe_tup (pa_cons (pe_tup (pa_cons pe_str (pa_cons (pe_tup (pa_cons pe_int (pa_cons pe_int (pa_nil)))) (pa_nil)))) (pa_nil))) (pa_nil)))) (pa_cons (show PE _ _ (tLst (tLts [(.t []), (.t []), (.t []), (.t [(.t [(.s "x"), (.i 0)])]), (.t []), (.t [(.t [(.s "x"), (.i 1)])])])) from pe_lst (pa_cons (pe_tup (pa_nil)) (pa_cons (pe_tup (pa_nil)) (pa_cons (pe_tup (pa_nil)) (pa_cons (pe_tup (pa_cons (pe_tup (pa_cons pe_str (pa_cons pe_int (pa_nil)))) (pa_nil))) (pa_cons (pe_tup (pa_nil)) (pa_cons (pe_tup (pa_cons (pe_tup (pa_cons pe_str (pa_cons pe_int (pa_nil)))) (pa_nil))) (pa_nil)))))))) (pa_nil)))))
      (pss_cons (ps_expr (pe_bm PySem.F.plainAttrs_list PySem.F.slot_list_append PySem.F.type_list_append mt_append (pv 4) (pa_cons (pe_lc (own := [("_law_own", 3)]) (g := gName 3) (tt := tYes) rfl scHand.nd (pi_tup (show PE _ _ (tLt (.t [(.i 0), (.i 3), (.i 4), (.i 5)])) from pe_tup (pa_cons pe_int (pa_cons pe_int (pa_cons pe_int (pa_cons pe_int (pa_nil))))))) (blkOk_by (own := [("_law_own", 3)]) (N := nHand) (sc := defScope sHandR) (by decide +kernel)) (fun _ _ _ _ _ => pg_name (i := 3) scHand.nd rfl (Or.inl rfl)) (fun _ _ _ _ _ => pts_nil) (fun _ _ _ _ _ => by exact (pe_callS (E := WE (fun _ _ _ _ => False)) GV r6 (by rfl) gV kV bV (fun σ => passAt takes0 σ) (by exact (pa_cons (pv 1) (pa_cons (pv 2) (pa_cons pe_str (pa_cons (pv 3) (pa_nil))))))))) (pa_nil))))
      (pss_cons (ps_expr (pe_bm PySem.F.plainAttrs_list PySem.F.slot_list_append PySem.F.type_list_append mt_append (pv 5) (pa_cons (show PE _ _ (tLst (tLts [(.t [.n]), (.t [.n]), (.t [.n, (.i 0)]), (.t [.n, (.i 0)])])) from pe_lst (pa_cons (pe_tup (pa_cons pe_non (pa_nil))) (pa_cons (pe_tup (pa_cons pe_non (pa_nil))) (pa_cons (pe_tup (pa_cons pe_non (pa_cons pe_int (pa_nil)))) (pa_cons (pe_tup (pa_cons pe_non (pa_cons pe_int (pa_nil)))) (pa_nil)))))) (pa_nil))))
      (pss_cons (ps_asg (pe_tup (pa_cons (show PE _ _ (tLt (.t [(.t [(.s "read"), (.s "x")]), (.t [(.s "read"), (.s "y")])])) from pe_tup (pa_cons (pe_tup (pa_cons pe_str (pa_cons pe_str (pa_nil)))) (pa_cons (pe_tup (pa_cons pe_str (pa_cons pe_str (pa_nil)))) (pa_nil)))) (pa_cons (show PE _ _ (tLt (.t [(.s "plain"), (.t [(.t [(.s "write"), (.s "x")]), (.t [(.s "write"), (.s "y")])])])) from pe_tup (pa_cons pe_str (pa_cons (pe_tup (pa_cons (pe_tup (pa_cons pe_str (pa_cons pe_str (pa_nil)))) (pa_cons (pe_tup (pa_cons pe_str (pa_cons pe_str (pa_nil)))) (pa_nil)))) (pa_nil)))) (pa_nil)))) (pg_tup (by rfl) (pgs_cons (pg_name (i := 6) scHand.nd rfl (Or.inl rfl)) (pgs_cons (pg_name (i := 7) scHand.nd rfl (Or.inl rfl)) (pgs_nil)))))
      (pss_cons (ps_set (i := 8) scHand.nd rfl (Or.inl rfl) (show PE _ _ (tLt (.t [(.i 0), (.i 1), (.i 1), (.i 1), (.i 0), (.i 0)])) from pe_tup (pa_cons pe_int (pa_cons pe_int (pa_cons pe_int (pa_cons pe_int (pa_cons pe_int (pa_cons pe_int (pa_nil)))))))))
      (pss_cons (ps_for PassesOwn.never rfl (pi_tup (show PE _ _ (tLt (.t [(.t [(.s "plain"), (.i 1)]), (.t [(.s "shot"), .n]), (.t [(.s "watched"), .n])])) from pe_tup (pa_cons (pe_tup (pa_cons pe_str (pa_cons pe_int (pa_nil)))) (pa_cons (pe_tup (pa_cons pe_str (pa_cons pe_non (pa_nil)))) (pa_cons (pe_tup (pa_cons pe_str (pa_cons pe_non (pa_nil)))) (pa_nil)))))) (pg_tup (by rfl) (pgs_cons (pg_name (i := 9) scHand.nd rfl (Or.inl rfl)) (pgs_cons (pg_name (i := 3) scHand.nd rfl (Or.inl rfl)) (pgs_nil))))
        (pss_cons (ps_set (i := 10) scHand.nd rfl (Or.inl rfl) (show PE _ _ (tLt (.t [(.t [(.v 9), (.v 6)]), (.v 7)])) from pe_tup (pa_cons (pe_tup (pa_cons (pv 9) (pa_cons (pv 6) (pa_nil)))) (pa_cons (pv 7) (pa_nil)))))
      (pss_cons (ps_set (i := 4) scHand.nd rfl (Or.inl rfl) (pe_op op_cat (pv 4) (pe_lst (pa_cons (pe_call GO r7 (by rfl) gO kO' bO .nil pass0 (pa_cons (pv 10) (pa_cons (pv 8) (pa_nil)))) (pa_cons (pe_callS (E := WE (fun _ _ _ _ => False)) GA r6 (by rfl) gA kA bA (fun σ => passAt takes0 σ) (by exact (pa_cons (pv 10) (pa_cons (pv 8) (pa_cons pe_int (pa_nil)))))) (pa_cons (pe_callS (E := WE (fun _ _ _ _ => False)) GA r6 (by rfl) gA kA bA (fun σ => passAt takes0 σ) (by exact (pa_cons (pv 10) (pa_cons (pv 8) (pa_cons pe_int (pa_nil)))))) (pa_nil)))))))
      (pss_cons (ps_set (i := 5) scHand.nd rfl (Or.inl rfl) (pe_op op_cat (pv 5) (show PE _ _ (tLst (tLts [(.t [(.t [(.t [.n, (.v 3)]), (.t [])]), (.t [(.t [(.s "x"), (.t [(.i 1)])]), (.t [(.s "y"), (.t [(.i 1)])])])]), (.v 3), .n])) from pe_lst (pa_cons (pe_tup (pa_cons (pe_tup (pa_cons (pe_tup (pa_cons pe_non (pa_cons (pv 3) (pa_nil)))) (pa_cons (pe_tup (pa_nil)) (pa_nil)))) (pa_cons (pe_tup (pa_cons (pe_tup (pa_cons pe_str (pa_cons (pe_tup (pa_cons pe_int (pa_nil))) (pa_nil)))) (pa_cons (pe_tup (pa_cons pe_str (pa_cons (pe_tup (pa_cons pe_int (pa_nil))) (pa_nil)))) (pa_nil)))) (pa_nil)))) (pa_cons (pv 3) (pa_cons pe_non (pa_nil)))))))
      (pss_cons (ps_expr (pe_bm PySem.F.plainAttrs_list PySem.F.slot_list_append PySem.F.type_list_append mt_append (pv 4) (pa_cons (pe_lst (pa_cons (pe_callS (E := WE (fun _ _ _ _ => False)) GH r7 (by rfl) gH kH bH (fun σ => passAt takes0 σ) (by exact (pa_cons (pv 10) (pa_cons (pv 8) (pa_cons pe_int (pa_nil)))))) (pa_cons (pe_callS (E := WE (fun _ _ _ _ => False)) GV r6 (by rfl) gV kV bV (fun σ => passAt takes0 σ) (by exact (pa_cons (pv 10) (pa_cons (pv 8) (pa_cons pe_str (pa_cons pe_int (pa_nil))))))) (pa_nil)))) (pa_nil))))
      (pss_one (ps_expr (pe_bm PySem.F.plainAttrs_list PySem.F.slot_list_append PySem.F.type_list_append mt_append (pv 5) (pa_cons (show PE _ _ (tLst (tLts [(.t [(.t [(.s "x"), (.i 1)]), (.t [(.s "y"), (.i 1)])]), (.t [.n, (.i 1)])])) from pe_lst (pa_cons (pe_tup (pa_cons (pe_tup (pa_cons pe_str (pa_cons pe_int (pa_nil)))) (pa_cons (pe_tup (pa_cons pe_str (pa_cons pe_int (pa_nil)))) (pa_nil)))) (pa_cons (pe_tup (pa_cons pe_non (pa_cons pe_int (pa_nil)))) (pa_nil)))) (pa_nil))))))))))
      (pss_cons (ps_set (i := 11) scHand.nd rfl (Or.inl rfl) (pe_op op_repT (show PE _ _ (tLt (.t [(.t [(.s "plain"), (.t [(.t [(.s "write"), (.s "x")])])])])) from pe_tup (pa_cons (pe_tup (pa_cons pe_str (pa_cons (pe_tup (pa_cons (pe_tup (pa_cons pe_str (pa_cons pe_str (pa_nil)))) (pa_nil))) (pa_nil)))) (pa_nil))) pe_int))
      (pss_cons (ps_set (i := 4) scHand.nd rfl (Or.inl rfl) (pe_op op_cat (pv 4) (pe_lst (pa_cons (pe_call GO r7 (by rfl) gO kO' bO .nil pass0 (pa_cons (show PE _ _ (tLt (.t [])) from pe_tup (pa_nil)) (pa_cons (show PE _ _ (tLt (.t [])) from pe_tup (pa_nil)) (pa_nil)))) (pa_cons (pe_call GO r7 (by rfl) gO kO' bO .nil pass0 (pa_cons (show PE _ _ (tLt (.t [(.t [(.s "shot"), (.t [])])])) from pe_tup (pa_cons (pe_tup (pa_cons pe_str (pa_cons (pe_tup (pa_nil)) (pa_nil)))) (pa_nil))) (pa_cons (show PE _ _ (tLt (.t [(.i 0)])) from pe_tup (pa_cons pe_int (pa_nil))) (pa_nil)))) (pa_cons (pe_callS (E := WE (fun _ _ _ _ => False)) GH r7 (by rfl) gH kH bH (fun σ => passAt takes0 σ) (by exact (pa_cons (show PE _ _ (tLt (.t [(.t [(.s "shot"), (.t [])])])) from pe_tup (pa_cons (pe_tup (pa_cons pe_str (pa_cons (pe_tup (pa_nil)) (pa_nil)))) (pa_nil))) (pa_cons (show PE _ _ (tLt (.t [(.i 0)])) from pe_tup (pa_cons pe_int (pa_nil))) (pa_cons pe_int (pa_nil)))))) (pa_nil)))))))
      (pss_cons (ps_set (i := 5) scHand.nd rfl (Or.inl rfl) (pe_op op_cat (pv 5) (show PE _ _ (tLst (tLts [(.t [(.t []), (.t [])]), (.t [(.t [(.t [])]), (.t [])]), (.t [])])) from pe_lst (pa_cons (pe_tup (pa_cons (pe_tup (pa_nil)) (pa_cons (pe_tup (pa_nil)) (pa_nil)))) (pa_cons (pe_tup (pa_cons (pe_tup (pa_cons (pe_tup (pa_nil)) (pa_nil))) (pa_cons (pe_tup (pa_nil)) (pa_nil)))) (pa_cons (pe_tup (pa_nil)) (pa_nil)))))))
      (pss_cons (ps_expr (pe_bm PySem.F.plainAttrs_list PySem.F.slot_list_append PySem.F.type_list_append mt_append (pv 4) (pa_cons (pe_call GO r7 (by rfl) gO kO' bO .nil pass0 (pa_cons (pv 11) (pa_cons (pe_callB (cr_sumT rfl) (by rfl) T.sum (by decide +kernel) (pa_cons (pe_lc (own := [("_law_k", 12)]) (g := gName 12) (tt := tYes) rfl scHand.nd (pi_range1 (by rfl) T.range (pa_cons pe_int (pa_nil))) (blkOk_by (own := [("_law_k", 12)]) (N := nHand) (sc := defScope sHandR) (by decide +kernel)) (fun _ _ _ _ _ => pg_name (i := 12) scHand.nd rfl (Or.inl rfl)) (fun _ _ _ _ _ => pts_nil) (fun _ _ _ _ _ => by exact (pe_tup (pa_cons (pe_op op_sub pe_int (pv 12)) (pa_cons (pe_op op_sub pe_int (pv 12)) (pa_nil)))))) (pa_cons (show PE _ _ (tLt (.t [])) from pe_tup (pa_nil)) (pa_nil)))) (pa_nil)))) (pa_nil))))
      (pss_cons (ps_expr (pe_bm PySem.F.plainAttrs_list PySem.F.slot_list_append PySem.F.type_list_append mt_append (pv 5) (pa_cons (pe_tup (pa_cons (pe_op op_repT (show PE _ _ (tLt (.t [(.t [])])) from pe_tup (pa_cons (pe_tup (pa_nil)) (pa_nil))) pe_int) (pa_cons (show PE _ _ (tLt (.t [(.t [(.s "x"), (.t [(.i 11), (.i 10), (.i 9), (.i 8), (.i 7), (.i 6), (.i 5), (.i 4), (.i 3), (.i 2), (.i 1), (.i 0)])])])) from pe_tup (pa_cons (pe_tup (pa_cons pe_str (pa_cons (pe_tup (pa_cons pe_int (pa_cons pe_int (pa_cons pe_int (pa_cons pe_int (pa_cons pe_int (pa_cons pe_int (pa_cons pe_int (pa_cons pe_int (pa_cons pe_int (pa_cons pe_int (pa_cons pe_int (pa_cons pe_int (pa_nil)))))))))))))) (pa_nil)))) (pa_nil))) (pa_nil)))) (pa_nil))))
      (pss_cons (ps_expr (pe_bm PySem.F.plainAttrs_list PySem.F.slot_list_append PySem.F.type_list_append mt_append (pv 4) (pa_cons (pe_call GO r7 (by rfl) gO kO' bO .nil pass0 (pa_cons (show PE _ _ (tLt (.t [(.t [(.s "watched"), (.v 0)])])) from pe_tup (pa_cons (pe_tup (pa_cons pe_str (pa_cons (pv 0) (pa_nil)))) (pa_nil))) (pa_cons (show PE _ _ (tLt (.t [(.i 0), (.i 0), (.i 0)])) from pe_tup (pa_cons pe_int (pa_cons pe_int (pa_cons pe_int (pa_nil))))) (pa_nil)))) (pa_nil))))
      (pss_cons (ps_expr (pe_bm PySem.F.plainAttrs_list PySem.F.slot_list_append PySem.F.type_list_append mt_append (pv 5) (pa_cons (show PE _ _ (tLt (.t [(.t [(.t [.n])]), (.t [(.t [(.s "x"), (.t [(.i 0)])])])])) from pe_tup (pa_cons (pe_tup (pa_cons (pe_tup (pa_cons pe_non (pa_nil))) (pa_nil))) (pa_cons (pe_tup (pa_cons (pe_tup (pa_cons pe_str (pa_cons (pe_tup (pa_cons pe_int (pa_nil))) (pa_nil)))) (pa_nil))) (pa_nil)))) (pa_nil))))
      (pss_cons (ps_set (i := 4) scHand.nd rfl (Or.inl rfl) (pe_op op_cat (pv 4) (pe_lst (pa_cons (pe_call GE r8 (by rfl) gE kE bE .nil pass0 (pa_cons pe_int (pa_cons (show PE _ _ (tLt (.t [])) from pe_tup (pa_nil)) (pa_cons (show PE _ _ (tLt (.t [])) from pe_tup (pa_nil)) (pa_cons pe_str (pa_cons pe_int (pa_nil))))))) (pa_cons (pe_call GE r8 (by rfl) gE kE bE .nil pass0 (pa_cons pe_int (pa_cons (pv 1) (pa_cons (pv 2) (pa_cons pe_str (pa_cons pe_int (pa_nil))))))) (pa_nil))))))
      (pss_cons (ps_expr (pe_bm PySem.F.plainAttrs_list PySem.F.slot_list_append PySem.F.type_list_append mt_append (pv 4) (pa_cons (pe_call GE r8 (by rfl) gE kE bE .nil pass0 (pa_cons pe_int (pa_cons (pv 1) (pa_cons (pv 2) (pa_cons pe_str (pa_cons pe_int (pa_nil))))))) (pa_nil))))
      (pss_cons (ps_set (i := 5) scHand.nd rfl (Or.inl rfl) (pe_op op_cat (pv 5) (pe_lst (pa_cons (pe_lst (pa_cons pe_str (pa_cons pe_int (pa_cons pe_bl (pa_nil))))) (pa_cons (pe_lst (pa_cons pe_str (pa_cons pe_int (pa_cons pe_bl (pa_nil))))) (pa_cons (pe_lst (pa_cons pe_str (pa_cons pe_str (pa_cons pe_bl (pa_nil))))) (pa_nil)))))))
      (pss_one (ps_ret (pe_and (pe_call GQ r7 (by rfl) gQ kQ bQ .nil pass0 (pa_cons (pv 4) (pa_cons (pv 5) (pa_nil)))) (pe_one (pe_call GC r10 (by rfl) gC kC bC .nil pass0 (pa_cons (pv 1) (pa_cons (pv 2) (pa_nil)))))))))))))))))))))))))), ?_⟩
    -- reading
    obtain ⟨rfl, z⟩ := h
    dsimp only [L2.start, nHand]
    refine seq_lt (K := K) (ρ := fun _ => PyData.none) (by simp [okLt, okLts]) fun H1 u0 s1 d0 => ?_
    have e0 : dLt (fun _ => PyData.none) (.t [(.t [(.s "read"), (.s "x")]), (.t [(.s "write"), (.s "x")])]) = dBoth := by simp only [dLt, dLts]; rfl
    rw [e0] at d0
    refine seq_tup2 ?_
    refine rd_lt (K := K) (ρ := fun _ => dBoth) (.t [(.t [(.s "plain"), (.v 0)]), (.t [(.s "plain"), (.v 0)])]) ?_ fun H2 lo s2 dlo => ?_
    · simp only [okLt, okLts]
      exact ⟨by decide, ⟨by decide, trivial, ⟨u0, rfl, d0⟩, trivial⟩, ⟨by decide, trivial, ⟨u0, rfl, d0⟩, trivial⟩, trivial⟩
    rw [lowD _ rfl] at dlo
    refine ⟨by show 6 ≤ sizeLine; decide, fun ma po hma pl => ⟨by show 2 ≤ sizeLine; decide, fun p hp => ⟨p, _, rfl, SqT.of upd_same, rfl, _, _, rfl, ?_⟩⟩⟩
    refine ⟨_, _, rfl, rfl, ?_⟩
    have tm : TupF (upd H2 ma (.frz po (.tup [V.int 0, V.int 1, V.int 0, V.int 0, V.int 1, V.int 1]))) ma (vM msLow) := ⟨po, upd_same, pl⟩
    have sm := new_same (o := .frz po (.tup [V.int 0, V.int 1, V.int 0, V.int 0, V.int 1, V.int 1])) hma
    have sp := new_same (o := .tup [lo, V.ref ma]) hp
    have s0p := (((s1.trans s2).trans sm).trans sp)
    have tm2 := tm.same sp
    have dlo2 := dp_same (sm.trans sp) dlo
    have hb1 := dp_same ((s2.trans sm).trans sp) d0
    generalize upd (upd H2 ma (.frz po (.tup [V.int 0, V.int 1, V.int 0, V.int 0, V.int 1, V.int 1]))) p (.tup [lo, V.ref ma]) = Hp0 at s0p tm2 dlo2 hb1
    have hJ : ∀ {H'}, Same Hp0 H' → IsJ K H' lo jsLow := fun s => isJ_same s (isJ_of dlo2 okLow)
    have hM : ∀ {H'}, Same Hp0 H' → IsM K H' (.ref ma) msLow := fun s => isM_same s (isM_of (.tup tm2.sq (dp_vM msLow)) (by decide))
    have begLow : BegM jsLow msLow := full_beg fullLow
    clear sm sp tm hma hp dlo
    refine seq_lst2 ?_
    refine ⟨_, rfl, _, rfl, lo, .ref ma, jsLow, msLow, rfl, hJ (fun _ _ z => z), hM (fun _ _ z => z), okLow, begLow, by decide, fewLow, fun H4 u3 s4 d3 => ?_⟩
    refine ⟨6, rfl, by decide, by decide, fun D hD => lc_got (K := K) (os := ((List.range 6).map (heldD jsLow msLow)).map some) (wk_rng 0 6) rfl hD (fun y hy => by
      rw [kept_somes] at hy
      obtain ⟨k, _, rfl⟩ := List.mem_map.mp hy
      exact oT_heldD _ _ _) (by rw [sizeLine_eq]; show 6 < _; decide) (fun k o ho => ?_) (fun Hf pf => ?_)⟩
    · intro x Hx N Z hx sx n1 n2
      rw [List.getElem?_map] at ho
      rw [List.getElem?_map] at ho
      have hk : k < 6 := by
        cases hh : (List.range 6)[k]? with
        | none => rw [hh] at ho; cases ho
        | some z => have := (List.getElem?_eq_some_iff.mp hh).1; rw [List.length_range] at this; exact this
      rw [List.getElem?_range hk] at ho
      obtain rfl := Option.some.inj ho
      rw [Int.zero_add] at hx
      subst hx
      refine ⟨rfl, ?_⟩
      unfold tYes
      dsimp only
      rw [if_pos rfl]
      refine ⟨_, rfl, _, rfl, _, rfl, lo, .ref ma, jsLow, msLow, (k : Nat), rfl, hJ (s4.trans sx), hM (s4.trans sx), okLow, begLow.1, by decide, fewLow, fun c => absurd ⟨by omega, by show (k : Int) < 6; omega⟩ c, fun n en ln Hy uy sy dy => ?_⟩
      obtain rfl : k = n := by omega
      exact n1 _ _ _ rfl sy dy
    obtain ⟨sf, zs, hDf, dzs⟩ := pf
    rw [kept_somes] at dzs
    refine ⟨by show 2 ≤ sizeLine; decide, fun g hg => ?_⟩
    have sg := new_same (o := .lst [u3, V.ref D]) hg
    have hgg : upd Hf g (.lst [u3, V.ref D]) g = some (.lst [u3, V.ref D]) := upd_same
    have dl0 : DpAll K Hf [u3, V.ref D] [outD jsLow msLow, .list ((List.range 6).map (heldD jsLow msLow))] := .cons (dp_same sf d3) (.cons (.lst (SqL.of hDf) dzs) .nil)
    have spg := (s4.trans sf).trans sg
    have dl1 : DpAll K (delS [g] (upd Hf g (.lst [u3, V.ref D]))) [u3, V.ref D] [outD jsLow msLow, .list ((List.range 6).map (heldD jsLow msLow))] := dpAll_same (delS_of (fun a m => by rw [List.mem_singleton.mp m]; exact hg) sg) dl0
    have npg := fresh_back (s4.trans sf) hg
    generalize upd Hf g (.lst [u3, V.ref D]) = H5 at hgg spg dl1
    clear sg hg sf s4 hD hDf dzs dl0 d3
    dsimp only [gName]
    refine seq_lst2 ?_
    refine rd_lt (K := K) (ρ := fun _ => PyData.none) (.t [(.t [(.t [.n]), (.t [.n])]), (.t [(.t [(.s "x"), (.t [(.i 0), (.i 1)])])])]) (by simp [okLt, okLts]) fun H6 w6 s6 d6 => ?_
    refine rd_ltl (K := K) (ρ := fun _ => PyData.none) [(.t []), (.t []), (.t []), (.t [(.t [(.s "x"), (.i 0)])]), (.t []), (.t [(.t [(.s "x"), (.i 1)])])] (by simp [okLt, okLts]) (by decide) (by simp [dLts, dLt, onlyT, onlyTs]) fun H7 u7 s7 a7 n7 => ⟨by show 2 ≤ sizeLine; decide, fun e he => ?_⟩
    rw [show dLt (fun _ => PyData.none) (.t [(.t [(.t [.n]), (.t [.n])]), (.t [(.t [(.s "x"), (.t [(.i 0), (.i 1)])])])]) = outD jsLow msLow from rfl] at d6
    rw [show dLts (fun _ => PyData.none) [(.t []), (.t []), (.t []), (.t [(.t [(.s "x"), (.i 0)])]), (.t []), (.t [(.t [(.s "x"), (.i 1)])])] = (List.range 6).map (heldD jsLow msLow) from rfl] at a7
    have lg : ∀ a ∈ [g], ∃ zs, H5 a = some (.lst zs) := fun a m => by rw [List.mem_singleton.mp m]; exact ⟨_, hgg⟩
    have lg6 : ∀ a ∈ [g], ∃ zs, H6 a = some (.lst zs) := fun a m => by obtain ⟨zs, h⟩ := lg a m; exact ⟨zs, s6 _ _ h⟩
    have b6 : Dp K (delS [g] H7) w6 (outD jsLow msLow) := dp_same (delS_mono s7) (FrD.away (H := H5) (.inr ⟨oT_outD begLow, d6⟩) s6 lg)
    have b7 := a7 [g] lg6
    have se := new_same (o := .lst [w6, u7]) he
    have sad := delS_add (g := g) (o := .lst [w6, u7]) he
    have s57 := (s6.trans s7)
    have gd : GD K g e [outD jsLow msLow, .list ((List.range 6).map (heldD jsLow msLow))] [outD jsLow msLow, .list ((List.range 6).map (heldD jsLow msLow))] (upd H7 e (.lst [w6, u7])) := by
      refine ⟨fun q => ?_, ⟨_, se _ _ (s57 _ _ hgg), dpAll_same ((delS_mono s57).trans sad) dl1⟩, ⟨_, upd_same, .cons (dp_same sad b6) (.cons (dp_same sad b7) .nil)⟩⟩
      rw [← q, s57 _ _ hgg] at he
      cases he
    have sX := (spg.trans s57).trans se
    have npe := fresh_back (spg.trans s57) he
    have okd : ∀ x ∈ [outD jsLow msLow, .list ((List.range 6).map (heldD jsLow msLow))], x.depth ≤ 5 ∧ small x := fun x hx => by
      rcases List.mem_cons.mp hx with rfl | hx
      · have := ok_outD okLow fewLow begLow (by decide)
        exact ⟨by omega, this.2⟩
      · rw [List.mem_singleton.mp hx]
        refine ⟨?_, ?_⟩
        · rw [PyData.depth]
          refine Nat.le_trans (Nat.succ_le_succ (depth_all (n := 2) fun y hy => ?_)) (by decide)
          obtain ⟨k, _, rfl⟩ := List.mem_map.mp hy
          exact (ok_held okLow fewLow msLow k).1
        · rw [small, List.length_map, List.length_range]
          refine ⟨by decide, small_all fun y hy => ?_⟩
          obtain ⟨k, _, rfl⟩ := List.mem_map.mp hy
          exact (ok_held okLow fewLow msLow k).2
    have ldg : [outD jsLow msLow, .list ((List.range 6).map (heldD jsLow msLow))].length = 2 := rfl
    generalize [outD jsLow msLow, .list ((List.range 6).map (heldD jsLow msLow))] = dg at gd okd ldg
    generalize upd H7 e (.lst [w6, u7]) = H8 at gd sX
    clear se sad b6 b7 a7 d6 he dl1 hgg s57
    dsimp only [gName]
    obtain ⟨xg, hxg, dxg⟩ := gd.lg
    refine seq_app rfl hxg ?_
    refine lc_tup_i ?_
    refine rd_lt (K := K) (ρ := fun _ => PyData.none) (.t [(.i 0), (.i 3), (.i 4), (.i 5)]) (by simp [okLt, okLts]) fun H9 w9 s9 d9 => ?_
    obtain ⟨wa, us, rfl, hwa, dus⟩ := dp_tup_inv (ds := ([0, 3, 4, 5] : List Nat).map fun q => PyData.int (q : Nat)) d9
    obtain rfl := ints_dp dus
    have gd9 := gd.up s9
    have both9 := gd9.both
    have sX9 := sX.trans s9
    refine ⟨wa, rfl, ⟨_, hwa⟩, fun D hD => lc_gotS (K := K) (S := [g, e]) (os := ([0, 3, 4, 5] : List Nat).map fun k => versD jsLow msLow "x" (k : Nat)) (wk_tup hwa) rfl hD (by rw [sizeLine_eq]; show 4 < _; decide) (fun k o ho x Hx N Z hx sx hDl n1 => ?_) (fun Hf pf => ?_)⟩
    · rw [List.getElem?_map] at ho hx
      cases hk : ([0, 3, 4, 5] : List Nat)[k]? with
      | none => rw [hk] at ho; cases ho
      | some q =>
        rw [hk] at ho hx
        obtain rfl := Option.some.inj ho
        obtain rfl := Option.some.inj hx
        have hq6 : q < 6 := by
          have := List.mem_of_getElem? hk
          simp at this
          omega
        refine ⟨rfl, ?_⟩
        unfold tYes
        dsimp only
        rw [if_pos rfl]
        refine ⟨_, rfl, _, rfl, _, rfl, lo, .ref ma, jsLow, msLow, "x", (q : Nat), rfl, hJ (sX9.trans sx), hM (sX9.trans sx), okLow, begLow.1, by decide, by decide +kernel, fun c => absurd ⟨by omega, by show (q : Int) < 6; omega⟩ c, fun _ c => absurd (by decide +kernel) c, fun _ _ Hv uv sv dv => ?_⟩
        obtain ⟨ld, hld⟩ := hDl
        refine n1 _ _ sv (FrD.away (H := Hx) (.inr ⟨oT_versD jsLow msLow "x" _, dv⟩) sv fun a m => ?_)
        rcases List.mem_cons.mp m with rfl | m
        · exact ⟨ld, hld⟩
        · obtain ⟨xs, h⟩ := both9 a m
          exact ⟨xs, sx _ _ h⟩
    have hgf := pf.1 _ _ (s9 _ _ hxg)
    have gdf := (gd9.up pf.1).app hgf (pf.item hD gd9.dne)
    refine ⟨g, xg, _, rfl, rfl, hgf, by rw [dpAll_len dxg, sizeLine_eq, ldg]; decide, ?_⟩
    have s8 := same_upd (o := .lst (xg ++ [V.ref D])) npg (sX9.trans pf.1)
    generalize upd Hf g (.lst (xg ++ [V.ref D])) = Hw at gdf s8
    clear pf hgf hD dus hwa d9 both9 gd9 sX9 s9
    obtain ⟨xe, hxe, dxe⟩ := gdf.swap.lg
    refine seq_app rfl hxe ?_
    refine rd_ltl (K := K) (ρ := fun _ => PyData.none) [(.t [.n]), (.t [.n]), (.t [.n, (.i 0)]), (.t [.n, (.i 0)])] (by simp [okLt, okLts]) (by decide) (by simp [dLts, dLt, onlyT, onlyTs]) fun Hy uy sy ay ny => ?_
    rw [show dLts (fun _ => PyData.none) [(.t [.n]), (.t [.n]), (.t [.n, (.i 0)]), (.t [.n, (.i 0)])] = ([0, 3, 4, 5] : List Nat).map fun k => versD jsLow msLow "x" (k : Nat) from rfl] at ay
    have hey := sy _ _ hxe
    have gdy := ((gdf.up sy).swap.app hey (by rw [delS_swap]; exact ay [g, e] gdf.both)).swap
    refine ⟨e, xe, _, rfl, rfl, hey, by rw [dpAll_len dxe, sizeLine_eq, ldg]; decide, ?_⟩
    have s10 := same_upd (o := .lst (xe ++ [uy])) npe (s8.trans sy)
    generalize upd Hy e (.lst (xe ++ [uy])) = Hz at gdy s10
    have okd2 : ∀ x ∈ dg ++ [PyData.list (([0, 3, 4, 5] : List Nat).map fun k => versD jsLow msLow "x" (k : Nat))], x.depth ≤ 5 ∧ small x := fun x hx => by
      rcases List.mem_append.mp hx with hx | hx
      · exact okd x hx
      · rw [List.mem_singleton.mp hx]
        refine ⟨?_, ?_⟩
        · rw [PyData.depth]
          refine Nat.le_trans (Nat.succ_le_succ (depth_all (n := 1) fun y hy => ?_)) (by decide)
          obtain ⟨k, _, rfl⟩ := List.mem_map.mp hy
          exact (ok_vers okLow msLow "x" _).1
        · rw [small, List.length_map]
          refine ⟨by decide, small_all fun y hy => ?_⟩
          obtain ⟨k, _, rfl⟩ := List.mem_map.mp hy
          exact (ok_vers okLow msLow "x" _).2
    have ldg2 : (dg ++ [PyData.list (([0, 3, 4, 5] : List Nat).map fun k => versD jsLow msLow "x" (k : Nat))]).length = 3 := by rw [List.length_append, ldg]; rfl
    generalize dg ++ [PyData.list (([0, 3, 4, 5] : List Nat).map fun k => versD jsLow msLow "x" (k : Nat))] = dg2 at gdy okd2 ldg2
    clear okd ldg gdf gd s8 ay ny hxg dxg hxe dxe hey sy sX
    dsimp only
    refine seq_tup2 ?_
    refine rd_lt (K := K) (ρ := fun _ => PyData.none) (.t [(.t [(.s "read"), (.s "x")]), (.t [(.s "read"), (.s "y")])]) (by simp [okLt, okLts]) fun Ha wl sa dwl => ?_
    refine rd_lt (K := K) (ρ := fun _ => PyData.none) (.t [(.s "plain"), (.t [(.t [(.s "write"), (.s "x")]), (.t [(.s "write"), (.s "y")])])]) (by simp [okLt, okLts]) fun Hb wp sb dwp => ?_
    refine ⟨by show 2 ≤ sizeLine; decide, fun p hp => ⟨p, _, rfl, SqT.of upd_same, rfl, _, _, rfl, ?_⟩⟩
    refine ⟨_, _, rfl, rfl, ?_⟩
    dsimp only [gName]
    refine seq_lt (K := K) (ρ := fun _ => PyData.none) (by simp [okLt, okLts]) fun Hc wt sc dwt => ?_
    have spn := new_same (o := .tup [wl, wp]) hp
    have sall := ((sa.trans sb).trans spn).trans sc
    have dwl' := dp_same ((sb.trans spn).trans sc) dwl
    have dwp' := dp_same (spn.trans sc) dwp
    have gdc := gdy.up sall
    have s11 := s10.trans sall
    clear sa sb spn sc hp dwl dwp sall gdy s10
    refine for_tup_i ?_
    refine rd_lt (K := K) (ρ := fun _ => PyData.none) (.t [(.t [(.s "plain"), (.i 1)]), (.t [(.s "shot"), .n]), (.t [(.s "watched"), .n])]) (by simp [okLt, okLts]) fun Hd wv sd dwv => ?_
    obtain ⟨va, us, rfl, hva, dus⟩ := dp_tup_inv (ds := lvsT.map fun q => PyData.tuple [.str q.1, odI q.2]) dwv
    refine ⟨va, rfl, ⟨_, hva⟩, ?_⟩
    have s12 := s11.trans sd
    have gdd := gdc.up sd
    have dwl3 := dp_same sd dwl'
    have dwp3 := dp_same sd dwp'
    have dwt3 := dp_same sd dwt
    refine seq_then (fun σ' H' => ∃ g e x3 x9 x10, σ' = [some u0, some lo, some (.ref ma), x3, some (.ref g), some (.ref e), some wl, some wp, some wt, x9, x10, none, none] ∧ Same Hd H' ∧ GD K g e (dg2 ++ lvsT.flatMap mvH) (dg2 ++ lvsT.flatMap mvH) H' ∧ Hp0 g = none ∧ Hp0 e = none) (fun N hN => ?_) (fun σ' H' hp => ?_)
    · refine for_wk (wk_tup (K := K) hva) (fun n σ' H' => ∃ g e x3 x9 x10, σ' = [some u0, some lo, some (.ref ma), x3, some (.ref g), some (.ref e), some wl, some wp, some wt, x9, x10, none, none] ∧ Same Hd H' ∧ GD K g e (dg2 ++ (lvsT.take n).flatMap mvH) (dg2 ++ (lvsT.take n).flatMap mvH) H' ∧ Hp0 g = none ∧ Hp0 e = none) ⟨g, e, _, _, _, rfl, fun _ _ z => z, by simpa using gdd, npg, npe⟩ (fun i σ H p => p.choose_spec.choose_spec.choose_spec.choose_spec.choose_spec.2.1) (fun k x σ Ha2 Hb2 hk p sab hx => ?_) (fun σ' H' p => hN _ _ (by
        have l3 : us.length = 3 := by rw [dpAll_len dus]; rfl
        rw [l3] at p
        exact p))
      obtain ⟨g, e, x3, x9, x10, rfl, sA, gd3, npg, npe⟩ := p
      obtain ⟨dd, hdd, ddx⟩ := dpAll_at dus hx
      rw [List.getElem?_map] at hdd
      cases hlv : lvsT[k]? with
      | none => rw [hlv] at hdd; cases hdd
      | some q =>
        obtain ⟨lv, ow⟩ := q
        rw [hlv] at hdd
        obtain rfl := Option.some.inj hdd
        have hin : (lv, ow) ∈ lvsT := List.mem_of_getElem? hlv
        obtain ⟨q1, q2, q3, q4, q5, q6, q7⟩ := handEq hin
        obtain ⟨okl, fulll, fewl⟩ := okL hin
        have begl := full_beg fulll
        have tk : (lvsT.take (k + 1)).flatMap mvH = (lvsT.take k).flatMap mvH ++ mvH (lv, ow) := by rw [List.take_add_one, hlv, Option.toList_some, List.flatMap_append, List.flatMap_singleton]
        have k3 : k < 3 := (List.getElem?_eq_some_iff.mp hlv).1
        have ldq : (dg2 ++ (lvsT.take k).flatMap mvH).length ≤ 15 := by
          have := flat_le (c := 4) (L := (lvsT.take k).map mvH) (fun l hl => by obtain ⟨y, _, rfl⟩ := List.mem_map.mp hl; exact Nat.le_refl 4)
          rw [List.length_map, List.length_take] at this
          rw [List.length_append, ldg2, List.flatMap_def]
          have : min k 3 ≤ 3 := Nat.min_le_right ..
          omega
        rw [tk, ← List.append_assoc]
        generalize dg2 ++ (lvsT.take k).flatMap mvH = dq at gd3 ldq ⊢
        have sBb := sA.trans sab
        have gb := gd3.up sab
        obtain ⟨xa, xs2, rfl, hxa, dxs⟩ := dp_tup_inv ddx
        cases dxs with
        | cons dlv dr =>
        cases dr with
        | cons dow dn =>
        rename_i vlv vr vow vn
        cases dn
        cases dlv
        refine ⟨xa, _, rfl, seqT_same sBb hxa, rfl, _, _, rfl, ?_⟩
        refine ⟨_, _, rfl, rfl, ?_⟩
        have dow2 := dp_same sBb dow
        have dwl4 := dp_same sBb dwl3
        have dwp4 := dp_same sBb dwp3
        have dwt4 := dp_same sBb dwt3
        refine seq_lt (K := K) (ρ := fun i => if i = 9 then .str lv else if i = 6 then dLt (fun _ => PyData.none) (.t [(.t [(.s "read"), (.s "x")]), (.t [(.s "read"), (.s "y")])]) else dLt (fun _ => PyData.none) (.t [(.s "plain"), (.t [(.t [(.s "write"), (.s "x")]), (.t [(.s "write"), (.s "y")])])])) ?_ fun H3 wj s3 dwj => ?_
        · simp only [okLt, okLts]
          exact ⟨by decide, ⟨by decide, ⟨_, rfl, .str _⟩, ⟨_, rfl, dwl4⟩, trivial⟩, ⟨_, rfl, dwp4⟩, trivial⟩
        have dwj' : Dp K H3 wj (dJobs (jsL lv)) := dwj
        have hjj : ∀ {H'}, Same H3 H' → IsJ K H' wj (jsL lv) := fun s => isJ_same s (isJ_of dwj' okl)
        have hmm : ∀ {H'}, Same H3 H' → IsM K H' wt msT := fun s => isM_same s (isM_of (dp_same s3 dwt4) (by decide))
        have hseen4 : ∀ n : Nat, (4 : Int) = n → n = 4 := fun n h => by omega
        refine ⟨_, rfl, _, rfl, _, rfl, wj, wt, jsL lv, msT, rfl, hjj (fun _ _ z => z), hmm (fun _ _ z => z), okl, begl, by decide, fewl, fun H4 u4 s4 d4 => ?_⟩
        refine ⟨_, rfl, _, rfl, wj, wt, jsL lv, msT, 4, rfl, hjj s4, hmm s4, okl, begl, by decide, fun c => absurd ⟨by decide, by decide⟩ c, fun n en ln rd => ?_, fun n en ln rd H5 s5 => ?_⟩
        · obtain rfl : n = 4 := by omega
          rw [q4] at rd; cases rd
        obtain rfl : n = 4 := by omega
        refine ⟨_, rfl, _, rfl, wj, wt, jsL lv, msT, 0, rfl, hjj (s4.trans s5), hmm (s4.trans s5), okl, begl, by decide, fun c => absurd ⟨by decide, by decide⟩ c, fun n en ln rd => ?_, fun n en ln rd H6 s6 => ⟨by show 3 ≤ sizeLine; decide, fun t ht => ?_⟩⟩
        · obtain rfl : n = 0 := by omega
          rw [q5] at rd; cases rd
        obtain rfl : n = 0 := by omega
        generalize vsAt (jsL lv) (runM (jsL lv) msT) 4 = o4 at q2 ht ⊢
        generalize vsAt (jsL lv) (runM (jsL lv) msT) 0 = o0 at q3 ht ⊢
        have st := new_same (o := .lst [u4, ovI o4, ovI o0]) ht
        obtain ⟨xg, hxg, dxg⟩ := gb.lg
        have s36 := ((s4.trans s5).trans s6).trans st
        have sbt := s3.trans s36
        have hgt := sbt _ _ hxg
        have gt := gb.up sbt
        have b1 : Dp K (delS [g, e] (upd H6 t (.lst [u4, ovI o4, ovI o0]))) u4 (outD (jsL lv) msT) := dp_same (delS_mono ((s5.trans s6).trans st)) (FrD.away (H := H3) (.inr ⟨oT_outD begl, d4⟩) s4 (gb.up s3).both)
        refine ⟨g, t, xg, _, rfl, rfl, hgt, upd_same, by rw [dpAll_len dxg, sizeLine_eq]; show _ + 3 ≤ _; omega, fun g' hg' => ?_⟩
        have gd5 := gt.cat hgt (.cons b1 (.cons (dp_odI o4) (.cons (dp_odI o0) .nil))) hg'
        rw [q2, q3] at gd5
        have sg' := new_same (o := .lst (xg ++ [u4, ovI o4, ovI o0])) hg'
        have ng' := fresh_back (sbt) hg'
        have s3g := s36.trans sg'
        generalize upd (upd H6 t (.lst [u4, ovI o4, ovI o0])) g' (.lst (xg ++ [u4, ovI o4, ovI o0])) = H7 at gd5 s3g
        clear s4 d4 s5 s6 st ht hg' sg' b1 gt hgt hxg dxg s36 sbt
        have oo : onlyT (odI ow) = true := oT_odI ow
        have oO := oT_outD begl
        have sall7 := s3.trans s3g
        dsimp only [gName]
        refine ⟨_, rfl, ?_⟩
        refine lst_i ?_
        refine rd_lts (K := K) (ρ := fun _ => odI ow) [ltO, .v 3, .n] ?_ fun H8 us8 s8 ds8 => ?_
        · simp only [okLt, okLts]
          exact ⟨⟨by decide, ⟨by decide, ⟨by decide, trivial, ⟨vow, rfl, dp_same sall7 dow2⟩, trivial⟩, ⟨by decide, trivial⟩, trivial⟩, ⟨by decide, ⟨by decide, trivial, ⟨by decide, trivial, trivial⟩, trivial⟩, ⟨by decide, trivial, ⟨by decide, trivial, trivial⟩, trivial⟩, trivial⟩, trivial⟩, ⟨vow, rfl, dp_same sall7 dow2⟩, trivial, trivial⟩
        have eds : dLts (fun _ => odI ow) [ltO, .v 3, .n] = [outD (jsL lv) msT, odI ow, .none] := by
          rw [q1]
          simp only [dLts, dLt]
        rw [eds] at ds8
        have l8 : us8.length = 3 := by rw [dpAll_len ds8]; rfl
        refine ⟨by rw [l8]; show 3 ≤ sizeLine; decide, fun t ht => ?_⟩
        have st := new_same (o := .lst us8) ht
        obtain ⟨xe, hxe, dxe⟩ := gd5.swap.lg
        have s7t := s8.trans st
        have het := s7t _ _ hxe
        have gt := (gd5.up s7t).swap
        have b8 : DpAll K (delS [e, g'] (upd H8 t (.lst us8))) us8 [outD (jsL lv) msT, odI ow, .none] := dpAll_ts (ts_delS fun a m => by obtain ⟨zs, h⟩ := gt.both a m; exact noTup_lst h) (dpAll_same st ds8) (by simp [onlyTs, oO, oo]; rfl)
        refine ⟨e, t, xe, us8, rfl, rfl, het, upd_same, by rw [dpAll_len dxe, l8, sizeLine_eq]; omega, fun e' he' => ?_⟩
        have gd6 := (gt.cat het b8 he').swap
        have se' := new_same (o := .lst (xe ++ us8)) he'
        have ne' := fresh_back (sall7.trans s7t) he'
        have s3h := (s3g.trans s7t).trans se'
        generalize upd (upd H8 t (.lst us8)) e' (.lst (xe ++ us8)) = H9 at gd6 s3h
        clear ds8 s8 st ht s7t het gt b8 he' se' hxe dxe gd5
        obtain ⟨xg, hxg, dxg⟩ := gd6.lg
        have lq2 : (dq ++ [outD (jsL lv) msT, odI ow, .none]).length ≤ 18 := by rw [List.length_append]; show _ + 3 ≤ _; omega
        refine seq_app rfl hxg ?_
        refine ⟨_, rfl, _, rfl, wj, wt, jsL lv, msT, 3, rfl, hjj s3h, hmm s3h, okl, begl.1, by decide, fewl, fun c => absurd ⟨by decide, by decide⟩ c, fun n en ln Hi ui si di => ?_⟩
        obtain rfl : n = 3 := by omega
        rw [q6] at di
        refine ⟨_, rfl, _, rfl, wj, wt, jsL lv, msT, "y", 4, rfl, hjj (s3h.trans si), hmm (s3h.trans si), okl, begl.1, by decide, by decide +kernel, fun c => absurd ⟨by decide, by decide⟩ c, fun _ c => absurd (by
          simp only [List.mem_cons, List.mem_nil_iff, or_false, Prod.mk.injEq] at hin
          rcases hin with ⟨rfl, rfl⟩ | ⟨rfl, rfl⟩ | ⟨rfl, rfl⟩ <;> decide +kernel) c, fun _ _ Hj uj sj dj => ⟨by show 2 ≤ sizeLine; decide, fun t ht => ?_⟩⟩
        have dj' : Dp K Hj uj (.tuple [.none, .int 1]) := by rw [← q7]; exact dj
        have oi : onlyT (.tuple [.tuple [.str "x", .int 1], .tuple [.str "y", .int 1]]) = true := by simp [onlyT, onlyTs]
        have oj : onlyT (.tuple [.none, .int 1]) = true := by simp [onlyT, onlyTs]
        have st := new_same (o := .lst [ui, uj]) ht
        have s9t := (si.trans sj).trans st
        have hgt := s9t _ _ hxg
        have gt := gd6.up s9t
        have bt : Dp K (delS [g', e'] (upd Hj t (.lst [ui, uj]))) (.ref t) (.list [.tuple [.tuple [.str "x", .int 1], .tuple [.str "y", .int 1]], .tuple [.none, .int 1]]) :=
          .lst (SqL.of (delS_out (new_out (fresh_back (si.trans sj) ht) gd6.dne) upd_same)) (.cons (dp_same (delS_mono (sj.trans st)) (FrD.away (H := H9) (.inr ⟨oi, di⟩) si gd6.both)) (.cons (dp_same (delS_mono st) (FrD.away (H := Hi) (.inr ⟨oj, dj'⟩) sj (gd6.up si).both)) .nil))
        have gd7 := gt.app hgt bt
        refine ⟨g', xg, _, rfl, rfl, hgt, by rw [dpAll_len dxg, sizeLine_eq]; omega, ?_⟩
        have s8 := same_upd (o := .lst (xg ++ [V.ref t])) ng' (s3.trans (s3h.trans s9t))
        generalize upd (upd Hj t (.lst [ui, uj])) g' (.lst (xg ++ [V.ref t])) = Hk at gd7 s8
        clear st s9t hgt gt bt ht
        obtain ⟨xe, hxe, dxe⟩ := gd7.swap.lg
        dsimp only
        refine one_app rfl hxe ?_
        refine rd_ltl (K := K) (ρ := fun _ => PyData.none) [(.t [(.t [(.s "x"), (.i 1)]), (.t [(.s "y"), (.i 1)])]), (.t [.n, (.i 1)])] (by simp [okLt, okLts]) (by decide) (by simp [dLts, dLt, onlyT, onlyTs]) fun Hy uy sy ay ny => ?_
        have hey := sy _ _ hxe
        have gdy := ((gd7.up sy).swap.app hey (by rw [delS_swap]; exact ay [g', e'] gd7.both)).swap
        refine ⟨e', xe, _, rfl, rfl, hey, by rw [dpAll_len dxe, sizeLine_eq]; omega, ?_⟩
        have s10 := same_upd (o := .lst (xe ++ [uy])) ne' (s8.trans sy)
        refine ⟨g', e', _, _, _, rfl, sA.trans (sab.trans s10), ?_, fresh_back (s12.trans sBb) ng', fresh_back (s12.trans sBb) ne'⟩
        have em : dq ++ mvH (lv, ow) = dq ++ [outD (jsL lv) msT, odI ow, .none] ++ [.list [.tuple [.tuple [.str "x", .int 1], .tuple [.str "y", .int 1]], .tuple [.none, .int 1]]] := by
          unfold mvH
          rw [q6, q7, List.append_assoc]
          rfl
        rw [em]
        exact gdy
    · obtain ⟨g, e, x3, x9, x10, rfl, sE, gdE, npg, npe⟩ := hp
      have s13 := s12.trans sE
      have okdE : ∀ x ∈ dg2 ++ lvsT.flatMap mvH, x.depth ≤ 5 ∧ small x := fun x hx => by
        rcases List.mem_append.mp hx with hx | hx
        · exact okd2 x hx
        · obtain ⟨q, hq, hx⟩ := List.mem_flatMap.mp hx
          exact ok_mvH hq x hx
      have ldE : (dg2 ++ lvsT.flatMap mvH).length = 15 := by rw [List.length_append, ldg2]; rfl
      generalize dg2 ++ lvsT.flatMap mvH = dgE at gdE okdE ldE
      clear gdd gdc okd2 ldg2 dwl3 dwp3 dwt3 dwl' dwp' dwt dwv hva dus
      refine seq_op ?_
      refine rd_lt (K := K) (ρ := fun _ => PyData.none) (.t [(.t [(.s "plain"), (.t [(.t [(.s "write"), (.s "x")])])])]) (by simp [okLt, okLts]) fun Ha wm sa dwm => ?_
      obtain ⟨wa2, us2, rfl, hwa2, dus2⟩ := dp_tup_inv (ds := [dJob jM]) dwm
      cases dus2 with
      | cons dj2 dn2 =>
      cases dn2
      rename_i vj2
      refine ⟨wa2, 12, _, rfl, rfl, hwa2, by simp, by decide, by decide, by show 1 ≤ 1000; decide, fun pm hpm => ?_⟩
      have spm := new_same (o := .tup (List.replicate (12 : Int).toNat [vj2]).flatten) hpm
      have dmany : Dp K (upd Ha pm (.tup (List.replicate (12 : Int).toNat [vj2]).flatten)) (.ref pm) (dJobs jsM) := .tup (SqT.of upd_same) (rep_dp (dp_same spm dj2) 12)
      have gdm := (gdE.up sa).up spm
      have s14 := (s13.trans sa).trans spm
      generalize upd Ha pm (.tup (List.replicate (12 : Int).toNat [vj2]).flatten) = Hm at dmany gdm s14
      clear hpm spm hwa2 dj2 dwm sa gdE sE
      obtain ⟨xg, hxg, dxg⟩ := gdm.lg
      refine seq_cat3 rfl ?_
      refine call_2 ?_
      refine rd_lt (K := K) (ρ := fun _ => PyData.none) (.t []) (by simp [okLt, okLts]) fun Ha wa sa dwa => ?_
      refine rd_lt (K := K) (ρ := fun _ => PyData.none) (.t []) (by simp [okLt, okLts]) fun Hb wb sb dwb => ?_
      obtain ⟨n1, n2, n3⟩ := okNil
      obtain ⟨o1, o2, o3⟩ := okS
      have o2b := full_beg o2
      have dwa' : Dp K Hb wa (dJobs []) := dp_same sb dwa
      have dwb' : Dp K Hb wb (dMix []) := dwb
      refine ⟨wa, wb, [], [], rfl, isJ_of dwa' n1, isM_of dwb' (by decide), n1, n2, by decide, n3, fun Hc u1 sc d1 => ?_⟩
      refine call_2 ?_
      refine rd_lt (K := K) (ρ := fun _ => PyData.none) (.t [(.t [(.s "shot"), (.t [])])]) (by simp [okLt, okLts]) fun Hd2 wc sd2 dwc => ?_
      refine rd_lt (K := K) (ρ := fun _ => PyData.none) (.t [(.i 0)]) (by simp [okLt, okLts]) fun He wd se dwd => ?_
      have dwc' : Dp K He wc (dJobs jsS) := dp_same se dwc
      have dwd' : Dp K He wd (dMix [0]) := dwd
      refine ⟨wc, wd, jsS, [0], rfl, isJ_of dwc' o1, isM_of dwd' (by decide), o1, o2b, by decide, o3, fun Hf u2 sf d2 => ?_⟩
      refine call_3S ?_
      refine rd_lt (K := K) (ρ := fun _ => PyData.none) (.t [(.t [(.s "shot"), (.t [])])]) (by simp [okLt, okLts]) fun Hg wf sg dwf => ?_
      refine rd_lt (K := K) (ρ := fun _ => PyData.none) (.t [(.i 0)]) (by simp [okLt, okLts]) fun Hh wg sh dwg => ?_
      have dwf' : Dp K Hh wf (dJobs jsS) := dp_same sh dwf
      have dwg' : Dp K Hh wg (dMix [0]) := dwg
      refine ⟨wf, wg, jsS, [0], 0, rfl, isJ_of dwf' o1, isM_of dwg' (by decide), o1, o2b.1, by decide, o3, fun c => absurd ⟨by decide, by decide⟩ c, fun n en ln Hi u3 si d3 => ⟨by show 3 ≤ sizeLine; decide, fun t ht => ?_⟩⟩
      obtain rfl : n = 0 := by omega
      rw [held0 o2b] at d3
      have st := new_same (o := .lst [u1, u2, u3]) ht
      have ot3 : onlyT (.tuple []) = true := by rw [onlyT, onlyTs]
      have s1 := sa.trans sb
      have sx1 := (sd2.trans se).trans sf
      have sx2 := (sg.trans sh).trans si
      have smt := ((s1.trans sc).trans sx1).trans (sx2.trans st)
      have hgt := smt _ _ hxg
      have gt := gdm.up smt
      have c1 : Dp K (delS [g, e] (upd Hi t (.lst [u1, u2, u3]))) u1 (outD [] []) := dp_same (delS_mono ((sx1.trans sx2).trans st)) (FrD.away (H := Hb) (.inr ⟨oT_outD n2, d1⟩) sc (gdm.up s1).both)
      have c2 : Dp K (delS [g, e] (upd Hi t (.lst [u1, u2, u3]))) u2 (outD jsS [0]) := dp_same (delS_mono (sx2.trans st)) (FrD.away (H := He) (.inr ⟨oT_outD o2b, d2⟩) sf (gdm.up ((s1.trans sc).trans (sd2.trans se))).both)
      have c3 : Dp K (delS [g, e] (upd Hi t (.lst [u1, u2, u3]))) u3 (.tuple []) := dp_same (delS_mono st) (FrD.away (H := Hh) (.inr ⟨ot3, d3⟩) si (gdm.up (((s1.trans sc).trans sx1).trans (sg.trans sh))).both)
      refine ⟨g, t, xg, _, rfl, rfl, hgt, upd_same, by rw [dpAll_len dxg, sizeLine_eq, ldE]; show 15 + 3 ≤ 16777216; decide, fun g' hg' => ?_⟩
      have gdn := gt.cat hgt (.cons c1 (.cons c2 (.cons c3 .nil))) hg'
      have sg' := new_same (o := .lst (xg ++ [u1, u2, u3])) hg'
      have dmany2 := dp_same (smt.trans sg') dmany
      have s15 := (s14.trans smt).trans sg'
      have npg' := fresh_back (s14.trans smt) hg'
      generalize upd (upd Hi t (.lst [u1, u2, u3])) g' (.lst (xg ++ [u1, u2, u3])) = Hn at gdn dmany2 s15
      clear sa sb sc sd2 se sf sg sh si st s1 sx1 sx2 smt hgt gt c1 c2 c3 sg' hg' ht dwa dwb dwa' dwb' dwc dwd dwc' dwd' dwf dwg dwf' dwg' d1 d2 d3 gdm dmany hxg dxg
      dsimp only
      obtain ⟨xe, hxe, dxe⟩ := gdn.swap.lg
      refine seq_catl rfl ?_
      refine rd_lts (K := K) (ρ := fun _ => PyData.none) [(.t [(.t []), (.t [])]), (.t [(.t [(.t [])]), (.t [])]), (.t [])] (by simp [okLt, okLts]) fun Ho us so ds => ?_
      rw [show dLts (fun _ => PyData.none) [(.t [(.t []), (.t [])]), (.t [(.t [(.t [])]), (.t [])]), (.t [])] = [outD [] [], outD jsS [0], .tuple []] from rfl] at ds
      have l3 : us.length = 3 := by rw [dpAll_len ds]; rfl
      refine ⟨by rw [l3]; show 3 ≤ sizeLine; decide, fun t ht => ?_⟩
      have st := new_same (o := .lst us) ht
      have sot := so.trans st
      have het := sot _ _ hxe
      have gt := (gdn.up sot).swap
      have b8 : DpAll K (delS [e, g'] (upd Ho t (.lst us))) us [outD [] [], outD jsS [0], .tuple []] := dpAll_ts (ts_delS fun a m => by obtain ⟨zs, h⟩ := gt.both a m; exact noTup_lst h) (dpAll_same st ds) (by simp [onlyTs, oT_outD n2, oT_outD o2b, ot3])
      refine ⟨e, t, xe, us, rfl, rfl, het, upd_same, by rw [dpAll_len dxe, l3, sizeLine_eq, ldE]; decide, fun e' he' => ?_⟩
      have gdo := (gt.cat het b8 he').swap
      have se' := new_same (o := .lst (xe ++ us)) he'
      have npe' := fresh_back (s15.trans sot) he'
      have s16 := (s15.trans sot).trans se'
      have dmany3 := dp_same (sot.trans se') dmany2
      have ldO : (dgE ++ [outD [] [], outD jsS [0], .tuple []]).length = 18 := by rw [List.length_append, ldE]; rfl
      have okdO : ∀ x ∈ dgE ++ [outD [] [], outD jsS [0], .tuple []], x.depth ≤ 5 ∧ small x := fun x hx => by
        rcases List.mem_append.mp hx with hx | hx
        · exact okdE x hx
        · have b1 := ok_outD n1 n3 n2 (by decide)
          have b2 := ok_outD o1 o3 o2b (by decide)
          simp only [List.mem_cons, List.mem_nil_iff, or_false] at hx
          rcases hx with rfl | rfl | rfl
          · exact ⟨by omega, b1.2⟩
          · exact ⟨by omega, b2.2⟩
          · exact ⟨by decide +kernel, by simp [small, smallAll]⟩
      generalize upd (upd Ho t (.lst us)) e' (.lst (xe ++ us)) = Hp2 at gdo s16 dmany3
      generalize dgE ++ [outD [] [], outD jsS [0], .tuple []] = dgO at gdo ldO okdO
      clear so ds l3 ht st sot het gt b8 he' se' hxe dxe gdn dmany2 okdE ldE
      dsimp only
      obtain ⟨xg, hxg, dxg⟩ := gdo.lg
      refine seq_app rfl hxg ?_
      refine call_2 ?_
      refine ⟨_, rfl, ?_⟩
      refine ⟨12, rfl, by decide, by decide, fun D hD => lc_got (K := K) (os := (kssM.map fun ks => PyData.tuple (ks.map .int)).map some) (wk_rng 0 12) rfl hD (fun y hy => by
        rw [kept_somes] at hy
        obtain ⟨ks, hk, rfl⟩ := List.mem_map.mp hy
        rw [onlyT]
        exact onlyTs_of fun x hx => by obtain ⟨z, _, rfl⟩ := List.mem_map.mp hx; rw [onlyT]) (by rw [sizeLine_eq]; show 12 < _; decide) (fun k o ho => ?_) (fun Hf pf => ?_)⟩
      · intro x Hx N Z hx sx n1 n2
        rw [List.getElem?_map, List.getElem?_map, List.getElem?_map] at ho
        have hk : k < 12 := by
          cases hh : (List.range 12)[k]? with
          | none => rw [hh] at ho; cases ho
          | some z => have := (List.getElem?_eq_some_iff.mp hh).1; rw [List.length_range] at this; exact this
        rw [List.getElem?_range hk] at ho
        obtain rfl := Option.some.inj ho
        rw [Int.zero_add] at hx
        subst hx
        refine ⟨rfl, ?_⟩
        unfold tYes
        dsimp only
        rw [if_pos rfl]
        refine ⟨_, rfl, 11, (k : Nat), rfl, rfl, _, rfl, 11, (k : Nat), rfl, rfl, by show 2 ≤ sizeLine; decide, fun t ht => ?_⟩
        exact n1 _ _ _ rfl (new_same ht) (.tup (SqT.of upd_same) (.cons (.int _) (.cons (.int _) .nil)))
      obtain ⟨sf, ys, hDf, dys⟩ := pf
      rw [kept_somes] at dys
      obtain ⟨bs, rfl, lbs, hbs⟩ := tups_dp dys
      refine rd_lt (K := K) (ρ := fun _ => PyData.none) (.t []) (by simp [okLt, okLts]) fun Hg wz sg dwz => ?_
      obtain ⟨za, zx, rfl, hza, dzx⟩ := dp_tup_inv (ds := []) dwz
      cases dzx
      refine ⟨D, za, bs, kssM.map fun ks => ks.map V.int, [], rfl, sg _ _ hDf, hza, by rw [lbs]; rfl, fun i b hb => by
        obtain ⟨ks, h1, h2⟩ := hbs i b hb
        exact ⟨ks.map V.int, by rw [List.getElem?_map, h1]; rfl, seqT_same sg h2⟩, by decide, fun Hh tt sh htt => ?_⟩
      have htt' : SqT K Hh tt (vM msM) := htt
      have sfh := (sf.trans sg).trans sh
      have dmany4 := dp_same sfh dmany3
      have begM : BegM jsM msM := ⟨by decide, fun q => by
        by_cases hq : q < 12
        · revert q
          decide
        · have h0 : msM.count q = 0 := List.count_eq_zero.mpr fun hm => by
            have : ∀ z ∈ msM, z < 12 := by decide
            exact hq (this q hm)
          omega⟩
      refine ⟨.ref pm, .ref tt, jsM, msM, rfl, isJ_of dmany4 okM.1, isM_of (.tup htt' (dp_vM msM)) (by decide), okM.1, begM, by decide, okM.2, fun Hi u si d => ?_⟩
      have sxi := sfh.trans si
      have hgi := sxi _ _ hxg
      have gdp := (gdo.up sxi).app hgi (FrD.away (H := Hh) (.inr ⟨oT_outD begM, d⟩) si (gdo.up sfh).both)
      refine ⟨g', xg, _, rfl, rfl, hgi, by rw [dpAll_len dxg, sizeLine_eq, ldO]; decide, ?_⟩
      have s17 := same_upd (o := .lst (xg ++ [u])) npg' (s16.trans sxi)
      generalize upd Hi g' (.lst (xg ++ [u])) = Hj at gdp s17
      clear sf hDf dys hbs lbs sg dwz hza sh htt htt' sfh dmany4 si sxi hgi hxg dxg d gdo
      dsimp only
      obtain ⟨xe, hxe, dxe⟩ := gdp.swap.lg
      refine seq_app rfl hxe ?_
      refine tup_2 ?_
      refine op_2 ?_
      refine rd_lt (K := K) (ρ := fun _ => PyData.none) (.t [(.t [])]) (by simp [okLt, okLts]) fun Ha wa sa dwa => ?_
      obtain ⟨qa, qx, rfl, hqa, dqx⟩ := dp_tup_inv (ds := [PyData.tuple []]) dwa
      cases dqx with
      | cons dq1 dq2 =>
      cases dq2
      rename_i vq
      refine ⟨qa, 12, _, rfl, rfl, hqa, by simp, by decide, by decide, by show 1 ≤ 1000; decide, fun pm2 hpm2 => ?_⟩
      have spm := new_same (o := .tup (List.replicate (12 : Int).toNat [vq]).flatten) hpm2
      have dr : Dp K (upd Ha pm2 (.tup (List.replicate (12 : Int).toNat [vq]).flatten)) (.ref pm2) (.tuple (List.replicate 12 (.tuple []))) := .tup (SqT.of upd_same) (rep_dp (dp_same spm dq1) 12)
      refine rd_lt (K := K) (ρ := fun _ => PyData.none) (.t [(.t [(.s "x"), (.t [(.i 11), (.i 10), (.i 9), (.i 8), (.i 7), (.i 6), (.i 5), (.i 4), (.i 3), (.i 2), (.i 1), (.i 0)])])]) (by simp [okLt, okLts]) fun Hb wb sb dwb => ⟨by show 2 ≤ sizeLine; decide, fun t ht => ?_⟩
      have st := new_same (o := .tup [V.ref pm2, wb]) ht
      have dt : Dp K (upd Hb t (.tup [V.ref pm2, wb])) (.ref t) (outD jsM msM) := .tup (SqT.of upd_same) (.cons (dp_same (sb.trans st) dr) (.cons (dp_same st dwb) .nil))
      have sx := ((sa.trans spm).trans sb).trans st
      have hex := sx _ _ hxe
      have gdq := ((gdp.up sx).swap.app hex (FrD.away (H := Hj) (.inr ⟨oT_outD begM, dt⟩) sx gdp.swap.both)).swap
      refine ⟨e', xe, _, rfl, rfl, hex, by rw [dpAll_len dxe, sizeLine_eq, ldO]; decide, ?_⟩
      have s18 := same_upd (o := .lst (xe ++ [V.ref t])) npe' (s17.trans sx)
      have ldQ : (dgO ++ [outD jsM msM]).length = 19 := by rw [List.length_append, ldO]; rfl
      have okdQ : ∀ x ∈ dgO ++ [outD jsM msM], x.depth ≤ 5 ∧ small x := fun x hx => by
        rcases List.mem_append.mp hx with hx | hx
        · exact okdO x hx
        · rw [List.mem_singleton.mp hx]
          have b1 := ok_outD okM.1 okM.2 begM (by decide)
          exact ⟨by omega, b1.2⟩
      generalize upd (upd Hb t (.tup [V.ref pm2, wb])) e' (.lst (xe ++ [V.ref t])) = Hk at gdq s18
      generalize dgO ++ [outD jsM msM] = dgQ at gdq ldQ okdQ
      clear sa dwa hqa dq1 hpm2 spm dr sb dwb ht st dt sx hex hxe dxe gdp okdO ldO
      dsimp only
      obtain ⟨xg, hxg, dxg⟩ := gdq.lg
      refine seq_app rfl hxg ?_
      refine call_2 ?_
      obtain ⟨w1, w2, w3⟩ := okW
      have w2b := full_beg w2
      refine rd_lt (K := K) (ρ := fun _ => dBoth) (.t [(.t [(.s "watched"), (.v 0)])]) ?_ fun Ha wa sa dwa => ?_
      · simp only [okLt, okLts]
        exact ⟨by decide, ⟨by decide, trivial, ⟨u0, rfl, dp_same s18 hb1⟩, trivial⟩, trivial⟩
      refine rd_lt (K := K) (ρ := fun _ => PyData.none) (.t [(.i 0), (.i 0), (.i 0)]) (by simp [okLt, okLts]) fun Hb wb sb dwb => ?_
      have dwa' : Dp K Hb wa (dJobs jsW) := dp_same sb dwa
      have dwb' : Dp K Hb wb (dMix [0, 0, 0]) := dwb
      refine ⟨wa, wb, jsW, [0, 0, 0], rfl, isJ_of dwa' w1, isM_of dwb' (by decide), w1, w2b, by decide, w3, fun Hc u sc d => ?_⟩
      have sx := (sa.trans sb).trans sc
      have hgx := sx _ _ hxg
      have gdr := (gdq.up sx).app hgx (FrD.away (H := Hb) (.inr ⟨oT_outD w2b, d⟩) sc (gdq.up (sa.trans sb)).both)
      refine ⟨g', xg, _, rfl, rfl, hgx, by rw [dpAll_len dxg, sizeLine_eq, ldQ]; decide, ?_⟩
      have s19 := same_upd (o := .lst (xg ++ [u])) npg' (s18.trans sx)
      generalize upd Hc g' (.lst (xg ++ [u])) = Hd2 at gdr s19
      clear sa dwa sb dwb dwa' dwb' sc d sx hgx hxg dxg gdq
      dsimp only
      obtain ⟨xe, hxe, dxe⟩ := gdr.swap.lg
      refine seq_app rfl hxe ?_
      refine rd_lt (K := K) (ρ := fun _ => PyData.none) (.t [(.t [(.t [.n])]), (.t [(.t [(.s "x"), (.t [(.i 0)])])])]) (by simp [okLt, okLts]) fun He we se dwe => ?_
      rw [show dLt (fun _ => PyData.none) (.t [(.t [(.t [.n])]), (.t [(.t [(.s "x"), (.t [(.i 0)])])])]) = outD jsW [0, 0, 0] from rfl] at dwe
      have hee := se _ _ hxe
      have gds := ((gdr.up se).swap.app hee (FrD.away (H := Hd2) (.inr ⟨oT_outD w2b, dwe⟩) se gdr.swap.both)).swap
      refine ⟨e', xe, _, rfl, rfl, hee, by rw [dpAll_len dxe, sizeLine_eq, ldQ]; decide, ?_⟩
      have s20 := same_upd (o := .lst (xe ++ [we])) npe' (s19.trans se)
      have ldS : (dgQ ++ [outD jsW [0, 0, 0]]).length = 20 := by rw [List.length_append, ldQ]; rfl
      have okdS : ∀ x ∈ dgQ ++ [outD jsW [0, 0, 0]], x.depth ≤ 5 ∧ small x := fun x hx => by
        rcases List.mem_append.mp hx with hx | hx
        · exact okdQ x hx
        · rw [List.mem_singleton.mp hx]
          have b1 := ok_outD w1 w3 w2b (by decide)
          exact ⟨by omega, b1.2⟩
      generalize upd He e' (.lst (xe ++ [we])) = Hf at gds s20
      generalize dgQ ++ [outD jsW [0, 0, 0]] = dgS at gds ldS okdS
      clear se dwe hee hxe dxe gdr okdQ ldQ
      dsimp only
      obtain ⟨xg, hxg, dxg⟩ := gds.lg
      refine seq_cat2 rfl ?_
      refine call_h ?_
      refine rd_lt (K := K) (ρ := fun _ => PyData.none) (.t []) (by simp [okLt, okLts]) fun Ha wa sa dwa => ?_
      refine rd_lt (K := K) (ρ := fun _ => PyData.none) (.t []) (by simp [okLt, okLts]) fun Hb wb sb dwb => ?_
      obtain ⟨n1, n2, n3⟩ := okNil
      have dwa' : Dp K Hb wa (dJobs []) := dp_same sb dwa
      have dwb' : Dp K Hb wb (dMix []) := dwb
      refine ⟨0, wa, wb, [], [], "", 0, rfl, by decide, isJ_of dwa' n1, isM_of dwb' (by decide), n1, n2, by decide, n3, by decide +kernel, fun Hc u1 sc d1 => ?_⟩
      have s2c := s20.trans ((sa.trans sb).trans sc)
      refine ⟨_, rfl, _, rfl, 2, lo, .ref ma, jsLow, msLow, "y", 6, rfl, by decide, hJ s2c, hM s2c, okLow, begLow, by decide, fewLow, by decide +kernel, fun Hd3 u2 sd2 d2 => ⟨by show 2 ≤ sizeLine; decide, fun t ht => ?_⟩⟩
      rw [show heardD [] [] 0 "" 0 = noD 0 from rfl] at d1
      rw [show heardD jsLow msLow 2 "y" 6 = noD 6 from rfl] at d2
      have st := new_same (o := .lst [u1, u2]) ht
      have sab := sa.trans sb
      have sx := (sab.trans sc).trans (sd2.trans st)
      have hgx := sx _ _ hxg
      have c1 : Dp K (delS [g', e'] (upd Hd3 t (.lst [u1, u2]))) u1 (noD 0) := dp_same (delS_mono (sd2.trans st)) (d1.away sc (gds.up sab).both)
      have c2 : Dp K (delS [g', e'] (upd Hd3 t (.lst [u1, u2]))) u2 (noD 6) := dp_same (delS_mono st) (d2.away sd2 (gds.up (sab.trans sc)).both)
      refine ⟨g', t, xg, _, rfl, rfl, hgx, upd_same, by rw [dpAll_len dxg, sizeLine_eq, ldS]; show 20 + 2 ≤ 16777216; decide, fun g2 hg2 => ?_⟩
      have gdt := (gds.up sx).cat hgx (.cons c1 (.cons c2 .nil)) hg2
      have s21 := (s20.trans sx).trans (new_same (o := .lst (xg ++ [u1, u2])) hg2)
      have npg2 := fresh_back (s20.trans sx) hg2
      generalize upd (upd Hd3 t (.lst [u1, u2])) g2 (.lst (xg ++ [u1, u2])) = Hg at gdt s21
      clear sa dwa sb dwb dwa' dwb' sc d1 sd2 d2 ht st sab sx hgx c1 c2 hg2 hxg dxg gds s2c
      dsimp only
      obtain ⟨xg, hxg, dxg⟩ := gdt.lg
      refine seq_app rfl hxg ?_
      refine ⟨_, rfl, _, rfl, 2, lo, .ref ma, jsLow, msLow, "y", 5, rfl, by decide, hJ s21, hM s21, okLow, begLow, by decide, fewLow, by decide +kernel, fun Ha u3 sa d3 => ?_⟩
      rw [show heardD jsLow msLow 2 "y" 5 = .list [.str "no row", .str "y", .bool true] from rfl] at d3
      have hga := sa _ _ hxg
      have gdu := (gdt.up sa).app hga (d3.away sa gdt.both)
      refine ⟨g2, xg, _, rfl, rfl, hga, by rw [dpAll_len dxg, sizeLine_eq, List.length_append, ldS]; decide, ?_⟩
      have s22 := same_upd (o := .lst (xg ++ [u3])) npg2 (s21.trans sa)
      generalize upd Ha g2 (.lst (xg ++ [u3])) = Hh at gdu s22
      clear sa d3 hga hxg dxg gdt
      dsimp only
      obtain ⟨xe, hxe, dxe⟩ := gdu.swap.lg
      refine ⟨_, rfl, by show 3 ≤ sizeLine; decide, fun t1 ht1 => ⟨by show 3 ≤ sizeLine; decide, fun t2 ht2 => ⟨by show 3 ≤ sizeLine; decide, fun t3 ht3 => ⟨by show 3 ≤ sizeLine; decide, fun t ht => ?_⟩⟩⟩⟩
      have st1 := new_same (o := .lst [V.str "no number", V.int 0, V.bl true]) ht1
      have st2 := new_same (o := .lst [V.str "no number", V.int 6, V.bl true]) ht2
      have st3 := new_same (o := .lst [V.str "no row", V.str "y", V.bl true]) ht3
      have st := new_same (o := .lst [V.ref t1, V.ref t2, V.ref t3]) ht
      have sx := ((st1.trans st2).trans st3).trans st
      have hex := sx _ _ hxe
      have gdv := (gdu.up sx).swap
      have dne := gdu.swap.dne
      have c1 := (.lst (SqL.of (delS_out (new_out ht1 dne) (st _ _ (st3 _ _ (st2 _ _ upd_same))))) (.cons (.str _) (.cons (.int _) (.cons (.bl _) .nil))) : Dp K (delS [e', g2] (upd (upd (upd (upd Hh t1 (.lst [V.str "no number", V.int 0, V.bl true])) t2 (.lst [V.str "no number", V.int 6, V.bl true])) t3 (.lst [V.str "no row", V.str "y", V.bl true])) t (.lst [V.ref t1, V.ref t2, V.ref t3]))) (.ref t1) (noD 0))
      have c2 := (.lst (SqL.of (delS_out (new_out (fresh_back st1 ht2) dne) (st _ _ (st3 _ _ upd_same)))) (.cons (.str _) (.cons (.int _) (.cons (.bl _) .nil))) : Dp K (delS [e', g2] (upd (upd (upd (upd Hh t1 (.lst [V.str "no number", V.int 0, V.bl true])) t2 (.lst [V.str "no number", V.int 6, V.bl true])) t3 (.lst [V.str "no row", V.str "y", V.bl true])) t (.lst [V.ref t1, V.ref t2, V.ref t3]))) (.ref t2) (noD 6))
      have c3 := (.lst (SqL.of (delS_out (new_out (fresh_back (st1.trans st2) ht3) dne) (st _ _ upd_same))) (.cons (.str _) (.cons (.str _) (.cons (.bl _) .nil))) : Dp K (delS [e', g2] (upd (upd (upd (upd Hh t1 (.lst [V.str "no number", V.int 0, V.bl true])) t2 (.lst [V.str "no number", V.int 6, V.bl true])) t3 (.lst [V.str "no row", V.str "y", V.bl true])) t (.lst [V.ref t1, V.ref t2, V.ref t3]))) (.ref t3) (.list [.str "no row", .str "y", .bool true]))
      refine ⟨e', t, xe, _, rfl, rfl, hex, upd_same, by rw [dpAll_len dxe, sizeLine_eq, ldS]; show 20 + 3 ≤ 16777216; decide, fun e2 he2 => ?_⟩
      have gdw := gdv.cat hex (.cons c1 (.cons c2 (.cons c3 .nil))) he2
      have s23 := (s22.trans sx).trans (new_same (o := .lst (xe ++ [V.ref t1, V.ref t2, V.ref t3])) he2)
      generalize upd (upd (upd (upd (upd Hh t1 (.lst [V.str "no number", V.int 0, V.bl true])) t2 (.lst [V.str "no number", V.int 6, V.bl true])) t3 (.lst [V.str "no row", V.str "y", V.bl true])) t (.lst [V.ref t1, V.ref t2, V.ref t3])) e2 (.lst (xe ++ [V.ref t1, V.ref t2, V.ref t3])) = Hz at gdw s23
      have ed : dgS ++ [noD 0, noD 6] ++ [.list [.str "no row", .str "y", .bool true]] = dgS ++ [noD 0, noD 6, .list [.str "no row", .str "y", .bool true]] := by rw [List.append_assoc]; rfl
      rw [ed] at gdw
      obtain ⟨ye, hye, dye⟩ := gdw.lg
      obtain ⟨yg, hyg, dyg⟩ := gdw.le
      have okz : ∀ x ∈ dgS ++ [noD 0, noD 6, .list [.str "no row", .str "y", .bool true]], x.depth ≤ 5 ∧ small x := fun x hx => by
        rcases List.mem_append.mp hx with hx | hx
        · exact okdS x hx
        · simp only [List.mem_cons, List.mem_nil_iff, or_false] at hx
          rcases hx with rfl | rfl | rfl <;> exact ⟨by decide +kernel, by simp [noD, small, smallAll]⟩
      dsimp only
      refine ⟨_, rfl, _, rfl, .ref g2, .ref e2, .list (dgS ++ [noD 0, noD 6, .list [.str "no row", .str "y", .bool true]]), rfl, .lst (SqL.of hyg) (dpAll_same delS_same dyg), .lst (SqL.of hye) (dpAll_same delS_same dye), ?_, ?_, fun Hx sx2 => ⟨true, rfl, iteT ?_⟩⟩
      · rw [PyData.depth]
        exact Nat.succ_le_succ (depth_all (n := 5) fun x hx => (okz x hx).1)
      · rw [small, List.length_append, ldS]
        exact ⟨by show 20 + 3 ≤ 1000000; decide, small_all fun x hx => (okz x hx).2⟩
      · have sz := s23.trans sx2
        exact ⟨_, rfl, _, rfl, lo, ma, jsLow, msLow, rfl, dp_same sz dlo2, tm2.same sz, okLow, fewLow, fullLow, (fun j hj => by
          have e : j = jA := by simp at hj; exact hj
          rw [e]
          decide), by decide, by decide, by decide +kernel, fun Hy sy => z _ ((s0p.trans sz).trans sy)⟩
end
end Kz

namespace Kz
open PySem PySem.Spec PyProof.Rows L2 RZ Kt Kx
section
variable {P : Program} {w : World} {K : PySem.W.Frag} {mg : Str → Option Value} {base : Heap}
/-! ### one drawn case -/
theorem ok_drawnJ {js : List JobM} (h : ∀ j ∈ js, drawnJ j) (l : js.length ≤ 4) : okJs js ∧ fewR js ∧ (∀ j ∈ js, j.st.Nodup) ∧ ("none" : Str) ∉ allRows js := by
  have la : (allRows js).length ≤ 16 := by
    unfold allRows
    have := flat_le (c := 4) (L := js.map fun j => j.st.map (·.2)) (fun x hx => by
      obtain ⟨j, hj, rfl⟩ := List.mem_map.mp hx
      rw [List.length_map]
      exact (h j hj).2.2.1)
    rw [List.length_map] at this
    rw [List.flatMap_def]
    omega
  have lr : (rowsM js).length ≤ 16 := Nat.le_trans (nd_len (inc_nodup (inc_ascS _)) fun r hr => mem_ascS.mp hr) la
  have four : ∀ r : Str, r ∈ (["a", "row", "x", "zz"] : List Str) → PyData.strOk r = true ∧ r ≠ "none" := fun r hr => by
    simp only [List.mem_cons, List.mem_nil_iff, or_false] at hr
    rcases hr with rfl | rfl | rfl | rfl <;> exact ⟨by decide +kernel, by decide +kernel⟩
  refine ⟨⟨by omega, fun j hj => ?_⟩, ⟨by omega, by omega⟩, fun j hj => (h j hj).2.1, fun hm => ?_⟩
  · obtain ⟨d1, d2, d3, d4⟩ := h j hj
    refine ⟨?_, by omega, fun s hs => (four _ (d4 s hs)).1⟩
    rcases d1 with e | e | e <;> rw [e] <;> decide +kernel
  · unfold allRows at hm
    obtain ⟨j, hj, hm⟩ := List.mem_flatMap.mp hm
    obtain ⟨s, hs, e⟩ := List.mem_map.mp hm
    exact (four _ ((h j hj).2.2.2 s hs)).2 e
def spRight : Sp := fun vs H Q _ => ∃ l : Addr, vs = [.ref l] ∧ BoxAt H l 0 ∧ ∀ H', But l H H' → Q (.bl true) H'
theorem scRight : FnScope ["_law_box_here", "_law_jobs_so"] ["_law_box_here"] (defScope sRight) := ⟨rfl, rfl, rfl, by decide +kernel, rfl, by decide +kernel, by decide +kernel⟩
theorem ok_right {f fW fD fC : Addr} {fd fdW fdD fdC : FuncData} (F : Fun K "_law_right" "_law_right" sRight f fd)
    (GW : FnOk P w K mg base CX0 4 fW fdW ["_law_box_here"] (spWeb K)) (kW : PySem.W.keepIn K (.ref fW) = true) (bW : Binds K fdW ["_law_box_here"] []) (gW : mg "_law_web" = some (.ref fW))
    (GD : FnOk P w K mg base CX0 3 fD fdD ["_law_box_here", "_law_jobs_so"] (spDrawn K)) (kD : PySem.W.keepIn K (.ref fD) = true) (bD : Binds K fdD ["_law_box_here", "_law_jobs_so"] []) (gD : mg "_law_drawn" = some (.ref fD))
    (GC : FnOk P w K mg base CX0 10 fC fdC pCase (spCase K)) (kC : PySem.W.keepIn K (.ref fC) = true) (bC : Binds K fdC pCase []) (gC : mg "_law_case_right" = some (.ref fC)) : FnOk P w K mg base CX0 11 f fd ["_law_box_here"] spRight := by
  refine F.ok scRight (fun vs H Q E h => ?_) (fun cdv A outer s H vs Q E hr h => ?_)
  · obtain ⟨l, rfl, _⟩ := h
    rfl
  · obtain ⟨l, rfl, hb, q⟩ := h
    have r10 : Room 10 _ := hr
    have r4 : Room 4 _ := hr.mono (by decide)
    have r3 : Room 3 _ := hr.mono (by decide)
    refine ⟨_, pss_cons (ps_set (i := 1) scRight.nd rfl (.inl rfl) (pe_call GW r4 (by rfl) gW kW bW .nil pass0 (pa_cons (pv 0) pa_nil)))
      (pss_one (ps_ret (pe_call GC r10 (by rfl) gC kC bC .nil pass0 (pa_cons (pv 1) (pa_cons (pe_call GD r3 (by rfl) gD kD bD .nil pass0 (pa_cons (pv 0) (pa_cons (pv 1) pa_nil))) pa_nil))))), ?_⟩
    refine ⟨_, rfl, l, 0, rfl, hb, by decide, fun H1 u js b1 dj dr lj ne bx1 => ?_⟩
    obtain ⟨ok, fw, nd, nr⟩ := ok_drawnJ dr lj
    refine ⟨_, rfl, _, rfl, _, rfl, l, u, 0 + 100, js, rfl, bx1, by decide, dj, ok, lj, fun j hj => (dr j hj).2.2.1, fun H2 a ms b2 tm full lm bx2 => ?_⟩
    have ts : TS0 K H1 H2 := fun b zs h => by
      obtain ⟨c0, c1, c2, hc, _⟩ := bx1
      rcases h with (h | ⟨o, h⟩) | h
      · exact .inl (.inl (b2 b _ (fun q => by rw [q, hc] at h; cases h) h))
      · exact .inl (.inr ⟨o, b2 b _ (fun q => by rw [q, hc] at h; cases h) h⟩)
      · exact .inr h
    refine ⟨u, a, js, ms, rfl, dp_ts ts dj (oT_jobs js), tm, ok, fw, full, nd, by omega, ?_, nr, fun H3 s3 => q H3 ((b1.trans b2).trans (But.of s3))⟩
    intro e
    subst e
    cases js with
    | nil => exact ne rfl
    | cons j t =>
      have := full.2 0 (by simp)
      simp at this
end
end Kz

namespace Kz
open PySem PySem.Spec PyProof.Rows L2 RZ Kt Kx
section
variable {P : Program} {w : World} {K : PySem.W.Frag} {mg : Str → Option Value} {base : Heap}
/-! ### the law -/
def spLaw (K : PySem.W.Frag) : Sp := fun vs H Q _ => ∃ (a : Addr) (ns : List Int), vs = [.ref a] ∧ SqL K H a (ns.map V.int) ∧ ns.length ≤ 63 ∧ ∀ H', Q (.bl true) H'
abbrev nLaw : List Str := ["_law_script", "_law_cells_so", "_law_nth_so"]
theorem scLaw : FnScope nLaw ["_law_script"] (defScope sLaw) := ⟨rfl, rfl, rfl, by decide +kernel, rfl, by decide +kernel, by decide +kernel⟩
theorem ok_law {f fC fB fR fH : Addr} {fd fdC fdB fdR fdH : FuncData} (F : Fun K "law" "law" sLaw f fd) (N : Nat0 mg) (GC : FnOk P w K mg base CX0 1 fC fdC ["_law_script", "_law_top_so"] (spCells K)) (kC : PySem.W.keepIn K (.ref fC) = true) (bC : Binds K fdC ["_law_script", "_law_top_so"] []) (gC : mg "_law_cells" = some (.ref fC))
    (GB : FnOk P w K mg base CX0 1 fB fdB ["_law_script", "_law_nth_so"] (spBox K)) (kB : PySem.W.keepIn K (.ref fB) = true) (bB : Binds K fdB ["_law_script", "_law_nth_so"] []) (gB : mg "_law_box" = some (.ref fB))
    (GR : FnOk P w K mg base CX0 11 fR fdR ["_law_box_here"] spRight) (kR : PySem.W.keepIn K (.ref fR) = true) (bR : Binds K fdR ["_law_box_here"] []) (gR : mg "_law_right" = some (.ref fR))
    (GH : FnOk P w K mg base CX0 11 fH fdH [] spHand) (kH : PySem.W.keepIn K (.ref fH) = true) (bH : Binds K fdH [] []) (gH : mg "_law_by_hand_right" = some (.ref fH)) : FnOk P w K mg base CX0 12 f fd ["_law_script"] (spLaw K) := by
  refine F.ok scLaw (fun vs H Q E h => ?_) (fun cdv A outer s H vs Q E hr h => ?_)
  · obtain ⟨a, ns, rfl, _⟩ := h
    rfl
  · obtain ⟨a, ns, rfl, hS, hlen, q⟩ := h
    have hr1 : Room 1 _ := hr.mono (by decide)
    refine ⟨_, pss_cons (ps_if (pt_not (pt_val (pe_call0 GH hr (by rfl) gH kH bH .nil pass0))) (pss_one (ps_ret pe_bl)) pss_nil)
      (pss_cons (ps_set (i := 1) scLaw.nd rfl (.inr rfl) (pe_call GC hr1 (by rfl) gC kC bC .nil pass0 (pa_cons (pv 0) (pa_cons pe_int pa_nil))))
      (pss_one (ps_ret (pe_callB (cr_all rfl) (by rfl) N.all bt_all (pa_cons (pe_lc (own := [("_law_nth_so", 2)]) (g := gName 2) (tt := tYes) rfl scLaw.nd (pi_range1 rfl N.range (pa_cons (pe_callB call_len_seq (by rfl) N.len PySem.boot_len (pa_cons (pv 1) pa_nil)) pa_nil))
          (blkOk_by (own := [("_law_nth_so", 2)]) (N := nLaw) (sc := defScope sLaw) (by decide +kernel)) (fun _ _ _ _ _ => pg_name (i := 2) scLaw.nd rfl (Or.inl rfl)) (fun _ _ _ _ _ => pts_nil)
          (fun _ _ _ _ _ => by exact (pe_call GR hr (by rfl) gR kR bR .nil pass0 (pa_cons (pe_call GB hr1 (by rfl) gB kB bB .nil pass0 (pa_cons (pv 1) (pa_cons (pv 2) pa_nil))) pa_nil)))) pa_nil))))), ?_⟩
    refine ⟨rfl, fun HA sA => ⟨true, rfl, ?_⟩⟩
    refine iteF ⟨_, rfl, a, ns, 3, rfl, sA.seq hS, hlen, by decide, by decide, fun HC pc cs sC nC eC c1 c2 => ?_⟩
    refine ⟨_, rfl, pc, _, rfl, .inl (SqL.of eC), (cs.length : Nat), ?_, by omega, by omega, ?_⟩
    · rw [List.length_map]
    rw [Int.toNat_natCast]
    intro D2 hD2
    refine lc_range (lo := 0) (n := cs.length) (fun i H' => Same HC H' ∧ H' D2 = some (.lst (List.replicate i (V.bl true)))) ⟨new_same hD2, upd_same⟩ (fun i H' hi p => ⟨rfl, ?_⟩) (fun H' p => ?_)
    · unfold tYes
      dsimp only
      rw [if_pos rfl]
      refine ⟨_, rfl, _, rfl, pc, cs, i, ?_, SqL.of (p.1 _ _ eC), by omega, fun H2 l s2 n2 b2 => ⟨l, rfl, b2, fun H3 B3 => ?_⟩⟩
      · rw [Int.zero_add]
        rfl
      have nl : ∀ {b : Addr} {o : HO}, H' b = some o → b ≠ l := fun e => ne_of_none e n2
      have eD : H3 D2 = some (.lst (List.replicate i (V.bl true))) := B3 _ _ (nl p.2) (s2 _ _ p.2)
      refine ⟨_, eD, ?_, fun b o e => (upd_ne (ne_of_none e hD2)).trans (B3 _ _ (nl (p.1 _ _ e)) (s2 _ _ (p.1 _ _ e))), ?_⟩
      · rw [List.length_replicate]
        exact Nat.lt_of_lt_of_le (show i < 63 by omega) (by decide)
      · rw [upd_same, List.replicate_succ']
    · refine ⟨D2, List.replicate cs.length true, rfl, SqL.of (by rw [← rep_bl]; exact p.2), ?_⟩
      rw [rep_all]
      exact q H'
end
end Kz

namespace Kz
open PySem PySem.Spec PyProof.Rows L2 RZ Kt Kx
theorem mk_ec {K : PySem.W.Frag} {mg : Str → Option Value} {x : Str} {C : Addr} {B newId : String} {nm q : Str} {N : Addr} {bs : List Value} {sn : List Str} {sub : List Value} {ab : Bool} {col : Option Bool} {dd : Option Addr} {k0 k1 k2 k3 k5 : Option Value} (g : mg x = some (.ref C))
    (l : K.lookup C = some (cob nm q C N bs B sn sub ab col dd k0 k1 k2 k3 k5 newId)) (sa : PySem.W.findIn K (.ref C) "__setattr__" = some (some (.builtin "object.__setattr__"))) (hg : PySem.W.findIn K (.ref C) "__getattribute__" = some (some (.builtin "BaseException.__getattribute__")))
    (hk : PySem.W.findIn K (.ref C) "__getattr__" = some none) (hs : PySem.W.subIn K (.ref C) (.type "BaseException") = some true) (hd : PySem.W.hasDictIn K C = true) (ha : PySem.W.findIn K (.ref C) "__class__" = some (some (.builtin "object.__class__")))
    (hn : PySem.W.specialIn K (.builtin "object.__class__") "__get__" = some (some (.builtin "getset_descriptor.__get__"))) (ht : PySem.W.takesIn K (.builtin "object.__class__") = some true) (hm : PySem.W.mroIn K C (.type "object") = some true)
    (ty : PySem.W.typeIn K (.ref C) = some (.type "type")) (kC : PySem.W.keepIn K (.ref C) = true) : EC K mg x C B newId :=
  ⟨g, ⟨_, _, _, _, _, _, _, _, _, _, _, _, _, _, l⟩, sa, ⟨hg, hk, hs, hd, ha, hn, ht, hm⟩, ty, kC⟩

theorem kit_T {K : PySem.W.Frag} {mg : Str → Option Value} {x : Str} {C : Addr} {B id n : String} (T : EC K mg x C B id) (hm : PySem.W.kitMeta n = true) : PySem.W.kitOne K (.ref C) (.type n) = some ((tl B).contains (.type n)) := by
  obtain ⟨nm, q, N, bs, sn, sub, ab, col, dd, k0, k1, k2, k3, k5, hC⟩ := T.cls
  have e1 : (Value.ref C == Value.type n) = false := rfl
  unfold PySem.W.kitOne PySem.W.kitCls
  rw [e1, if_neg Bool.false_ne_true]
  show (if PySem.W.kitMeta n = true then PySem.W.mroIn K C (.type n) else none) = _
  rw [if_pos hm]
  unfold PySem.W.mroIn PySem.W.clsIn
  rw [hC]
  show (if (Value.ref C :: tl B).isEmpty = true then none else some ((Value.ref C :: tl B).contains (.type n))) = _
  rw [if_neg (show ¬ (Value.ref C :: tl B).isEmpty = true from Bool.false_ne_true), List.contains_cons]
  rfl

theorem all_mk {l : PySem.W.OpenLaw} {w : World} {K : PySem.W.Frag} {h : Heap} {mg : Str → Option Value} {fa : Addr} (X : K.In h) (G : h.Ns mainGlobals mg) (hfa : mg "law" = some (.ref fa))
    {d0od d0an : Option Addr} {d0sl : Array (Option Value)} {d0oc d0kV d0dc d0pm d0cd d0ct : Value} {d0f : Addr}
    {d1od d1an : Option Addr} {d1sl : Array (Option Value)} {d1oc d1kV d1dc d1pm d1cd d1ct : Value} {d1f : Addr}
    {d2od d2an : Option Addr} {d2sl : Array (Option Value)} {d2oc d2kV d2dc d2pm d2cd d2ct : Value} {d2f : Addr}
    {d3od d3an : Option Addr} {d3sl : Array (Option Value)} {d3oc d3kV d3dc d3pm d3cd d3ct : Value} {d3f : Addr}
    {d4od d4an : Option Addr} {d4sl : Array (Option Value)} {d4oc d4kV d4dc d4pm d4cd d4ct : Value} {d4f : Addr}
    {d5od d5an : Option Addr} {d5sl : Array (Option Value)} {d5oc d5kV d5dc d5pm d5cd d5ct : Value} {d5f : Addr}
    {d6od d6an : Option Addr} {d6sl : Array (Option Value)} {d6oc d6kV d6dc d6pm d6cd d6ct : Value} {d6f : Addr}
    {d7od d7an : Option Addr} {d7sl : Array (Option Value)} {d7oc d7kV d7dc d7pm d7cd d7ct : Value} {d7f : Addr}
    {d8od d8an : Option Addr} {d8sl : Array (Option Value)} {d8oc d8kV d8dc d8pm d8cd d8ct : Value} {d8f : Addr}
    {d9od d9an : Option Addr} {d9sl : Array (Option Value)} {d9oc d9kV d9dc d9pm d9cd d9ct : Value} {d9f : Addr}
    {d10od d10an : Option Addr} {d10sl : Array (Option Value)} {d10oc d10kV d10dc d10pm d10cd d10ct : Value} {d10f : Addr}
    {d11od d11an : Option Addr} {d11sl : Array (Option Value)} {d11oc d11kV d11dc d11pm d11cd d11ct : Value} {d11f : Addr}
    {d12od d12an : Option Addr} {d12sl : Array (Option Value)} {d12oc d12kV d12dc d12pm d12cd d12ct : Value} {d12f : Addr}
    {d13od d13an : Option Addr} {d13sl : Array (Option Value)} {d13oc d13kV d13dc d13pm d13cd d13ct : Value} {d13f : Addr}
    {d14od d14an : Option Addr} {d14sl : Array (Option Value)} {d14oc d14kV d14dc d14pm d14cd d14ct : Value} {d14f : Addr}
    {d15od d15an : Option Addr} {d15sl : Array (Option Value)} {d15oc d15kV d15dc d15pm d15cd d15ct : Value} {d15f : Addr}
    {d16od d16an : Option Addr} {d16sl : Array (Option Value)} {d16oc d16kV d16dc d16pm d16cd d16ct : Value} {d16f : Addr}
    {d17od d17an : Option Addr} {d17sl : Array (Option Value)} {d17oc d17kV d17dc d17pm d17cd d17ct : Value} {d17f : Addr}
    {d18od d18an : Option Addr} {d18sl : Array (Option Value)} {d18oc d18kV d18dc d18pm d18cd d18ct : Value} {d18f : Addr}
    {d19od d19an : Option Addr} {d19sl : Array (Option Value)} {d19oc d19kV d19dc d19pm d19cd d19ct : Value} {d19f : Addr}
    {d20od d20an : Option Addr} {d20sl : Array (Option Value)} {d20oc d20kV d20dc d20pm d20cd d20ct : Value} {d20f : Addr}
    {d21od d21an : Option Addr} {d21sl : Array (Option Value)} {d21oc d21kV d21dc d21pm d21cd d21ct : Value} {d21f : Addr}
    {d22od d22an : Option Addr} {d22sl : Array (Option Value)} {d22oc d22kV d22dc d22pm d22cd d22ct : Value} {d22f : Addr}
    {d23od d23an : Option Addr} {d23sl : Array (Option Value)} {d23oc d23kV d23dc d23pm d23cd d23ct : Value} {d23f : Addr}
    {d24od d24an : Option Addr} {d24sl : Array (Option Value)} {d24oc d24kV d24dc d24pm d24cd d24ct : Value} {d24f : Addr}
    {d25od d25an : Option Addr} {d25sl : Array (Option Value)} {d25oc d25kV d25dc d25pm d25cd d25ct : Value} {d25f : Addr}
    {d26od d26an : Option Addr} {d26sl : Array (Option Value)} {d26oc d26kV d26dc d26pm d26cd d26ct : Value} {d26f : Addr}
    {d27od d27an : Option Addr} {d27sl : Array (Option Value)} {d27oc d27kV d27dc d27pm d27cd d27ct : Value} {d27f : Addr}
    {d28od d28an : Option Addr} {d28sl : Array (Option Value)} {d28oc d28kV d28dc d28pm d28cd d28ct : Value} {d28f : Addr}
    {d29od d29an : Option Addr} {d29sl : Array (Option Value)} {d29oc d29kV d29dc d29pm d29cd d29ct : Value} {d29f : Addr}
    {d30od d30an : Option Addr} {d30sl : Array (Option Value)} {d30oc d30kV d30dc d30pm d30cd d30ct : Value} {d30f : Addr}
    {d31od d31an : Option Addr} {d31sl : Array (Option Value)} {d31oc d31kV d31dc d31pm d31cd d31ct : Value} {d31f : Addr}
    {d32od d32an : Option Addr} {d32sl : Array (Option Value)} {d32oc d32kV d32dc d32pm d32cd d32ct : Value} {d32f : Addr}
    {d33od d33an : Option Addr} {d33sl : Array (Option Value)} {d33oc d33kV d33dc d33pm d33cd d33ct : Value} {d33f : Addr}
    {d34od d34an : Option Addr} {d34sl : Array (Option Value)} {d34oc d34kV d34dc d34pm d34cd d34ct : Value} {d34f : Addr}
    {d35od d35an : Option Addr} {d35sl : Array (Option Value)} {d35oc d35kV d35dc d35pm d35cd d35ct : Value} {d35f : Addr}
    {d36od d36an : Option Addr} {d36sl : Array (Option Value)} {d36oc d36kV d36dc d36pm d36cd d36ct : Value} {d36f : Addr}
    {d37od d37an : Option Addr} {d37sl : Array (Option Value)} {d37oc d37kV d37dc d37pm d37cd d37ct : Value} {d37f : Addr}
    {d38od d38an : Option Addr} {d38sl : Array (Option Value)} {d38oc d38kV d38dc d38pm d38cd d38ct : Value} {d38f : Addr}
    {c0 c0N : Addr} {c0n c0q : Str} {c0b c0u : List Value} {c0s : List Str} {c0ab : Bool} {c0col : Option Bool} {c0dd : Option Addr} {c0k0 c0k1 c0k2 c0k3 c0k5 : Option Value}
    {i0od i0an : Option Addr} {i0sl : Array (Option Value)} {i0oc i0kV i0dc i0pm i0cd i0ct : Value} {i0f : Addr}
    {c1 c1N : Addr} {c1n c1q : Str} {c1b c1u : List Value} {c1s : List Str} {c1ab : Bool} {c1col : Option Bool} {c1dd : Option Addr} {c1k0 c1k1 c1k2 c1k3 c1k5 : Option Value}
    {i1od i1an : Option Addr} {i1sl : Array (Option Value)} {i1oc i1kV i1dc i1pm i1cd i1ct : Value} {i1f : Addr}
    {c2 c2N : Addr} {c2n c2q : Str} {c2b c2u : List Value} {c2s : List Str} {c2ab : Bool} {c2col : Option Bool} {c2dd : Option Addr} {c2k0 c2k1 c2k2 c2k3 c2k5 : Option Value}
    {r : Addr}
    {riod rian : Option Addr} {risl : Array (Option Value)} {rioc rikV ridc ripm ricd rict : Value} {rif : Addr}
    {rgod rgan : Option Addr} {rgsl : Array (Option Value)} {rgoc rgkV rgdc rgpm rgcd rgct : Value} {rgf : Addr}
    (d0a : PySem.W.nsIn K mainGlobals "tupled" = some (some (.ref d0f)))
    (d0l : K.lookup d0f = some ⟨d0oc, d0od, .func (PySem.W.fnOf "tupled" "tupled" (defArgs sTupled) (defBody sTupled) (defScope sTupled) .none d0kV d0dc d0pm d0an d0cd d0ct), d0sl⟩)
    (d0c : PySem.W.codeIn K d0cd "tupled" = true)
    (d0k : PySem.W.keepIn K (.ref d0f) = true)
    (d1a : PySem.W.nsIn K mainGlobals "is_number" = some (some (.ref d1f)))
    (d1l : K.lookup d1f = some ⟨d1oc, d1od, .func (PySem.W.fnOf "is_number" "is_number" (defArgs sIsNum) (defBody sIsNum) (defScope sIsNum) .none d1kV d1dc d1pm d1an d1cd d1ct), d1sl⟩)
    (d1c : PySem.W.codeIn K d1cd "is_number" = true)
    (d1k : PySem.W.keepIn K (.ref d1f) = true)
    (d2a : PySem.W.nsIn K mainGlobals "is_number_below" = some (some (.ref d2f)))
    (d2l : K.lookup d2f = some ⟨d2oc, d2od, .func (PySem.W.fnOf "is_number_below" "is_number_below" (defArgs sIsBelow) (defBody sIsBelow) (defScope sIsBelow) .none d2kV d2dc d2pm d2an d2cd d2ct), d2sl⟩)
    (d2c : PySem.W.codeIn K d2cd "is_number_below" = true)
    (d2k : PySem.W.keepIn K (.ref d2f) = true)
    (d3a : PySem.W.nsIn K mainGlobals "ascending" = some (some (.ref d3f)))
    (d3l : K.lookup d3f = some ⟨d3oc, d3od, .func (PySem.W.fnOf "ascending" "ascending" (defArgs sAsc) (defBody sAsc) (defScope sAsc) .none d3kV d3dc d3pm d3an d3cd d3ct), d3sl⟩)
    (d3c : PySem.W.codeIn K d3cd "ascending" = true)
    (d3k : PySem.W.keepIn K (.ref d3f) = true)
    (d4a : PySem.W.nsIn K mainGlobals "need_number" = some (some (.ref d4f)))
    (d4l : K.lookup d4f = some ⟨d4oc, d4od, .func (PySem.W.fnOf "need_number" "need_number" (defArgs sNeedNum) (defBody sNeedNum) (defScope sNeedNum) .none d4kV d4dc d4pm d4an d4cd d4ct), d4sl⟩)
    (d4c : PySem.W.codeIn K d4cd "need_number" = true)
    (d4k : PySem.W.keepIn K (.ref d4f) = true)
    (d5a : PySem.W.nsIn K mainGlobals "need_move" = some (some (.ref d5f)))
    (d5l : K.lookup d5f = some ⟨d5oc, d5od, .func (PySem.W.fnOf "need_move" "need_move" (defArgs sNeedMove) (defBody sNeedMove) (defScope sNeedMove) .none d5kV d5dc d5pm d5an d5cd d5ct), d5sl⟩)
    (d5c : PySem.W.codeIn K d5cd "need_move" = true)
    (d5k : PySem.W.keepIn K (.ref d5f) = true)
    (d6a : PySem.W.nsIn K mainGlobals "need_row" = some (some (.ref d6f)))
    (d6l : K.lookup d6f = some ⟨d6oc, d6od, .func (PySem.W.fnOf "need_row" "need_row" (defArgs sNeedRow) (defBody sNeedRow) (defScope sNeedRow) .none d6kV d6dc d6pm d6an d6cd d6ct), d6sl⟩)
    (d6c : PySem.W.codeIn K d6cd "need_row" = true)
    (d6k : PySem.W.keepIn K (.ref d6f) = true)
    (d7a : PySem.W.nsIn K mainGlobals "writes_row" = some (some (.ref d7f)))
    (d7l : K.lookup d7f = some ⟨d7oc, d7od, .func (PySem.W.fnOf "writes_row" "writes_row" (defArgs sWrites) (defBody sWrites) (defScope sWrites) .none d7kV d7dc d7pm d7an d7cd d7ct), d7sl⟩)
    (d7c : PySem.W.codeIn K d7cd "writes_row" = true)
    (d7k : PySem.W.keepIn K (.ref d7f) = true)
    (d8a : PySem.W.nsIn K mainGlobals "rows_of" = some (some (.ref d8f)))
    (d8l : K.lookup d8f = some ⟨d8oc, d8od, .func (PySem.W.fnOf "rows_of" "rows_of" (defArgs sRowsOf) (defBody sRowsOf) (defScope sRowsOf) .none d8kV d8dc d8pm d8an d8cd d8ct), d8sl⟩)
    (d8c : PySem.W.codeIn K d8cd "rows_of" = true)
    (d8k : PySem.W.keepIn K (.ref d8f) = true)
    (d9a : PySem.W.nsIn K mainGlobals "run_of" = some (some (.ref d9f)))
    (d9l : K.lookup d9f = some ⟨d9oc, d9od, .func (PySem.W.fnOf "run_of" "run_of" (defArgs sRunOf) (defBody sRunOf) (defScope sRunOf) .none d9kV d9dc d9pm d9an d9cd d9ct), d9sl⟩)
    (d9c : PySem.W.codeIn K d9cd "run_of" = true)
    (d9k : PySem.W.keepIn K (.ref d9f) = true)
    (d10a : PySem.W.nsIn K mainGlobals "writers_ahead" = some (some (.ref d10f)))
    (d10l : K.lookup d10f = some ⟨d10oc, d10od, .func (PySem.W.fnOf "writers_ahead" "writers_ahead" (defArgs sWrAhead) (defBody sWrAhead) (defScope sWrAhead) .none d10kV d10dc d10pm d10an d10cd d10ct), d10sl⟩)
    (d10c : PySem.W.codeIn K d10cd "writers_ahead" = true)
    (d10k : PySem.W.keepIn K (.ref d10f) = true)
    (d11a : PySem.W.nsIn K mainGlobals "version_seen" = some (some (.ref d11f)))
    (d11l : K.lookup d11f = some ⟨d11oc, d11od, .func (PySem.W.fnOf "version_seen" "version_seen" (defArgs sVerSeen) (defBody sVerSeen) (defScope sVerSeen) .none d11kV d11dc d11pm d11an d11cd d11ct), d11sl⟩)
    (d11c : PySem.W.codeIn K d11cd "version_seen" = true)
    (d11k : PySem.W.keepIn K (.ref d11f) = true)
    (d12a : PySem.W.nsIn K mainGlobals "read_moves" = some (some (.ref d12f)))
    (d12l : K.lookup d12f = some ⟨d12oc, d12od, .func (PySem.W.fnOf "read_moves" "read_moves" (defArgs sReadMoves) (defBody sReadMoves) (defScope sReadMoves) .none d12kV d12dc d12pm d12an d12cd d12ct), d12sl⟩)
    (d12c : PySem.W.codeIn K d12cd "read_moves" = true)
    (d12k : PySem.W.keepIn K (.ref d12f) = true)
    (d13a : PySem.W.nsIn K mainGlobals "holds" = some (some (.ref d13f)))
    (d13l : K.lookup d13f = some ⟨d13oc, d13od, .func (PySem.W.fnOf "holds" "holds" (defArgs sHolds) (defBody sHolds) (defScope sHolds) .none d13kV d13dc d13pm d13an d13cd d13ct), d13sl⟩)
    (d13c : PySem.W.codeIn K d13cd "holds" = true)
    (d13k : PySem.W.keepIn K (.ref d13f) = true)
    (d14a : PySem.W.nsIn K mainGlobals "held_at" = some (some (.ref d14f)))
    (d14l : K.lookup d14f = some ⟨d14oc, d14od, .func (PySem.W.fnOf "held_at" "held_at" (defArgs sHeldAt) (defBody sHeldAt) (defScope sHeldAt) .none d14kV d14dc d14pm d14an d14cd d14ct), d14sl⟩)
    (d14c : PySem.W.codeIn K d14cd "held_at" = true)
    (d14k : PySem.W.keepIn K (.ref d14f) = true)
    (d15a : PySem.W.nsIn K mainGlobals "versions_at" = some (some (.ref d15f)))
    (d15l : K.lookup d15f = some ⟨d15oc, d15od, .func (PySem.W.fnOf "versions_at" "versions_at" (defArgs sVersAt) (defBody sVersAt) (defScope sVersAt) .none d15kV d15dc d15pm d15an d15cd d15ct), d15sl⟩)
    (d15c : PySem.W.codeIn K d15cd "versions_at" = true)
    (d15k : PySem.W.keepIn K (.ref d15f) = true)
    (d16a : PySem.W.nsIn K mainGlobals "seen_at" = some (some (.ref d16f)))
    (d16l : K.lookup d16f = some ⟨d16oc, d16od, .func (PySem.W.fnOf "seen_at" "seen_at" (defArgs sSeenAt) (defBody sSeenAt) (defScope sSeenAt) .none d16kV d16dc d16pm d16an d16cd d16ct), d16sl⟩)
    (d16c : PySem.W.codeIn K d16cd "seen_at" = true)
    (d16k : PySem.W.keepIn K (.ref d16f) = true)
    (d17a : PySem.W.nsIn K mainGlobals "_seen" = some (some (.ref d17f)))
    (d17l : K.lookup d17f = some ⟨d17oc, d17od, .func (PySem.W.fnOf "_seen" "_seen" (defArgs sSeen0) (defBody sSeen0) (defScope sSeen0) .none d17kV d17dc d17pm d17an d17cd d17ct), d17sl⟩)
    (d17c : PySem.W.codeIn K d17cd "_seen" = true)
    (d17k : PySem.W.keepIn K (.ref d17f) = true)
    (d18a : PySem.W.nsIn K mainGlobals "seen_by" = some (some (.ref d18f)))
    (d18l : K.lookup d18f = some ⟨d18oc, d18od, .func (PySem.W.fnOf "seen_by" "seen_by" (defArgs sSeenBy) (defBody sSeenBy) (defScope sSeenBy) .none d18kV d18dc d18pm d18an d18cd d18ct), d18sl⟩)
    (d18c : PySem.W.codeIn K d18cd "seen_by" = true)
    (d18k : PySem.W.keepIn K (.ref d18f) = true)
    (d19a : PySem.W.nsIn K mainGlobals "outcome" = some (some (.ref d19f)))
    (d19l : K.lookup d19f = some ⟨d19oc, d19od, .func (PySem.W.fnOf "outcome" "outcome" (defArgs sOutcome) (defBody sOutcome) (defScope sOutcome) .none d19kV d19dc d19pm d19an d19cd d19ct), d19sl⟩)
    (d19c : PySem.W.codeIn K d19cd "outcome" = true)
    (d19k : PySem.W.keepIn K (.ref d19f) = true)
    (d20a : PySem.W.nsIn K mainGlobals "_law_box" = some (some (.ref d20f)))
    (d20l : K.lookup d20f = some ⟨d20oc, d20od, .func (PySem.W.fnOf "_law_box" "_law_box" (defArgs sBox) (defBody sBox) (defScope sBox) .none d20kV d20dc d20pm d20an d20cd d20ct), d20sl⟩)
    (d20c : PySem.W.codeIn K d20cd "_law_box" = true)
    (d20k : PySem.W.keepIn K (.ref d20f) = true)
    (d21a : PySem.W.nsIn K mainGlobals "_law_take" = some (some (.ref d21f)))
    (d21l : K.lookup d21f = some ⟨d21oc, d21od, .func (PySem.W.fnOf "_law_take" "_law_take" (defArgs sTake) (defBody sTake) (defScope sTake) .none d21kV d21dc d21pm d21an d21cd d21ct), d21sl⟩)
    (d21c : PySem.W.codeIn K d21cd "_law_take" = true)
    (d21k : PySem.W.keepIn K (.ref d21f) = true)
    (d22a : PySem.W.nsIn K mainGlobals "_law_cells" = some (some (.ref d22f)))
    (d22l : K.lookup d22f = some ⟨d22oc, d22od, .func (PySem.W.fnOf "_law_cells" "_law_cells" (defArgs sCells) (defBody sCells) (defScope sCells) .none d22kV d22dc d22pm d22an d22cd d22ct), d22sl⟩)
    (d22c : PySem.W.codeIn K d22cd "_law_cells" = true)
    (d22k : PySem.W.keepIn K (.ref d22f) = true)
    (d23a : PySem.W.nsIn K mainGlobals "_law_same" = some (some (.ref d23f)))
    (d23l : K.lookup d23f = some ⟨d23oc, d23od, .func (PySem.W.fnOf "_law_same" "_law_same" (defArgs sSame) (defBody sSame) (defScope sSame) .none d23kV d23dc d23pm d23an d23cd d23ct), d23sl⟩)
    (d23c : PySem.W.codeIn K d23cd "_law_same" = true)
    (d23k : PySem.W.keepIn K (.ref d23f) = true)
    (d24a : PySem.W.nsIn K mainGlobals "_law_lists" = some (some (.ref d24f)))
    (d24l : K.lookup d24f = some ⟨d24oc, d24od, .func (PySem.W.fnOf "_law_lists" "_law_lists" (defArgs sLists) (defBody sLists) (defScope sLists) .none d24kV d24dc d24pm d24an d24cd d24ct), d24sl⟩)
    (d24c : PySem.W.codeIn K d24cd "_law_lists" = true)
    (d24k : PySem.W.keepIn K (.ref d24f) = true)
    (d25a : PySem.W.nsIn K mainGlobals "_law_of" = some (some (.ref d25f)))
    (d25l : K.lookup d25f = some ⟨d25oc, d25od, .func (PySem.W.fnOf "_law_of" "_law_of" (defArgs sOf) (defBody sOf) (defScope sOf) .none d25kV d25dc d25pm d25an d25cd d25ct), d25sl⟩)
    (d25c : PySem.W.codeIn K d25cd "_law_of" = true)
    (d25k : PySem.W.keepIn K (.ref d25f) = true)
    (d26a : PySem.W.nsIn K mainGlobals "_law_pick" = some (some (.ref d26f)))
    (d26l : K.lookup d26f = some ⟨d26oc, d26od, .func (PySem.W.fnOf "_law_pick" "_law_pick" (defArgs sPick) (defBody sPick) (defScope sPick) .none d26kV d26dc d26pm d26an d26cd d26ct), d26sl⟩)
    (d26c : PySem.W.codeIn K d26cd "_law_pick" = true)
    (d26k : PySem.W.keepIn K (.ref d26f) = true)
    (d27a : PySem.W.nsIn K mainGlobals "_law_job" = some (some (.ref d27f)))
    (d27l : K.lookup d27f = some ⟨d27oc, d27od, .func (PySem.W.fnOf "_law_job" "_law_job" (defArgs sJob) (defBody sJob) (defScope sJob) .none d27kV d27dc d27pm d27an d27cd d27ct), d27sl⟩)
    (d27c : PySem.W.codeIn K d27cd "_law_job" = true)
    (d27k : PySem.W.keepIn K (.ref d27f) = true)
    (d28a : PySem.W.nsIn K mainGlobals "_law_need" = some (some (.ref d28f)))
    (d28l : K.lookup d28f = some ⟨d28oc, d28od, .func (PySem.W.fnOf "_law_need" "_law_need" (defArgs sNeed) (defBody sNeed) (defScope sNeed) .none d28kV d28dc d28pm d28an d28cd d28ct), d28sl⟩)
    (d28c : PySem.W.codeIn K d28cd "_law_need" = true)
    (d28k : PySem.W.keepIn K (.ref d28f) = true)
    (d29a : PySem.W.nsIn K mainGlobals "_law_web" = some (some (.ref d29f)))
    (d29l : K.lookup d29f = some ⟨d29oc, d29od, .func (PySem.W.fnOf "_law_web" "_law_web" (defArgs sWeb) (defBody sWeb) (defScope sWeb) .none d29kV d29dc d29pm d29an d29cd d29ct), d29sl⟩)
    (d29c : PySem.W.codeIn K d29cd "_law_web" = true)
    (d29k : PySem.W.keepIn K (.ref d29f) = true)
    (d30a : PySem.W.nsIn K mainGlobals "_law_drawn" = some (some (.ref d30f)))
    (d30l : K.lookup d30f = some ⟨d30oc, d30od, .func (PySem.W.fnOf "_law_drawn" "_law_drawn" (defArgs sDrawn) (defBody sDrawn) (defScope sDrawn) .none d30kV d30dc d30pm d30an d30cd d30ct), d30sl⟩)
    (d30c : PySem.W.codeIn K d30cd "_law_drawn" = true)
    (d30k : PySem.W.keepIn K (.ref d30f) = true)
    (d31a : PySem.W.nsIn K mainGlobals "_law_played" = some (some (.ref d31f)))
    (d31l : K.lookup d31f = some ⟨d31oc, d31od, .func (PySem.W.fnOf "_law_played" "_law_played" (defArgs sPlayed) (defBody sPlayed) (defScope sPlayed) .none d31kV d31dc d31pm d31an d31cd d31ct), d31sl⟩)
    (d31c : PySem.W.codeIn K d31cd "_law_played" = true)
    (d31k : PySem.W.keepIn K (.ref d31f) = true)
    (d32a : PySem.W.nsIn K mainGlobals "_law_heard" = some (some (.ref d32f)))
    (d32l : K.lookup d32f = some ⟨d32oc, d32od, .func (PySem.W.fnOf "_law_heard" "_law_heard" (defArgs sHeard) (defBody sHeard) (defScope sHeard) .none d32kV d32dc d32pm d32an d32cd d32ct), d32sl⟩)
    (d32c : PySem.W.codeIn K d32cd "_law_heard" = true)
    (d32k : PySem.W.keepIn K (.ref d32f) = true)
    (d33a : PySem.W.nsIn K mainGlobals "_law_names" = some (some (.ref d33f)))
    (d33l : K.lookup d33f = some ⟨d33oc, d33od, .func (PySem.W.fnOf "_law_names" "_law_names" (defArgs sNames) (defBody sNames) (defScope sNames) .none d33kV d33dc d33pm d33an d33cd d33ct), d33sl⟩)
    (d33c : PySem.W.codeIn K d33cd "_law_names" = true)
    (d33k : PySem.W.keepIn K (.ref d33f) = true)
    (d34a : PySem.W.nsIn K mainGlobals "_law_moves_right" = some (some (.ref d34f)))
    (d34l : K.lookup d34f = some ⟨d34oc, d34od, .func (PySem.W.fnOf "_law_moves_right" "_law_moves_right" (defArgs sMovesR) (defBody sMovesR) (defScope sMovesR) .none d34kV d34dc d34pm d34an d34cd d34ct), d34sl⟩)
    (d34c : PySem.W.codeIn K d34cd "_law_moves_right" = true)
    (d34k : PySem.W.keepIn K (.ref d34f) = true)
    (d35a : PySem.W.nsIn K mainGlobals "_law_case_right" = some (some (.ref d35f)))
    (d35l : K.lookup d35f = some ⟨d35oc, d35od, .func (PySem.W.fnOf "_law_case_right" "_law_case_right" (defArgs sCaseR) (defBody sCaseR) (defScope sCaseR) .none d35kV d35dc d35pm d35an d35cd d35ct), d35sl⟩)
    (d35c : PySem.W.codeIn K d35cd "_law_case_right" = true)
    (d35k : PySem.W.keepIn K (.ref d35f) = true)
    (d36a : PySem.W.nsIn K mainGlobals "_law_by_hand_right" = some (some (.ref d36f)))
    (d36l : K.lookup d36f = some ⟨d36oc, d36od, .func (PySem.W.fnOf "_law_by_hand_right" "_law_by_hand_right" (defArgs sHandR) (defBody sHandR) (defScope sHandR) .none d36kV d36dc d36pm d36an d36cd d36ct), d36sl⟩)
    (d36c : PySem.W.codeIn K d36cd "_law_by_hand_right" = true)
    (d36k : PySem.W.keepIn K (.ref d36f) = true)
    (d37a : PySem.W.nsIn K mainGlobals "_law_right" = some (some (.ref d37f)))
    (d37l : K.lookup d37f = some ⟨d37oc, d37od, .func (PySem.W.fnOf "_law_right" "_law_right" (defArgs sRight) (defBody sRight) (defScope sRight) .none d37kV d37dc d37pm d37an d37cd d37ct), d37sl⟩)
    (d37c : PySem.W.codeIn K d37cd "_law_right" = true)
    (d37k : PySem.W.keepIn K (.ref d37f) = true)
    (d38a : PySem.W.nsIn K mainGlobals "law" = some (some (.ref d38f)))
    (d38l : K.lookup d38f = some ⟨d38oc, d38od, .func (PySem.W.fnOf "law" "law" (defArgs sLaw) (defBody sLaw) (defScope sLaw) .none d38kV d38dc d38pm d38an d38cd d38ct), d38sl⟩)
    (d38c : PySem.W.codeIn K d38cd "law" = true)
    (d38k : PySem.W.keepIn K (.ref d38f) = true)
    (c0a : PySem.W.nsIn K mainGlobals "NoNumber" = some (some (.ref c0)))
    (c0l : K.lookup c0 = some (excClassObj c0n c0q c0 c0N c0b [.type "LookupError", .type "Exception", .type "BaseException", .type "object"] true c0s c0u c0ab c0col c0dd c0k0 c0k1 c0k2 c0k3 c0k5 "LookupError.__new__"))
    (c0sa : PySem.W.findIn K (.ref c0) "__setattr__" = some (some (.builtin "object.__setattr__")))
    (c0ga : PySem.W.findIn K (.ref c0) "__getattribute__" = some (some (.builtin "BaseException.__getattribute__")))
    (c0gg : PySem.W.findIn K (.ref c0) "__getattr__" = some none)
    (c0su : PySem.W.subIn K (.ref c0) (.type "BaseException") = some true)
    (c0hd : PySem.W.hasDictIn K c0 = true)
    (c0ca : PySem.W.findIn K (.ref c0) "__class__" = some (some (.builtin "object.__class__")))
    (c0mo : PySem.W.mroIn K c0 (.type "object") = some true)
    (c0ty : PySem.W.typeIn K (.ref c0) = some (.type "type"))
    (c0kC : PySem.W.keepIn K (.ref c0) = true)
    (c0no : PySem.W.findIn K (.ref c0) "number" = some none)
    (i0a : PySem.W.findIn K (.ref c0) "__init__" = some (some (.ref i0f)))
    (i0t : PySem.W.typeIn K (.ref i0f) = some (.type "function"))
    (i0l : K.lookup i0f = some ⟨i0oc, i0od, .func (PySem.W.fnOf "__init__" "NoNumber.__init__" (defArgs sINum) (defBody sINum) (defScope sINum) .none i0kV i0dc i0pm i0an i0cd i0ct), i0sl⟩)
    (i0c : PySem.W.codeIn K i0cd "NoNumber.__init__" = true)
    (i0k : PySem.W.keepIn K (.ref i0f) = true)
    (c1a : PySem.W.nsIn K mainGlobals "NoRow" = some (some (.ref c1)))
    (c1l : K.lookup c1 = some (excClassObj c1n c1q c1 c1N c1b [.type "LookupError", .type "Exception", .type "BaseException", .type "object"] true c1s c1u c1ab c1col c1dd c1k0 c1k1 c1k2 c1k3 c1k5 "LookupError.__new__"))
    (c1sa : PySem.W.findIn K (.ref c1) "__setattr__" = some (some (.builtin "object.__setattr__")))
    (c1ga : PySem.W.findIn K (.ref c1) "__getattribute__" = some (some (.builtin "BaseException.__getattribute__")))
    (c1gg : PySem.W.findIn K (.ref c1) "__getattr__" = some none)
    (c1su : PySem.W.subIn K (.ref c1) (.type "BaseException") = some true)
    (c1hd : PySem.W.hasDictIn K c1 = true)
    (c1ca : PySem.W.findIn K (.ref c1) "__class__" = some (some (.builtin "object.__class__")))
    (c1mo : PySem.W.mroIn K c1 (.type "object") = some true)
    (c1ty : PySem.W.typeIn K (.ref c1) = some (.type "type"))
    (c1kC : PySem.W.keepIn K (.ref c1) = true)
    (c1no : PySem.W.findIn K (.ref c1) "row" = some none)
    (i1a : PySem.W.findIn K (.ref c1) "__init__" = some (some (.ref i1f)))
    (i1t : PySem.W.typeIn K (.ref i1f) = some (.type "function"))
    (i1l : K.lookup i1f = some ⟨i1oc, i1od, .func (PySem.W.fnOf "__init__" "NoRow.__init__" (defArgs sIRow) (defBody sIRow) (defScope sIRow) .none i1kV i1dc i1pm i1an i1cd i1ct), i1sl⟩)
    (i1c : PySem.W.codeIn K i1cd "NoRow.__init__" = true)
    (i1k : PySem.W.keepIn K (.ref i1f) = true)
    (c2a : PySem.W.nsIn K mainGlobals "CanNot" = some (some (.ref c2)))
    (c2l : K.lookup c2 = some (excClassObj c2n c2q c2 c2N c2b [.type "ValueError", .type "Exception", .type "BaseException", .type "object"] true c2s c2u c2ab c2col c2dd c2k0 c2k1 c2k2 c2k3 c2k5 "ValueError.__new__"))
    (c2sa : PySem.W.findIn K (.ref c2) "__setattr__" = some (some (.builtin "object.__setattr__")))
    (c2ga : PySem.W.findIn K (.ref c2) "__getattribute__" = some (some (.builtin "BaseException.__getattribute__")))
    (c2gg : PySem.W.findIn K (.ref c2) "__getattr__" = some none)
    (c2su : PySem.W.subIn K (.ref c2) (.type "BaseException") = some true)
    (c2hd : PySem.W.hasDictIn K c2 = true)
    (c2ca : PySem.W.findIn K (.ref c2) "__class__" = some (some (.builtin "object.__class__")))
    (c2mo : PySem.W.mroIn K c2 (.type "object") = some true)
    (c2ty : PySem.W.typeIn K (.ref c2) = some (.type "type"))
    (c2kC : PySem.W.keepIn K (.ref c2) = true)
    (i2z : PySem.W.findIn K (.ref c2) "__init__" = some (some (.builtin "ValueError.__init__")))
    (s00 : PySem.W.subIn K (.ref c0) (.ref c0) = some true)
    (s10 : PySem.W.subIn K (.ref c1) (.ref c0) = some false)
    (s20 : PySem.W.subIn K (.ref c2) (.ref c0) = some false)
    (s11 : PySem.W.subIn K (.ref c1) (.ref c1) = some true)
    (s21 : PySem.W.subIn K (.ref c2) (.ref c1) = some false)
    (s22 : PySem.W.subIn K (.ref c2) (.ref c2) = some true)
    (ra : PySem.W.nsIn K mainGlobals "Run" = some (some (.ref r)))
    (rpg : PySem.W.plainGet K r Str.empty = true)
    (rhd : PySem.W.hasDictIn K r = true)
    (rpo : PySem.W.plainOver K r = true)
    (rsa : PySem.W.findIn K (.ref r) "__setattr__" = some (some (.builtin "object.__setattr__")))
    (rn_jobs : PySem.W.findIn K (.ref r) "jobs" = some none)
    (rn_moves : PySem.W.findIn K (.ref r) "moves" = some none)
    (rn_begun : PySem.W.findIn K (.ref r) "begun" = some none)
    (rn_ended : PySem.W.findIn K (.ref r) "ended" = some none)
    (rn_counts : PySem.W.findIn K (.ref r) "counts" = some none)
    (rmk : PySem.W.makesIn K r = true)
    (rkp : PySem.W.keepIn K (.ref r) = true)
    (ria : PySem.W.findIn K (.ref r) "__init__" = some (some (.ref rif)))
    (rin : PySem.W.isFn K (.ref rif) = true)
    (ril : K.lookup rif = some ⟨rioc, riod, .func (PySem.W.fnOf "__init__" "Run.__init__" (defArgs sRI) (defBody sRI) (defScope sRI) .none rikV ridc ripm rian ricd rict), risl⟩)
    (ric : PySem.W.codeIn K ricd "Run.__init__" = true)
    (rik : PySem.W.keepIn K (.ref rif) = true)
    (rga : PySem.W.findIn K (.ref r) "go" = some (some (.ref rgf)))
    (rgn : PySem.W.isFn K (.ref rgf) = true)
    (rgl : K.lookup rgf = some ⟨rgoc, rgod, .func (PySem.W.fnOf "go" "Run.go" (defArgs sGo) (defBody sGo) (defScope sGo) .none rgkV rgdc rgpm rgan rgcd rgct), rgsl⟩)
    (rgc : PySem.W.codeIn K rgcd "Run.go" = true)
    (rgk : PySem.W.keepIn K (.ref rgf) = true)
    (gHn : PySem.W.specialIn K (.builtin "object.__class__") "__get__" = some (some (.builtin "getset_descriptor.__get__")))
    (gHt : PySem.W.takesIn K (.builtin "object.__class__") = some true)
    (z_int : PySem.W.nsIn K mainGlobals "int" = some none)
    (z_len : PySem.W.nsIn K mainGlobals "len" = some none)
    (z_abs : PySem.W.nsIn K mainGlobals "abs" = some none)
    (z_list : PySem.W.nsIn K mainGlobals "list" = some none)
    (z_tuple : PySem.W.nsIn K mainGlobals "tuple" = some none)
    (z_bool : PySem.W.nsIn K mainGlobals "bool" = some none)
    (z_str : PySem.W.nsIn K mainGlobals "str" = some none)
    (z_enumerate : PySem.W.nsIn K mainGlobals "enumerate" = some none)
    (z_isinstance : PySem.W.nsIn K mainGlobals "isinstance" = some none)
    (z_all : PySem.W.nsIn K mainGlobals "all" = some none)
    (z_zip : PySem.W.nsIn K mainGlobals "zip" = some none)
    (z_range : PySem.W.nsIn K mainGlobals "range" = some none)
    (z_set : PySem.W.nsIn K mainGlobals "set" = some none)
    (z_sorted : PySem.W.nsIn K mainGlobals "sorted" = some none)
    (z_any : PySem.W.nsIn K mainGlobals "any" = some none)
    (z_sum : PySem.W.nsIn K mainGlobals "sum" = some none)
    (z_dict : PySem.W.nsIn K mainGlobals "dict" = some none)
    (z_min : PySem.W.nsIn K mainGlobals "min" = some none)
    (z_LookupError : PySem.W.nsIn K mainGlobals "LookupError" = some none)
    (z_ValueError : PySem.W.nsIn K mainGlobals "ValueError" = some none)
    : ∃ fd : FuncData, (∀ (s : Shared) (v : Value), BindsTo s fd ⟨[v], []⟩ [("_law_script", v)]) ∧ ∀ base : Heap, K.In base → base.Ns mainGlobals mg → FnOk l.prog w K mg base CX0 12 fa fd ["_law_script"] (spLaw K) := by
  have e := hfa.symm.trans (PySem.W.mg_of X G d38a)
  cases e
  have F0 := fun_mk (st := sTupled) d0l d0c d0k
  have b0 := F0.binds (ps := ["value"]) fun _ _ _ _ _ _ us hl => match us, hl with | [_], _ => rfl
  have g0 := PySem.W.mg_of X G d0a
  have F1 := fun_mk (st := sIsNum) d1l d1c d1k
  have b1 := F1.binds (ps := ["thing"]) fun _ _ _ _ _ _ us hl => match us, hl with | [_], _ => rfl
  have g1 := PySem.W.mg_of X G d1a
  have F2 := fun_mk (st := sIsBelow) d2l d2c d2k
  have b2 := F2.binds (ps := ["thing", "many"]) fun _ _ _ _ _ _ us hl => match us, hl with | [_, _], _ => rfl
  have g2 := PySem.W.mg_of X G d2a
  have F3 := fun_mk (st := sAsc) d3l d3c d3k
  have b3 := F3.binds (ps := ["values"]) fun _ _ _ _ _ _ us hl => match us, hl with | [_], _ => rfl
  have g3 := PySem.W.mg_of X G d3a
  have F4 := fun_mk (st := sNeedNum) d4l d4c d4k
  have b4 := F4.binds (ps := ["number", "many"]) fun _ _ _ _ _ _ us hl => match us, hl with | [_, _], _ => rfl
  have g4 := PySem.W.mg_of X G d4a
  have F5 := fun_mk (st := sNeedMove) d5l d5c d5k
  have b5 := F5.binds (ps := ["mix", "move"]) fun _ _ _ _ _ _ us hl => match us, hl with | [_, _], _ => rfl
  have g5 := PySem.W.mg_of X G d5a
  have F6 := fun_mk (st := sNeedRow) d6l d6c d6k
  have b6 := F6.binds (ps := ["jobs", "row"]) fun _ _ _ _ _ _ us hl => match us, hl with | [_, _], _ => rfl
  have g6 := PySem.W.mg_of X G d6a
  have F7 := fun_mk (st := sWrites) d7l d7c d7k
  have b7 := F7.binds (ps := ["job", "row"]) fun _ _ _ _ _ _ us hl => match us, hl with | [_, _], _ => rfl
  have g7 := PySem.W.mg_of X G d7a
  have F8 := fun_mk (st := sRowsOf) d8l d8c d8k
  have b8 := F8.binds (ps := ["jobs"]) fun _ _ _ _ _ _ us hl => match us, hl with | [_], _ => rfl
  have g8 := PySem.W.mg_of X G d8a
  have F9 := fun_mk (st := sRunOf) d9l d9c d9k
  have b9 := F9.binds (ps := ["jobs", "done"]) fun _ _ _ _ _ _ us hl => match us, hl with | [_, _], _ => rfl
  have g9 := PySem.W.mg_of X G d9a
  have F10 := fun_mk (st := sWrAhead) d10l d10c d10k
  have b10 := F10.binds (ps := ["run", "row", "move"]) fun _ _ _ _ _ _ us hl => match us, hl with | [_, _, _], _ => rfl
  have g10 := PySem.W.mg_of X G d10a
  have F11 := fun_mk (st := sVerSeen) d11l d11c d11k
  have b11 := F11.binds (ps := ["run", "move"]) fun _ _ _ _ _ _ us hl => match us, hl with | [_, _], _ => rfl
  have g11 := PySem.W.mg_of X G d11a
  have F12 := fun_mk (st := sReadMoves) d12l d12c d12k
  have b12 := F12.binds (ps := ["run", "place"]) fun _ _ _ _ _ _ us hl => match us, hl with | [_, _], _ => rfl
  have g12 := PySem.W.mg_of X G d12a
  have F13 := fun_mk (st := sHolds) d13l d13c d13k
  have b13 := F13.binds (ps := ["run", "place", "row"]) fun _ _ _ _ _ _ us hl => match us, hl with | [_, _, _], _ => rfl
  have g13 := PySem.W.mg_of X G d13a
  have F14 := fun_mk (st := sHeldAt) d14l d14c d14k
  have b14 := F14.binds (ps := ["jobs", "mix", "move"]) fun _ _ _ _ _ _ us hl => match us, hl with | [_, _, _], _ => rfl
  have g14 := PySem.W.mg_of X G d14a
  have F15 := fun_mk (st := sVersAt) d15l d15c d15k
  have b15 := F15.binds (ps := ["jobs", "mix", "row", "move"]) fun _ _ _ _ _ _ us hl => match us, hl with | [_, _, _, _], _ => rfl
  have g15 := PySem.W.mg_of X G d15a
  have F16 := fun_mk (st := sSeenAt) d16l d16c d16k
  have b16 := F16.binds (ps := ["jobs", "mix", "move"]) fun _ _ _ _ _ _ us hl => match us, hl with | [_, _, _], _ => rfl
  have g16 := PySem.W.mg_of X G d16a
  have F17 := fun_mk (st := sSeen0) d17l d17c d17k
  have b17 := F17.binds (ps := ["run"]) fun _ _ _ _ _ _ us hl => match us, hl with | [_], _ => rfl
  have g17 := PySem.W.mg_of X G d17a
  have F18 := fun_mk (st := sSeenBy) d18l d18c d18k
  have b18 := F18.binds (ps := ["jobs", "mix"]) fun _ _ _ _ _ _ us hl => match us, hl with | [_, _], _ => rfl
  have g18 := PySem.W.mg_of X G d18a
  have F19 := fun_mk (st := sOutcome) d19l d19c d19k
  have b19 := F19.binds (ps := ["jobs", "mix"]) fun _ _ _ _ _ _ us hl => match us, hl with | [_, _], _ => rfl
  have g19 := PySem.W.mg_of X G d19a
  have F20 := fun_mk (st := sBox) d20l d20c d20k
  have b20 := F20.binds (ps := ["_law_script", "_law_nth_so"]) fun _ _ _ _ _ _ us hl => match us, hl with | [_, _], _ => rfl
  have g20 := PySem.W.mg_of X G d20a
  have F21 := fun_mk (st := sTake) d21l d21c d21k
  have b21 := F21.binds (ps := ["_law_box_here", "_law_below_so"]) fun _ _ _ _ _ _ us hl => match us, hl with | [_, _], _ => rfl
  have g21 := PySem.W.mg_of X G d21a
  have F22 := fun_mk (st := sCells) d22l d22c d22k
  have b22 := F22.binds (ps := ["_law_script", "_law_top_so"]) fun _ _ _ _ _ _ us hl => match us, hl with | [_, _], _ => rfl
  have g22 := PySem.W.mg_of X G d22a
  have F23 := fun_mk (st := sSame) d23l d23c d23k
  have b23 := F23.binds (ps := ["_law_got", "_law_due"]) fun _ _ _ _ _ _ us hl => match us, hl with | [_, _], _ => rfl
  have g23 := PySem.W.mg_of X G d23a
  have F24 := fun_mk (st := sLists) d24l d24c d24k
  have b24 := F24.binds (ps := ["_law_matter_so"]) fun _ _ _ _ _ _ us hl => match us, hl with | [_], _ => rfl
  have g24 := PySem.W.mg_of X G d24a
  have F25 := fun_mk (st := sOf) d25l d25c d25k
  have b25 := F25.binds (ps := ["_law_box_here", "_law_pool_so"]) fun _ _ _ _ _ _ us hl => match us, hl with | [_, _], _ => rfl
  have g25 := PySem.W.mg_of X G d25a
  have F26 := fun_mk (st := sPick) d26l d26c d26k
  have b26 := F26.binds (ps := ["_law_box_here", "_law_pool_so", "_law_many_so"]) fun _ _ _ _ _ _ us hl => match us, hl with | [_, _, _], _ => rfl
  have g26 := PySem.W.mg_of X G d26a
  have F27 := fun_mk (st := sJob) d27l d27c d27k
  have b27 := F27.binds (ps := ["_law_box_here", "_law_level_so", "_law_many_so", "_law_names_so"]) fun _ _ _ _ _ _ us hl => match us, hl with | [_, _, _, _], _ => rfl
  have g27 := PySem.W.mg_of X G d27a
  have F28 := fun_mk (st := sNeed) d28l d28c d28k
  have b28 := F28.binds (ps := ["_law_jobs_so"]) fun _ _ _ _ _ _ us hl => match us, hl with | [_], _ => rfl
  have g28 := PySem.W.mg_of X G d28a
  have F29 := fun_mk (st := sWeb) d29l d29c d29k
  have b29 := F29.binds (ps := ["_law_box_here"]) fun _ _ _ _ _ _ us hl => match us, hl with | [_], _ => rfl
  have g29 := PySem.W.mg_of X G d29a
  have F30 := fun_mk (st := sDrawn) d30l d30c d30k
  have b30 := F30.binds (ps := ["_law_box_here", "_law_jobs_so"]) fun _ _ _ _ _ _ us hl => match us, hl with | [_, _], _ => rfl
  have g30 := PySem.W.mg_of X G d30a
  have F31 := fun_mk (st := sPlayed) d31l d31c d31k
  have b31 := F31.binds (ps := ["_law_jobs_so", "_law_mix_so"]) fun _ _ _ _ _ _ us hl => match us, hl with | [_, _], _ => rfl
  have g31 := PySem.W.mg_of X G d31a
  have F32 := fun_mk (st := sHeard) d32l d32c d32k
  have b32 := F32.binds (ps := ["_law_door", "_law_jobs_so", "_law_mix_so", "_law_row_so", "_law_at_so"]) fun _ _ _ _ _ _ us hl => match us, hl with | [_, _, _, _, _], _ => rfl
  have g32 := PySem.W.mg_of X G d32a
  have F33 := fun_mk (st := sNames) d33l d33c d33k
  have b33 := F33.binds (ps := ["_law_jobs_so", "_law_words_so"]) fun _ _ _ _ _ _ us hl => match us, hl with | [_, _], _ => rfl
  have g33 := PySem.W.mg_of X G d33a
  have F34 := fun_mk (st := sMovesR) d34l d34c d34k
  have b34 := F34.binds (ps := ["_law_jobs_so", "_law_mix_so", "_law_rows"]) fun _ _ _ _ _ _ us hl => match us, hl with | [_, _, _], _ => rfl
  have g34 := PySem.W.mg_of X G d34a
  have F35 := fun_mk (st := sCaseR) d35l d35c d35k
  have b35 := F35.binds (ps := ["_law_jobs_so", "_law_mix_so"]) fun _ _ _ _ _ _ us hl => match us, hl with | [_, _], _ => rfl
  have g35 := PySem.W.mg_of X G d35a
  have F36 := fun_mk (st := sHandR) d36l d36c d36k
  have b36 := F36.binds (ps := []) fun _ _ _ _ _ _ us hl => match us, hl with | [], _ => rfl
  have g36 := PySem.W.mg_of X G d36a
  have F37 := fun_mk (st := sRight) d37l d37c d37k
  have b37 := F37.binds (ps := ["_law_box_here"]) fun _ _ _ _ _ _ us hl => match us, hl with | [_], _ => rfl
  have g37 := PySem.W.mg_of X G d37a
  have F38 := fun_mk (st := sLaw) d38l d38c d38k
  have N0 : Nat0 mg := ⟨PySem.W.mg_none_of X G z_int, PySem.W.mg_none_of X G z_len, PySem.W.mg_none_of X G z_abs, PySem.W.mg_none_of X G z_list, PySem.W.mg_none_of X G z_tuple, PySem.W.mg_none_of X G z_bool, PySem.W.mg_none_of X G z_str, PySem.W.mg_none_of X G z_enumerate, PySem.W.mg_none_of X G z_isinstance, PySem.W.mg_none_of X G z_all, PySem.W.mg_none_of X G z_zip, PySem.W.mg_none_of X G z_range, PySem.W.mg_none_of X G z_set, PySem.W.mg_none_of X G z_sorted, PySem.W.mg_none_of X G z_any, PySem.W.mg_none_of X G z_sum, PySem.W.mg_none_of X G z_dict, PySem.W.mg_none_of X G z_min⟩
  have E0 : EC K mg "NoNumber" c0 "LookupError" "LookupError.__new__" := mk_ec (PySem.W.mg_of X G c0a) c0l c0sa c0ga c0gg c0su c0hd c0ca gHn gHt c0mo c0ty c0kC
  have E1 : EC K mg "NoRow" c1 "LookupError" "LookupError.__new__" := mk_ec (PySem.W.mg_of X G c1a) c1l c1sa c1ga c1gg c1su c1hd c1ca gHn gHt c1mo c1ty c1kC
  have E2 : EC K mg "CanNot" c2 "ValueError" "ValueError.__new__" := mk_ec (PySem.W.mg_of X G c2a) c2l c2sa c2ga c2gg c2su c2hd c2ca gHn gHt c2mo c2ty c2kC
  have I0 := fun_mk (st := sINum) i0l i0c i0k
  have ib0 := I0.binds (ps := ["self", "number"]) fun _ _ _ _ _ _ us hl => match us, hl with | [_, _], _ => rfl
  have I1 := fun_mk (st := sIRow) i1l i1c i1k
  have ib1 := I1.binds (ps := ["self", "row"]) fun _ _ _ _ _ _ us hl => match us, hl with | [_, _], _ => rfl
  have RI := fun_mk (st := sRI) ril ric rik
  have bri := RI.binds (ps := ["self", "jobs"]) fun _ _ _ _ _ _ us hl => match us, hl with | [_, _], _ => rfl
  have RG := fun_mk (st := sGo) rgl rgc rgk
  have brg := RG.binds (ps := ["self", "place"]) fun _ _ _ _ _ _ us hl => match us, hl with | [_, _], _ => rfl
  have R : TRun K mg r := ⟨⟨rpg, rhd, rpo, rsa⟩, rn_jobs, rn_moves, rn_begun, rn_ended, rn_counts, PySem.W.mg_of X G ra⟩
  have M : Mk K r rif := ⟨rmk, ria, rin, rkp⟩
  have CA : Catch K mg c0 c1 c2 := ⟨E0, E1, E2, c0no, c1no, PySem.W.exm_ref c0su c0hd c0ty s00, PySem.W.exm_ref c0su c0hd c0ty s10, PySem.W.exm_ref c0su c0hd c0ty s20, PySem.W.exm_ref c1su c1hd c1ty s11, PySem.W.exm_ref c1su c1hd c1ty s21, PySem.W.exm_ref c2su c2hd c2ty s22, (kit_T E0 (by decide)).trans (by decide +kernel), (kit_T E1 (by decide)).trans (by decide +kernel), (kit_T E2 (by decide)).trans (by decide +kernel), PySem.W.mg_none_of X G z_LookupError, PySem.W.mg_none_of X G z_ValueError⟩
  refine ⟨PySem.W.fnOf "law" "law" (defArgs sLaw) (defBody sLaw) (defScope sLaw) .none d38kV d38dc d38pm d38an d38cd d38ct, fun s v => .of_eq rfl, fun base _ _ => ?_⟩
  have Gtu : FnOk l.prog w K mg base CX0 5 d0f _ ["value"] (spTupled K 4) := ok_tupled F0 N0 b0 g0 4
  have Gib : FnOk l.prog w K mg base CX0 2 d2f _ ["thing", "many"] spIsBelow := ok_isBelow F2 N0 F1 b1 g1
  have Gnn : FnOk l.prog w K mg base (L2.CX l.prog w) 3 d4f _ ["number", "many"] (spNeedNum c0) := ok_needNum F4 Gib d2k b2 g2 E0 c0no ⟨i0a, i0t⟩ I0 ib0
  have Gnm : FnOk l.prog w K mg base (L2.CX l.prog w) 4 d5f _ ["mix", "move"] (spNeedMove K c0) := ok_needMove F5 N0 Gnn d4k b4 g4
  have Gnr : FnOk l.prog w K mg base (L2.CX l.prog w) 3 d6f _ ["jobs", "row"] (spNeedRow K c1) := ok_needRow F6 E1 c1no ⟨i1a, i1t⟩ I1 ib1
  have Gro : FnOk l.prog w K mg base CX0 6 d8f _ ["jobs"] (spRowsOf K) := ok_rowsOf F8 N0 F0 b0 g0 F3 b3 g3
  have Gru : FnOk l.prog w K mg base CX0 3 d9f _ ["jobs", "done"] (spRunOf K r) := ok_runOf F9 N0 R M RI bri RG brg ⟨rga, rgn, rgk⟩
  have Gwa : FnOk l.prog w K mg base CX0 2 d10f _ ["run", "row", "move"] (spWA K r) := ok_wa F10 N0 R F7 b7 g7
  have Gvs : FnOk l.prog w K mg base CX0 3 d11f _ ["run", "move"] (spVS K r) := ok_vs F11 N0 R Gwa d10k b10 g10
  have Grm : FnOk l.prog w K mg base CX0 3 d12f _ ["run", "place"] (spRM K r) := ok_rm F12 N0 R
  have Gho : FnOk l.prog w K mg base CX0 1 d13f _ ["run", "place", "row"] (spHolds K r) := ok_holds F13 N0 R
  have Gs0 : FnOk l.prog w K mg base CX0 4 d17f _ ["run"] (spSeen0 K r) := ok_seen0 F17 N0 R Gvs d11k b11 g11 Grm d12k b12 g12
  have Gsb : FnOk l.prog w K mg base CX0 6 d18f _ ["jobs", "mix"] (spSeenBy K) := ok_seenBy F18 Gtu d0k b0 g0 Gru d9k b9 g9 Gs0 d17k b17 g17
  have Gwr : FnOk l.prog w K mg base CX0 1 d7f _ ["job", "row"] (spWrites K) := ok_writes F7 N0
  have Gou : FnOk l.prog w K mg base CX0 7 d19f _ ["jobs", "mix"] (spOut K) := ok_out F19 N0 Gtu d0k b0 g0 Gru d9k b9 g9 Gs0 d17k b17 g17 Gwa d10k b10 g10 Gro d8k b8 g8 Gwr d7k b7 g7
  have Gha : FnOk l.prog w K mg base (L2.CX l.prog w) 7 d14f _ ["jobs", "mix", "move"] (spHeldAt K c0) := ok_heldAt F14 N0 Gtu d0k b0 g0 Gru d9k b9 g9 Gnm d5k b5 g5 Gro d8k b8 g8 Gho d13k b13 g13
  have Gva : FnOk l.prog w K mg base (L2.CX l.prog w) 6 d15f _ ["jobs", "mix", "row", "move"] (spVersAt K c0 c1) := ok_versAt F15 N0 Gtu d0k b0 g0 Gru d9k b9 g9 Gwa d10k b10 g10 Gnm d5k b5 g5 Gnr d6k b6 g6
  have Gsa : FnOk l.prog w K mg base (L2.CX l.prog w) 6 d16f _ ["jobs", "mix", "move"] (spSeenAt K c0 c2) := ok_seenAt F16 N0 Gtu d0k b0 g0 Gru d9k b9 g9 Gvs d11k b11 g11 Grm d12k b12 g12 Gnm d5k b5 g5 E2 i2z
  have Gbo : FnOk l.prog w K mg base CX0 1 d20f _ ["_law_script", "_law_nth_so"] (spBox K) := ok_box F20 N0
  have Gta : FnOk l.prog w K mg base CX0 1 d21f _ ["_law_box_here", "_law_below_so"] spTake2 := ok_take2 F21 N0
  have Gce : FnOk l.prog w K mg base CX0 1 d22f _ ["_law_script", "_law_top_so"] (spCells K) := ok_cells F22 N0
  have Gsm : FnOk l.prog w K mg base CX0 7 d23f _ ["_law_got", "_law_due"] (spSame K 6) := ok_same F23 N0 b23 g23 6
  have Gli : FnOk l.prog w K mg base CX0 5 d24f _ ["_law_matter_so"] (spLists K 4) := ok_lists F24 N0 b24 g24 4
  have Gof : FnOk l.prog w K mg base CX0 2 d25f _ ["_law_box_here", "_law_pool_so"] spOf := ok_of F25 N0 F21 b21 g21
  have Gpi : FnOk l.prog w K mg base CX0 2 d26f _ ["_law_box_here", "_law_pool_so", "_law_many_so"] spPick := ok_pick F26 N0 F21 b21 g21
  have Gjo : FnOk l.prog w K mg base CX0 3 d27f _ ["_law_box_here", "_law_level_so", "_law_many_so", "_law_names_so"] (spJob K) := ok_job F27 N0 Gof d25k b25 g25
  have Gne : FnOk l.prog w K mg base CX0 1 d28f _ ["_law_jobs_so"] (spNeed K) := ok_need F28 N0
  have Gwe : FnOk l.prog w K mg base CX0 4 d29f _ ["_law_box_here"] (spWeb K) := ok_web F29 N0 Gta d21k b21 g21 Gof d25k b25 g25 Gpi d26k b26 g26 Gjo d27k b27 g27
  have Gdr : FnOk l.prog w K mg base CX0 3 d30f _ ["_law_box_here", "_law_jobs_so"] (spDrawn K) := ok_drawn F30 N0 Gne d28k b28 g28 Gof d25k b25 g25
  have Gpl : FnOk l.prog w K mg base CX0 1 d31f _ ["_law_jobs_so", "_law_mix_so"] (spPlayed K) := ok_played F31 N0
  have Ghe : FnOk l.prog w K mg base CX0 8 d32f _ ["_law_door", "_law_jobs_so", "_law_mix_so", "_law_row_so", "_law_at_so"] (spHeard K) := ok_heard F32 N0 CA Gha d14k b14 g14 Gsa d16k b16 g16 Gva d15k b15 g15
  have Gna : FnOk l.prog w K mg base CX0 1 d33f _ ["_law_jobs_so", "_law_words_so"] (spNames K) := ok_names F33 N0
  have Gmv : FnOk l.prog w K mg base CX0 9 d34f _ ["_law_jobs_so", "_law_mix_so", "_law_rows"] (spMvs K) := ok_mvs (fS := d0f) F34 N0 Gna d33k b33 g33 Gha d14k b14 g14 Gva d15k b15 g15 Ghe d32k b32 g32 Gsm d23k b23 g23
  have Gca : FnOk l.prog w K mg base CX0 10 d35f _ ["_law_jobs_so", "_law_mix_so"] (spCase K) := ok_case F35 N0 Gpl d31k b31 g31 Gli d24k b24 g24 Gna d33k b33 g33 Gsb d18k b18 (kb2 F18 fun _ _ _ _ _ _ _ _ => rfl) g18 Gou d19k b19 (kb2 F19 fun _ _ _ _ _ _ _ _ => rfl) g19 Gha d14k (kb3 F14 fun _ _ _ _ _ _ _ _ _ => rfl) g14 Gva d15k (kb4 F15 fun _ _ _ _ _ _ _ _ _ _ => rfl) g15 Gsm d23k b23 g23 Gmv d34k b34 g34
  have Ghd : FnOk l.prog w K mg base CX0 11 d36f _ [] spHand := ok_hand F36 N0 Gou d19k b19 g19 Gha d14k b14 g14 Gsa d16k b16 g16 Gva d15k b15 g15 Ghe d32k b32 g32 Gsm d23k b23 g23 Gca d35k b35 g35
  have Gri : FnOk l.prog w K mg base CX0 11 d37f _ ["_law_box_here"] spRight := ok_right F37 Gwe d29k b29 g29 Gdr d30k b30 g30 Gca d35k b35 g35
  exact ok_law F38 N0 Gce d22k b22 g22 Gbo d20k b20 g20 Gri d37k b37 g37 Ghd d36k b36 g36
end Kz

open PySem PySem.W PyProof.Rows
set_option maxHeartbeats 0 in
theorem PySem.Challenge.cw_nosplit_k03_what_reads_see_holds : PySem.Challenge.rw_nosplit_k03_what_reads_see.Holds := by
  w_on; o_law; k_head; (case hw => w_witness2)
  k_fill
  refine L2.walk_of (l := PySem.Challenge.rw_nosplit_k03_what_reads_see) (n := 63) (k := 12) (x := "_law_script") (CX := fun _ => L2.CX0) (sp := fun w => Kz.spLaw _) rfl (by decide) rfl ⟨rfl, by decide, by decide⟩ (fun w h Y => PySem.W.kIn_of Y) ?F (fun _ _ a ns hl _ hS => ⟨a, ns, rfl, hS, hl, fun _ => rfl⟩) (fun _ _ _ _ _ h => h)
  case F =>
    intro w mg fa h KX G hmg
    refine' Kz.all_mk KX G hmg ?d0a ?d0l ?d0c ?d0k ?d1a ?d1l ?d1c ?d1k ?d2a ?d2l ?d2c ?d2k ?d3a ?d3l ?d3c ?d3k ?d4a ?d4l ?d4c ?d4k ?d5a ?d5l ?d5c ?d5k ?d6a ?d6l ?d6c ?d6k ?d7a ?d7l ?d7c ?d7k ?d8a ?d8l ?d8c ?d8k ?d9a ?d9l ?d9c ?d9k ?d10a ?d10l ?d10c ?d10k ?d11a ?d11l ?d11c ?d11k ?d12a ?d12l ?d12c ?d12k ?d13a ?d13l ?d13c ?d13k ?d14a ?d14l ?d14c ?d14k ?d15a ?d15l ?d15c ?d15k ?d16a ?d16l ?d16c ?d16k ?d17a ?d17l ?d17c ?d17k ?d18a ?d18l ?d18c ?d18k ?d19a ?d19l ?d19c ?d19k ?d20a ?d20l ?d20c ?d20k ?d21a ?d21l ?d21c ?d21k ?d22a ?d22l ?d22c ?d22k ?d23a ?d23l ?d23c ?d23k ?d24a ?d24l ?d24c ?d24k ?d25a ?d25l ?d25c ?d25k ?d26a ?d26l ?d26c ?d26k ?d27a ?d27l ?d27c ?d27k ?d28a ?d28l ?d28c ?d28k ?d29a ?d29l ?d29c ?d29k ?d30a ?d30l ?d30c ?d30k ?d31a ?d31l ?d31c ?d31k ?d32a ?d32l ?d32c ?d32k ?d33a ?d33l ?d33c ?d33k ?d34a ?d34l ?d34c ?d34k ?d35a ?d35l ?d35c ?d35k ?d36a ?d36l ?d36c ?d36k ?d37a ?d37l ?d37c ?d37k ?d38a ?d38l ?d38c ?d38k ?c0a ?c0l ?c0sa ?c0ga ?c0gg ?c0su ?c0hd ?c0ca ?c0mo ?c0ty ?c0kC ?c0no ?i0a ?i0t ?i0l ?i0c ?i0k ?c1a ?c1l ?c1sa ?c1ga ?c1gg ?c1su ?c1hd ?c1ca ?c1mo ?c1ty ?c1kC ?c1no ?i1a ?i1t ?i1l ?i1c ?i1k ?c2a ?c2l ?c2sa ?c2ga ?c2gg ?c2su ?c2hd ?c2ca ?c2mo ?c2ty ?c2kC ?i2z ?s00 ?s10 ?s20 ?s11 ?s21 ?s22 ?ra ?rpg ?rhd ?rpo ?rsa ?rn_jobs ?rn_moves ?rn_begun ?rn_ended ?rn_counts ?rmk ?rkp ?ria ?rin ?ril ?ric ?rik ?rga ?rgn ?rgl ?rgc ?rgk ?gHn ?gHt ?z_int ?z_len ?z_abs ?z_list ?z_tuple ?z_bool ?z_str ?z_enumerate ?z_isinstance ?z_all ?z_zip ?z_range ?z_set ?z_sorted ?z_any ?z_sum ?z_dict ?z_min ?z_LookupError ?z_ValueError
    (case d0a => k_is)
    (case d0l => k_is)
    (case d0c => k_is)
    (case d0k => k_is)
    (case d1a => k_is)
    (case d1l => k_is)
    (case d1c => k_is)
    (case d1k => k_is)
    (case d2a => k_is)
    (case d2l => k_is)
    (case d2c => k_is)
    (case d2k => k_is)
    (case d3a => k_is)
    (case d3l => k_is)
    (case d3c => k_is)
    (case d3k => k_is)
    (case d4a => k_is)
    (case d4l => k_is)
    (case d4c => k_is)
    (case d4k => k_is)
    (case d5a => k_is)
    (case d5l => k_is)
    (case d5c => k_is)
    (case d5k => k_is)
    (case d6a => k_is)
    (case d6l => k_is)
    (case d6c => k_is)
    (case d6k => k_is)
    (case d7a => k_is)
    (case d7l => k_is)
    (case d7c => k_is)
    (case d7k => k_is)
    (case d8a => k_is)
    (case d8l => k_is)
    (case d8c => k_is)
    (case d8k => k_is)
    (case d9a => k_is)
    (case d9l => k_is)
    (case d9c => k_is)
    (case d9k => k_is)
    (case d10a => k_is)
    (case d10l => k_is)
    (case d10c => k_is)
    (case d10k => k_is)
    (case d11a => k_is)
    (case d11l => k_is)
    (case d11c => k_is)
    (case d11k => k_is)
    (case d12a => k_is)
    (case d12l => k_is)
    (case d12c => k_is)
    (case d12k => k_is)
    (case d13a => k_is)
    (case d13l => k_is)
    (case d13c => k_is)
    (case d13k => k_is)
    (case d14a => k_is)
    (case d14l => k_is)
    (case d14c => k_is)
    (case d14k => k_is)
    (case d15a => k_is)
    (case d15l => k_is)
    (case d15c => k_is)
    (case d15k => k_is)
    (case d16a => k_is)
    (case d16l => k_is)
    (case d16c => k_is)
    (case d16k => k_is)
    (case d17a => k_is)
    (case d17l => k_is)
    (case d17c => k_is)
    (case d17k => k_is)
    (case d18a => k_is)
    (case d18l => k_is)
    (case d18c => k_is)
    (case d18k => k_is)
    (case d19a => k_is)
    (case d19l => k_is)
    (case d19c => k_is)
    (case d19k => k_is)
    (case d20a => k_is)
    (case d20l => k_is)
    (case d20c => k_is)
    (case d20k => k_is)
    (case d21a => k_is)
    (case d21l => k_is)
    (case d21c => k_is)
    (case d21k => k_is)
    (case d22a => k_is)
    (case d22l => k_is)
    (case d22c => k_is)
    (case d22k => k_is)
    (case d23a => k_is)
    (case d23l => k_is)
    (case d23c => k_is)
    (case d23k => k_is)
    (case d24a => k_is)
    (case d24l => k_is)
    (case d24c => k_is)
    (case d24k => k_is)
    (case d25a => k_is)
    (case d25l => k_is)
    (case d25c => k_is)
    (case d25k => k_is)
    (case d26a => k_is)
    (case d26l => k_is)
    (case d26c => k_is)
    (case d26k => k_is)
    (case d27a => k_is)
    (case d27l => k_is)
    (case d27c => k_is)
    (case d27k => k_is)
    (case d28a => k_is)
    (case d28l => k_is)
    (case d28c => k_is)
    (case d28k => k_is)
    (case d29a => k_is)
    (case d29l => k_is)
    (case d29c => k_is)
    (case d29k => k_is)
    (case d30a => k_is)
    (case d30l => k_is)
    (case d30c => k_is)
    (case d30k => k_is)
    (case d31a => k_is)
    (case d31l => k_is)
    (case d31c => k_is)
    (case d31k => k_is)
    (case d32a => k_is)
    (case d32l => k_is)
    (case d32c => k_is)
    (case d32k => k_is)
    (case d33a => k_is)
    (case d33l => k_is)
    (case d33c => k_is)
    (case d33k => k_is)
    (case d34a => k_is)
    (case d34l => k_is)
    (case d34c => k_is)
    (case d34k => k_is)
    (case d35a => k_is)
    (case d35l => k_is)
    (case d35c => k_is)
    (case d35k => k_is)
    (case d36a => k_is)
    (case d36l => k_is)
    (case d36c => k_is)
    (case d36k => k_is)
    (case d37a => k_is)
    (case d37l => k_is)
    (case d37c => k_is)
    (case d37k => k_is)
    (case d38a => k_is)
    (case d38l => k_is)
    (case d38c => k_is)
    (case d38k => k_is)
    (case c0a => k_is)
    (case c0l => k_is)
    (case c0sa => k_is)
    (case c0ga => k_is)
    (case c0gg => k_is)
    (case c0su => k_is)
    (case c0hd => k_is)
    (case c0ca => k_is)
    (case c0mo => k_is)
    (case c0ty => k_is)
    (case c0kC => k_is)
    (case c0no => k_is)
    (case i0a => k_is)
    (case i0t => k_is)
    (case i0l => k_is)
    (case i0c => k_is)
    (case i0k => k_is)
    (case c1a => k_is)
    (case c1l => k_is)
    (case c1sa => k_is)
    (case c1ga => k_is)
    (case c1gg => k_is)
    (case c1su => k_is)
    (case c1hd => k_is)
    (case c1ca => k_is)
    (case c1mo => k_is)
    (case c1ty => k_is)
    (case c1kC => k_is)
    (case c1no => k_is)
    (case i1a => k_is)
    (case i1t => k_is)
    (case i1l => k_is)
    (case i1c => k_is)
    (case i1k => k_is)
    (case c2a => k_is)
    (case c2l => k_is)
    (case c2sa => k_is)
    (case c2ga => k_is)
    (case c2gg => k_is)
    (case c2su => k_is)
    (case c2hd => k_is)
    (case c2ca => k_is)
    (case c2mo => k_is)
    (case c2ty => k_is)
    (case c2kC => k_is)
    (case i2z => k_is)
    (case s00 => k_is)
    (case s10 => k_is)
    (case s20 => k_is)
    (case s11 => k_is)
    (case s21 => k_is)
    (case s22 => k_is)
    (case ra => k_is)
    (case rpg => k_is)
    (case rhd => k_is)
    (case rpo => k_is)
    (case rsa => k_is)
    (case rn_jobs => k_is)
    (case rn_moves => k_is)
    (case rn_begun => k_is)
    (case rn_ended => k_is)
    (case rn_counts => k_is)
    (case rmk => k_is)
    (case rkp => k_is)
    (case ria => k_is)
    (case rin => k_is)
    (case ril => k_is)
    (case ric => k_is)
    (case rik => k_is)
    (case rga => k_is)
    (case rgn => k_is)
    (case rgl => k_is)
    (case rgc => k_is)
    (case rgk => k_is)
    (case gHn => k_is)
    (case gHt => k_is)
    (case z_int => k_is)
    (case z_len => k_is)
    (case z_abs => k_is)
    (case z_list => k_is)
    (case z_tuple => k_is)
    (case z_bool => k_is)
    (case z_str => k_is)
    (case z_enumerate => k_is)
    (case z_isinstance => k_is)
    (case z_all => k_is)
    (case z_zip => k_is)
    (case z_range => k_is)
    (case z_set => k_is)
    (case z_sorted => k_is)
    (case z_any => k_is)
    (case z_sum => k_is)
    (case z_dict => k_is)
    (case z_min => k_is)
    (case z_LookupError => k_is)
    (case z_ValueError => k_is)


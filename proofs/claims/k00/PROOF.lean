import PyProof.Rows.All
import Wide.All
import OpenK.AllK
import Wide.FinOn
import HandS.ForMost
import HandS.Flow
import HandS.Zip
import HandS.IsInst
import HandS.Exc
import HandS.ExcInit
import HandS.ExcIs
import HandS.MakeKw
import KE.KExcInit
import KE.KExcMake
import HandS.ExcOwn
import PySem.Challenge.RW_nosplit_k00_errors_made_by_hand
set_option Elab.async false
set_option linter.all false
set_option maxRecDepth 100000
set_option maxHeartbeats 4000000
namespace Kz
open PySem PySem.Spec PyProof.Rows L2 RZ
theorem new_same {H : Hp} {p : Addr} {o : HO} (h : H p = none) : Same H (upd H p o) := fun b x e => (upd_ne (ne_of_none e h)).trans e
theorem seqT_same {K : PySem.W.Frag} {H H' : Hp} {a : Addr} {xs : List V} (e : Same H H') (h : SqT K H a xs) : SqT K H' a xs := by
  rcases h with (h | ⟨o, h⟩) | h
  · exact .inl (.inl (e _ _ h))
  · exact .inl (.inr ⟨o, e _ _ h⟩)
  · exact .inr h
mutual
theorem dp_same {K : PySem.W.Frag} {H H' : Hp} (e : Same H H') : ∀ {v : V} {d : PyData}, Dp K H v d → Dp K H' v d
  | _, _, .non => .non
  | _, _, .bl b => .bl b
  | _, _, .int i => .int i
  | _, _, .str x => .str x
  | _, _, .lst h r => .lst (e.seq h) (dpAll_same e r)
  | _, _, .tup h r => .tup (seqT_same e h) (dpAll_same e r)
theorem dpAll_same {K : PySem.W.Frag} {H H' : Hp} (e : Same H H') : ∀ {vs : List V} {ds : List PyData}, DpAll K H vs ds → DpAll K H' vs ds
  | _, _, .nil => .nil
  | _, _, .cons h r => .cons (dp_same e h) (dpAll_same e r)
end
theorem dpAll_len {K : PySem.W.Frag} {H : Hp} : ∀ {vs : List V} {ds : List PyData}, DpAll K H vs ds → vs.length = ds.length
  | _, _, .nil => rfl
  | _, _, .cons _ r => congrArg Nat.succ (dpAll_len r)
theorem dpAll_at {K : PySem.W.Frag} {H : Hp} : ∀ {vs : List V} {ds : List PyData} {i : Nat} {v : V}, DpAll K H vs ds → vs[i]? = some v → ∃ d, ds[i]? = some d ∧ Dp K H v d
  | _, _, _, _, .nil, h => by simp at h
  | _, _, 0, _, .cons (d := d) h _, e => by
    have e' := Option.some.inj e
    subst e'
    exact ⟨d, rfl, h⟩
  | _, _, i + 1, _, .cons _ r, e => dpAll_at (i := i) r e
/-- a loop over enumerate of a list that stands still -/
theorem for_en {K : PySem.W.Frag} {a : Addr} {xs : List V} {g : TG} {tb : TS} {D : Ends} {σ : L2.St} {H : Hp} (Pv : Nat → L2.St → Hp → Prop) (h0 : Pv 0 σ H) (hq : ∀ i σ H, Pv i σ H → SqL K H a xs)
    (hs : ∀ (i : Nat) (x : V) (T : Addr) (σ : L2.St) (H : Hp), xs[i]? = some x → Pv i σ H → H T = none → g (.ref T) σ (upd H T (.tup [.int (i : Nat), x])) fun σ2 H2 => tb { D with nx := Pv (i + 1), ct := Pv (i + 1), bk := D.nx } σ2 H2)
    (hd : ∀ σ H, Pv xs.length σ H → D.nx σ H) : ∃ W : Nat → Nat → L2.St → Hp → Prop, (∃ m, W 0 m σ H) ∧ ∀ i m σ H, W i m σ H →
      ((Ite K a).stop i H ∧ D.nx σ H) ∨ ((Ite K a).go i H ∧ ∃ N : L2.St → Hp → Prop, (∀ σ' H', N σ' H' → ∃ m', m' < m ∧ W (i + 1) m' σ' H') ∧ ∀ v H', (Ite K a).yld i H v H' → g v σ H' fun σ2 H2 => tb { D with nx := N, ct := N, bk := D.nx } σ2 H2) := by
  refine ⟨fun i m σ H => m = xs.length - i ∧ i ≤ xs.length ∧ Pv i σ H, ⟨xs.length, rfl, Nat.zero_le _, h0⟩, ?_⟩
  rintro i m σ H ⟨rfl, hi, p⟩
  have qx := hq i σ H p
  by_cases hlt : i < xs.length
  · have hx : xs[i]? = some xs[i] := List.getElem?_eq_getElem hlt
    refine .inr ⟨⟨xs, _, qx, hx⟩, Pv (i + 1), fun σ' H' p' => ⟨xs.length - (i + 1), by omega, rfl, hlt, p'⟩, fun v H' y => ?_⟩
    obtain ⟨T, x', rfl, hT, rfl, f1⟩ := y
    exact hs i x' T σ H (f1 xs qx) p hT
  · have e : i = xs.length := by omega
    subst e
    exact .inl ⟨⟨xs, qx, Nat.le_refl _⟩, hd σ H p⟩
/-- a comprehension over zip of two lists that stand still -/
theorem lc_zL {K : PySem.W.Frag} {a b : Addr} {xs ys : List V} {g : TG} {tt : TT} {te : TE} {vs : List Nat} {σ : L2.St} {H1 : Hp} {D : Addr} {Qd : Hp → Prop} (hl : xs.length = ys.length) (Pv : Nat → Hp → Prop) (h0 : Pv 0 (upd H1 D (.lst []))) (hq : ∀ i H, Pv i H → SqL K H a xs ∧ SqL K H b ys)
    (hs : ∀ i x y T H, xs[i]? = some x → ys[i]? = some y → Pv i H → H T = none → g (.ref T) (wipe σ vs) (upd H T (.tup [x, y])) fun σ2 H2 => wipe σ2 vs = wipe σ vs ∧ tt σ2 H2 fun b H3 =>
      if b = true then te σ2 H3 fun y H4 => ∃ acc, H4 D = some (.lst acc) ∧ acc.length < sizeLine ∧ Pv (i + 1) (upd H4 D (.lst (acc ++ [y]))) else Pv (i + 1) H3) (hd : ∀ H, Pv xs.length H → Qd H) :
    ∃ W : Nat → Nat → Hp → Prop, (∃ m, W 0 m (upd H1 D (.lst []))) ∧ ∀ i m H, W i m H →
      ((Itz K a b).stop i H ∧ Qd H) ∨ ((Itz K a b).go i H ∧ ∃ Nx : Hp → Prop, (∀ H', Nx H' → ∃ m', m' < m ∧ W (i + 1) m' H') ∧ ∀ x H', (Itz K a b).yld i H x H' → g x (wipe σ vs) H' fun σ2 H2 => wipe σ2 vs = wipe σ vs ∧ tt σ2 H2 fun b H3 =>
        if b = true then te σ2 H3 fun y H4 => ∃ acc, H4 D = some (.lst acc) ∧ acc.length < sizeLine ∧ Nx (upd H4 D (.lst (acc ++ [y]))) else Nx H3) := by
  refine ⟨fun i m H => m = xs.length - i ∧ i ≤ xs.length ∧ Pv i H, ⟨xs.length, rfl, Nat.zero_le _, h0⟩, ?_⟩
  rintro i m H ⟨rfl, hi, p⟩
  obtain ⟨qx, qy⟩ := hq i H p
  by_cases hlt : i < xs.length
  · have hx : xs[i]? = some xs[i] := List.getElem?_eq_getElem hlt
    have hlt2 : i < ys.length := by omega
    have hy : ys[i]? = some ys[i] := List.getElem?_eq_getElem hlt2
    refine .inr ⟨⟨xs, ys, _, _, qx, qy, hx, hy⟩, Pv (i + 1), fun H' p' => ⟨xs.length - (i + 1), by omega, rfl, hlt, p'⟩, fun v H' z => ?_⟩
    obtain ⟨T, x', y', rfl, hT, rfl, f1, f2⟩ := z
    exact hs i x' y' T H (f1 xs qx) (f2 ys qy) p hT
  · have e : i = xs.length := by omega
    subst e
    exact .inl ⟨⟨xs, ys, qx, qy, Or.inl (Nat.le_refl _)⟩, hd H p⟩
/-- .. of two tuples -/
theorem lc_zT {K : PySem.W.Frag} {a b : Addr} {xs ys : List V} {g : TG} {tt : TT} {te : TE} {vs : List Nat} {σ : L2.St} {H1 : Hp} {D : Addr} {Qd : Hp → Prop} (hl : xs.length = ys.length) (Pv : Nat → Hp → Prop) (h0 : Pv 0 (upd H1 D (.lst []))) (hq : ∀ i H, Pv i H → SqT K H a xs ∧ SqT K H b ys)
    (hs : ∀ i x y T H, xs[i]? = some x → ys[i]? = some y → Pv i H → H T = none → g (.ref T) (wipe σ vs) (upd H T (.tup [x, y])) fun σ2 H2 => wipe σ2 vs = wipe σ vs ∧ tt σ2 H2 fun b H3 =>
      if b = true then te σ2 H3 fun y H4 => ∃ acc, H4 D = some (.lst acc) ∧ acc.length < sizeLine ∧ Pv (i + 1) (upd H4 D (.lst (acc ++ [y]))) else Pv (i + 1) H3) (hd : ∀ H, Pv xs.length H → Qd H) :
    ∃ W : Nat → Nat → Hp → Prop, (∃ m, W 0 m (upd H1 D (.lst []))) ∧ ∀ i m H, W i m H →
      ((ItzT K a b).stop i H ∧ Qd H) ∨ ((ItzT K a b).go i H ∧ ∃ Nx : Hp → Prop, (∀ H', Nx H' → ∃ m', m' < m ∧ W (i + 1) m' H') ∧ ∀ x H', (ItzT K a b).yld i H x H' → g x (wipe σ vs) H' fun σ2 H2 => wipe σ2 vs = wipe σ vs ∧ tt σ2 H2 fun b H3 =>
        if b = true then te σ2 H3 fun y H4 => ∃ acc, H4 D = some (.lst acc) ∧ acc.length < sizeLine ∧ Nx (upd H4 D (.lst (acc ++ [y]))) else Nx H3) := by
  refine ⟨fun i m H => m = xs.length - i ∧ i ≤ xs.length ∧ Pv i H, ⟨xs.length, rfl, Nat.zero_le _, h0⟩, ?_⟩
  rintro i m H ⟨rfl, hi, p⟩
  obtain ⟨qx, qy⟩ := hq i H p
  by_cases hlt : i < xs.length
  · have hx : xs[i]? = some xs[i] := List.getElem?_eq_getElem hlt
    have hlt2 : i < ys.length := by omega
    have hy : ys[i]? = some ys[i] := List.getElem?_eq_getElem hlt2
    refine .inr ⟨⟨xs, ys, _, _, qx, qy, hx, hy⟩, Pv (i + 1), fun H' p' => ⟨xs.length - (i + 1), by omega, rfl, hlt, p'⟩, fun v H' z => ?_⟩
    obtain ⟨T, x', y', rfl, hT, rfl, f1, f2⟩ := z
    exact hs i x' y' T H (f1 xs qx) (f2 ys qy) p hT
  · have e : i = xs.length := by omega
    subst e
    exact .inl ⟨⟨xs, ys, qx, qy, Or.inl (Nat.le_refl _)⟩, hd H p⟩
theorem cut_take (xs : List V) (m : Nat) : cutV xs none (some (m : Int)) = xs.take m := by
  unfold cutV
  rw [HT.sIx_none, HT.sIx_nat, Nat.sub_zero, List.drop_zero]
  by_cases h : m ≤ xs.length
  · rw [Nat.min_eq_left h]
  · rw [Nat.min_eq_right (by omega), List.take_length, List.take_of_length_le (by omega)]
theorem cut_map {α : Type} (f : α → V) (xs : List α) (lo hi : Option Int) : ∃ ys : List α, cutV (xs.map f) lo hi = ys.map f ∧ ys.length ≤ xs.length := by
  refine ⟨(xs.drop (HT.sIx xs.length 0 lo)).take (HT.sIx xs.length xs.length hi - HT.sIx xs.length 0 lo), ?_, ?_⟩
  · unfold cutV
    rw [List.length_map, List.map_take, List.map_drop]
  · rw [List.length_take, List.length_drop]
    omega
theorem cut_past (xs : List V) (m : Nat) (hi : Option Int) (h : xs.length ≤ m) : cutV xs (some (m : Int)) hi = [] := by
  unfold cutV
  rw [HT.sIx_nat, Nat.min_eq_right h, List.drop_length, List.take_nil]
end Kz

namespace Kz
open PySem PySem.Spec PyProof.Rows L2
def topS (i : Nat) : Stmt := PySem.Challenge.pw_nosplit_k00_errors_made_by_hand.main.body.getD i (.Pass ⟨0, 0, 0, 0⟩)
abbrev sBox : Stmt := topS 12
abbrev sTake : Stmt := topS 13
abbrev sCells : Stmt := topS 14
abbrev sSame : Stmt := topS 15
abbrev sOf : Stmt := topS 16
abbrev sUnder : Stmt := topS 17
abbrev sWhich : Stmt := topS 18
abbrev sMade : Stmt := topS 19
abbrev sRight : Stmt := topS 20
abbrev sLaw : Stmt := topS 21
/-- the built-in names that the module leaves alone -/
structure Nat0 (mg : Str → Option Value) : Prop where
  int : mg "int" = none
  len : mg "len" = none
  abs : mg "abs" = none
  list : mg "list" = none
  tuple : mg "tuple" = none
  bool : mg "bool" = none
  str : mg "str" = none
  enumerate : mg "enumerate" = none
  isinstance : mg "isinstance" = none
  all : mg "all" = none
  zip : mg "zip" = none
  range : mg "range" = none
section
variable {P : Program} {w : World} {K : PySem.W.Frag} {mg : Str → Option Value} {base : Heap}
/-! ### a draw -/
def spTake : Sp := fun vs H Q _ => ∃ (l : Addr) (a b c n : Int), vs = [.ref l, .int n] ∧ H l = some (.lst [.int a, .int b, .int c]) ∧ 0 ≤ b ∧ b < 2 ^ 62 ∧ 0 ≤ c ∧ c < 2 ^ 30 ∧ 0 < n ∧ n < 2 ^ 30 ∧
  ∀ (a' c' d : Int), 0 ≤ d → d < n → c ≤ c' → c' ≤ c + 1 → Q (.int d) (upd H l (.lst [.int a', .int b, .int c']))
theorem scTake : FnScope ["_law_box_here", "_law_below_so", "_law_drawn", "_law_once", "_law_far", "_law_twice"] ["_law_box_here", "_law_below_so"] (defScope sTake) := ⟨rfl, rfl, rfl, by decide +kernel, rfl, by decide +kernel, by decide +kernel⟩
theorem ok_take {f : Addr} {fd : FuncData} {k : Nat} (F : Fun K "_law_take" "_law_take" sTake f fd) (T : Nat0 mg) : FnOk P w K mg base CX0 (k + 1) f fd ["_law_box_here", "_law_below_so"] spTake := by
  refine F.ok scTake (fun vs H Q E h => ?_) (fun cdv A outer s H vs Q E hr h => ?_)
  · obtain ⟨l, a, b, c, n, rfl, _⟩ := h
    rfl
  · obtain ⟨l, a, b, c, n, rfl, hl, hb0, hb1, hc0, hc1, hn0, hn1, q⟩ := h
    refine ⟨_, pss_cons (ps_if (pt_cmpR op_gt (pe_ix ix_list (pv 0) pe_int (fun _ _ => rfl)) pe_int (nomark _))
        (pss_cons (ps_set (i := 2) scTake.nd rfl (.inl rfl) (pe_op op_mod (pe_callTy call_int1 (by rfl) T.int (by decide +kernel) (pa_cons (pe_ix ix_list (pv 0) pe_int (fun _ _ => rfl)) pa_nil)) (pv 1)))
        (pss_cons (ps_asg (pe_op op_fdiv (pe_ix ix_list (pv 0) pe_int (fun _ _ => rfl)) (pv 1)) (pg_sub (pv 0) pe_int set_list))
        (pss_one (ps_ret (pv 2))))) pss_nil)
      (pss_cons (ps_asg (pe_op op_add (pe_ix ix_list (pv 0) pe_int (fun _ _ => rfl)) pe_int) (pg_sub (pv 0) pe_int set_list))
      (pss_cons (ps_set (i := 3) scTake.nd rfl (.inl rfl) (pe_op op_mod (pe_callTy call_int1 (by rfl) T.int (by decide +kernel) (pa_cons
          (pe_op op_mul (pe_op op_add (pe_ix ix_list (pv 0) pe_int (fun _ _ => rfl)) (pe_op op_mul pe_int (pe_ix ix_list (pv 0) pe_int (fun _ _ => rfl))))
            (pe_op op_add pe_int (pe_ix ix_list (pv 0) pe_int (fun _ _ => rfl)))) pa_nil)) pe_int))
      (pss_cons (ps_set (i := 4) scTake.nd rfl (.inl rfl) (pe_op op_add (pe_op op_mod (pe_callTy call_int1 (by rfl) T.int (by decide +kernel) (pa_cons (pv 3) pa_nil)) pe_int) pe_int))
      (pss_cons (ps_set (i := 5) scTake.nd rfl (.inl rfl) (pe_op op_mod (pe_callTy call_int1 (by rfl) T.int (by decide +kernel) (pa_cons
          (pe_op op_mul (pe_op op_add (pe_op op_add (pv 3) (pe_ix ix_list (pv 0) pe_int (fun _ _ => rfl))) (pe_op op_fdiv (pe_ix ix_list (pv 0) pe_int (fun _ _ => rfl)) pe_int)) (pv 4)) pa_nil)) pe_int))
      (pss_one (ps_ret (pe_op op_mod (pe_callTy call_int1 (by rfl) T.int (by decide +kernel) (pa_cons
          (pe_op op_fdiv (pe_op op_mod (pe_callTy call_int1 (by rfl) T.int (by decide +kernel) (pa_cons (pe_op op_add (pe_op op_mul (pv 5) pe_int) (pv 3)) pa_nil)) pe_int) pe_int) pa_nil)) (pv 1)))))))), ?_⟩
    refine ⟨.ref l, rfl, l, _, 0, .int a, rfl, rfl, SqL.of hl, atI_nat (j := 0) rfl, a, 0, rfl, rfl, _, rfl, ite2 (fun _ => ?_) (fun _ => ?_)⟩
    · refine ⟨.ref l, rfl, l, _, 0, .int a, rfl, rfl, SqL.of hl, atI_nat (j := 0) rfl, .inl ⟨a, rfl, _, rfl, a, n, rfl, rfl, hn0, ?_⟩⟩
      refine ⟨.ref l, rfl, l, _, 0, .int a, rfl, rfl, SqL.of hl, atI_nat (j := 0) rfl, _, rfl, a, n, rfl, rfl, ⟨hn0, hn1⟩, _, rfl, l, _, 0, 0, rfl, rfl, hl, rfl, ?_⟩
      exact ⟨_, rfl, q (a / n) c (a % n) (Int.emod_nonneg _ (by omega)) (Int.emod_lt_of_pos _ hn0) (Int.le_refl _) (by omega)⟩
    · refine ⟨.ref l, rfl, l, _, 2, .int c, rfl, rfl, SqL.of hl, atI_nat (j := 2) rfl, c, 1, rfl, rfl, _, rfl, l, _, 2, 2, rfl, rfl, hl, rfl, ?_⟩
      have hl2 : upd H l (.lst [.int a, .int b, .int (c + 1)]) l = some (.lst [.int a, .int b, .int (c + 1)]) := upd_same
      refine ⟨.ref l, rfl, l, _, 1, .int b, rfl, rfl, SqL.of hl2, atI_nat (j := 1) rfl, .ref l, rfl, l, _, 2, .int (c + 1), rfl, rfl, SqL.of hl2, atI_nat (j := 2) rfl, _, _, rfl, rfl, .inl (by decide), _, _, rfl, rfl, .ref l, rfl, l, _, 2, .int (c + 1), rfl, rfl, SqL.of hl2, atI_nat (j := 2) rfl, _, _, rfl, rfl, _, _, rfl, rfl, .inr ⟨by omega, by omega⟩, .inl ⟨_, rfl, _, _, rfl, rfl, (by show (0 : Int) < 2147483647; decide), ?_⟩⟩
      generalize hX : (b + 48271 * (c + 1)) * (39373 + (c + 1)) = X
      have x0 : 0 ≤ X % 2147483647 := Int.emod_nonneg _ (by decide)
      have x1 : X % 2147483647 < 2147483647 := Int.emod_lt_of_pos _ (by decide)
      refine ⟨_, rfl, .inl ⟨_, rfl, _, _, rfl, rfl, (by show (0 : Int) < 40009; decide), _, _, rfl, rfl, ?_⟩⟩
      refine ⟨_, rfl, .ref l, rfl, l, _, 2, .int (c + 1), rfl, rfl, SqL.of hl2, atI_nat (j := 2) rfl, _, _, rfl, rfl, .ref l, rfl, l, _, 1, .int b, rfl, rfl, SqL.of hl2, atI_nat (j := 1) rfl, _, _, rfl, rfl, ⟨by decide, by decide⟩, _, _, rfl, rfl, _, rfl, _, _, rfl, rfl, .inr ⟨by omega, by omega⟩, .inl ⟨_, rfl, _, _, rfl, rfl, (by show (0 : Int) < 2147483629; decide), ?_⟩⟩
      refine ⟨_, rfl, _, _, rfl, rfl, .inr ⟨by decide, by decide⟩, _, rfl, _, _, rfl, rfl,   .inl ⟨_, rfl, _, _, rfl, rfl, (by show (0 : Int) < 2147483587; decide), _, _, rfl, rfl, ⟨by decide, by decide⟩, .inl ⟨_, rfl, _, rfl, _, _, rfl, rfl, hn0, ?_⟩⟩⟩
      exact q a (c + 1) _ (Int.emod_nonneg _ (by omega)) (Int.emod_lt_of_pos _ hn0) (by omega) (Int.le_refl _)
end
end Kz

namespace Kz
open PySem PySem.Spec PyProof.Rows L2
section
variable {P : Program} {w : World} {K : PySem.W.Frag} {mg : Str → Option Value} {base : Heap}
/-- a source of draws at l, n draws done at the most -/
def BoxAt (H : Hp) (l : Addr) (n : Int) : Prop := ∃ a b c : Int, H l = some (.lst [.int a, .int b, .int c]) ∧ 0 ≤ b ∧ b < 2 ^ 62 ∧ 0 ≤ c ∧ c ≤ n
/-- all but the source stays -/
def But (l : Addr) (H H' : Hp) : Prop := ∀ b o, b ≠ l → H b = some o → H' b = some o
theorem But.refl (l : Addr) (H : Hp) : But l H H := fun _ _ _ h => h
theorem But.trans {l : Addr} {H H1 H2 : Hp} (a : But l H H1) (b : But l H1 H2) : But l H H2 := fun x o n h => b x o n (a x o n h)
theorem But.of {l : Addr} {H H' : Hp} (h : Same H H') : But l H H' := fun b o _ e => h b o e
theorem but_upd {l : Addr} {H : Hp} {o : HO} : But l H (upd H l o) := fun b u n e => (upd_ne n).trans e
theorem but_new {l p : Addr} {H : Hp} {o : HO} (h : H p = none) : But l H (upd H p o) := .of (new_same h)
/-- a draw below n, told by what stays -/
def spTake2 : Sp := fun vs H Q _ => ∃ (l : Addr) (m n : Int), vs = [.ref l, .int n] ∧ BoxAt H l m ∧ m < 2 ^ 30 ∧ 0 < n ∧ n < 2 ^ 30 ∧ ∀ (H' : Hp) (d : Int), 0 ≤ d → d < n → But l H H' → BoxAt H' l (m + 1) → Q (.int d) H'
theorem ok_take2 {f : Addr} {fd : FuncData} {k : Nat} (F : Fun K "_law_take" "_law_take" sTake f fd) (T : Nat0 mg) : FnOk P w K mg base CX0 (k + 1) f fd ["_law_box_here", "_law_below_so"] spTake2 :=
  (ok_take F T).imp fun vs H Q E h => by
    obtain ⟨l, m, n, rfl, ⟨a, b, c, hl, b0, b1, c0, c1⟩, hm, n0, n1, q⟩ := h
    exact ⟨l, a, b, c, n, rfl, hl, b0, b1, c0, by omega, n0, n1, fun a' c' d d0 d1 e0 e1 => q _ d d0 d1 but_upd ⟨a', b, c', upd_same, b0, b1, by omega, by omega⟩⟩
/-! ### one of a pool -/
def spOf : Sp := fun vs H Q _ => ∃ (l pl : Addr) (m : Int) (xs : List V), vs = [.ref l, .ref pl] ∧ BoxAt H l m ∧ m < 2 ^ 30 ∧ l ≠ pl ∧ H pl = some (.lst xs) ∧ xs ≠ [] ∧ xs.length < 2 ^ 30 ∧
  ∀ (H' : Hp) (i : Nat) (v : V), xs[i]? = some v → But l H H' → BoxAt H' l (m + 1) → Q v H'
theorem scOf : FnScope ["_law_box_here", "_law_pool_so"] ["_law_box_here", "_law_pool_so"] (defScope sOf) := ⟨rfl, rfl, rfl, by decide +kernel, rfl, by decide +kernel, by decide +kernel⟩
theorem ok_of {f fT : Addr} {fd fdT : FuncData} {k : Nat} (F : Fun K "_law_of" "_law_of" sOf f fd) (T : Nat0 mg) (FT : Fun K "_law_take" "_law_take" sTake fT fdT) (bT : Binds K fdT ["_law_box_here", "_law_below_so"] []) (gT : mg "_law_take" = some (.ref fT)) :
    FnOk P w K mg base CX0 (k + 2) f fd ["_law_box_here", "_law_pool_so"] spOf := by
  have GT : FnOk P w K mg base CX0 (k + 1) fT fdT ["_law_box_here", "_law_below_so"] spTake2 := ok_take2 FT T
  refine F.ok scOf (fun vs H Q E h => ?_) (fun cdv A outer s H vs Q E hr h => ?_)
  · obtain ⟨l, pl, m, xs, rfl, _⟩ := h
    rfl
  · obtain ⟨l, pl, m, xs, rfl, hb, hm, hne, hp, h0, h1, q⟩ := h
    refine ⟨_, pss_one (ps_ret (pe_ix ix_list (pv 1) (pe_call GT hr (by rfl) gT FT.kp bT .nil pass0 (pa_cons (pv 0) (pa_cons (pe_callB call_len_seq (by rfl) T.len PySem.boot_len (pa_cons (pv 1) pa_nil)) pa_nil))) (fun _ _ => rfl))), ?_⟩
    refine ⟨_, rfl, _, rfl, _, rfl, pl, xs, rfl, .inl (SqL.of hp), l, m, _, rfl, hb, hm, ?_, ?_, fun H' d d0 d1 hB hb' => ?_⟩
    · have : 0 < xs.length := List.length_pos_iff.mpr h0
      omega
    · omega
    · have hi : d.toNat < xs.length := by omega
      refine ⟨pl, xs, d, xs[d.toNat], rfl, rfl, SqL.of (hB _ _ hne.symm hp), at_of (j := d.toNat) (by omega) (List.getElem?_eq_getElem hi), ?_⟩
      exact q H' d.toNat _ (List.getElem?_eq_getElem hi) hB hb'
theorem bit01 : ∀ b : Bool, -(2 ^ 64) < (if b = true then (1 : Int) else 0) ∧ (if b = true then (1 : Int) else 0) < 2 ^ 64
  | true => ⟨by decide, by decide⟩
  | false => ⟨by decide, by decide⟩
/-! ### a source -/
def spBox (K : PySem.W.Frag) : Sp := fun vs H Q _ => ∃ (a : Addr) (cs : List Int) (n : Nat), vs = [.ref a, .int n] ∧ SqL K H a (cs.map V.int) ∧ n ≤ 1000 ∧ ∀ (H' : Hp) (l : Addr), Same H H' → H l = none → BoxAt H' l 0 → Q (.ref l) H'
theorem scBox : FnScope ["_law_script", "_law_nth_so", "_law_cell"] ["_law_script", "_law_nth_so"] (defScope sBox) := ⟨rfl, rfl, rfl, by decide +kernel, rfl, by decide +kernel, by decide +kernel⟩
theorem ok_box {f : Addr} {fd : FuncData} {k : Nat} (F : Fun K "_law_box" "_law_box" sBox f fd) (T : Nat0 mg) : FnOk P w K mg base CX0 (k + 1) f fd ["_law_script", "_law_nth_so"] (spBox K) := by
  refine F.ok scBox (fun vs H Q E h => ?_) (fun cdv A outer s H vs Q E hr h => ?_)
  · obtain ⟨a, cs, n, rfl, _⟩ := h
    rfl
  · obtain ⟨a, cs, n, rfl, hS, hn, q⟩ := h
    refine ⟨_, pss_cons (ps_set (i := 2) scBox.nd rfl (.inl rfl) (pe_ifExp (pt_cmpR op_lt (pv 1) (pe_callB call_len_seq (by rfl) T.len PySem.boot_len (pa_cons (pv 0) pa_nil)) (nomark _)) (pe_ix ix_list (pv 0) (pv 1) (fun _ _ => rfl)) pe_int))
      (pss_one (ps_ret (pe_lst (pa_cons (pe_op op_mul (pe_callB call_abs (by rfl) T.abs (by decide +kernel) (pa_cons (pv 2) pa_nil))
          (pe_callTy call_int1 (by rfl) T.int (by decide +kernel) (pa_cons (pe_cmpR op_ge (pe_callB call_abs (by rfl) T.abs (by decide +kernel) (pa_cons (pv 2) pa_nil)) (pe_op op_pow pe_int pe_int) (nomark _)) pa_nil)))
        (pa_cons (pe_op op_add (pe_op op_add (pe_op op_mod (pe_callTy call_int1 (by rfl) T.int (by decide +kernel) (pa_cons (pv 2) pa_nil)) pe_int) (pe_op op_mul pe_int (pv 1))) pe_int)
        (pa_cons pe_int pa_nil)))))), ?_⟩
    have fin : ∀ c : Int, tRet (tLst (tCons (tOp (rI CMul fun i j => .int (i * j)) (tCB (fun xs H Q => ∃ i, xs = [.int i] ∧ Q (.int (if i < 0 then -i else i)) H) (tCons (tVar 2) tNil))
          (tCB (fun xs H Q => (∃ i, xs = [.int i] ∧ Q (.int i) H) ∨ ∃ k, xs = [.bl k] ∧ Q (.int (if k then 1 else 0)) H) (tCons (tOp (rI0 fun i j => .bl (decide (j ≤ i))) (tCB (fun xs H Q => ∃ i, xs = [.int i] ∧ Q (.int (if i < 0 then -i else i)) H) (tCons (tVar 2) tNil)) (tOp (rI CPow fun i j => .int (i ^ j.toNat)) (tC (.int 10)) (tC (.int 18)))) tNil)))
        (tCons (tOp (rI0 fun i j => .int (i + j)) (tOp (rI0 fun i j => .int (i + j)) (tOp (rI (fun _ j => 0 < j) fun i j => .int (i % j)) (tCB (fun xs H Q => (∃ i, xs = [.int i] ∧ Q (.int i) H) ∨ ∃ k, xs = [.bl k] ∧ Q (.int (if k then 1 else 0)) H) (tCons (tVar 2) tNil)) (tC (.int 2305843009213693951))) (tOp (rI CMul fun i j => .int (i * j)) (tC (.int 39373)) (tVar 1))) (tC (.int 1935000)))
        (tCons (tC (.int 0)) tNil)))) { nx := fun _ H' => Q .non H', rt := Q } [some (.ref a), some (.int (n : Int)), some (.int c)] H := by
      intro c
      refine ⟨_, rfl, c, rfl, _, rfl, c, rfl, 10, 18, rfl, rfl, ⟨by decide, by decide, by decide⟩, _, _, rfl, rfl, .inr ⟨_, rfl, _, _, rfl, rfl, .inr ?_, ?_⟩⟩
      · exact bit01 _
      · refine ⟨_, rfl, .inl ⟨c, rfl, _, _, rfl, rfl, (by show (0 : Int) < 2305843009213693951; decide), _, rfl, _, _, rfl, rfl, .inl ⟨by decide, by decide⟩, _, _, rfl, rfl, _, _, rfl, rfl, ?_⟩⟩
        refine ⟨(by show 3 ≤ sizeLine; decide), fun l hl => ?_⟩
        have x0 : 0 ≤ c % 2305843009213693951 := Int.emod_nonneg _ (by decide)
        have x1 : c % 2305843009213693951 < 2305843009213693951 := Int.emod_lt_of_pos _ (by decide)
        exact q _ l (new_same hl) hl ⟨_, _, 0, upd_same, by omega, by omega, Int.le_refl _, Int.le_refl _⟩
    refine ⟨_, rfl, _, rfl, a, _, rfl, .inl hS, _, _, rfl, rfl, _, rfl, ite2 (fun e => ?_) (fun _ => fin 0)⟩
    have e1 : (n : Int) < ((cs.map V.int).length : Int) := of_decide_eq_true e
    rw [List.length_map] at e1
    have hi : n < cs.length := by omega
    refine ⟨_, rfl, _, rfl, a, _, n, .int cs[n], rfl, rfl, hS, atI_nat (j := n) ?_, fin cs[n]⟩
    rw [List.getElem?_map, List.getElem?_eq_getElem hi]
    rfl
/-! ### the cells -/
def spCells (K : PySem.W.Frag) : Sp := fun vs H Q _ => ∃ (a : Addr) (ns : List Int) (m : Nat), vs = [.ref a, .int m] ∧ SqL K H a (ns.map V.int) ∧ ns.length ≤ 63 ∧ 0 < m ∧ m ≤ 63 ∧
  ∀ (H' : Hp) (p : Addr) (cs : List Int), Same H H' → H p = none → H' p = some (.lst (cs.map V.int)) → 1 ≤ cs.length → cs.length ≤ m → Q (.ref p) H'
theorem scCells : FnScope ["_law_script", "_law_top_so", "_law_cells_so", "_law_nth_so", "_law_cell_so", "_law_at_so"] ["_law_script", "_law_top_so"] (defScope sCells) := ⟨rfl, rfl, rfl, by decide +kernel, rfl, by decide +kernel, by decide +kernel⟩
theorem ok_cells {f : Addr} {fd : FuncData} {k : Nat} (F : Fun K "_law_cells" "_law_cells" sCells f fd) (T : Nat0 mg) : FnOk P w K mg base CX0 (k + 1) f fd ["_law_script", "_law_top_so"] (spCells K) := by
  refine F.ok scCells (fun vs H Q E h => ?_) (fun cdv A outer s H vs Q E hr h => ?_)
  · obtain ⟨a, ns, m, rfl, _⟩ := h
    rfl
  · obtain ⟨a, ns, m, rfl, hS, hn, hm0, hm1, q⟩ := h
    refine ⟨_, pss_cons (ps_set (i := 2) scCells.nd rfl (.inl rfl) (pe_orT (pe_callTy call_list_of (by rfl) T.list (by decide +kernel) (pa_cons (pe_slice sl_list (pv 0) po_none (po_some (pv 1))) pa_nil)) (pe_one (pe_lst (pa_cons pe_int pa_nil)))))
      (pss_cons (ps_for PassesOwn.never rfl (pi_enum (by rfl) T.enumerate (pa_cons (pe_slice sl_list (pv 0) (po_some (pv 1)) (po_some pe_int)) pa_nil))
          (pg_tup rfl (pgs_cons (pg_name (i := 3) scCells.nd rfl (.inl rfl)) (pgs_cons (pg_name (i := 4) scCells.nd rfl (.inl rfl)) pgs_nil)))
        (pss_cons (ps_set (i := 5) scCells.nd rfl (.inl rfl) (pe_op op_mod (pe_callTy call_int1 (by rfl) T.int (by decide +kernel) (pa_cons (pv 3) pa_nil)) (pv 1)))
        (pss_one (ps_asg (pe_op op_add (pe_ix ix_list (pv 2) (pv 5) (fun _ _ => rfl)) (pe_op op_mul (pv 4) (pe_op op_add (pv 3) pe_int))) (pg_sub (pv 2) (pv 5) set_list)))))
      (pss_one (ps_ret (pv 2)))), ?_⟩
    have hlen : (ns.map V.int).length = ns.length := List.length_map ..
    obtain ⟨zs, ez, hz⟩ := cut_map V.int ns (some (m : Int)) (some 63)
    have hpast : ns.length ≤ m → zs = [] := fun h => by
      have e := cut_past (ns.map V.int) m (some 63) (by rw [hlen]; exact h)
      rw [ez] at e
      exact List.map_eq_nil_iff.mp e
    -- behind the first statement: the cells at p
    have rest : ∀ (H1 : Hp) (p : Addr) (c0 : List Int), Same H H1 → H p = none → H1 p = some (.lst (c0.map V.int)) → 1 ≤ c0.length → c0.length ≤ m → (m < ns.length → c0.length = m) →
        tSeq (tFor (iEnum K (tCons (tSl (rSlL K) (tVar 0) (tPart (tVar 1)) (tPart (tC (.int 63)))) tNil)) (gTup K 2 (gCons (gName 3) (gCons (gName 4) gNil)))
          (tSeq (tAsg (tOp (rI (fun _ j => 0 < j) fun i j => .int (i % j)) (tCB (fun xs H Q => (∃ i, xs = [.int i] ∧ Q (.int i) H) ∨ ∃ k, xs = [.bl k] ∧ Q (.int (if k then 1 else 0)) H) (tCons (tVar 3) tNil)) (tVar 1)) (gName 5))
            (tAsg (tOp (rI0 fun i j => .int (i + j)) (tOp (rIxL K) (tVar 2) (tVar 5)) (tOp (rI CMul fun i j => .int (i * j)) (tVar 4) (tOp (rI0 fun i j => .int (i + j)) (tVar 3) (tC (.int 2))))) (gSub (tVar 2) (tVar 5) rSetL))))
          (tRet (tVar 2)) { nx := fun _ H' => Q .non H', rt := Q } [some (.ref a), some (.int (m : Int)), some (.ref p), none, none, none] H1 := by
      intro H1 p c0 s1 hp hc h1 h2 h3
      refine ⟨_, rfl, _, rfl, _, rfl, 63, rfl, a, _, rfl, s1.seq hS, fun d hd => ?_⟩
      have s2 : Same H1 (upd H1 d (.lst (cutV (ns.map V.int) (some (m : Int)) (some 63)))) := new_same hd
      refine ⟨d, _, rfl, SqL.of upd_same, for_en (K := K) (a := d) (xs := cutV (ns.map V.int) (some (m : Int)) (some 63))
        (fun i σ H' => ∃ (v3 v4 v5 : Option V) (cs : List Int), σ = [some (.ref a), some (.int (m : Int)), some (.ref p), v3, v4, v5] ∧ Same H H' ∧ H' d = some (.lst (cutV (ns.map V.int) (some (m : Int)) (some 63))) ∧ H' p = some (.lst (cs.map V.int)) ∧ cs.length = c0.length)
        ⟨none, none, none, c0, rfl, s1.trans s2, upd_same, s2 _ _ hc, rfl⟩ (fun i σ H' ⟨_, _, _, _, _, _, e, _⟩ => SqL.of e) ?_ ?_⟩
      · rintro i x t σ H' hx ⟨v3, v4, v5, cs, rfl, s3, e1, e2, e3⟩ ht
        rw [ez, List.getElem?_map] at hx
        obtain ⟨z, hz1, rfl⟩ : ∃ z, zs[i]? = some z ∧ x = V.int z := by
          cases e : zs[i]? with
          | none => rw [e] at hx; cases hx
          | some z =>
            rw [e] at hx
            exact ⟨z, rfl, (Option.some.inj hx).symm⟩
        have hil : i < zs.length := (List.getElem?_eq_some_iff.mp hz1).1
        have hml : m < ns.length := by
          rcases Nat.lt_or_ge m ns.length with h | h
          · exact h
          · rw [hpast h] at hil
            exact absurd hil (Nat.not_lt_zero _)
        have hcl : cs.length = m := by rw [e3]; exact h3 hml
        have ntp : p ≠ t := ne_of_none e2 ht
        have ntd : d ≠ t := ne_of_none e1 ht
        have npd : d ≠ p := fun q => by
          rw [q] at hd
          rw [hc] at hd
          cases hd
        refine ⟨t, _, rfl, SqT.of upd_same, rfl, _, _, rfl, _, _, rfl, rfl, ?_⟩
        have hat : ((i : Int) % (m : Int)).toNat < cs.length := by
          have a0 : 0 ≤ (i : Int) % (m : Int) := Int.emod_nonneg _ (by omega)
          have a1 : (i : Int) % (m : Int) < m := Int.emod_lt_of_pos _ (by omega)
          omega
        have h0 : 0 ≤ (i : Int) % (m : Int) := Int.emod_nonneg _ (by omega)
        refine ⟨_, rfl, .inl ⟨_, rfl, _, rfl, _, _, rfl, rfl, (show (0 : Int) < (m : Int) by omega), ?_⟩⟩
        have e2' : (upd H' t (.tup [.int (i : Nat), .int z])) p = some (.lst (cs.map V.int)) := (upd_ne ntp).trans e2
        have gc : (cs.map V.int)[((i : Int) % (m : Int)).toNat]? = some (.int cs[((i : Int) % (m : Int)).toNat]) := by
          rw [List.getElem?_map, List.getElem?_eq_getElem hat]
          rfl
        refine ⟨_, rfl, _, rfl, p, _, _, _, rfl, rfl, SqL.of e2', at_of (j := ((i : Int) % (m : Int)).toNat) (by omega) gc, _, rfl, _, rfl, _, _, rfl, rfl, _, _, rfl, rfl, .inr ⟨by omega, by omega⟩, _, _, rfl, rfl, _, rfl, _, rfl, p, _, _, ((i : Int) % (m : Int)).toNat, rfl, rfl, e2', ?_, ?_⟩
        · unfold ixN
          rw [if_pos h0, if_pos (by rw [List.length_map]; omega)]
        · refine ⟨_, _, _, cs.set ((i : Int) % (m : Int)).toNat (cs[((i : Int) % (m : Int)).toNat] + z * ((i : Int) + 2)), rfl, fun b o e => ?_, ?_, ?_, ?_⟩
          · have nb : b ≠ p := fun q => by rw [q, hp] at e; cases e
            rw [upd_ne nb, upd_ne (ne_of_none (s3 _ _ e) ht)]
            exact s3 _ _ e
          · rw [upd_ne npd, upd_ne ntd]
            exact e1
          · rw [upd_same, List.map_set]
          · rw [List.length_set, e3]
      · rintro σ H' ⟨v3, v4, v5, cs, rfl, s3, e1, e2, e3⟩
        exact ⟨_, rfl, q H' p cs s3 hp e2 (by omega) (by omega)⟩
    refine ⟨_, rfl, _, rfl, _, rfl, a, _, rfl, hS, fun c hc => ?_⟩
    refine ⟨c, _, rfl, .inl (SqL.of upd_same), fun l hl => ?_⟩
    have hl0 : H l = none := (new_same hc).free hl
    have et : cutV (ns.map V.int) none (some (m : Int)) = (ns.take m).map V.int := by rw [cut_take, List.map_take]
    refine ⟨_, .inl ⟨_, SqL.of upd_same, rfl⟩, ?_⟩
    rw [et] at hl ⊢
    by_cases h0 : ns = []
    · subst h0
      rw [List.take_nil] at hl ⊢
      refine iteF ⟨by decide, fun p hp => ?_⟩
      have hp2 : (upd H c (.lst [])) p = none := (new_same hl).free hp
      exact rest _ p [0] (((new_same hc).trans (new_same hl)).trans (new_same hp)) ((new_same hc).free hp2) upd_same (by simp) (by show 1 ≤ m; omega) (fun h => absurd h (by simp))
    · have hne : ns.take m ≠ [] := fun e => by
        rcases List.take_eq_nil_iff.mp e with h | h
        · omega
        · exact h0 h
      have hte : (!((ns.take m).map V.int).isEmpty) = true := by
        cases e : ns.take m with
        | nil => exact absurd e hne
        | cons _ _ => rfl
      rw [hte]
      refine iteT (rest _ l (ns.take m) ((new_same hc).trans (new_same hl)) hl0 upd_same ?_ ?_ ?_)
      · exact List.length_pos_iff.mpr hne
      · rw [List.length_take]; omega
      · intro h; rw [List.length_take]; omega
end
end Kz

namespace Kz
open PySem PySem.Spec PyProof.Rows L2 RZ
/-! ### data, its type by name -/
def tyN : PyData → String
  | .none => "NoneType"
  | .bool _ => "bool"
  | .int _ => "int"
  | .str _ => "str"
  | .list _ => "list"
  | .tuple _ => "tuple"
  | .dict _ => "dict"
def isSq : PyData → Bool
  | .list _ => true
  | .tuple _ => true
  | _ => false
section
variable {P : Program} {w : World} {K : PySem.W.Frag} {mg : Str → Option Value} {base : Heap}
theorem ty_list {H : Hp} {a : Addr} {xs : List V} (h : SqL K H a xs) : TyX K H (.ref a) (.type "list") := by
  rcases h with (h | ⟨o, h⟩) | ⟨o, its, n, h, c, _⟩
  · exact .base (.lst h)
  · exact .base (.frz h)
  · exact .kList h c
theorem ty_tup {H : Hp} {a : Addr} {xs : List V} (h : SqT K H a xs) : TyX K H (.ref a) (.type "tuple") := by
  rcases h with (h | ⟨o, h⟩) | ⟨o, its, n, h, c, _⟩
  · exact .base (.tup h)
  · exact .fTuple h
  · exact .kTuple h c
theorem ty_dp {H : Hp} : ∀ {v : V} {d : PyData}, Dp K H v d → TyX K H v (.type (tyN d))
  | _, _, .non => .base .non
  | _, _, .bl b => .base (.bl b)
  | _, _, .int i => .base (.int i)
  | _, _, .str x => .base (.str x)
  | _, _, .lst h _ => ty_list h
  | _, _, .tup h _ => ty_tup h
theorem no_dict {H : Hp} {v : V} {kvs : List (PyData × PyData)} (h : Dp K H v (.dict kvs)) : False := by cases h
/-- the answers of isinstance for such data, one class or two -/
def isN (n : String) (d : PyData) : Bool := (kitB (tyN d) n).getD false
theorem kit_dp {n : String} {H : Hp} {v : V} {d : PyData} (h : Dp K H v d) (hn : ∀ s ∈ ["NoneType", "bool", "int", "str", "list", "tuple"], kitB s n ≠ none) : PySem.W.kitOne K (.type (tyN d)) (.type n) = some (isN n d) := by
  have q : kitB (tyN d) n ≠ none := hn _ (by cases h <;> simp [tyN])
  unfold isN
  cases e : kitB (tyN d) n with
  | none => exact absurd e q
  | some b => exact kit_ty e
mutual
/-- no list or tuple of more than a million items -/
def small : PyData → Prop
  | .list xs => xs.length ≤ 1000000 ∧ smallAll xs
  | .tuple xs => xs.length ≤ 1000000 ∧ smallAll xs
  | _ => True
def smallAll : List PyData → Prop
  | [] => True
  | x :: r => small x ∧ smallAll r
end
theorem small_at : ∀ {ds : List PyData} {i : Nat} {d : PyData}, smallAll ds → ds[i]? = some d → small d ∧ d.depth ≤ PyData.depthAll ds
  | [], _, _, _, h => by simp at h
  | x :: r, 0, d, h, e => by
    have e' := Option.some.inj e
    subst e'
    refine ⟨h.1, ?_⟩
    rw [PyData.depthAll]
    exact Nat.le_max_left _ _
  | x :: r, i + 1, d, h, e => by
    obtain ⟨a, b⟩ := small_at (ds := r) (i := i) h.2 e
    refine ⟨a, ?_⟩
    rw [PyData.depthAll]
    exact Nat.le_trans b (Nat.le_max_right _ _)
/-! ### equal, and of the same kinds at every depth -/
def spSame (K : PySem.W.Frag) (n : Nat) : Sp := fun vs H Q _ => ∃ (v u : V) (d : PyData), vs = [v, u] ∧ Dp K H v d ∧ Dp K H u d ∧ d.depth ≤ n ∧ small d ∧ ∀ H', Same H H' → Q (.bl true) H'
abbrev nSame : List Str := ["_law_got", "_law_due", "_law_mine", "_law_its"]
theorem scSame : FnScope nSame ["_law_got", "_law_due"] (defScope sSame) := ⟨rfl, rfl, rfl, by decide +kernel, rfl, by decide +kernel, by decide +kernel⟩
theorem k_nb : ∀ s ∈ ["NoneType", "bool", "int", "str", "list", "tuple"], kitB s "bool" ≠ none := by decide +kernel
theorem k_ni : ∀ s ∈ ["NoneType", "bool", "int", "str", "list", "tuple"], kitB s "int" ≠ none := by decide +kernel
theorem k_ns : ∀ s ∈ ["NoneType", "bool", "int", "str", "list", "tuple"], kitB s "str" ≠ none := by decide +kernel
theorem k_nl : ∀ s ∈ ["NoneType", "bool", "int", "str", "list", "tuple"], kitB s "list" ≠ none := by decide +kernel
theorem k_nt : ∀ s ∈ ["NoneType", "bool", "int", "str", "list", "tuple"], kitB s "tuple" ≠ none := by decide +kernel
theorem two_kit {n m : String} {t : Value} {a b : Bool} (h1 : PySem.W.kitOne K t (.type n) = some a) (h2 : PySem.W.kitOne K t (.type m) = some b) : PySem.W.kitAny K t [.type n, .type m] = some (a || b) := by
  refine kitAny_cons h1 (fun e => ?_) (fun e => by rw [e]; rfl)
  subst e
  exact kitAny_cons h2 (fun e => by subst e; exact kitAny_nil) (fun e => by rw [e]; rfl)

/-- the names of built-in classes as values -/
theorem bt_list : bootBuiltins "list" = some (.type "list") := by decide +kernel
theorem bt_tuple : bootBuiltins "tuple" = some (.type "tuple") := by decide +kernel
theorem bt_bool : bootBuiltins "bool" = some (.type "bool") := by decide +kernel
theorem bt_str : bootBuiltins "str" = some (.type "str") := by decide +kernel
theorem bt_int : bootBuiltins "int" = some (.type "int") := by decide +kernel
theorem bt_isi : bootBuiltins "isinstance" = some (.builtin "isinstance") := by decide +kernel
theorem bt_all : bootBuiltins "all" = some (.builtin "all") := by decide +kernel
/-- isinstance(x, n), isinstance(x, (n, m)): the readings -/
def tI (K : PySem.W.Frag) (i : Nat) (n : String) : TE := tCB (rIsi K) (tCons (tVar i) (tCons (tC (.ty n)) tNil))
def tI2 (K : PySem.W.Frag) (i : Nat) (n m : String) : TE := tCB (rIsiT K) (tCons (tVar i) (tCons (tTup (tCons (tC (.ty n)) (tCons (tC (.ty m)) tNil))) tNil))
theorem rd_I {K : PySem.W.Frag} {i : Nat} {n : String} {σ : L2.St} {H : Hp} {Q : VK} {v : V} {d : PyData} (hv : σ[i]? = some (some v)) (hd : Dp K H v d) (hn : ∀ s ∈ ["NoneType", "bool", "int", "str", "list", "tuple"], kitB s n ≠ none) (q : Q (.bl (isN n d)) H) : tI K i n σ H Q :=
  ⟨v, hv, v, .ty n, _, _, _, rfl, .ty n, ty_dp hd, kit_dp hd hn, q⟩
theorem rd_I2 {K : PySem.W.Frag} {i : Nat} {n m : String} {σ : L2.St} {H : Hp} {Q : VK} {v : V} {d : PyData} (hv : σ[i]? = some (some v)) (hd : Dp K H v d) (hn : ∀ s ∈ ["NoneType", "bool", "int", "str", "list", "tuple"], kitB s n ≠ none) (hm : ∀ s ∈ ["NoneType", "bool", "int", "str", "list", "tuple"], kitB s m ≠ none)
    (q : ∀ H', Same H H' → Q (.bl (isN n d || isN m d)) H') : tI2 K i n m σ H Q :=
  ⟨v, hv, (by show 2 ≤ sizeLine; decide), fun p hp => ⟨v, p, [.ty n, .ty m], _, _, _, rfl, upd_same, .cons (.ty n) (.cons (.ty m) .nil), ty_dp (dp_same (new_same hp) hd), two_kit (kit_dp hd hn) (kit_dp hd hm), q _ (new_same hp)⟩⟩
def tSq (K : PySem.W.Frag) (call : TE) : TE := tAndV (tOp rEq (tCB (fun xs H Q => ∃ p ys, xs = [.ref p] ∧ (SqL K H p ys ∨ SqT K H p ys) ∧ Q (.int ys.length) H) (tCons (tVar 0) tNil)) (tCB (fun xs H Q => ∃ p ys, xs = [.ref p] ∧ (SqL K H p ys ∨ SqT K H p ys) ∧ Q (.int ys.length) H) (tCons (tVar 1) tNil)))
  (tCB (rAll K) (tCons (tLc (iZipA K (tCons (tVar 0) (tCons (tVar 1) tNil))) (gTup K 2 (gCons (gName 2) (gCons (gName 3) gNil))) tYes call [2, 3]) tNil))
def t_same (K : PySem.W.Frag) (lb : TS) : TS :=
  tSeq (tIfS (tB (tI2 K 1 "list" "tuple")) lb tNext)
  (tSeq (tIfS (tOr (tTest (tOp (fun x y H Q => y = .non ∧ Q (.bl (decide (x = .non))) H) (tVar 1) (tC .non))) (tB (tI2 K 1 "bool" "str")))
    (tRet (tAndV (tOp rEq (tVar 0) (tVar 1)) (tAndV (tOp rEq (tI K 0 "bool") (tI K 1 "bool")) (tOp rEq (tOp (fun x y H Q => y = .non ∧ Q (.bl (decide (x = .non))) H) (tVar 0) (tC .non)) (tOp (fun x y H Q => y = .non ∧ Q (.bl (decide (x = .non))) H) (tVar 1) (tC .non)))))) tNext)
  (tRet (tAndV (tI K 0 "int") (tAndV (tNotV (tI K 0 "bool")) (tOp rEq (tVar 0) (tVar 1))))))
def t_list (K : PySem.W.Frag) (call : TE) : TS := tSeq (tIfS (tOr (tTest (tOp rNe (tI K 0 "list") (tI K 1 "list"))) (tTest (tOp rNe (tI K 0 "tuple") (tI K 1 "tuple")))) (tRet (tC (.bl false))) tNext) (tRet (tSq K call))
theorem decT {α : Type} [DecidableEq α] (x : α) : decide (x = x) = true := decide_eq_true rfl
theorem dp_scal {H : Hp} : ∀ {v u : V} {d : PyData}, Dp K H v d → Dp K H u d → isSq d = false → v = u ∧ scal v u = true
  | _, _, _, .non, .non, _ => ⟨rfl, rfl⟩
  | _, _, _, .bl _, .bl _, _ => ⟨rfl, rfl⟩
  | _, _, _, .int _, .int _, _ => ⟨rfl, rfl⟩
  | _, _, _, .str _, .str _, _ => ⟨rfl, rfl⟩
  | _, _, _, .lst _ _, _, h => by cases h
  | _, _, _, .tup _ _, _, h => by cases h
theorem rd_same {n : Nat} {lb : TS} (vs : List V) (H : Hp) (Q : VK) (E : XK) (h : spSame K n vs H Q E)
    (hl : ∀ (v u : V) (d : PyData) (H' : Hp), Dp K H' v d → Dp K H' u d → d.depth ≤ n → small d → isSq d = true → (∀ H2, Same H' H2 → Q (.bl true) H2) → ∀ N, lb { nx := N, rt := Q } [some v, some u, none, none] H') :
    t_same K lb { nx := fun _ H' => Q .non H', rt := Q } (start nSame vs) H := by
  obtain ⟨v, u, d, rfl, dv, du, hdep, hsm, q⟩ := h
  refine rd_I2 (v := u) rfl du k_nl k_nt fun H1 s1 => ⟨_, rfl, ?_⟩
  have dv1 := dp_same s1 dv
  have du1 := dp_same s1 du
  cases hq : isSq d with
  | true =>
    have e : (isN "list" d || isN "tuple" d) = true := by cases d <;> first | rfl | cases hq
    rw [e]
    exact iteT (hl v u d H1 dv1 du1 hdep hsm hq (fun H2 s2 => q H2 (s1.trans s2)) _)
  | false =>
    obtain ⟨rfl, sc⟩ := dp_scal dv1 du1 hq
    have e : (isN "list" d || isN "tuple" d) = false := by cases d <;> first | rfl | cases hq | exact (no_dict dv).elim
    rw [e]
    refine iteF ⟨_, rfl, rfl, _, rfl, ?_⟩
    -- what is told of none, bools, texts; of ints
    have fin2 : ∀ H2, Same H H2 → Dp K H2 v d → tRet (tAndV (tOp rEq (tVar 0) (tVar 1)) (tAndV (tOp rEq (tI K 0 "bool") (tI K 1 "bool")) (tOp rEq (tOp (fun x y H Q => y = .non ∧ Q (.bl (decide (x = .non))) H) (tVar 0) (tC .non)) (tOp (fun x y H Q => y = .non ∧ Q (.bl (decide (x = .non))) H) (tVar 1) (tC .non)))))
        { nx := fun _ H' => Q .non H', rt := Q } [some v, some v, none, none] H2 := fun H2 s2 d2 => by
      refine ⟨_, rfl, _, rfl, sc, _, rfl, ?_⟩
      rw [decT]
      refine iteT (rd_I (v := v) rfl d2 k_nb (rd_I (v := v) rfl d2 k_nb ⟨rfl, _, rfl, ?_⟩))
      rw [decT]
      refine iteT ⟨_, rfl, rfl, _, rfl, rfl, rfl, ?_⟩
      rw [decT]
      exact q H2 s2
    cases hd : d with
    | list _ => rw [hd] at hq; cases hq
    | tuple _ => rw [hd] at hq; cases hq
    | dict _ => rw [hd] at dv; exact (no_dict dv).elim
    | none =>
      subst hd
      cases dv1
      exact iteT (iteT (fin2 H1 s1 du1))
    | bool b =>
      subst hd
      have en : decide (v = V.non) = false := by cases dv1; rfl
      rw [en]
      refine iteF (rd_I2 (v := v) rfl dv1 k_nb k_ns fun H2 s2 => ⟨_, rfl, iteT (fin2 H2 (s1.trans s2) (dp_same s2 dv1))⟩)
    | str b =>
      subst hd
      have en : decide (v = V.non) = false := by cases dv1; rfl
      rw [en]
      refine iteF (rd_I2 (v := v) rfl dv1 k_nb k_ns fun H2 s2 => ⟨_, rfl, iteT (fin2 H2 (s1.trans s2) (dp_same s2 dv1))⟩)
    | int i =>
      subst hd
      have en : decide (v = V.non) = false := by cases dv1; rfl
      rw [en]
      refine iteF (rd_I2 (v := v) rfl dv1 k_nb k_ns fun H2 s2 => ⟨_, rfl, iteF ?_⟩)
      have d2 := dp_same s2 dv1
      refine rd_I (v := v) rfl d2 k_ni ⟨_, rfl, iteT (rd_I (v := v) rfl d2 k_nb ⟨_, rfl, _, rfl, iteT ⟨_, rfl, _, rfl, sc, ?_⟩⟩)⟩
      rw [decT]
      exact q H2 (s1.trans s2)

theorem rep_bl (n : Nat) : List.replicate n (V.bl true) = (List.replicate n true).map V.bl := by rw [List.map_replicate]
theorem rep_all (n : Nat) : (List.replicate n true).all id = true := by
  induction n with
  | zero => rfl
  | succ n ih => rw [List.replicate_succ, List.all_cons, ih]; rfl
/-- what one turn of the comprehension asks, for lists and for tuples alike -/
theorem rd_turn {n : Nat} {v u x y : V} {i : Nat} {T D : Addr} {H0 H : Hp} {ds : List PyData} {xs ys : List V} (dx : DpAll K H0 xs ds) (dy : DpAll K H0 ys ds) (hsm : smallAll ds) (hlen : ds.length ≤ 1000000) (hd : PyData.depthAll ds ≤ n) (hx : xs[i]? = some x) (hy : ys[i]? = some y)
    (h0 : H0 D = none) (s : Same H0 H) (hD : H D = some (.lst (List.replicate i (V.bl true)))) (hT : H T = none) :
    gTup K 2 (gCons (gName 2) (gCons (gName 3) gNil)) (.ref T) (wipe [some v, some u, none, none] [2, 3]) (upd H T (.tup [x, y])) fun σ2 H2 => wipe σ2 [2, 3] = wipe [some v, some u, none, none] [2, 3] ∧ tYes σ2 H2 fun b H3 =>
      if b = true then tCall (spSame K n) [] E0 (tCons (tVar 2) (tCons (tVar 3) tNil)) σ2 H3 fun y H4 => ∃ acc, H4 D = some (.lst acc) ∧ acc.length < sizeLine ∧ (Same H0 (upd H4 D (.lst (acc ++ [y]))) ∧ (upd H4 D (.lst (acc ++ [y]))) D = some (.lst (List.replicate (i + 1) (V.bl true))))
      else (Same H0 H3 ∧ H3 D = some (.lst (List.replicate (i + 1) (V.bl true)))) := by
  refine ⟨T, _, rfl, SqT.of upd_same, rfl, _, _, rfl, _, _, rfl, rfl, rfl, ?_⟩
  unfold tYes
  dsimp only
  rw [if_pos rfl]
  obtain ⟨d, hd1, d1⟩ := dpAll_at dx hx
  obtain ⟨d', hd2, d2⟩ := dpAll_at dy hy
  rw [hd1] at hd2
  obtain rfl := Option.some.inj hd2
  obtain ⟨z1, z2⟩ := small_at hsm hd1
  have sT : Same H0 (upd H T (.tup [x, y])) := s.trans (new_same hT)
  have hi : i < 1000000 := by
    have := (List.getElem?_eq_some_iff.mp hd1).1
    omega
  refine ⟨_, rfl, _, rfl, x, y, d, rfl, dp_same sT d1, dp_same sT d2, Nat.le_trans z2 hd, z1, fun H3 s3 => ?_⟩
  have eD : H3 D = some (.lst (List.replicate i (V.bl true))) := s3 _ _ ((upd_ne (ne_of_none hD hT)).trans hD)
  refine ⟨_, eD, ?_, fun b o e => (upd_ne (ne_of_none e h0)).trans (s3 _ _ (sT _ _ e)), ?_⟩
  · rw [List.length_replicate]
    exact Nat.lt_of_lt_of_le hi (by decide)
  · rw [upd_same, List.replicate_succ']
theorem rd_list {n : Nat} {v u : V} {d : PyData} {H : Hp} {Q : VK} {N : L2.St → Hp → Prop} (dv : Dp K H v d) (du : Dp K H u d) (hdep : d.depth ≤ n + 1) (hsm : small d) (hq : isSq d = true) (q : ∀ H2, Same H H2 → Q (.bl true) H2) :
    t_list K (tCall (spSame K n) [] E0 (tCons (tVar 2) (tCons (tVar 3) tNil))) { nx := N, rt := Q } [some v, some u, none, none] H := by
  refine rd_I (v := v) rfl dv k_nl (rd_I (v := u) rfl du k_nl ⟨rfl, _, rfl, ?_⟩)
  rw [decT]
  refine iteF (rd_I (v := v) rfl dv k_nt (rd_I (v := u) rfl du k_nt ⟨rfl, _, rfl, ?_⟩))
  rw [decT]
  refine iteF ?_
  have fin : ∀ (m : Nat) (D : Addr) (H2 : Hp), Same H H2 → H2 D = some (.lst (List.replicate m (V.bl true))) → rAll K [.ref D] H2 Q := fun m D H2 s e =>
    ⟨D, List.replicate m true, rfl, SqL.of (by rw [← rep_bl]; exact e), by rw [rep_all]; exact q H2 s⟩
  cases dv with
  | non => cases hq
  | bl _ => cases hq
  | int _ => cases hq
  | str _ => cases hq
  | @lst a xs ds hs dx =>
    cases du with
    | @lst b ys _ ht dy =>
      have lx := dpAll_len dx
      have ly := dpAll_len dy
      have hd : PyData.depthAll ds ≤ n := by rw [PyData.depth] at hdep; omega
      refine ⟨_, rfl, a, xs, rfl, .inl hs, _, rfl, b, ys, rfl, .inl ht, rfl, _, rfl, ?_⟩
      rw [lx, ly, decT]
      refine iteT ⟨_, rfl, _, rfl, a, b, xs, ys, rfl, .inl ⟨hs, ht, fun D hD => lc_zL (by rw [lx, ly]) (fun i H2 => Same H H2 ∧ H2 D = some (.lst (List.replicate i (V.bl true)))) ⟨new_same hD, upd_same⟩ (fun i H2 p => ⟨p.1.seq hs, p.1.seq ht⟩) (fun i x y T H2 hx hy p hT => ?_) fun H2 p => fin _ D H2 p.1 p.2⟩⟩
      exact rd_turn (n := n) dx dy hsm.2 hsm.1 hd hx hy hD p.1 p.2 hT
  | @tup a xs ds hs dx =>
    cases du with
    | @tup b ys _ ht dy =>
      have lx := dpAll_len dx
      have ly := dpAll_len dy
      have hd : PyData.depthAll ds ≤ n := by rw [PyData.depth] at hdep; omega
      refine ⟨_, rfl, a, xs, rfl, .inr hs, _, rfl, b, ys, rfl, .inr ht, rfl, _, rfl, ?_⟩
      rw [lx, ly, decT]
      refine iteT ⟨_, rfl, _, rfl, a, b, xs, ys, rfl, .inr ⟨hs, ht, fun D hD => lc_zT (by rw [lx, ly]) (fun i H2 => Same H H2 ∧ H2 D = some (.lst (List.replicate i (V.bl true)))) ⟨new_same hD, upd_same⟩ (fun i H2 p => ⟨seqT_same p.1 hs, seqT_same p.1 ht⟩) (fun i x y T H2 hx hy p hT => ?_) fun H2 p => fin _ D H2 p.1 p.2⟩⟩
      exact rd_turn (n := n) dx dy hsm.2 hsm.1 hd hx hy hD p.1 p.2 hT
theorem isSq_depth : ∀ {d : PyData}, isSq d = true → d.depth ≠ 0
  | .list xs, _ => by rw [PyData.depth]; exact Nat.succ_ne_zero _
  | .tuple xs, _ => by rw [PyData.depth]; exact Nat.succ_ne_zero _
theorem ok_same {f : Addr} {fd : FuncData} (F : Fun K "_law_same" "_law_same" sSame f fd) (T : Nat0 mg) (bS : Binds K fd ["_law_got", "_law_due"] []) (gS : mg "_law_same" = some (.ref f)) : ∀ n : Nat, FnOk P w K mg base CX0 (n + 1) f fd ["_law_got", "_law_due"] (spSame K n)
  | 0 => by
    refine F.ok scSame (fun vs H Q E h => ?_) (fun cdv A outer s H vs Q E hr h => ?_)
    · obtain ⟨v, u, d, rfl, _⟩ := h
      rfl
    · refine ⟨t_same K tNever, ?_, rd_same vs H Q E h fun v u d H' dv du hdep _ hq _ _ => absurd (Nat.le_zero.mp hdep) (isSq_depth hq)⟩
      exact pss_cons (ps_if (pt_val (pe_callB call_isiT (by rfl) T.isinstance bt_isi (pa_cons (pv 1) (pa_cons (pe_tup (pa_cons (pe_bltn (v := .ty "list") (by rfl) T.list bt_list rfl) (pa_cons (pe_bltn (v := .ty "tuple") (by rfl) T.tuple bt_tuple rfl) pa_nil))) pa_nil)))) pss_never pss_nil)
        (pss_cons (ps_if (PW.pt (pw_or (pt_cmpR op_isN (pv 1) pe_non (nomark _)) (pw_or1 (pt_val (pe_callB call_isiT (by rfl) T.isinstance bt_isi (pa_cons (pv 1) (pa_cons (pe_tup (pa_cons (pe_bltn (v := .ty "bool") (by rfl) T.bool bt_bool rfl) (pa_cons (pe_bltn (v := .ty "str") (by rfl) T.str bt_str rfl) pa_nil))) pa_nil)))))))
          (pss_one (ps_ret (pe_and (pe_cmpR op_eq (pv 0) (pv 1) (nomark _)) (pe_and (pe_cmpR op_eq (pe_callB call_isi (by rfl) T.isinstance bt_isi (pa_cons (pv 0) (pa_cons (pe_bltn (v := .ty "bool") (by rfl) T.bool bt_bool rfl) pa_nil))) (pe_callB call_isi (by rfl) T.isinstance bt_isi (pa_cons (pv 1) (pa_cons (pe_bltn (v := .ty "bool") (by rfl) T.bool bt_bool rfl) pa_nil))) (nomark _))
            (pe_one (pe_cmpR op_eq (pe_cmpR op_isN (pv 0) pe_non (nomark _)) (pe_cmpR op_isN (pv 1) pe_non (nomark _)) (nomark _))))))) pss_nil)
        (pss_one (ps_ret (pe_and (pe_callB call_isi (by rfl) T.isinstance bt_isi (pa_cons (pv 0) (pa_cons (pe_bltn (v := .ty "int") (by rfl) T.int bt_int rfl) pa_nil))) (pe_and (pe_not (pe_callB call_isi (by rfl) T.isinstance bt_isi (pa_cons (pv 0) (pa_cons (pe_bltn (v := .ty "bool") (by rfl) T.bool bt_bool rfl) pa_nil)))) (pe_one (pe_cmpR op_eq (pv 0) (pv 1) (nomark _))))))))
  | n + 1 => by
    have G : FnOk P w K mg base CX0 (n + 1) f fd ["_law_got", "_law_due"] (spSame K n) := ok_same F T bS gS n
    refine F.ok scSame (fun vs H Q E h => ?_) (fun cdv A outer s H vs Q E hr h => ?_)
    · obtain ⟨v, u, d, rfl, _⟩ := h
      rfl
    · refine ⟨t_same K (t_list K (tCall (spSame K n) [] E0 (tCons (tVar 2) (tCons (tVar 3) tNil)))), ?_, rd_same vs H Q E h fun v u d H' dv du hdep hsm hq q N => rd_list dv du hdep hsm hq q⟩
      exact pss_cons (ps_if (pt_val (pe_callB call_isiT (by rfl) T.isinstance bt_isi (pa_cons (pv 1) (pa_cons (pe_tup (pa_cons (pe_bltn (v := .ty "list") (by rfl) T.list bt_list rfl) (pa_cons (pe_bltn (v := .ty "tuple") (by rfl) T.tuple bt_tuple rfl) pa_nil))) pa_nil))))
          (pss_cons (ps_if (PW.pt (pw_or (pt_cmpR op_ne (pe_callB call_isi (by rfl) T.isinstance bt_isi (pa_cons (pv 0) (pa_cons (pe_bltn (v := .ty "list") (by rfl) T.list bt_list rfl) pa_nil))) (pe_callB call_isi (by rfl) T.isinstance bt_isi (pa_cons (pv 1) (pa_cons (pe_bltn (v := .ty "list") (by rfl) T.list bt_list rfl) pa_nil))) (nomark _))
              (pw_or1 (pt_cmpR op_ne (pe_callB call_isi (by rfl) T.isinstance bt_isi (pa_cons (pv 0) (pa_cons (pe_bltn (v := .ty "tuple") (by rfl) T.tuple bt_tuple rfl) pa_nil))) (pe_callB call_isi (by rfl) T.isinstance bt_isi (pa_cons (pv 1) (pa_cons (pe_bltn (v := .ty "tuple") (by rfl) T.tuple bt_tuple rfl) pa_nil))) (nomark _)))))
              (pss_one (ps_ret pe_bl)) pss_nil)
            (pss_one (ps_ret (pe_and (pe_cmpR op_eq (pe_callB call_len_seq (by rfl) T.len PySem.boot_len (pa_cons (pv 0) pa_nil)) (pe_callB call_len_seq (by rfl) T.len PySem.boot_len (pa_cons (pv 1) pa_nil)) (nomark _))
              (pe_one (pe_callB (cr_all rfl) (by rfl) T.all bt_all (pa_cons (pe_lc (own := [("_law_mine", 2), ("_law_its", 3)]) (g := gTup K 2 (gCons (gName 2) (gCons (gName 3) gNil))) (tt := tYes) rfl scSame.nd (pi_zipA (by rfl) T.zip (pa_cons (pv 0) (pa_cons (pv 1) pa_nil))) (blkOk_by (own := [("_law_mine", 2), ("_law_its", 3)]) (N := nSame) (sc := defScope sSame) (by decide +kernel))
                (fun _ _ _ _ _ => pg_tup rfl (pgs_cons (pg_name (i := 2) scSame.nd rfl (Or.inl rfl)) (pgs_cons (pg_name (i := 3) scSame.nd rfl (Or.inl rfl)) pgs_nil))) (fun _ _ _ _ _ => pts_nil)
                (fun _ _ _ _ _ => pe_call G hr (by rfl) gS F.kp bS .nil pass0 (pa_cons (pv 2) (pa_cons (pv 3) pa_nil)))) pa_nil)))))))
          pss_nil)
        (pss_cons (ps_if (PW.pt (pw_or (pt_cmpR op_isN (pv 1) pe_non (nomark _)) (pw_or1 (pt_val (pe_callB call_isiT (by rfl) T.isinstance bt_isi (pa_cons (pv 1) (pa_cons (pe_tup (pa_cons (pe_bltn (v := .ty "bool") (by rfl) T.bool bt_bool rfl) (pa_cons (pe_bltn (v := .ty "str") (by rfl) T.str bt_str rfl) pa_nil))) pa_nil)))))))
          (pss_one (ps_ret (pe_and (pe_cmpR op_eq (pv 0) (pv 1) (nomark _)) (pe_and (pe_cmpR op_eq (pe_callB call_isi (by rfl) T.isinstance bt_isi (pa_cons (pv 0) (pa_cons (pe_bltn (v := .ty "bool") (by rfl) T.bool bt_bool rfl) pa_nil))) (pe_callB call_isi (by rfl) T.isinstance bt_isi (pa_cons (pv 1) (pa_cons (pe_bltn (v := .ty "bool") (by rfl) T.bool bt_bool rfl) pa_nil))) (nomark _))
            (pe_one (pe_cmpR op_eq (pe_cmpR op_isN (pv 0) pe_non (nomark _)) (pe_cmpR op_isN (pv 1) pe_non (nomark _)) (nomark _))))))) pss_nil)
        (pss_one (ps_ret (pe_and (pe_callB call_isi (by rfl) T.isinstance bt_isi (pa_cons (pv 0) (pa_cons (pe_bltn (v := .ty "int") (by rfl) T.int bt_int rfl) pa_nil))) (pe_and (pe_not (pe_callB call_isi (by rfl) T.isinstance bt_isi (pa_cons (pv 0) (pa_cons (pe_bltn (v := .ty "bool") (by rfl) T.bool bt_bool rfl) pa_nil)))) (pe_one (pe_cmpR op_eq (pv 0) (pv 1) (nomark _))))))))
end
end Kz

/-! own exceptions held as values: made with or without keywords, asked for a field, asked by isinstance -/
namespace Kx
open PySem PySem.Spec PySem.W PySem.Calls PyProof.Rows
abbrev tl (B : String) : List Value := [.type B, .type "Exception", .type "BaseException", .type "object"]
/-- the object of a class over B with the full chain written -/
abbrev cob (nm q : Str) (C N : Addr) (bs : List Value) (B : String) (sn : List Str) (sub : List Value) (ab : Bool) (col : Option Bool) (dd : Option Addr) (k0 k1 k2 k3 k5 : Option Value) (newId : String) : Obj :=
  excClassObj nm q C N bs (tl B) true sn sub ab col dd k0 k1 k2 k3 k5 newId
section
variable {prog : Program} {w : World} {M : Model} {A : Around} {E : Value → Shared → Prop} {R : Result → Shared → Prop} {h : Heap} {g : Array GenState} {d : Drawn} {t : Nat} {os : OsState}
variable {nm q : Str} {C N : Addr} {bs : List Value} {sn : List Str} {sub : List Value} {ab : Bool} {col : Option Bool} {dd : Option Addr} {k0 k1 k2 k3 k5 : Option Value} {B newId initId : String} {us : List Value} {ks : List (Str × Value)}
theorem new_checked (F : ExcBaseFacts B newId initId (tl B)) (hC : h.get? C = some (cob nm q C N bs B sn sub ab col dd k0 k1 k2 k3 k5 newId)) {Q : Unit → Shared → Prop} (hq : Q () ⟨h, g, d, t, os⟩) :
    wpAny M A (checkBuiltinCall newId ⟨.ref C :: us, ks⟩) Q E ⟨h, g, d, t, os⟩ := by
  have c1 : (Value.ref C :: tl B).contains (.type B) = true := by rw [List.contains_cons, F.hasB, Bool.or_true]
  have st := F.noStar
  simp only [checkBuiltinCall, F.newKind, F.newSplit, F.newRow]
  repeat (first
    | refine wpAny_loadPart_at hC ?_
    | (refine wpAny_isSubtype_exc hC ?_; rw [c1])
    | refine wpAny_staticBase_exc hC ?_
    | refine wpAny_madeBy_exc hC ?_
    | simp only [bne_self_eq_false, Bool.false_eq_true, if_false]
    | wp_step)
  exact hq
theorem type_checked (hC : h.get? C = some (cob nm q C N bs B sn sub ab col dd k0 k1 k2 k3 k5 newId)) {Q : Unit → Shared → Prop} (hq : Q () ⟨h, g, d, t, os⟩) :
    wpAny M A (checkBuiltinCall "type.__call__" ⟨.ref C :: us, ks⟩) Q E ⟨h, g, d, t, os⟩ := by
  have ty : Looks M h (isInstance (.ref C) (.type "type")) true := by
    have l0 : Looks M h (typeOf (.ref C)) (.type "type") := fun A Q E s k q => wpAny_typeOf_ref (k _ _ hC) q
    exact l0.andThen (Looks.of_pure tc_sub)
  exact check_slot tc_kind tc_split ty (tc_args _ _ _) hq
end
section
variable {prog : Program} {w : World} {A : Around} {E : Value → Shared → Prop} {R : Result → Shared → Prop} {h : Heap} {g : Array GenState} {d : Drawn} {t : Nat} {os : OsState}
variable {nm q : Str} {C N : Addr} {bs : List Value} {sn : List Str} {sub : List Value} {ab : Bool} {col : Option Bool} {dd : Option Addr} {k0 k1 k2 k3 k5 : Option Value} {B newId initId : String} {us : List Value} {ks : List (Str × Value)}
abbrev born (h : Heap) (C : Addr) (us : List Value) : Heap := (h.push (kdv_tup us)).push (PySem.HandSPX.excO C h.objs.size)
theorem born_keeps {b : Addr} {o : Obj} (e : h.get? b = some o) : (born h C us).get? b = some o := Heap.get?_push_of_some _ (Heap.get?_push_of_some _ e)
theorem born_at : (born h C us).get? (h.objs.size + 1) = some (PySem.HandSPX.excO C h.objs.size) := by heap_get
theorem new_runs (F : ExcBaseFacts B newId initId (tl B)) (hC : h.get? C = some (cob nm q C N bs B sn sub ab col dd k0 k1 k2 k3 k5 newId)) (hl : us.length ≤ sizeLine)
    (hq : R (.ok (.ret (.ref (h.objs.size + 1)))) ⟨born h C us, g, d, t, os⟩) : codeAny (model prog w) A (.builtin newId ⟨.ref C :: us, ks⟩) R ⟨h, g, d, t, os⟩ := by
  have en := F.ends
  have c1 : (Value.ref C :: tl B).contains (.type B) = true := by rw [List.contains_cons, F.hasB, Bool.or_true]
  have c2 : (Value.ref C :: tl B).contains (.type "AttributeError") = false := by rw [List.contains_cons, F.noAttr]; rfl
  have c3 : (Value.ref C :: tl B).contains (.type "NameError") = false := by rw [List.contains_cons, F.noName]; rfl
  refine codeAny_builtinAt F.entry ?_
  unfold Builtin.«BaseException.__new__»
  refine PySem.wpAt_bind ?_
  show PySem.wpAt _ _ _ (stack >>= _) _ _ _
  refine PySem.wpAt_bind (PySem.wpAt_stack fun p below => PySem.wpAt_of_wpAny ?_)
  wp_walk
  refine PySem.wpAt_of_wpAny ?_
  rw [F.owner]
  repeat (first
    | with_reducible refine wpAny_madeHere_exc F.canon hC ?_
    | with_reducible refine wpAny_loadPart_at hC ?_
    | (with_reducible refine wpAny_isSubtype_exc hC ?_; first | rw [c1] | rw [c2] | rw [c3])
    | wp_step)
  show R _ _
  rw [Heap.size_push]
  exact hq
theorem type_calls {fI : Addr} {Q : Fin → Shared → Prop} (F : ExcBaseFacts B newId initId (tl B)) (hC : h.get? C = some (cob nm q C N bs B sn sub ab col dd k0 k1 k2 k3 k5 newId)) (hl : us.length ≤ sizeLine)
    (hi : Looks (model prog w) h (typeLookup (.ref C) "__init__") (some (.ref fI))) (hb : ∀ self, Looks (model prog w) h (bindSpecial (.ref fI) self) (.ref fI, [self]))
    (hq : codeAny (model prog w) A (.call (.ref fI) ⟨.ref (h.objs.size + 1) :: us, ks⟩)
      (fun r s' => match r with | .ok (.ret v) => v = .none ∧ Q (.done (.ret (.ref (h.objs.size + 1)))) s' | .ok _ => False | .error e => E e s') ⟨born h C us, g, d, t, os⟩) :
    wpAny (model prog w) A (Builtin.«type.__call__» ⟨.ref C :: us, ks⟩) Q E ⟨h, g, d, t, os⟩ := by
  repeat (first | with_reducible refine wpAny_loadPart_at hC ?_ | with_reducible refine wpAny_madeBy_exc hC ?_ | wp_step)
  refine codeAny_call_builtin_code (Code.quiet_builtin _ F.quiet) (new_checked F hC (new_runs F hC hl ?_))
  show wpAny _ _ _ _ _ _
  have kC := born_keeps (C := C) (us := us) hC
  have ga := born_at (h := h) (C := C) (us := us)
  have cc : (Value.ref C :: tl B).contains (.ref C) = true := by simp
  have hi' := hi.keeps (h' := born h C us) fun b o e => born_keeps e
  have hb' := (hb (.ref (h.objs.size + 1))).keeps (h' := born h C us) fun b o e => born_keeps e
  unfold isInstance
  repeat (first | with_reducible refine wpAny_loadPart_at ga ?_ | (with_reducible refine wpAny_isSubtype_exc kC ?_; rw [cc]) | wp_step)
  show wpAny _ _ (typeLookup (.ref C) _) _ _ _
  refine hi'.at (wpAny_holding (wpAny_bind (hb'.at (wpAny_bind (wpAny_call (codeAny_mono hq fun r s' z => ?_))))))
  rcases r with e | (v | _ | _ | _) <;> first | exact z | exact z.elim | skip
  obtain ⟨ev, z⟩ := z
  subst ev
  first
    | exact wpAny_pure (wpAny_pure z)
    | (wp_walk; exact z)
/-- C(.., k = v): the object is laid, then its own __init__ runs -/
theorem exc_called {fI : Addr} (F : ExcBaseFacts B newId initId (tl B)) (hC : h.get? C = some (cob nm q C N bs B sn sub ab col dd k0 k1 k2 k3 k5 newId)) (hl : us.length ≤ sizeLine)
    (hi : Looks (model prog w) h (typeLookup (.ref C) "__init__") (some (.ref fI))) (hb : ∀ self, Looks (model prog w) h (bindSpecial (.ref fI) self) (.ref fI, [self]))
    (hq : codeAny (model prog w) (A.under (.builtin "type.__call__" ⟨.ref C :: us, ks⟩)) (.call (.ref fI) ⟨.ref (h.objs.size + 1) :: us, ks⟩) (InitBack (h.objs.size + 1) R) ⟨born h C us, g, d, t, os⟩) :
    codeAny (model prog w) A (.call (.ref C) ⟨us, ks⟩) R ⟨h, g, d, t, os⟩ := by
  have f1 := tc_lookup
  have f2 := tc_bind (.ref C)
  have ty : (⟨h, g, d, t, os⟩ : Shared).TypeIs (.ref C) "type" := ⟨_, hC, rfl⟩
  refine codeAny_of_tree ?_
  show wpAny _ _ (callAny (.ref C) _) _ _ _
  repeat (any_goals (first | assumption | with_reducible refine wpAny_loadPart_at hC ?_ | wp_step))
  refine ⟨rfl, codeAny_call_builtin_at (Code.quiet_builtin _ (by decide +kernel)) entry_typeCall (type_checked hC (type_calls F hC hl hi hb (codeAny_mono hq fun r s' z => ?_)))⟩
  rcases r with e | (v | _ | _ | _) <;> exact z
end
end Kx

namespace Kx
open PySem PySem.Spec PySem.W PySem.Calls PyProof.Rows Builtin Builtin.ObjectAttr
section
variable {prog : Program} {w : World} {A : Around} {E : Value → Shared → Prop} {R : Result → Shared → Prop} {hp : Heap} {g : Array GenState} {d : Drawn} {t : Nat} {os : OsState} {B : String}
/-- what is asked of a base: that it lets fields be stored by object's way -/
structure Stores (B : String) : Prop where
  pass : ∀ self, refuseLoop self "__setattr__" (tl B) = pure ()
  has : (tl B).contains (.type "object") = true
theorem stores_V : Stores "ValueError" := ⟨PySem.F.store_ValueError.passes, by decide +kernel⟩
theorem stores_L : Stores "LookupError" := ⟨PySem.F.store_LookupError.passes, by decide +kernel⟩
/-- the first field of an exception that was just laid -/
theorem field_first {K : PySem.W.Frag} {name : Str} {tk : Tok} {v : Value} {x C : Addr} {fv : Array Value} {cd : ClassData} (S : Stores B)
    (X : K.In hp) (hx : hp.get? x = some { cls := .ref C, data := .fields fv }) (hcd : clsIn K C = some cd) (hm : cd.mro = .ref C :: tl B) (hh : cd.hasDict = true) (ha : findIn K (.ref C) name = some none)
    (hq : ∀ h' tk' dx, (∀ b o, b ≠ x → hp.get? b = some o → h'.get? b = some o) → hp.objs.size ≤ dx → dx ≠ x → h'.get? x = some { cls := .ref C, dict := some dx, data := .fields fv } →
      h'.Ns1 dx (fun y => if y = name then some v else none) → R (.ok (.ret .none)) ⟨h', g, d, tk', os⟩) :
    codeAny (model prog w) A (.call (.builtin "object.__setattr__") ⟨[.ref x, .str name tk, v], []⟩) R ⟨hp, g, d, t, os⟩ := by
  have I : InstAt hp x { cls := .ref C, data := .fields fv } C none := ⟨hx, rfl, rfl, trivial⟩
  have so := F.store_object
  have em : cd.mro.isEmpty = false := by rw [hm]; rfl
  have ob : cd.mro.contains (.type "object") = true := by rw [hm, List.contains_cons, S.has, Bool.or_true]
  have xs : x ≠ hp.objs.size := Nat.ne_of_lt (Heap.lt_size hx)
  have isO : Looks (model prog w) hp (isInstance (.ref x) (.type "object")) true := I.type.andThen (looks_mroIn X (by unfold mroIn; rw [hcd, Option.bind_some, if_neg (by rw [em]; decide), ob]))
  refine codeAny_call_builtin so.slot.plain so.entry (@check_slot (model prog w) _ _ ⟨hp, g, d, t, os⟩ "object.__setattr__" "object" "__setattr__" (.ref x) [.str name tk, v] [] _ so.kind so.split isO (so.args (.ref x) (.str name tk) v) ?_)
  have hmr : Looks (model prog w) hp (mroOf (.ref C)) cd.mro := (looks_clsIn X hcd).andThen .now
  have noT : Looks (model prog w) hp (storeTaker? none) none := .now
  have cdL : Looks (model prog w) hp (classData C) cd := looks_clsIn X hcd
  rw [osa_eq, refuse_eq]
  refine wpAny_bind (wpAny_bind (I.type.at (wpAny_bind (hmr.at ?_))))
  rw [hm, refuseLoop_ref, S.pass]
  refine wpAny_pure (wpAny_bind (I.type.at (wpAny_bind ((looks_findIn X ha).at (wpAny_bind (noT.at ?_))))))
  show wpAny _ _ (storeInOwnDict (.ref x) (.ref C) (.str name tk) name v false) _ _ _
  obtain ⟨nm, bs, mro, ns, qn, hd, sn, sb, ab, col, del⟩ := cd
  dsimp only at hh
  subst hh
  unfold storeInOwnDict ownDictForStores
  repeat (first
    | with_reducible refine PySem.HandSPX.store_in_new ?_ ?_
    | with_reducible refine wpAny_loadPart_at hx ?_
    | with_reducible refine cdL.at ?_
    | wp_step)
  · exact ⟨_, #[], _, (Heap.get?_update_ne _ _ _ _ xs.symm).trans (Heap.get?_push_at rfl rfl), rfl, fun e he => absurd he (by simp), fun _ => rfl⟩
  · intro h' tk' hn' hs
    have hx₁ : (hp.push { cls := .type "dict", data := .dict #[] }).get? x = some { cls := .ref C, data := .fields fv } := Heap.get?_push_of_some _ hx
    exact hq h' tk' hp.objs.size (fun b o hb ho => (hs.2 b (Nat.ne_of_lt (Heap.lt_size ho))).trans ((Heap.get?_update_ne _ _ _ _ hb).trans (Heap.get?_push_of_some _ ho)))
      (Nat.le_refl _) xs.symm ((hs.2 x xs).trans (Heap.get?_update_self _ hx₁ rfl)) hn'
end
/-! ### isinstance -/
section
variable {prog : Program} {w : World} {A : Around} {E : Value → Shared → Prop} {s : Shared} {K : Frag} {x D : Addr} {ox : Obj} {od : Option Obj}
theorem find_descr {C : Addr} {name : Str} {a g : Value} (hc : (clsIn K C).isSome = true) (ha : findIn K (.ref C) name = some (some a)) (hg : specialIn K a "__get__" = some (some g)) (ht : takesIn K a = some true) : findObj K C od name = some (.bind g a) := by
  obtain ⟨cd, hc⟩ := Option.isSome_iff_exists.mp hc
  unfold findObj
  rw [hc, Option.bind_some, ha, Option.bind_some]
  simp [hg, ht]
theorem asks_class {Q : Option Value → Shared → Prop} (C : L2.ExcC K D) (X : K.In s.heap) (I : InstAt s.heap x ox D od) (h : Q (some (.ref D)) { s with toks := s.toks + 1 }) : wpAny (model prog w) A (getAttr? (.ref x) "__class__") Q E s := by
  have hf : findObj K D od "__class__" = some (.bind (.builtin "getset_descriptor.__get__") (.builtin "object.__class__")) := find_descr (by obtain ⟨cd, hc, _⟩ := any_some C.hd; rw [hc]; rfl) C.ha C.hn C.ht
  obtain ⟨hp, g, d, t, os⟩ := s
  have l0 := I.type (M := model prog w)
  have l1 := looks_findIn (M := model prog w) X C.hg
  have l2 := looks_findIn (M := model prog w) X C.hk
  have l3 := looks_find (M := model prog w) X I hf
  have isE : Looks (model prog w) hp (isInstance (.ref x) (.type "BaseException")) true := l0.andThen (looks_subIn X C.hs)
  have e0 : (false && onTheHeap (Value.builtin "BaseException.__getattribute__")) = false := rfl
  have e2 : (Value.builtin "BaseException.__getattribute__" == Value.builtin "object.__getattribute__") = false := by decide +kernel
  have e1 : (onTheHeap (Value.ref D) && Value.builtin "BaseException.__getattribute__" == Value.builtin "object.__getattribute__") = false := by rw [e2]; rfl
  unfold getAttr? getAttrBy? getAttrBy
  refine wpAny_bind (wpAny_mkText (wpAny_bind (wpAny_attempt (wpAny_holding (wpAny_bind (l0.at (wpAny_bind (l1.at ?_))))))))
  show wpAny _ _ (if (onTheHeap (Value.ref D) && Value.builtin "BaseException.__getattribute__" == Value.builtin "object.__getattribute__") = true then _ else _) _ _ _
  rw [e1, if_neg Bool.false_ne_true]
  unfold getAttrByItsOwn hookBefore
  refine wpAny_bind ?_
  rw [if_pos (show onTheHeap (Value.ref D) = true from rfl)]
  refine l2.at (wpAny_bind (wpAny_attempt (wpAny_holding ?_)))
  unfold callGetattribute
  rw [e0, if_neg Bool.false_ne_true]
  unfold boundAndCalled
  rw [PySem.F.excAttr_ValueError.ga.bind (.ref x)]
  refine wpAny_bind (wpAny_pure ?_)
  show wpAny _ _ (call (.builtin "BaseException.__getattribute__") [.ref x, .str "__class__" t]) _ _ _
  refine wpAny_call (codeAny_call_builtin PySem.F.excAttr_ValueError.ga.plain PySem.F.entry_bexc_ga ?_)
  refine @check_slot (model prog w) _ _ ⟨hp, g, d, t + 1, os⟩ "BaseException.__getattribute__" "BaseException" "__getattribute__" (.ref x) [.str "__class__" t] [] _ (by decide +kernel) (by decide +kernel) isE (PySem.F.args_bexc_ga (.ref x) (.str "__class__" t)) ?_
  unfold Builtin.«object.__getattribute__»
  refine wpAny_bind (wpAny_of_eq (a := ((Value.ref x : Value), [Value.str "__class__" t])) (by first | rfl | (simp only [slotArgs]; rfl)) ?_)
  refine wpAny_bind (wpAny_pure (wpAny_bind (l0.at (wpAny_bind (l3.at ?_)))))
  show wpAny _ _ (holding [Value.builtin "object.__class__"] (call (.builtin "getset_descriptor.__get__") [.builtin "object.__class__", .ref x, .ref D]) >>= ret) _ _ _
  refine wpAny_bind (wpAny_holding (wpAny_call (class_get (s := ⟨hp, g, d, t + 1, os⟩) (ox := ox) (od := od) X I C.hm ?_)))
  refine wpAny_pure ?_
  show wpAny _ _ (handedOut (.ref D)) _ _ _
  rw [handedOut_of (v := .ref D) rfl]
  first
    | exact wpAny_pure (wpAny_pure h)
    | exact wpAny_pure h
    | exact wpAny_pure (wpAny_bind (wpAny_pure (wpAny_pure h)))
theorem kit_exc (C : L2.ExcC K D) : KitX K (.ref x) (.ref D) (fun h => InstAt h x ox D od) where
  ty := fun _ _ _ I => I.type
  it := fun _ _ X _ => by
    obtain ⟨cdD, hcD, _⟩ := any_some C.hd
    unfold clsIn at hcD
    split at hcD
    · rename_i ho
      intro A' Q' E' s' k q
      unfold isType loadHead
      exact wpAny_bind (wpAny_loadPart (k _ _ (X _ _ ho)) (wpAny_pure q))
    · cases hcD
  ne := fun h tp dd its n sl X htp => by
    obtain ⟨cdD, hcD, _⟩ := any_some C.hd
    refine Bool.eq_false_iff.mpr fun q => ?_
    have e : D = tp := Value.ref.inj (beq_iff_eq.mp q)
    subst e
    unfold clsIn at hcD
    split at hcD
    · rename_i ho
      have z := (X _ _ ho).symm.trans htp
      cases z
    · cases hcD
  ca := fun X I k => asks_class C X I k
end
end Kx

namespace Kx
open PySem PySem.Spec PyProof.Rows L2
/-- what the written part says of an own class over B, at C, by the name x -/
structure EC (K : PySem.W.Frag) (mg : Str → Option Value) (x : Str) (C : Addr) (B newId : String) : Prop where
  g : mg x = some (.ref C)
  cls : ∃ nm q N bs sn sub ab col dd k0 k1 k2 k3 k5, K.lookup C = some (cob nm q C N bs B sn sub ab col dd k0 k1 k2 k3 k5 newId)
  sa : PySem.W.findIn K (.ref C) "__setattr__" = some (some (.builtin "object.__setattr__"))
  ex : ExcC K C
  ty : PySem.W.typeIn K (.ref C) = some (.type "type")
  kC : PySem.W.keepIn K (.ref C) = true
/-- .. whose __init__ is its own, at fI -/
structure Own (K : PySem.W.Frag) (C fI : Addr) : Prop where
  i : PySem.W.findIn K (.ref C) "__init__" = some (some (.ref fI))
  t : PySem.W.typeIn K (.ref fI) = some (.type "function")
section
variable {X : Cx} {pins : List (Addr × Obj)} {σ : L2.St} {H : Hp} {s : Shared} {a C fI dx : Addr} {f x : Str} {y : V} {u : Value} {fs : List (Str × V)} {B newId initId : String}
/-- self.f = y, the first one -/
theorem put_first {A : Around} {E : Value → Shared → Prop} {Q : Unit → Shared → Prop} (S : Stores B) (T : EC X.K X.mg x C B newId) (I : Inv X pins σ H s) (e : H a = some (exo a C none)) (hno : PySem.W.findIn X.K (.ref C) f = some none) (ry : RelV y u)
    (h : ∀ dx s', H dx = none → dx ≠ a → Inv X pins σ (upd (upd H dx (exd dx [(f, y)])) a (exo a C (some dx))) s' → Q () s') : wpAny (model X.prog X.w) A (setAttr (.ref a) f u) Q E s := by
  obtain ⟨nm, q, N, bs, sn, sub, ab, col, dd, k0, k1, k2, k3, k5, hC⟩ := T.cls
  have hcl : PySem.W.clsIn X.K C = some { name := nm, bases := bs, mro := .ref C :: tl B, ns := N, qualname := q, hasDict := true, slotNames := sn, subclasses := sub, abstract := ab, collection := col, hasDel := false } := by unfold PySem.W.clsIn; rw [hC] <;> rfl
  obtain ⟨t1, ho⟩ := exo_at I.hok e
  obtain ⟨hp, g, d, t, os⟩ := s
  refine PySem.W.set_plain I.kIn (ox := { cls := .ref C, dict := none, data := .fields #[.ref t1, .none, .none, .none, .bool false, .none] }) (od := none) ⟨ho, rfl, rfl, trivial⟩ T.sa ?_
  refine field_first S I.kIn ho hcl rfl rfl hno (fun h' tk' dx k dn dne hx hn => ?_)
  have hnd : H dx = none := I.hok.fresh dn
  have nd : ∀ {b : Addr} {o : Obj}, hp.get? b = some o → b ≠ dx := fun {b o} q => Nat.ne_of_lt (Nat.lt_of_lt_of_le (Heap.lt_size q) dn)
  have na : ∀ {b : Addr}, H b = none → b ≠ a := fun {b} n z => by rw [z, e] at n; cases n
  have U : Un X.fs [] H (upd (upd H dx (exd dx [(f, y)])) a (exo a C (some dx))) hp h' := ⟨fun b o q n _ _ => k b o (na n) q, fun b o q n _ _ => ⟨o.slots, k b o (na n) q⟩,
    fun b o q n _ => by rw [upd_ne (na n), upd_ne (nd q)]; exact n,
    fun b o q _ => by
      by_cases hb : b = a
      · exact ⟨_, by rw [hb]; exact hx⟩
      · exact ⟨o, k b o hb q⟩,
    fun b xs q => by rw [upd_ne (at_ne e q exo_tup), upd_ne (ne_of_none q hnd)]; exact q,
    fun b o v q => by rw [upd_ne (at_ne e q exo_frz), upd_ne (ne_of_none q hnd)]; exact q,
    fun b ps q => ⟨#[], by rw [upd_ne (at_ne e q exo_tbl), upd_ne (ne_of_none q hnd), q]; simp⟩⟩
  refine h dx _ hnd dne (I.un (t' := tk') U fun b o q => ?_)
  by_cases hb : b = a
  · subst hb
    rw [upd_same] at q
    cases q
    exact exo_ok hx
  · rw [upd_ne hb] at q
    by_cases hd : b = dx
    · subst hd
      rw [upd_same] at q
      cases q
      exact exd_ok hn (relO_put (fs := []) ry fun g => True.intro)
    · rw [upd_ne hd] at q
      refine (I.hok b o q).stay (fun c v hc z => k c v ?_ z) (fun c hc => by rw [upd_ne (at_ne e hc exo_own), upd_ne (ne_of_none hc hnd)]; exact hc) (fun c xs hc => by rw [upd_ne (at_ne e hc exo_tup), upd_ne (ne_of_none hc hnd)]; exact hc)
      rcases hc with hc | hc
      · rw [hc]; exact hb
      · exact at_ne e hc exo_own
/-- self.f = e in an __init__ -/
def tPut (K : PySem.W.Frag) (mg : Str → Option Value) (x : Str) (C : Addr) (B newId : String) (f : Str) (to te : TE) : TS := fun D σ H => te σ H fun y H1 => to σ H1 fun v H2 => ∃ a, v = .ref a ∧ H2 a = some (exo a C none) ∧
  ∀ dx, H2 dx = none → dx ≠ a → D.nx σ (upd (upd H2 dx (exd dx [(f, y)])) a (exo a C (some dx)))
theorem ps_put {o e : Expr} {to te : TE} {p' pos : Pos} (S : Stores B) (T : EC X.K X.mg x C B newId) (hno : PySem.W.findIn X.K (.ref C) f = some none) (ho : PE X o to) (he : PE X e te) (hs : swapsWith e (some (.Attribute o f p')) pos.line X.env = pure false := by rfl) :
    PS X (.Assign [.Attribute o f p'] e pos) (tPut X.K X.mg x C B newId f to te) := by
  refine ⟨fun pins s σ H D I h => ?_⟩
  refine plainObj_wpAny_Assign_Attribute (thn (he.run pins s σ H _ I h) fun v s1 ⟨y, H1, I1, r1, q1⟩ => thn (ho.run pins s1 σ H1 _ I1 q1) fun u s2 ⟨z, H2, I2, r2, a, ez, ea, q⟩ => ?_) hs
  subst ez
  obtain rfl : u = Value.ref a := r2
  exact put_first S T I2 ea hno r1 fun dx s' n ne J => ⟨σ, _, J, q dx n ne⟩
end
/-! ### C(e), C(k = e), C() as values -/
/-- an exception of the class at C, laid at a, that went through its __init__ -/
@[irreducible] def tMkV (C : Addr) (sp : Sp) (t : TA) : TE := fun σ H Q => t σ H fun vs H1 => vs.length ≤ 1000 ∧ ∀ a, H1 a = none → sp (.ref a :: vs) (upd H1 a (exo a C none)) (fun v H2 => v = .non ∧ Q (.ref a) H2) (fun _ _ _ => False)
theorem tMkV_is {C : Addr} {sp : Sp} {t : TA} {σ : L2.St} {H : Hp} {Q : VK} : tMkV C sp t σ H Q = t σ H fun vs H1 => vs.length ≤ 1000 ∧ ∀ a, H1 a = none → sp (.ref a :: vs) (upd H1 a (exo a C none)) (fun v H2 => v = .non ∧ Q (.ref a) H2) (fun _ _ _ => False) := by unfold tMkV; rfl
section
variable {X : Cx} {C fI : Addr} {x : Str} {B newId initId : String} {CX : CXT} {k : Nat} {fd : FuncData} {ps ks : List Str} {sp : Sp} {p pos : Pos} {e : Expr} {es : List Expr} {kws : List Keyword} {t : TA}
theorem run_mkV {pins : List (Addr × Obj)} {σ : L2.St} {H : Hp} {s : Shared} {Q : VK} {us : List Value} {ws : List (Str × Value)} {vs : List V} {as : List Value} (FB : PySem.ExcBaseFacts B newId initId (tl B)) (T : EC X.K X.mg x C B newId) (O : Own X.K C fI) (F : FnOk X.prog X.w X.K X.mg X.base CX k fI fd ps sp)
    (hr : Room (k + 1) X.A) (hx : Passes CX X (fun _ _ _ => False)) (hl : us.length ≤ sizeLine) (hb : ∀ (s : Shared) (v : Value), X.K.In s.heap → BindsTo s fd ⟨v :: us, ws⟩ (ps.zip (v :: as))) (I : Inv X pins σ H s) (r : Vals vs as)
    (h : ∀ a, H a = none → sp (.ref a :: vs) (upd H a (exo a C none)) (fun v H2 => v = .non ∧ Q (.ref a) H2) (fun _ _ _ => False)) : wpAny (model X.prog X.w) X.A (call (.ref C) us ws) (EP X pins σ Q) X.xe s := by
  obtain ⟨nm, q, N, bs, sn, sub, ab, col, dd, k0, k1, k2, k3, k5, hC⟩ := T.cls
  obtain ⟨hp, g, dr, tk, os⟩ := s
  have hsz : hp.objs.size ≤ hp.objs.size + 1 := Nat.le_succ _
  have hq := h (hp.objs.size + 1) (I.hok.fresh hsz)
  have I2 : Inv X pins σ (upd H (hp.objs.size + 1) (exo (hp.objs.size + 1) C none)) ⟨born hp C us, g, dr, tk, os⟩ :=
    I.laid (t' := tk) (a := hp.objs.size + 1) (o := exo (hp.objs.size + 1) C none) (h' := born hp C us) (fun b o e => born_keeps e) hsz (exo_ok born_at)
  have r2 : Vals (V.ref (hp.objs.size + 1) :: vs) (Value.ref (hp.objs.size + 1) :: as) := .cons rfl r
  refine wpAny_call (exc_called FB (I.kIn _ _ hC) hl (PySem.W.looks_findIn I.kIn O.i) (fun self => PySem.W.bind_fn I.kIn self O.t)
    (codeAny_mono (F.run _ X.stack _ _ ⟨Value.ref (hp.objs.size + 1) :: us, ws⟩ (Value.ref (hp.objs.size + 1) :: as) _ _ (fun _ _ _ => False) (hr.make C us ws) (I2.env0.make C us ws) (hb _ _ I2.kIn) r2 hq) fun r s' hq' => ?_))
  cases r with
  | error er => exact hx pins σ _ _ er s' I2 hq'
  | ok fl =>
    cases fl with
    | ret u =>
      obtain ⟨v, H', I3, rv, ev, q3⟩ := I2.after hq'
      subst ev
      exact ⟨rv, ⟨V.ref (hp.objs.size + 1), H', I3, rfl, q3⟩⟩
    | next => exact False.elim hq'
    | brk => exact False.elim hq'
    | cont => exact False.elim hq'
theorem pe_mkV (FB : PySem.ExcBaseFacts B newId initId (tl B)) (T : EC X.K X.mg x C B newId) (O : Own X.K C fI) (F : FnOk X.prog X.w X.K X.mg X.base CX k fI fd ps sp) (hr : Room (k + 1) X.A) (hb : Binds X.K fd ps []) (hx : Passes CX X (fun _ _ _ => False)) (hg : Gl X x) (ha : PA X (e :: es) t)
    (hdb : (x == ("__debug__" : Str)) = false := by decide) (he : starEach (e :: es) X.env = (false, eval e X.env) :: starEach es X.env := by rfl) (hpl : (backTo pos (starEach es X.env)).any (·.1) = false := by rfl) :
    PE X (.Call (.Name x p) (e :: es) [] pos) (tMkV C sp t) := by
  refine ⟨fun pins s σ H Q I h => ?_⟩
  rw [tMkV_is] at h
  refine wpAny_Call_Name_kw (ld_glob I hg T.g ?_ hdb)
  refine PySem.W.callWith_K (h₀ := X.base) I.ok.mod.kin T.kC (thn (ha.run pos pins s σ H _ I h) fun us s1 ⟨vs, H1, I1, r1, hz, q1⟩ => ⟨I1.kIn, ?_⟩) he hpl
  have hl : us.length ≤ sizeLine := by rw [← Paired.length r1, sizeLine_eq]; omega
  refine run_mkV (as := us) FB T O F hr hx hl (fun s v Y => ?_) I1 r1 q1
  have hn : H1 (s1.heap.objs.size + 1) = none := I1.hok.fresh (Nat.le_succ _)
  have e1 := F.len _ _ _ _ (q1 _ hn)
  have b := hb s (v :: us) Y (by rw [List.append_nil, List.length_cons, ← Paired.length r1]; exact e1)
  rw [List.append_nil] at b
  exact b
theorem pe_mkK (FB : PySem.ExcBaseFacts B newId initId (tl B)) (T : EC X.K X.mg x C B newId) (O : Own X.K C fI) (F : FnOk X.prog X.w X.K X.mg X.base CX k fI fd ps sp) (hr : Room (k + 1) X.A)
    (hb : ∀ (s : Shared) (v : Value) (ws : List Value), X.K.In s.heap → ws.length + 1 = ps.length → BindsTo s fd ⟨[v], ks.zip ws⟩ (ps.zip (v :: ws))) (hx : Passes CX X (fun _ _ _ => False)) (hg : Gl X x) (hkw : PK X kws t)
    (hall : (backToKw pos (keywordEach kws X.env)).all (·.1.isSome) = true := by rfl) (hks : (backToKw pos (keywordEach kws X.env)).filterMap (·.1) = ks := by rfl) (hdb : (x == ("__debug__" : Str)) = false := by decide)
    (hpl : ((backTo pos (starEach [] X.env)).any (·.1) || (backToKw pos (keywordEach kws X.env)).any (·.1.isNone)) = false := by rfl) : PE X (.Call (.Name x p) [] kws pos) (tMkV C sp t) := by
  refine ⟨fun pins s σ H Q I h => ?_⟩
  rw [tMkV_is] at h
  refine wpAny_Call_Name_kw (ld_glob I hg T.g ?_ hdb)
  refine PySem.W.callWith_KW0 (h₀ := X.base) I.ok.mod.kin T.kC hall (thn (hkw.run pos pins s σ H _ I h) fun ws s1 ⟨vs, H1, I1, r1, hz, q1⟩ => ⟨I1.kIn, ?_⟩) hpl
  rw [hks]
  have hn : H1 (s1.heap.objs.size + 1) = none := I1.hok.fresh (Nat.le_succ _)
  have e1 := F.len _ _ _ _ (q1 _ hn)
  exact run_mkV (us := []) (as := ws) FB T O F hr hx (Nat.zero_le _) (fun s v Y => hb s v ws Y (by rw [← Paired.length r1]; exact e1)) I1 r1 q1
/-- C(), its __init__ the base's -/
@[irreducible] def tMk0 (C : Addr) : TE := fun _ H Q => ∀ a, H a = none → Q (.ref a) (upd H a (exo a C none))
theorem tMk0_is {C : Addr} {σ : L2.St} {H : Hp} {Q : VK} : tMk0 C σ H Q = ∀ a, H a = none → Q (.ref a) (upd H a (exo a C none)) := by unfold tMk0; rfl
theorem pe_mk0 (FB : PySem.ExcBaseFacts B newId initId (tl B)) (T : EC X.K X.mg x C B newId) (hi : PySem.W.findIn X.K (.ref C) "__init__" = some (some (.builtin initId))) (hg : Gl X x) (hdb : (x == ("__debug__" : Str)) = false := by decide) : PE X (.Call (.Name x p) [] [] pos) (tMk0 C) := by
  refine ⟨fun pins s σ H Q I h => ?_⟩
  rw [tMk0_is] at h
  refine wpAny_Call_Name_kw (ld_glob I hg T.g ?_ hdb)
  refine PySem.W.callWith_K0 I.kIn T.kC ?_
  obtain ⟨nm, q, N, bs, sn, sub, ab, col, dd, k0, k1, k2, k3, k5, hC⟩ := T.cls
  obtain ⟨hp, g, dr, tk, os⟩ := s
  show wpAny _ _ (call (.ref C) []) _ _ _
  refine PySem.W.call_B FB (fun _ => rfl) (I.kIn _ _ hC) (PySem.W.looks_findIn I.kIn hi) (Nat.zero_le _) (fun h' k he _ => ?_)
  have hsz : hp.objs.size ≤ hp.objs.size + 1 := Nat.le_succ _
  exact ⟨V.ref (hp.objs.size + 1), _, I.laid (t' := tk) (a := hp.objs.size + 1) (o := exo (hp.objs.size + 1) C none) (h' := h') k hsz (exo_ok he), rfl, h _ (I.hok.fresh hsz)⟩
end
/-! ### e.f, isinstance(e, c) -/
section
variable {X : Cx} {f x : Str} {B newId : String}
/-- an exception at a: its class, its fields -/
def ExAt (H : Hp) (a C : Addr) (fs : List (Str × V)) : Prop := (fs = [] ∧ H a = some (exo a C none)) ∨ ∃ dx, H a = some (exo a C (some dx)) ∧ H dx = some (exd dx fs)
@[irreducible] def tGetX (K : PySem.W.Frag) (f : Str) (te : TE) : TE := fun σ H Q => te σ H fun y H1 => ∃ (a C dx : Addr) (fs : List (Str × V)) (v : V), y = .ref a ∧ H1 a = some (exo a C (some dx)) ∧ H1 dx = some (exd dx fs) ∧ ExcC K C ∧ PySem.W.findIn K (.ref C) f = some none ∧ fs.lookup f = some v ∧ Q v H1
theorem tGetX_is {K : PySem.W.Frag} {f : Str} {te : TE} {σ : L2.St} {H : Hp} {Q : VK} : tGetX K f te σ H Q = (te σ H fun y H1 => ∃ (a C dx : Addr) (fs : List (Str × V)) (v : V), y = .ref a ∧ H1 a = some (exo a C (some dx)) ∧ H1 dx = some (exd dx fs) ∧ ExcC K C ∧ PySem.W.findIn K (.ref C) f = some none ∧ fs.lookup f = some v ∧ Q v H1) := by unfold tGetX; rfl
theorem pe_getX {e : Expr} {te : TE} {pos : Pos} (he : PE X e te) (hb : attributeBase e f X.env (eval e X.env) = eval e X.env := by rfl) : PE X (.Attribute e f pos) (tGetX X.K f te) := by
  refine ⟨fun pins s σ H Q I h => ?_⟩
  rw [tGetX_is] at h
  refine attr_of hb (thn (he.run pins s σ H _ I h) fun u s1 hh => ?_)
  obtain ⟨y, H1, I1, rx, a, C, dx, fs, v, ey, ea, ed, T, hno, hl, q⟩ := hh
  subst ey
  obtain rfl : u = Value.ref a := rx
  obtain ⟨t1, ho⟩ := exo_at I1.hok ea
  obtain ⟨mA, hns, hr⟩ := exd_at I1.hok ed
  obtain ⟨od, hod, hlk⟩ := lookIn_ns hns
  obtain ⟨w', hu, ru⟩ := RelO.some_of (v := v) (o := mA f) (by rw [← hl]; exact hr f)
  have J : PySem.W.InstAt s1.heap a { cls := .ref C, dict := some dx, data := .fields #[.ref t1, .none, .none, .none, .bool false, .none] } C (some od) := ⟨ho, rfl, rfl, hod⟩
  exact PySem.HandSPX.exc_get I1.kIn J T.hg T.hk T.hs (PySem.W.findObj_own T.hd hno rfl (by rw [hlk, hu])) (handed_of ru) ⟨v, H1, I1.tok _, ru, q⟩
theorem pe_getK {K : PySem.W.Frag} {e : Expr} {te : TE} {pos : Pos} (hK : X.K = K) (he : PE X e te) (hb : attributeBase e f X.env (eval e X.env) = eval e X.env := by rfl) : PE X (.Attribute e f pos) (tGetX K f te) := by
  subst hK
  exact pe_getX he hb
def rIsX (K : PySem.W.Frag) : List V → Hp → VK → Prop := fun xs H Q => ∃ (a C : Addr) (fs : List (Str × V)) (c : V) (cv : Value) (b : Bool), xs = [.ref a, c] ∧ ClsV c cv ∧ ExcC K C ∧ ExAt H a C fs ∧ PySem.W.kitOne K (.ref C) cv = some b ∧ Q (.bl b) H
theorem call_isX : CallR X (.builtin "isinstance") (rIsX X.K) := by
  intro pins s σ H xs us Q I r h
  obtain ⟨a, C, fs, c, cv, b, rfl, kc, T, hx, e, q⟩ := h
  obtain ⟨u1, u2, rfl, r1, r2⟩ := vals2 r
  cases r1
  have e2 := kc.eq r2
  subst e2
  rcases hx with ⟨_, ha⟩ | ⟨dx, ha, hd⟩
  · obtain ⟨t1, ho⟩ := exo_at I.hok ha
    exact PySem.W.kia_one (kit_exc (ox := { cls := .ref C, dict := none, data := .fields #[.ref t1, .none, .none, .none, .bool false, .none] }) (od := none) T) I.kIn ⟨ho, rfl, rfl, trivial⟩ e (fun z => nomatch z) fun tk => ⟨.bl b, H, I.tok tk, rfl, q⟩
  · obtain ⟨t1, ho⟩ := exo_at I.hok ha
    obtain ⟨mA, ⟨od, _, _, hod, _⟩, _⟩ := exd_at I.hok hd
    exact PySem.W.kia_one (kit_exc (ox := { cls := .ref C, dict := some dx, data := .fields #[.ref t1, .none, .none, .none, .bool false, .none] }) (od := some od) T) I.kIn ⟨ho, rfl, rfl, hod⟩ e (fun z => nomatch z) fun tk => ⟨.bl b, H, I.tok tk, rfl, q⟩
end
end Kx

namespace Kz
open PySem PySem.Spec PyProof.Rows L2 RZ Kx
/-! ### the ten errors, in the order of their names -/
def nmE : Nat → Str
  | 0 => "BadLine"
  | 1 => "Barred"
  | 2 => "CanNot"
  | 3 => "Held"
  | 4 => "Late"
  | 5 => "NoNumber"
  | 6 => "NoRow"
  | 7 => "Pinched"
  | 8 => "Twice"
  | _ => "Unfit"
def bsE (i : Nat) : String := if i = 5 ∨ i = 6 then "LookupError" else "ValueError"
def nwE (i : Nat) : String := if i = 5 ∨ i = 6 then "LookupError.__new__" else "ValueError.__new__"
/-- what each keeps, of a number and a row -/
def fsE (n : Int) (r : Str) (i : Nat) : List (Str × V) := if i = 2 ∨ i = 7 ∨ i = 9 then [] else if i = 6 ∨ i = 8 then [("row", .str r)] else [("number", .int n)]
/-- what the top says of the ten -/
structure Ten (K : PySem.W.Frag) (mg : Str → Option Value) (C : Nat → Addr) : Prop where
  e : ∀ i, i < 10 → EC K mg (nmE i) (C i) (bsE i) (nwE i)
  inj : ∀ i j, i < 10 → j < 10 → C i = C j → i = j
  nN : ∀ i, i < 10 → PySem.W.findIn K (.ref (C i)) "number" = some none
  nR : ∀ i, i < 10 → PySem.W.findIn K (.ref (C i)) "row" = some none
/-- the promise of an __init__ that keeps one value by the name f -/
def spInit (C : Addr) (f : Str) : Sp := fun vs H Q _ => ∃ (a : Addr) (y : V), vs = [.ref a, y] ∧ H a = some (exo a C none) ∧ ∀ dx, H dx = none → dx ≠ a → Q .non (upd (upd H dx (exd dx [(f, y)])) a (exo a C (some dx)))
section
variable {P : Program} {w : World} {K : PySem.W.Frag} {mg : Str → Option Value} {base : Heap}
theorem rd_mkV {C : Addr} {f : Str} {y : V} {H : Hp} {Q : VK} (q : ∀ (H' : Hp) (a : Addr), Same H H' → H a = none → ExAt H' a C [(f, y)] → Q (.ref a) H') :
    [y].length ≤ 1000 ∧ ∀ a, H a = none → spInit C f (.ref a :: [y]) (upd H a (exo a C none)) (fun v H2 => v = .non ∧ Q (.ref a) H2) (fun _ _ _ => False) :=
  ⟨by show 1 ≤ 1000; decide, fun a ha => ⟨a, y, rfl, upd_same, fun dx hd ne => ⟨rfl, q _ a (fun b o e => by
    have nb : b ≠ a := ne_of_none e ha
    have nd : b ≠ dx := fun z => by rw [z] at e; rw [upd_ne ne, e] at hd; cases hd
    rw [upd_ne nb, upd_ne nd, upd_ne nb]
    exact e) ha (.inr ⟨dx, upd_same, by rw [upd_ne ne, upd_same]⟩)⟩⟩⟩
theorem rd_mk {C : Addr} {f : Str} {i : Nat} {y : V} {σ : L2.St} {H : Hp} {Q : VK} (e : σ[i]? = some (some y)) (q : ∀ (H' : Hp) (a : Addr), Same H H' → H a = none → ExAt H' a C [(f, y)] → Q (.ref a) H') : tMkV C (spInit C f) (tCons (tVar i) tNil) σ H Q := by rw [tMkV_is]; exact ⟨y, e, rd_mkV q⟩
theorem rd_mk0 {C : Addr} {H : Hp} {Q : VK} (q : ∀ (H' : Hp) (a : Addr), Same H H' → H a = none → ExAt H' a C [] → Q (.ref a) H') (σ : L2.St) : tMk0 C σ H Q := by rw [tMk0_is]; exact fun a ha => q _ a (new_same ha) ha (.inl ⟨rfl, upd_same⟩)
theorem ex_same {H H' : Hp} {a C : Addr} {fs : List (Str × V)} (s : Same H H') (h : ExAt H a C fs) : ExAt H' a C fs := by
  rcases h with ⟨e, h⟩ | ⟨dx, h, hd⟩
  · exact .inl ⟨e, s _ _ h⟩
  · exact .inr ⟨dx, s _ _ h, s _ _ hd⟩
theorem kit_T {x : Str} {C : Addr} {B id n : String} (T : EC K mg x C B id) (hm : PySem.W.kitMeta n = true) : PySem.W.kitOne K (.ref C) (.type n) = some ((tl B).contains (.type n)) := by
  obtain ⟨nm, q, N, bs, sn, sub, ab, col, dd, k0, k1, k2, k3, k5, hC⟩ := T.cls
  have e1 : (Value.ref C == Value.type n) = false := rfl
  unfold PySem.W.kitOne PySem.W.kitCls
  rw [e1, if_neg Bool.false_ne_true]
  show (if PySem.W.kitMeta n = true then PySem.W.mroIn K C (.type n) else none) = _
  rw [if_pos hm]
  unfold PySem.W.mroIn PySem.W.clsIn
  rw [hC]
  show (if (Value.ref C :: tl B).isEmpty = true then none else some ((Value.ref C :: tl B).contains (.type n))) = _
  rw [if_neg (show ¬ (Value.ref C :: tl B).isEmpty = true from Bool.false_ne_true), List.contains_cons]
  rfl
theorem kit_C {x y : Str} {C D : Addr} {B id B' id' : String} (T : EC K mg x C B id) (S : EC K mg y D B' id') : PySem.W.kitOne K (.ref C) (.ref D) = some (decide (C = D)) := by
  obtain ⟨nm, q, N, bs, sn, sub, ab, col, dd, k0, k1, k2, k3, k5, hC⟩ := T.cls
  obtain ⟨cdD, hcD, _⟩ := PySem.W.any_some S.ex.hd
  by_cases h : C = D
  · subst h
    unfold PySem.W.kitOne
    rw [if_pos (beq_self_eq_true _), decide_eq_true rfl]
  · have e1 : (Value.ref C == Value.ref D) = false := by
      refine Bool.eq_false_iff.mpr fun q => h (Value.ref.inj (beq_iff_eq.mp q))
    unfold PySem.W.kitOne PySem.W.kitCls
    rw [e1, if_neg Bool.false_ne_true]
    show (if ((PySem.W.clsIn K D).isSome && PySem.W.typeIn K (.ref D) == some (.type "type")) = true then PySem.W.mroIn K C (.ref D) else none) = _
    rw [hcD, S.ty, if_pos (by rfl)]
    unfold PySem.W.mroIn PySem.W.clsIn
    rw [hC]
    show (if (Value.ref C :: tl B).isEmpty = true then none else some ((Value.ref C :: tl B).contains (.ref D))) = _
    have e2 : (Value.ref D == Value.ref C) = false := by
      refine Bool.eq_false_iff.mpr fun q => h (Value.ref.inj (beq_iff_eq.mp q)).symm
    rw [if_neg (show ¬ (Value.ref C :: tl B).isEmpty = true from Bool.false_ne_true), List.contains_cons, e2, decide_eq_false h]
    rfl

abbrev sIBadLine : Stmt := inClass (topS 3) 0
theorem scIBadLine : FnScope ["self", "number"] ["self", "number"] (defScope sIBadLine) := ⟨rfl, rfl, rfl, by decide +kernel, rfl, by decide +kernel, by decide +kernel⟩
theorem ok_iBadLine {C g : Addr} {fd : FuncData} {k : Nat} (F : Fun K "__init__" "BadLine.__init__" sIBadLine g fd) (T : EC K mg "BadLine" C "ValueError" "ValueError.__new__") (no : PySem.W.findIn K (.ref C) "number" = some none) : FnOk P w K mg base CX0 (k + 1) g fd ["self", "number"] (spInit C "number") := by
  refine F.ok scIBadLine (fun vs H Q E h => ?_) (fun cdv A outer s H vs Q E hr h => ?_)
  · obtain ⟨a, y, rfl, _⟩ := h
    rfl
  · obtain ⟨a, y, rfl, ha, q⟩ := h
    exact ⟨_, pss_one (ps_put stores_V T no (pv 0) (pv 1)), ⟨_, rfl, _, rfl, a, rfl, ha, q⟩⟩

abbrev sIBarred : Stmt := inClass (topS 4) 0
theorem scIBarred : FnScope ["self", "number"] ["self", "number"] (defScope sIBarred) := ⟨rfl, rfl, rfl, by decide +kernel, rfl, by decide +kernel, by decide +kernel⟩
theorem ok_iBarred {C g : Addr} {fd : FuncData} {k : Nat} (F : Fun K "__init__" "Barred.__init__" sIBarred g fd) (T : EC K mg "Barred" C "ValueError" "ValueError.__new__") (no : PySem.W.findIn K (.ref C) "number" = some none) : FnOk P w K mg base CX0 (k + 1) g fd ["self", "number"] (spInit C "number") := by
  refine F.ok scIBarred (fun vs H Q E h => ?_) (fun cdv A outer s H vs Q E hr h => ?_)
  · obtain ⟨a, y, rfl, _⟩ := h
    rfl
  · obtain ⟨a, y, rfl, ha, q⟩ := h
    exact ⟨_, pss_one (ps_put stores_V T no (pv 0) (pv 1)), ⟨_, rfl, _, rfl, a, rfl, ha, q⟩⟩

abbrev sIHeld : Stmt := inClass (topS 6) 0
theorem scIHeld : FnScope ["self", "number"] ["self", "number"] (defScope sIHeld) := ⟨rfl, rfl, rfl, by decide +kernel, rfl, by decide +kernel, by decide +kernel⟩
theorem ok_iHeld {C g : Addr} {fd : FuncData} {k : Nat} (F : Fun K "__init__" "Held.__init__" sIHeld g fd) (T : EC K mg "Held" C "ValueError" "ValueError.__new__") (no : PySem.W.findIn K (.ref C) "number" = some none) : FnOk P w K mg base CX0 (k + 1) g fd ["self", "number"] (spInit C "number") := by
  refine F.ok scIHeld (fun vs H Q E h => ?_) (fun cdv A outer s H vs Q E hr h => ?_)
  · obtain ⟨a, y, rfl, _⟩ := h
    rfl
  · obtain ⟨a, y, rfl, ha, q⟩ := h
    exact ⟨_, pss_one (ps_put stores_V T no (pv 0) (pv 1)), ⟨_, rfl, _, rfl, a, rfl, ha, q⟩⟩

abbrev sILate : Stmt := inClass (topS 7) 0
theorem scILate : FnScope ["self", "number"] ["self", "number"] (defScope sILate) := ⟨rfl, rfl, rfl, by decide +kernel, rfl, by decide +kernel, by decide +kernel⟩
theorem ok_iLate {C g : Addr} {fd : FuncData} {k : Nat} (F : Fun K "__init__" "Late.__init__" sILate g fd) (T : EC K mg "Late" C "ValueError" "ValueError.__new__") (no : PySem.W.findIn K (.ref C) "number" = some none) : FnOk P w K mg base CX0 (k + 1) g fd ["self", "number"] (spInit C "number") := by
  refine F.ok scILate (fun vs H Q E h => ?_) (fun cdv A outer s H vs Q E hr h => ?_)
  · obtain ⟨a, y, rfl, _⟩ := h
    rfl
  · obtain ⟨a, y, rfl, ha, q⟩ := h
    exact ⟨_, pss_one (ps_put stores_V T no (pv 0) (pv 1)), ⟨_, rfl, _, rfl, a, rfl, ha, q⟩⟩

abbrev sINoNumber : Stmt := inClass (topS 1) 0
theorem scINoNumber : FnScope ["self", "number"] ["self", "number"] (defScope sINoNumber) := ⟨rfl, rfl, rfl, by decide +kernel, rfl, by decide +kernel, by decide +kernel⟩
theorem ok_iNoNumber {C g : Addr} {fd : FuncData} {k : Nat} (F : Fun K "__init__" "NoNumber.__init__" sINoNumber g fd) (T : EC K mg "NoNumber" C "LookupError" "LookupError.__new__") (no : PySem.W.findIn K (.ref C) "number" = some none) : FnOk P w K mg base CX0 (k + 1) g fd ["self", "number"] (spInit C "number") := by
  refine F.ok scINoNumber (fun vs H Q E h => ?_) (fun cdv A outer s H vs Q E hr h => ?_)
  · obtain ⟨a, y, rfl, _⟩ := h
    rfl
  · obtain ⟨a, y, rfl, ha, q⟩ := h
    exact ⟨_, pss_one (ps_put stores_L T no (pv 0) (pv 1)), ⟨_, rfl, _, rfl, a, rfl, ha, q⟩⟩

abbrev sINoRow : Stmt := inClass (topS 2) 0
theorem scINoRow : FnScope ["self", "row"] ["self", "row"] (defScope sINoRow) := ⟨rfl, rfl, rfl, by decide +kernel, rfl, by decide +kernel, by decide +kernel⟩
theorem ok_iNoRow {C g : Addr} {fd : FuncData} {k : Nat} (F : Fun K "__init__" "NoRow.__init__" sINoRow g fd) (T : EC K mg "NoRow" C "LookupError" "LookupError.__new__") (no : PySem.W.findIn K (.ref C) "row" = some none) : FnOk P w K mg base CX0 (k + 1) g fd ["self", "row"] (spInit C "row") := by
  refine F.ok scINoRow (fun vs H Q E h => ?_) (fun cdv A outer s H vs Q E hr h => ?_)
  · obtain ⟨a, y, rfl, _⟩ := h
    rfl
  · obtain ⟨a, y, rfl, ha, q⟩ := h
    exact ⟨_, pss_one (ps_put stores_L T no (pv 0) (pv 1)), ⟨_, rfl, _, rfl, a, rfl, ha, q⟩⟩

abbrev sITwice : Stmt := inClass (topS 9) 0
theorem scITwice : FnScope ["self", "row"] ["self", "row"] (defScope sITwice) := ⟨rfl, rfl, rfl, by decide +kernel, rfl, by decide +kernel, by decide +kernel⟩
theorem ok_iTwice {C g : Addr} {fd : FuncData} {k : Nat} (F : Fun K "__init__" "Twice.__init__" sITwice g fd) (T : EC K mg "Twice" C "ValueError" "ValueError.__new__") (no : PySem.W.findIn K (.ref C) "row" = some none) : FnOk P w K mg base CX0 (k + 1) g fd ["self", "row"] (spInit C "row") := by
  refine F.ok scITwice (fun vs H Q E h => ?_) (fun cdv A outer s H vs Q E hr h => ?_)
  · obtain ⟨a, y, rfl, _⟩ := h
    rfl
  · obtain ⟨a, y, rfl, ha, q⟩ := h
    exact ⟨_, pss_one (ps_put stores_V T no (pv 0) (pv 1)), ⟨_, rfl, _, rfl, a, rfl, ha, q⟩⟩

end
end Kz

namespace Kz
open PySem PySem.Spec PyProof.Rows L2 RZ Kx
/-- the built-in errors are left alone -/
structure NatE (mg : Str → Option Value) : Prop where

  LookupError : mg "LookupError" = none
  ValueError : mg "ValueError" = none
  TypeError : mg "TypeError" = none
  KeyError : mg "KeyError" = none
  IndexError : mg "IndexError" = none
  RuntimeError : mg "RuntimeError" = none
  AttributeError : mg "AttributeError" = none
  Exception : mg "Exception" = none
/-- under which built-in errors one over B stands -/
def undV (B : String) : List Bool := ["LookupError", "ValueError", "TypeError", "KeyError", "IndexError", "RuntimeError", "AttributeError", "Exception"].map fun n => (tl B).contains (.type n)
def lookL : List Bool := [true, false, false, false, false, false, false, true]
def valL : List Bool := [false, true, false, false, false, false, false, true]
theorem und_L : undV "LookupError" = lookL := by decide +kernel
theorem und_V : undV "ValueError" = valL := by decide +kernel
def undE (i : Nat) : List Bool := if i = 5 ∨ i = 6 then lookL else valL
theorem und_E (i : Nat) : undV (bsE i) = undE i := by
  unfold bsE undE
  by_cases h : i = 5 ∨ i = 6
  · rw [if_pos h, if_pos h, und_L]
  · rw [if_neg h, if_neg h, und_V]
def whiE (i : Nat) : List Bool := (List.range 10).map fun k => decide (k = i)
section
variable {P : Program} {w : World} {K : PySem.W.Frag} {mg : Str → Option Value} {base : Heap}
def spList (K : PySem.W.Frag) (C : Nat → Addr) (f : Nat → List Bool) : Sp := fun vs H Q _ => ∃ (a : Addr) (i : Nat) (fs : List (Str × V)), vs = [.ref a] ∧ i < 10 ∧ ExAt H a (C i) fs ∧ ∀ (H' : Hp) (p : Addr), Same H H' → H p = none → H' p = some (.lst ((f i).map V.bl)) → Q (.ref p) H'
theorem bt_lk : bootBuiltins "LookupError" = some (.type "LookupError") := by decide +kernel
theorem scUnder : FnScope ["_law_error_so", "_law_near", "_law_far"] ["_law_error_so"] (defScope sUnder) := ⟨rfl, rfl, rfl, by decide +kernel, rfl, by decide +kernel, by decide +kernel⟩
theorem scWhich : FnScope ["_law_error_so", "_law_found"] ["_law_error_so"] (defScope sWhich) := ⟨rfl, rfl, rfl, by decide +kernel, rfl, by decide +kernel, by decide +kernel⟩
theorem ok_under {f : Addr} {fd : FuncData} {k : Nat} {C : Nat → Addr} (F : Fun K "_law_under" "_law_under" sUnder f fd) (N : Nat0 mg) (Y : NatE mg) (T : Ten K mg C) : FnOk P w K mg base CX0 (k + 1) f fd ["_law_error_so"] (spList K C undE) := by
  refine F.ok scUnder (fun vs H Q E h => ?_) (fun cdv A outer s H vs Q E hr h => ?_)
  · obtain ⟨a, i, fs, rfl, _⟩ := h
    rfl
  · obtain ⟨a, i, fs, rfl, hi, hx, q⟩ := h
    refine ⟨_, pss_cons (ps_set (i := 1) scUnder.nd rfl (.inl rfl) (pe_lst (pa_cons (pe_callB call_isX (by rfl) N.isinstance bt_isi (pa_cons (pv 0) (pa_cons (pe_bltn (v := .ty "LookupError") (by rfl) Y.LookupError (by decide +kernel) rfl) pa_nil))) (pa_cons (pe_callB call_isX (by rfl) N.isinstance bt_isi (pa_cons (pv 0) (pa_cons (pe_bltn (v := .ty "ValueError") (by rfl) Y.ValueError (by decide +kernel) rfl) pa_nil))) (pa_cons (pe_callB call_isX (by rfl) N.isinstance bt_isi (pa_cons (pv 0) (pa_cons (pe_bltn (v := .ty "TypeError") (by rfl) Y.TypeError (by decide +kernel) rfl) pa_nil))) pa_nil)))))
      (pss_cons (ps_set (i := 2) scUnder.nd rfl (.inl rfl) (pe_lst (pa_cons (pe_callB call_isX (by rfl) N.isinstance bt_isi (pa_cons (pv 0) (pa_cons (pe_bltn (v := .ty "KeyError") (by rfl) Y.KeyError (by decide +kernel) rfl) pa_nil))) (pa_cons (pe_callB call_isX (by rfl) N.isinstance bt_isi (pa_cons (pv 0) (pa_cons (pe_bltn (v := .ty "IndexError") (by rfl) Y.IndexError (by decide +kernel) rfl) pa_nil))) pa_nil))))
      (pss_one (ps_ret (pe_op op_cat (pe_op op_cat (pv 1) (pv 2)) (pe_lst (pa_cons (pe_callB call_isX (by rfl) N.isinstance bt_isi (pa_cons (pv 0) (pa_cons (pe_bltn (v := .ty "RuntimeError") (by rfl) Y.RuntimeError (by decide +kernel) rfl) pa_nil))) (pa_cons (pe_callB call_isX (by rfl) N.isinstance bt_isi (pa_cons (pv 0) (pa_cons (pe_bltn (v := .ty "AttributeError") (by rfl) Y.AttributeError (by decide +kernel) rfl) pa_nil))) (pa_cons (pe_callB call_isX (by rfl) N.isinstance bt_isi (pa_cons (pv 0) (pa_cons (pe_bltn (v := .ty "Exception") (by rfl) Y.Exception (by decide +kernel) rfl) pa_nil))) pa_nil)))))))), ?_⟩
    have one : ∀ (n : String) (H' : Hp) (Q' : VK) (σ : L2.St), PySem.W.kitMeta n = true → Same H H' → σ[0]? = some (some (.ref a)) → Q' (.bl ((tl (bsE i)).contains (.type n))) H' → tCB (rIsX K) (tCons (tVar 0) (tCons (tC (.ty n)) tNil)) σ H' Q' :=
      fun n H' Q' σ hm s e z => ⟨_, e, a, C i, fs, .ty n, _, _, rfl, .ty _, (T.e i hi).ex, ex_same s hx, kit_T (T.e i hi) hm, z⟩
    refine one _ _ _ _ (by decide +kernel) (Same.refl _) rfl (one _ _ _ _ (by decide +kernel) (Same.refl _) rfl (one _ _ _ _ (by decide +kernel) (Same.refl _) rfl ⟨by show 3 ≤ sizeLine; decide, fun p1 h1 => ?_⟩))
    have s1 := new_same (o := .lst [.bl ((tl (bsE i)).contains (.type "LookupError")), .bl ((tl (bsE i)).contains (.type "ValueError")), .bl ((tl (bsE i)).contains (.type "TypeError"))]) h1
    refine one _ _ _ _ (by decide +kernel) s1 rfl (one _ _ _ _ (by decide +kernel) s1 rfl ⟨by show 2 ≤ sizeLine; decide, fun p2 h2 => ?_⟩)
    have s2 := new_same (o := .lst [.bl ((tl (bsE i)).contains (.type "KeyError")), .bl ((tl (bsE i)).contains (.type "IndexError"))]) h2
    refine ⟨_, rfl, _, rfl, p1, p2, _, _, rfl, rfl, s2 _ _ upd_same, upd_same, (by show 3 + 2 ≤ sizeLine; decide), fun p3 h3 => ?_⟩
    have s3 := new_same (o := .lst ([V.bl ((tl (bsE i)).contains (.type "LookupError")), .bl ((tl (bsE i)).contains (.type "ValueError")), .bl ((tl (bsE i)).contains (.type "TypeError"))] ++ [V.bl ((tl (bsE i)).contains (.type "KeyError")), .bl ((tl (bsE i)).contains (.type "IndexError"))])) h3
    have s13 := s1.trans (s2.trans s3)
    refine one _ _ _ _ (by decide +kernel) s13 rfl (one _ _ _ _ (by decide +kernel) s13 rfl (one _ _ _ _ (by decide +kernel) s13 rfl ⟨by show 3 ≤ sizeLine; decide, fun p4 h4 => ?_⟩))
    have s4 := new_same (o := .lst [V.bl ((tl (bsE i)).contains (.type "RuntimeError")), .bl ((tl (bsE i)).contains (.type "AttributeError")), .bl ((tl (bsE i)).contains (.type "Exception"))]) h4
    refine ⟨p3, p4, _, _, rfl, rfl, s4 _ _ upd_same, upd_same, (by show 5 + 3 ≤ sizeLine; decide), fun p5 h5 => ?_⟩
    refine q _ p5 (s13.trans (s4.trans (new_same h5))) ((s13.trans s4).free h5) ?_
    rw [upd_same, ← und_E]
    rfl
theorem ok_which {f : Addr} {fd : FuncData} {k : Nat} {C : Nat → Addr} (F : Fun K "_law_which" "_law_which" sWhich f fd) (N : Nat0 mg) (T : Ten K mg C) : FnOk P w K mg base CX0 (k + 1) f fd ["_law_error_so"] (spList K C whiE) := by
  refine F.ok scWhich (fun vs H Q E h => ?_) (fun cdv A outer s H vs Q E hr h => ?_)
  · obtain ⟨a, i, fs, rfl, _⟩ := h
    rfl
  · obtain ⟨a, i, fs, rfl, hi, hx, q⟩ := h
    refine ⟨_, pss_cons (ps_set (i := 1) scWhich.nd rfl (.inl rfl) (pe_lst (pa_cons (pe_callB call_isX (by rfl) N.isinstance bt_isi (pa_cons (pv 0) (pa_cons (pe_glob (v := .ref (C 0)) (by rfl) (T.e 0 (by decide)).g rfl) pa_nil))) (pa_cons (pe_callB call_isX (by rfl) N.isinstance bt_isi (pa_cons (pv 0) (pa_cons (pe_glob (v := .ref (C 1)) (by rfl) (T.e 1 (by decide)).g rfl) pa_nil))) (pa_cons (pe_callB call_isX (by rfl) N.isinstance bt_isi (pa_cons (pv 0) (pa_cons (pe_glob (v := .ref (C 2)) (by rfl) (T.e 2 (by decide)).g rfl) pa_nil))) (pa_cons (pe_callB call_isX (by rfl) N.isinstance bt_isi (pa_cons (pv 0) (pa_cons (pe_glob (v := .ref (C 3)) (by rfl) (T.e 3 (by decide)).g rfl) pa_nil))) pa_nil))))))
      (pss_cons (ps_set (i := 1) scWhich.nd rfl (.inl rfl) (pe_op op_cat (pv 1) (pe_lst (pa_cons (pe_callB call_isX (by rfl) N.isinstance bt_isi (pa_cons (pv 0) (pa_cons (pe_glob (v := .ref (C 4)) (by rfl) (T.e 4 (by decide)).g rfl) pa_nil))) (pa_cons (pe_callB call_isX (by rfl) N.isinstance bt_isi (pa_cons (pv 0) (pa_cons (pe_glob (v := .ref (C 5)) (by rfl) (T.e 5 (by decide)).g rfl) pa_nil))) (pa_cons (pe_callB call_isX (by rfl) N.isinstance bt_isi (pa_cons (pv 0) (pa_cons (pe_glob (v := .ref (C 6)) (by rfl) (T.e 6 (by decide)).g rfl) pa_nil))) pa_nil))))))
      (pss_one (ps_ret (pe_op op_cat (pv 1) (pe_lst (pa_cons (pe_callB call_isX (by rfl) N.isinstance bt_isi (pa_cons (pv 0) (pa_cons (pe_glob (v := .ref (C 7)) (by rfl) (T.e 7 (by decide)).g rfl) pa_nil))) (pa_cons (pe_callB call_isX (by rfl) N.isinstance bt_isi (pa_cons (pv 0) (pa_cons (pe_glob (v := .ref (C 8)) (by rfl) (T.e 8 (by decide)).g rfl) pa_nil))) (pa_cons (pe_callB call_isX (by rfl) N.isinstance bt_isi (pa_cons (pv 0) (pa_cons (pe_glob (v := .ref (C 9)) (by rfl) (T.e 9 (by decide)).g rfl) pa_nil))) pa_nil)))))))), ?_⟩
    have one : ∀ (j : Nat) (H' : Hp) (Q' : VK) (σ : L2.St), j < 10 → Same H H' → σ[0]? = some (some (.ref a)) → Q' (.bl (decide (j = i))) H' → tCB (rIsX K) (tCons (tVar 0) (tCons (tC (.ref (C j))) tNil)) σ H' Q' := by
      intro j H' Q' σ hj s e z
      refine ⟨_, e, a, C i, fs, .ref (C j), _, _, rfl, .own _, (T.e i hi).ex, ex_same s hx, kit_C (T.e i hi) (T.e j hj), ?_⟩
      have e2 : decide (C i = C j) = decide (j = i) := by
        by_cases h : j = i
        · rw [h, decide_eq_true rfl, decide_eq_true rfl]
        · rw [decide_eq_false h, decide_eq_false fun x => h (T.inj i j hi hj x).symm]
      rw [e2]
      exact z
    refine one 0 _ _ _ (by decide) (Same.refl _) rfl (one 1 _ _ _ (by decide) (Same.refl _) rfl (one 2 _ _ _ (by decide) (Same.refl _) rfl (one 3 _ _ _ (by decide) (Same.refl _) rfl ⟨by show 4 ≤ sizeLine; decide, fun p1 h1 => ?_⟩)))
    have s1 := new_same (o := .lst [.bl (decide (0 = i)), .bl (decide (1 = i)), .bl (decide (2 = i)), .bl (decide (3 = i))]) h1
    refine ⟨_, rfl, one 4 _ _ _ (by decide) s1 rfl (one 5 _ _ _ (by decide) s1 rfl (one 6 _ _ _ (by decide) s1 rfl ⟨by show 3 ≤ sizeLine; decide, fun p2 h2 => ?_⟩))⟩
    have s2 := new_same (o := .lst [.bl (decide (4 = i)), .bl (decide (5 = i)), .bl (decide (6 = i))]) h2
    refine ⟨p1, p2, _, _, rfl, rfl, s2 _ _ upd_same, upd_same, (by show 4 + 3 ≤ sizeLine; decide), fun p3 h3 => ?_⟩
    have s3 := new_same (o := .lst ([V.bl (decide (0 = i)), .bl (decide (1 = i)), .bl (decide (2 = i)), .bl (decide (3 = i))] ++ [V.bl (decide (4 = i)), .bl (decide (5 = i)), .bl (decide (6 = i))])) h3
    have s13 := s1.trans (s2.trans s3)
    refine ⟨_, rfl, one 7 _ _ _ (by decide) s13 rfl (one 8 _ _ _ (by decide) s13 rfl (one 9 _ _ _ (by decide) s13 rfl ⟨by show 3 ≤ sizeLine; decide, fun p4 h4 => ?_⟩))⟩
    have s4 := new_same (o := .lst [V.bl (decide (7 = i)), .bl (decide (8 = i)), .bl (decide (9 = i))]) h4
    refine ⟨p3, p4, _, _, rfl, rfl, s4 _ _ upd_same, upd_same, (by show 7 + 3 ≤ sizeLine; decide), fun p5 h5 => ?_⟩
    exact q _ p5 (s13.trans (s4.trans (new_same h5))) ((s13.trans s4).free h5) upd_same
end
end Kz

namespace Kz
open PySem PySem.Spec PyProof.Rows L2 RZ Kx
/-! ### the data that are compared -/
def bL (bs : List Bool) : PyData := .list (bs.map .bool)
def dNums (n : Int) : PyData := .list (List.replicate 5 (.int n))
def dRows (r : Str) : PyData := .list (List.replicate 2 (.str r))
def dsE (n : Int) (r : Str) : Nat → List PyData
  | 0 => [dNums n, dRows r, dNums n, dRows r]
  | i + 1 => dsE n r i ++ [bL (undE i), bL (whiE i)]
theorem small_app : ∀ {xs ys : List PyData}, smallAll xs → smallAll ys → smallAll (xs ++ ys)
  | [], _, _, h => h
  | _ :: _, _, h, h' => ⟨h.1, small_app h.2 h'⟩
theorem depth_app : ∀ {xs ys : List PyData} {n : Nat}, PyData.depthAll xs ≤ n → PyData.depthAll ys ≤ n → PyData.depthAll (xs ++ ys) ≤ n
  | [], _, _, _, h => h
  | x :: xs, ys, n, h, h' => by
    rw [PyData.depthAll] at h
    show PyData.depthAll (x :: (xs ++ ys)) ≤ n
    rw [PyData.depthAll]
    exact Nat.max_le.mpr ⟨(Nat.max_le.mp h).1, depth_app (Nat.max_le.mp h).2 h'⟩
theorem small_bs : ∀ bs : List Bool, smallAll (bs.map .bool)
  | [] => True.intro
  | _ :: bs => ⟨True.intro, small_bs bs⟩
theorem depth_bs : ∀ bs : List Bool, PyData.depthAll (bs.map .bool) = 0
  | [] => by simp only [List.map_nil, PyData.depthAll]
  | _ :: bs => by rw [List.map_cons, PyData.depthAll, depth_bs bs, PyData.depth]; rfl
theorem small_bL {bs : List Bool} (h : bs.length ≤ 1000000) : small (bL bs) := ⟨by rw [List.length_map]; exact h, small_bs bs⟩
theorem depth_bL (bs : List Bool) : (bL bs).depth = 1 := by unfold bL; rw [PyData.depth, depth_bs]
theorem len_und (i : Nat) : (undE i).length = 8 := by unfold undE; split <;> rfl
theorem len_whi (i : Nat) : (whiE i).length = 10 := by unfold whiE; rw [List.length_map]; rfl
theorem dsE_ok (n : Int) (r : Str) : ∀ i, smallAll (dsE n r i) ∧ PyData.depthAll (dsE n r i) ≤ 1 ∧ (dsE n r i).length = 4 + 2 * i
  | 0 => by
    have a : small (dNums n) := ⟨by rw [List.length_replicate]; decide, True.intro, True.intro, True.intro, True.intro, True.intro, True.intro⟩
    have b : small (dRows r) := ⟨by rw [List.length_replicate]; decide, True.intro, True.intro, True.intro⟩
    refine ⟨⟨a, b, a, b, True.intro⟩, ?_, rfl⟩
    simp [dsE, dNums, dRows, PyData.depth, PyData.depthAll, List.replicate]
  | i + 1 => by
    obtain ⟨a, b, c⟩ := dsE_ok n r i
    refine ⟨small_app a ⟨small_bL (by rw [len_und]; decide), small_bL (by rw [len_whi]; decide), True.intro⟩, depth_app b ?_, ?_⟩
    · simp only [PyData.depthAll, depth_bL]
      decide
    · show (dsE n r i ++ [bL (undE i), bL (whiE i)]).length = _
      rw [List.length_append, c]
      simp
      omega
section
variable {P : Program} {w : World} {K : PySem.W.Frag} {mg : Str → Option Value} {base : Heap}
theorem dp_bs {H : Hp} : ∀ bs : List Bool, DpAll K H (bs.map V.bl) (bs.map .bool)
  | [] => .nil
  | b :: bs => .cons (.bl b) (dp_bs bs)
theorem dp_bL {H : Hp} {p : Addr} {bs : List Bool} (h : H p = some (.lst (bs.map V.bl))) : Dp K H (.ref p) (bL bs) := .lst (SqL.of h) (dp_bs bs)
theorem dp_ints {H : Hp} (n : Int) : ∀ m : Nat, DpAll K H (List.replicate m (V.int n)) (List.replicate m (.int n))
  | 0 => .nil
  | m + 1 => .cons (.int n) (dp_ints n m)
theorem dp_strs {H : Hp} (r : Str) : ∀ m : Nat, DpAll K H (List.replicate m (V.str r)) (List.replicate m (.str r))
  | 0 => .nil
  | m + 1 => .cons (.str r) (dp_strs r m)
theorem dp_app {H : Hp} : ∀ {xs ys : List V} {ds es : List PyData}, DpAll K H xs ds → DpAll K H ys es → DpAll K H (xs ++ ys) (ds ++ es)
  | _, _, _, _, .nil, h => h
  | _, _, _, _, .cons a r, h => .cons a (dp_app r h)
/-- an __init__ that is walked: its place, its promise, how it binds by place and by name -/
def IniOk (P : Program) (w : World) (K : PySem.W.Frag) (mg : Str → Option Value) (base : Heap) (C : Addr) (f : Str) : Prop := ∃ (g : Addr) (fd : FuncData), Own K C g ∧ FnOk P w K mg base CX0 1 g fd ["self", f] (spInit C f) ∧ Binds K fd ["self", f] [] ∧
  ∀ (s : Shared) (v : Value) (ws : List Value), K.In s.heap → ws.length + 1 = (["self", f] : List Str).length → BindsTo s fd ⟨[v], ([f] : List Str).zip ws⟩ ((["self", f] : List Str).zip (v :: ws))
/-- an error that keeps y by the name f -/
def Keeps (K : PySem.W.Frag) (C : Nat → Addr) (H : Hp) (f : Str) (y : V) (v : V) : Prop := ∃ (a : Addr) (i : Nat), v = .ref a ∧ i < 10 ∧ ExAt H a (C i) [(f, y)]
theorem keeps_same {C : Nat → Addr} {H H' : Hp} {f : Str} {y v : V} (s : Same H H') (h : Keeps K C H f y v) : Keeps K C H' f y v := by
  obtain ⟨a, i, e, hi, x⟩ := h
  exact ⟨a, i, e, hi, ex_same s x⟩
/-- its field is read -/
theorem rd_get {C : Nat → Addr} {H : Hp} {f : Str} {y v : V} {te : TE} {σ : L2.St} {Q : VK} (T : Ten K mg C) (no : ∀ i, i < 10 → PySem.W.findIn K (.ref (C i)) f = some none) (h : Keeps K C H f y v) (q : Q y H) (ht : ∀ R : VK, R v H → te σ H R) : tGetX K f te σ H Q := by
  obtain ⟨a, i, rfl, hi, x⟩ := h
  rw [tGetX_is]
  rcases x with ⟨e, _⟩ | ⟨dx, h1, h2⟩
  · cases e
  · exact ht _ ⟨a, C i, dx, _, y, rfl, h1, h2, (T.e i hi).ex, no i hi, by simp [List.lookup], q⟩
/-- .. of one that is made on the spot -/
theorem rd_getmk {C : Nat → Addr} {j i : Nat} {f : Str} {y : V} {σ : L2.St} {H : Hp} {Q : VK} (T : Ten K mg C) (hj : j < 10) (no : ∀ i, i < 10 → PySem.W.findIn K (.ref (C i)) f = some none) (e : σ[i]? = some (some y)) (q : ∀ H', Same H H' → Q y H') : tGetX K f (tMkV (C j) (spInit (C j) f) (tCons (tVar i) tNil)) σ H Q := by
  rw [tGetX_is]
  refine rd_mk e fun H' a s _ x => ?_
  rcases x with ⟨e, _⟩ | ⟨dx, h1, h2⟩
  · cases e
  · exact ⟨a, C j, dx, _, y, rfl, h1, h2, (T.e j hj).ex, no j hj, by simp [List.lookup], q H' s⟩
theorem rd_nums {C : Nat → Addr} {H1 : Hp} {a D : Addr} {xs : List V} {n : Int} {σ : L2.St} {Qd : Hp → Prop} (T : Ten K mg C) (hD : H1 D = none) (hS : SqL K H1 a xs) (hl : xs.length ≤ 1000) (σl : 5 < σ.length) (hx : ∀ v ∈ xs, Keeps K C H1 "number" (.int n) v)
    (q : ∀ H' : Hp, Same H1 H' → H' D = some (.lst (List.replicate xs.length (V.int n))) → Qd H') :
    ∃ W : Nat → Nat → Hp → Prop, (∃ m, W 0 m (upd H1 D (.lst []))) ∧ ∀ i m H, W i m H →
      ((Itl K a).stop i H ∧ Qd H) ∨ ((Itl K a).go i H ∧ ∃ Nx : Hp → Prop, (∀ H', Nx H' → ∃ m', m' < m ∧ W (i + 1) m' H') ∧ ∀ x H', (Itl K a).yld i H x H' → gName 5 x (wipe σ [5]) H' fun σ2 H2 => wipe σ2 [5] = wipe σ [5] ∧ tYes σ2 H2 fun b H3 =>
        if b = true then tGetX K "number" (tVar 5) σ2 H3 fun y H4 => ∃ acc, H4 D = some (.lst acc) ∧ acc.length < sizeLine ∧ Nx (upd H4 D (.lst (acc ++ [y]))) else Nx H3) := by
  refine lc_list (K := K) (a := a) (xs := xs) (fun i H => Same H1 H ∧ H D = some (.lst (List.replicate i (V.int n)))) ⟨new_same hD, upd_same⟩ (fun i H _ p => p.1.seq hS) (fun i x H e p => ?_) (fun H p => q H p.1 p.2)
  have hm : x ∈ xs := List.mem_of_getElem? e
  have hi : i < xs.length := (List.getElem?_eq_some_iff.mp e).1
  refine ⟨?_, ?_⟩
  · show ((wipe σ [5]).set 5 (some x)).set 5 none = wipe σ [5]
    rw [List.set_set]
    show (σ.set 5 none).set 5 none = σ.set 5 none
    rw [List.set_set]
  · unfold tYes
    dsimp only
    rw [if_pos rfl]
    refine rd_get T T.nN (keeps_same p.1 (hx x hm)) ⟨_, p.2, ?_, fun b o e => (upd_ne (ne_of_none e hD)).trans (p.1 _ _ e), ?_⟩ (fun R z => ⟨x, ?_, z⟩)
    · rw [List.length_replicate]
      exact Nat.lt_of_lt_of_le (show i < 1000 by omega) (by decide)
    · rw [upd_same, List.replicate_succ']
    · show ((σ.set 5 none).set 5 (some x))[5]? = _
      rw [List.set_set, List.getElem?_set_self σl]
/-! ### the errors, made and asked -/
abbrev nMade : List Str := ["_law_number_so", "_law_row_so", "_law_value_so", "_law_look_so", "_law_made_so", "_law_own", "_law_got", "_law_due_so", "_law_more_so", "_law_at_so", "_law_is_look", "_law_k"]
theorem scMade : FnScope nMade ["_law_number_so", "_law_row_so"] (defScope sMade) := ⟨rfl, rfl, rfl, by decide +kernel, rfl, by decide +kernel, by decide +kernel⟩
def spMade : Sp := fun vs H Q _ => ∃ (n : Int) (r : Str), vs = [.int n, .str r] ∧ ∀ H', Same H H' → Q (.bl true) H'
end
end Kz


namespace Kz
open PySem PySem.Spec PyProof.Rows L2 RZ Kx
section
variable {P : Program} {w : World} {K : PySem.W.Frag} {mg : Str → Option Value} {base : Heap}
/-- as + [False] * k + [True] -/
theorem rd_row {as : List V} {k : Nat} {ta : TE} {σ : L2.St} {H : Hp} {Q : VK} (hk : k ≤ 10) (hl : as.length ≤ 10) (ha : ∀ R : VK, (∀ p, H p = none → R (.ref p) (upd H p (.lst as))) → ta σ H R)
    (q : ∀ (H' : Hp) (p : Addr), Same H H' → H p = none → H' p = some (.lst (as ++ (List.replicate k [V.bl false]).flatten ++ [V.bl true])) → Q (.ref p) H') :
    tOp rCat (tOp rCat ta (tOp rRep (tLst (tCons (tC (.bl false)) tNil)) (tC (.int k)))) (tLst (tCons (tC (.bl true)) tNil)) σ H Q := by
  have e10 : (List.replicate k [V.bl false]).flatten.length = k := by simp
  have hz : ∀ m : Nat, m ≤ 40 → m ≤ sizeLine := fun m h => Nat.le_trans h (by decide)
  refine ha _ fun p1 h1 => ⟨hz _ (by decide), fun p2 h2 => ?_⟩
  refine ⟨p2, k, _, rfl, rfl, upd_same, by omega, by omega, ?_, fun p3 h3 => ?_⟩
  · show 1 * (k : Int).toNat ≤ sizeLine
    exact hz _ (by omega)
  rw [Int.toNat_natCast]
  have s1 := new_same (o := .lst as) h1
  have s2 := new_same (o := .lst [V.bl false]) h2
  have s3 := new_same (o := .lst (List.replicate k [V.bl false]).flatten) h3
  refine ⟨p1, p3, _, _, rfl, rfl, s3 _ _ (s2 _ _ upd_same), upd_same, hz _ (by rw [e10]; omega), fun p4 h4 => ?_⟩
  have s4 := new_same (o := .lst (as ++ (List.replicate k [V.bl false]).flatten)) h4
  refine ⟨hz _ (by decide), fun p5 h5 => ?_⟩
  have s5 := new_same (o := .lst [V.bl true]) h5
  refine ⟨p4, p5, _, _, rfl, rfl, s5 _ _ upd_same, upd_same, hz _ (by rw [List.length_append, e10]; show as.length + k + 1 ≤ 40; omega), fun p6 h6 => ?_⟩
  have s15 := s1.trans (s2.trans (s3.trans (s4.trans s5)))
  exact q _ p6 (s15.trans (new_same h6)) (s15.free h6) upd_same
theorem row_V : ([V.bl false, .bl true] : List V) ++ (List.replicate 5 [V.bl false]).flatten ++ [V.bl true] = valL.map V.bl := rfl
theorem inv56 : ∀ i, i < 10 → inV (.int (i : Nat)) [.int 5, .int 6] = decide (i = 5 ∨ i = 6) := by decide
/-- due's last two: a row of bools, the row of where it stands -/
theorem rd_last {i : Nat} {d : Addr} {v : V} {ys : List V} {σ : L2.St} {H6 : Hp} {R : VK} (hi : i < 10) (σ9 : σ[9]? = some (some (.int (i : Nat)))) (σl : 11 < σ.length) (hd : H6 d = some (.lst ys)) (hy : ys.length ≤ 900)
    (q : ∀ (H' : Hp) (p D : Addr), Same H6 H' → H' p = some (.lst (ys ++ [v, .ref D])) → H' D = some (.lst ((whiE i).map V.bl)) → R (.ref p) H') :
    tCons (tLc (iRng1 (tCons (tC (.int 10)) tNil)) (gName 11) tYes (tOp rEq (tVar 11) (tVar 9)) [11]) tNil σ H6 (fun zs H7 => (v :: zs).length ≤ sizeLine ∧ ∀ p, H7 p = none → rCat (.ref d) (.ref p) (upd H7 p (.lst (v :: zs))) R) := by
  refine ⟨10, rfl, by decide, by decide, fun D hD => lc_range (lo := 0) (n := 10) (fun k H' => Same H6 H' ∧ H' D = some (.lst ((List.range k).map fun j => V.bl (decide (j = i))))) ⟨new_same hD, upd_same⟩ (fun k H' hk p => ⟨?_, ?_⟩) (fun H' p => ?_)⟩
  · show ((wipe σ [11]).set 11 _).set 11 none = wipe σ [11]
    rw [List.set_set]
    show (σ.set 11 none).set 11 none = σ.set 11 none
    rw [List.set_set]
  · unfold tYes
    dsimp only
    rw [if_pos rfl]
    refine ⟨.int (0 + (k : Nat)), ?_, .int (i : Nat), ?_, rfl, _, p.2, ?_, fun b o e => (upd_ne (ne_of_none e hD)).trans (p.1 _ _ e), ?_⟩
    · show ((σ.set 11 none).set 11 (some (.int (0 + (k : Nat)))))[11]? = _
      rw [List.set_set, List.getElem?_set_self σl]
    · show ((σ.set 11 none).set 11 (some (.int (0 + (k : Nat)))))[9]? = _
      rw [List.set_set, List.getElem?_set_ne (by decide)]
      exact σ9
    · rw [List.length_map, List.length_range]
      exact Nat.lt_of_lt_of_le (show k < 10 from hk) (by decide)
    · have e2 : decide (V.int (0 + (k : Nat)) = V.int (i : Nat)) = decide (k = i) := by
        by_cases h : k = i
        · subst h
          rw [Int.zero_add, decide_eq_true rfl, decide_eq_true rfl]
        · rw [decide_eq_false h, decide_eq_false fun z => h (by
            have z' := V.int.inj z
            omega)]
      rw [upd_same, e2, List.range_succ, List.map_append]
      rfl
  · have e10 : H' D = some (.lst ((whiE i).map V.bl)) := by
      rw [p.2]
      unfold whiE
      rw [List.map_map]
      rfl
    refine ⟨by show 2 ≤ sizeLine; decide, fun z hz => ?_⟩
    have w1 := new_same (o := .lst [v, .ref D]) hz
    refine ⟨d, z, ys, _, rfl, rfl, w1 _ _ (p.1 _ _ hd), upd_same, ?_, fun z' hz' => ?_⟩
    · show ys.length + 2 ≤ sizeLine
      exact Nat.le_trans (show ys.length + 2 ≤ 1000 by omega) (by decide)
    · have w2 := new_same (o := .lst (ys ++ [v, .ref D])) hz'
      exact q _ z' D (p.1.trans (w1.trans w2)) upd_same (w2 _ _ (w1 _ _ e10))
theorem row_L : ([V.bl true] : List V) ++ (List.replicate 6 [V.bl false]).flatten ++ [V.bl true] = lookL.map V.bl := rfl

theorem ok_made {f fU fW fS : Addr} {fd fdU fdW fdS : FuncData} {C : Nat → Addr} (F : Fun K "_law_made_right" "_law_made_right" sMade f fd) (N : Nat0 mg) (Y : NatE mg) (T : Ten K mg C) (J0 : IniOk P w K mg base (C 0) "number") (J1 : IniOk P w K mg base (C 1) "number") (J3 : IniOk P w K mg base (C 3) "number") (J4 : IniOk P w K mg base (C 4) "number") (J5 : IniOk P w K mg base (C 5) "number") (J6 : IniOk P w K mg base (C 6) "row") (J8 : IniOk P w K mg base (C 8) "row") (Z2 : PySem.W.findIn K (.ref (C 2)) "__init__" = some (some (.builtin "ValueError.__init__"))) (Z7 : PySem.W.findIn K (.ref (C 7)) "__init__" = some (some (.builtin "ValueError.__init__"))) (Z9 : PySem.W.findIn K (.ref (C 9)) "__init__" = some (some (.builtin "ValueError.__init__"))) 
    (FU : Fun K "_law_under" "_law_under" sUnder fU fdU) (bU : Binds K fdU ["_law_error_so"] []) (gU : mg "_law_under" = some (.ref fU)) (FW : Fun K "_law_which" "_law_which" sWhich fW fdW) (bW : Binds K fdW ["_law_error_so"] []) (gW : mg "_law_which" = some (.ref fW))
    (FS : Fun K "_law_same" "_law_same" sSame fS fdS) (bS : Binds K fdS ["_law_got", "_law_due"] []) (gS : mg "_law_same" = some (.ref fS)) : FnOk P w K mg base CX0 4 f fd ["_law_number_so", "_law_row_so"] spMade := by
  obtain ⟨I0, fd0, O0, F0, b0, k0⟩ := J0
  obtain ⟨I1, fd1, O1, F1, b1, k1⟩ := J1
  obtain ⟨I3, fd3, O3, F3, b3, k3⟩ := J3
  obtain ⟨I4, fd4, O4, F4, b4, k4⟩ := J4
  obtain ⟨I5, fd5, O5, F5, b5, k5⟩ := J5
  obtain ⟨I6, fd6, O6, F6, b6, k6⟩ := J6
  obtain ⟨I8, fd8, O8, F8, b8, k8⟩ := J8
  have GU : FnOk P w K mg base CX0 1 fU fdU ["_law_error_so"] (spList K C undE) := ok_under FU N Y T
  have GW : FnOk P w K mg base CX0 1 fW fdW ["_law_error_so"] (spList K C whiE) := ok_which FW N T
  have GS : FnOk P w K mg base CX0 3 fS fdS ["_law_got", "_law_due"] (spSame K 2) := ok_same FS N bS gS 2
  refine F.ok scMade (fun vs H Q E h => ?_) (fun cdv A outer s H vs Q E hr h => ?_)
  · obtain ⟨n, r, rfl, _⟩ := h
    rfl
  · obtain ⟨n, r, rfl, q⟩ := h
    have hr2 : Room 2 _ := hr.mono (by decide)
    have hr1 : Room 1 _ := hr.mono (by decide)
    refine ⟨_, pss_cons (ps_par (i := 2) (j := 3) rfl scMade.nd rfl rfl (by decide) rfl rfl (pa_cons (pe_op op_cat (pe_op op_cat (pe_lst (pa_cons pe_bl (pa_cons pe_bl pa_nil))) (pe_op op_rep (pe_lst (pa_cons pe_bl pa_nil)) pe_int)) (pe_lst (pa_cons pe_bl pa_nil))) (pa_cons (pe_op op_cat (pe_op op_cat (pe_lst (pa_cons pe_bl pa_nil)) (pe_op op_rep (pe_lst (pa_cons pe_bl pa_nil)) pe_int)) (pe_lst (pa_cons pe_bl pa_nil))) pa_nil)) (by rfl))
      (pss_cons (ps_set (i := 4) scMade.nd rfl (.inl rfl) (pe_lst (pa_cons (pe_mkV PySem.F.excBase_ValueError (T.e 0 (by decide)) O0 F0 hr2 b0 pass0 (by rfl) (pa_cons (pv 0) pa_nil)) (pa_cons (pe_mkV PySem.F.excBase_ValueError (T.e 1 (by decide)) O1 F1 hr2 b1 pass0 (by rfl) (pa_cons (pv 0) pa_nil)) (pa_cons (pe_mk0 PySem.F.excBase_ValueError (T.e 2 (by decide)) Z2 (by rfl)) (pa_cons (pe_mkV PySem.F.excBase_ValueError (T.e 3 (by decide)) O3 F3 hr2 b3 pass0 (by rfl) (pa_cons (pv 0) pa_nil)) (pa_cons (pe_mkV PySem.F.excBase_ValueError (T.e 4 (by decide)) O4 F4 hr2 b4 pass0 (by rfl) (pa_cons (pv 0) pa_nil)) (pa_cons (pe_mkV PySem.F.excBase_LookupError (T.e 5 (by decide)) O5 F5 hr2 b5 pass0 (by rfl) (pa_cons (pv 0) pa_nil)) pa_nil))))))))
      (pss_cons (ps_set (i := 4) scMade.nd rfl (.inl rfl) (pe_op op_cat (pv 4) (pe_lst (pa_cons (pe_mkV PySem.F.excBase_LookupError (T.e 6 (by decide)) O6 F6 hr2 b6 pass0 (by rfl) (pa_cons (pv 1) pa_nil)) (pa_cons (pe_mk0 PySem.F.excBase_ValueError (T.e 7 (by decide)) Z7 (by rfl)) (pa_cons (pe_mkV PySem.F.excBase_ValueError (T.e 8 (by decide)) O8 F8 hr2 b8 pass0 (by rfl) (pa_cons (pv 1) pa_nil)) (pa_cons (pe_mk0 PySem.F.excBase_ValueError (T.e 9 (by decide)) Z9 (by rfl)) pa_nil)))))))
      (pss_cons (ps_set (i := 6) scMade.nd rfl (.inl rfl) (pe_lst (pa_cons (pe_lc (own := [("_law_own", 5)]) (g := gName 5) (tt := tYes) rfl scMade.nd (pi_list (pe_op op_cat (pe_slice sl_list (pv 4) po_none (po_some pe_int)) (pe_slice sl_list (pv 4) (po_some pe_int) (po_some pe_int)))) (blkOk_by (own := [("_law_own", 5)]) (N := nMade) (sc := defScope sMade) (by decide +kernel)) (fun _ _ _ _ _ => pg_name (i := 5) scMade.nd rfl (Or.inl rfl)) (fun _ _ _ _ _ => pts_nil) (fun _ _ _ _ _ => by exact (pe_getK (K := K) rfl (pv 5)))) (pa_cons (pe_lst (pa_cons (by exact (pe_getX (pe_ix ix_list (pv 4) pe_int (fun _ _ => rfl)))) (pa_cons (by exact (pe_getX (pe_ix ix_list (pv 4) pe_int (fun _ _ => rfl)))) pa_nil))) pa_nil))))
      (pss_cons (ps_set (i := 7) scMade.nd rfl (.inl rfl) (pe_lst (pa_cons (pe_op op_rep (pe_lst (pa_cons (pv 0) pa_nil)) pe_int) (pa_cons (pe_op op_rep (pe_lst (pa_cons (pv 1) pa_nil)) pe_int) pa_nil))))
      (pss_cons (ps_set (i := 8) scMade.nd rfl (.inl rfl) (pe_lst (pa_cons (pe_mkK (ks := ["number"]) PySem.F.excBase_ValueError (T.e 0 (by decide)) O0 F0 hr2 k0 pass0 (by rfl) (pk_cons (pv 0) pk_nil)) (pa_cons (pe_mkK (ks := ["number"]) PySem.F.excBase_ValueError (T.e 1 (by decide)) O1 F1 hr2 k1 pass0 (by rfl) (pk_cons (pv 0) pk_nil)) (pa_cons (pe_mkK (ks := ["number"]) PySem.F.excBase_ValueError (T.e 3 (by decide)) O3 F3 hr2 k3 pass0 (by rfl) (pk_cons (pv 0) pk_nil)) (pa_cons (pe_mkK (ks := ["number"]) PySem.F.excBase_ValueError (T.e 4 (by decide)) O4 F4 hr2 k4 pass0 (by rfl) (pk_cons (pv 0) pk_nil)) pa_nil))))))
      (pss_cons (ps_expr (pe_bm PySem.F.plainAttrs_list PySem.F.slot_list_append PySem.F.type_list_append mt_append (pv 8) (pa_cons (pe_mkK (ks := ["number"]) PySem.F.excBase_LookupError (T.e 5 (by decide)) O5 F5 hr2 k5 pass0 (by rfl) (pk_cons (pv 0) pk_nil)) pa_nil)))
      (pss_cons (ps_set (i := 6) scMade.nd rfl (.inl rfl) (pe_op op_cat (pv 6) (pe_lst (pa_cons (pe_lc (own := [("_law_own", 5)]) (g := gName 5) (tt := tYes) rfl scMade.nd (pi_list (pv 8)) (blkOk_by (own := [("_law_own", 5)]) (N := nMade) (sc := defScope sMade) (by decide +kernel)) (fun _ _ _ _ _ => pg_name (i := 5) scMade.nd rfl (Or.inl rfl)) (fun _ _ _ _ _ => pts_nil) (fun _ _ _ _ _ => by exact (pe_getK (K := K) rfl (pv 5)))) (pa_cons (pe_lst (pa_cons (by exact (pe_getX (pe_mkK (ks := ["row"]) PySem.F.excBase_LookupError (T.e 6 (by decide)) O6 F6 hr2 k6 pass0 (by rfl) (pk_cons (pv 1) pk_nil)))) (pa_cons (by exact (pe_getX (pe_mkK (ks := ["row"]) PySem.F.excBase_ValueError (T.e 8 (by decide)) O8 F8 hr2 k8 pass0 (by rfl) (pk_cons (pv 1) pk_nil)))) pa_nil))) pa_nil)))))
      (pss_cons (ps_set (i := 7) scMade.nd rfl (.inl rfl) (pe_op op_rep (pv 7) pe_int))
      (pss_cons (ps_for PassesOwn.never rfl (pi_enum (by rfl) N.enumerate (pa_cons (pv 4) pa_nil)) (pg_tup rfl (pgs_cons (pg_name (i := 9) scMade.nd rfl (.inr rfl)) (pgs_cons (pg_name (i := 5) scMade.nd rfl (.inl rfl)) pgs_nil))) (pss_cons (ps_set (i := 10) scMade.nd rfl (.inl rfl) (pe_cmpR op_in_seq (pv 9) (pe_tup (pa_cons pe_int (pa_cons pe_int pa_nil))) (by rfl))) (pss_cons (ps_set (i := 6) scMade.nd rfl (.inl rfl) (pe_op op_cat (pv 6) (pe_lst (pa_cons (pe_call GU hr1 (by rfl) gU FU.kp bU .nil pass0 (pa_cons (pv 5) pa_nil)) (pa_cons (pe_call GW hr1 (by rfl) gW FW.kp bW .nil pass0 (pa_cons (pv 5) pa_nil)) pa_nil))))) (pss_one (ps_set (i := 7) scMade.nd rfl (.inl rfl) (pe_op op_cat (pv 7) (pe_lst (pa_cons (pe_ifExp (pt_val (pv 10)) (pv 3) (pv 2)) (pa_cons (pe_lc (own := [("_law_k", 11)]) (g := gName 11) (tt := tYes) rfl scMade.nd (pi_range1 rfl N.range (pa_cons pe_int pa_nil)) (blkOk_by (own := [("_law_k", 11)]) (N := nMade) (sc := defScope sMade) (by decide +kernel)) (fun _ _ _ _ _ => pg_name (i := 11) scMade.nd rfl (Or.inl rfl)) (fun _ _ _ _ _ => pts_nil) (fun _ _ _ _ _ => pe_cmpR op_eq (pv 11) (pv 9) (nomark _))) pa_nil)))))))))
      (pss_one (ps_ret (pe_call GS hr (by rfl) gS FS.kp bS .nil pass0 (pa_cons (pv 6) (pa_cons (pv 7) pa_nil)))))))))))))), ?_⟩
    have hz : ∀ m : Nat, m ≤ 1000 → m ≤ sizeLine := fun m h => Nat.le_trans h (by decide)
    refine rd_row (as := [V.bl false, .bl true]) (k := 5) (by decide) (by decide) (fun R z => ⟨hz _ (by decide), z⟩) fun H1 pv s1 n1 e1 => ?_
    refine rd_row (as := [V.bl true]) (k := 6) (by decide) (by decide) (fun R z => ⟨hz _ (by decide), z⟩) fun H2 pl s2 n2 e2 => ⟨_, _, rfl, ?_⟩
    rw [row_V] at e1
    rw [row_L] at e2
    -- the first six, the last four
    refine rd_mk (by rfl) fun H3 a0 s3 _ x0 => ?_
    refine rd_mk (by rfl) fun H4 a1 s4 _ x1 => ?_
    refine rd_mk0 (fun H5 a2 s5 _ x2 => ?_) _
    refine rd_mk (by rfl) fun H6 a3 s6 _ x3 => ?_
    refine rd_mk (by rfl) fun H7 a4 s7 _ x4 => ?_
    refine rd_mk (by rfl) fun H8 a5 s8 _ x5 => ?_
    refine ⟨(by show 6 ≤ sizeLine; exact hz _ (by decide)), fun pm hm => ?_⟩
    have s9 := new_same (o := .lst [.ref a0, .ref a1, .ref a2, .ref a3, .ref a4, .ref a5]) hm
    refine ⟨_, rfl, rd_mk (by rfl) fun H10 a6 s10 _ x6 => ?_⟩
    refine rd_mk0 (fun H11 a7 s11 _ x7 => ?_) _
    refine rd_mk (by rfl) fun H12 a8 s12 _ x8 => ?_
    refine rd_mk0 (fun H13 a9 s13 _ x9 => ?_) _
    refine ⟨(by show 4 ≤ sizeLine; exact hz _ (by decide)), fun p2 h2 => ?_⟩
    have s14 := new_same (o := .lst [.ref a6, .ref a7, .ref a8, .ref a9]) h2
    have t913 := s10.trans (s11.trans (s12.trans s13))
    refine ⟨pm, p2, _, _, rfl, rfl, s14 _ _ (t913 _ _ upd_same), upd_same, (by show 6 + 4 ≤ sizeLine; exact hz _ (by decide)), fun pn hn => ?_⟩
    have s15 := new_same (o := .lst ([V.ref a0, .ref a1, .ref a2, .ref a3, .ref a4, .ref a5] ++ [V.ref a6, .ref a7, .ref a8, .ref a9])) hn
    generalize hH : upd (upd H13 p2 (.lst [.ref a6, .ref a7, .ref a8, .ref a9])) pn (.lst ([V.ref a0, .ref a1, .ref a2, .ref a3, .ref a4, .ref a5] ++ [V.ref a6, .ref a7, .ref a8, .ref a9])) = HA
    have en : HA pn = some (.lst [.ref a0, .ref a1, .ref a2, .ref a3, .ref a4, .ref a5, .ref a6, .ref a7, .ref a8, .ref a9]) := by rw [← hH]; exact upd_same
    rw [hH] at s15
    have u13 : Same H13 HA := s14.trans s15
    have u12 := s13.trans u13
    have u11 := s12.trans u12
    have u10 := s11.trans u11
    have u8 := s9.trans (s10.trans u10)
    have u7 := s8.trans u8
    have u6 := s7.trans u7
    have u5 := s6.trans u6
    have u4 := s5.trans u5
    have u3 := s4.trans u4
    have u2 := s3.trans u3
    have sA : Same H HA := s1.trans (s2.trans u2)
    have eV : HA pv = some (.lst (valL.map V.bl)) := u2 _ _ (s2 _ _ e1)
    have eL : HA pl = some (.lst (lookL.map V.bl)) := u2 _ _ e2
    have k0' : Keeps K C HA "number" (.int n) (.ref a0) := ⟨a0, 0, rfl, by decide, ex_same u3 x0⟩
    have k1' : Keeps K C HA "number" (.int n) (.ref a1) := ⟨a1, 1, rfl, by decide, ex_same u4 x1⟩
    have k3' : Keeps K C HA "number" (.int n) (.ref a3) := ⟨a3, 3, rfl, by decide, ex_same u6 x3⟩
    have k4' : Keeps K C HA "number" (.int n) (.ref a4) := ⟨a4, 4, rfl, by decide, ex_same u7 x4⟩
    have k5' : Keeps K C HA "number" (.int n) (.ref a5) := ⟨a5, 5, rfl, by decide, ex_same u8 x5⟩
    have k6' : Keeps K C HA "row" (.str r) (.ref a6) := ⟨a6, 6, rfl, by decide, ex_same u10 x6⟩
    have k8' : Keeps K C HA "row" (.str r) (.ref a8) := ⟨a8, 8, rfl, by decide, ex_same u12 x8⟩
    have hex : ∀ (i : Nat) (v : V), ([.ref a0, .ref a1, .ref a2, .ref a3, .ref a4, .ref a5, .ref a6, .ref a7, .ref a8, .ref a9] : List V)[i]? = some v → ∃ (a : Addr) (fs : List (Str × V)), v = .ref a ∧ i < 10 ∧ ExAt HA a (C i) fs := by
      intro i v e
      have hi : i < 10 := (List.getElem?_eq_some_iff.mp e).1
      match i, hi, e with
      | 0, _, e => exact ⟨a0, _, (Option.some.inj e).symm, by decide, ex_same u3 x0⟩
      | 1, _, e => exact ⟨a1, _, (Option.some.inj e).symm, by decide, ex_same u4 x1⟩
      | 2, _, e => exact ⟨a2, _, (Option.some.inj e).symm, by decide, ex_same u5 x2⟩
      | 3, _, e => exact ⟨a3, _, (Option.some.inj e).symm, by decide, ex_same u6 x3⟩
      | 4, _, e => exact ⟨a4, _, (Option.some.inj e).symm, by decide, ex_same u7 x4⟩
      | 5, _, e => exact ⟨a5, _, (Option.some.inj e).symm, by decide, ex_same u8 x5⟩
      | 6, _, e => exact ⟨a6, _, (Option.some.inj e).symm, by decide, ex_same u10 x6⟩
      | 7, _, e => exact ⟨a7, _, (Option.some.inj e).symm, by decide, ex_same u11 x7⟩
      | 8, _, e => exact ⟨a8, _, (Option.some.inj e).symm, by decide, ex_same u12 x8⟩
      | 9, _, e => exact ⟨a9, _, (Option.some.inj e).symm, by decide, ex_same u13 x9⟩
    clear hH s14 s15 t913 s9
    -- got: the numbers, the rows
    refine ⟨_, rfl, 2, rfl, pn, _, rfl, SqL.of en, fun c1 hc1 => ?_⟩
    have w1 := new_same (o := .lst (cutV ([.ref a0, .ref a1, .ref a2, .ref a3, .ref a4, .ref a5, .ref a6, .ref a7, .ref a8, .ref a9] : List V) none (some 2))) hc1
    refine ⟨_, rfl, 3, rfl, 6, rfl, pn, _, rfl, SqL.of (w1 _ _ en), fun c2 hc2 => ?_⟩
    have w2 := new_same (o := .lst (cutV ([.ref a0, .ref a1, .ref a2, .ref a3, .ref a4, .ref a5, .ref a6, .ref a7, .ref a8, .ref a9] : List V) (some 3) (some 6))) hc2
    refine ⟨c1, c2, [.ref a0, .ref a1], [.ref a3, .ref a4, .ref a5], rfl, rfl, w2 _ _ upd_same, upd_same, (by show 2 + 3 ≤ sizeLine; exact hz _ (by decide)), fun c3 hc3 => ?_⟩
    have w3 := new_same (o := .lst ([V.ref a0, .ref a1] ++ [V.ref a3, .ref a4, .ref a5])) hc3
    have w13 := w1.trans (w2.trans w3)
    refine ⟨c3, rfl, ⟨_, SqL.of upd_same⟩, fun g1 nB => rd_nums T nB (σ := [some (.int n), some (.str r), some (.ref pv), some (.ref pl), some (.ref pn), none, none, none, none, none, none, none]) (xs := [.ref a0, .ref a1, .ref a3, .ref a4, .ref a5]) (n := n) (SqL.of upd_same) (by show 5 ≤ 1000; decide) (by show 5 < 12; decide) (fun v hv => ?_) fun HB sB eB => ?_⟩
    · simp only [List.mem_cons, List.not_mem_nil, or_false] at hv
      rcases hv with rfl | rfl | rfl | rfl | rfl
      · exact keeps_same w13 k0'
      · exact keeps_same w13 k1'
      · exact keeps_same w13 k3'
      · exact keeps_same w13 k4'
      · exact keeps_same w13 k5'
    have tB : Same HA HB := w13.trans sB
    refine rd_get T T.nR (keeps_same tB k6') ?_ (fun R z => ⟨_, rfl, pn, _, 6, .ref a6, rfl, rfl, SqL.of (tB _ _ en), atI_nat (j := 6) rfl, z⟩)
    refine rd_get T T.nR (keeps_same tB k8') ?_ (fun R z => ⟨_, rfl, pn, _, 8, .ref a8, rfl, rfl, SqL.of (tB _ _ en), atI_nat (j := 8) rfl, z⟩)
    refine ⟨(by show 2 ≤ sizeLine; exact hz _ (by decide)), fun g2 hg2 => ⟨(by show 2 ≤ sizeLine; exact hz _ (by decide)), fun g hg => ?_⟩⟩
    have w4 := new_same (o := .lst [V.str r, .str r]) hg2
    have w5 := new_same (o := .lst [V.ref g1, .ref g2]) hg
    generalize hHC : upd (upd HB g2 (.lst [V.str r, .str r])) g (.lst [V.ref g1, .ref g2]) = HC
    have eg : HC g = some (.lst [.ref g1, .ref g2]) := by rw [← hHC]; exact upd_same
    rw [hHC] at w5
    have sC : Same HA HC := tB.trans (w4.trans w5)
    have dg : DpAll K HC [.ref g1, .ref g2] [dNums n, dRows r] := .cons (.lst (SqL.of (w5 _ _ (w4 _ _ eB))) (dp_ints n 5)) (.cons (.lst (SqL.of (w5 _ _ upd_same)) (dp_strs r 2)) .nil)
    clear hHC w4 w5 w13 w1 w2 w3
    -- due: the same
    refine ⟨_, rfl, (by show 1 ≤ sizeLine; exact hz _ (by decide)), fun d1 hd1 => ⟨d1, 5, _, rfl, rfl, upd_same, by decide, by decide, (by show 1 * 5 ≤ sizeLine; exact hz _ (by decide)), fun d2 hd2 => ?_⟩⟩
    have w1 := new_same (o := .lst [V.int n]) hd1
    have w2 := new_same (o := .lst (List.replicate (5 : Int).toNat [V.int n]).flatten) hd2
    refine ⟨_, rfl, (by show 1 ≤ sizeLine; exact hz _ (by decide)), fun d3 hd3 => ⟨d3, 2, _, rfl, rfl, upd_same, by decide, by decide, (by show 1 * 2 ≤ sizeLine; exact hz _ (by decide)), fun d4 hd4 => ?_⟩⟩
    have w3 := new_same (o := .lst [V.str r]) hd3
    have w4 := new_same (o := .lst (List.replicate (2 : Int).toNat [V.str r]).flatten) hd4
    refine ⟨(by show 2 ≤ sizeLine; exact hz _ (by decide)), fun d hd => ?_⟩
    have w5 := new_same (o := .lst [V.ref d2, .ref d4]) hd
    have ed2 := w5 _ _ (w4 _ _ (w3 _ _ (upd_same (H := upd HC d1 (.lst [V.int n])) (a := d2) (o := .lst (List.replicate (5 : Int).toNat [V.int n]).flatten))))
    have ed4 := w5 _ _ (upd_same (H := upd (upd (upd HC d1 (.lst [V.int n])) d2 (.lst (List.replicate (5 : Int).toNat [V.int n]).flatten)) d3 (.lst [V.str r])) (a := d4) (o := .lst (List.replicate (2 : Int).toNat [V.str r]).flatten))
    have ed := upd_same (H := upd (upd (upd (upd HC d1 (.lst [V.int n])) d2 (.lst (List.replicate (5 : Int).toNat [V.int n]).flatten)) d3 (.lst [V.str r])) d4 (.lst (List.replicate (2 : Int).toNat [V.str r]).flatten)) (a := d) (o := .lst [V.ref d2, .ref d4])
    have w15 := w1.trans (w2.trans (w3.trans (w4.trans w5)))
    revert ed2 ed4 ed w15
    generalize upd (upd (upd (upd (upd HC d1 (.lst [V.int n])) d2 (.lst (List.replicate (5 : Int).toNat [V.int n]).flatten)) d3 (.lst [V.str r])) d4 (.lst (List.replicate (2 : Int).toNat [V.str r]).flatten)) d (.lst [V.ref d2, .ref d4]) = HD
    intro ed2 ed4 ed w15
    have sD : Same HA HD := sC.trans w15
    have dd : DpAll K HD [.ref d2, .ref d4] [dNums n, dRows r] := .cons (.lst (SqL.of ed2) (dp_ints n 5)) (.cons (.lst (SqL.of ed4) (dp_strs r 2)) .nil)
    have eg := w15 _ _ eg
    have dg := dpAll_same w15 dg
    clear w1 w2 w3 w4 w5 w15
    -- more: five by name
    refine rd_mk (by rfl) fun E1 b0' r1 _ y0 => ?_
    refine rd_mk (by rfl) fun E2 b1' r2 _ y1 => ?_
    refine rd_mk (by rfl) fun E3 b3' r3 _ y3 => ?_
    refine rd_mk (by rfl) fun E4 b4' r4 _ y4 => ?_
    refine ⟨(by show 4 ≤ sizeLine; exact hz _ (by decide)), fun pq hpq => ?_⟩
    have r5 := new_same (o := .lst [V.ref b0', .ref b1', .ref b3', .ref b4']) hpq
    have hpq0 : HD pq = none := (r1.trans (r2.trans (r3.trans r4))).free hpq
    refine ⟨_, rfl, .inl ⟨rfl, _, SqL.of upd_same⟩, rd_mk (by rfl) fun E6 b5' r6 _ y5 => ?_⟩
    have ep6 : E6 pq = some (.lst [V.ref b0', .ref b1', .ref b3', .ref b4']) := r6 _ _ upd_same
    refine ⟨pq, _, _, rfl, rfl, ep6, (by show 4 < sizeLine; decide), ?_⟩
    -- the list has turned: all else stays
    have nx : ∀ {a : Addr} {o : HO}, E6 a = some o → (∀ xs, o ≠ .lst xs) → a ≠ pq := fun {a o} e h z => by
      rw [z, ep6] at e
      exact h _ (Option.some.inj e).symm
    have exk : ∀ {a i : Nat} {y : V} {f : Str}, ExAt E6 a (C i) [(f, y)] → ExAt (upd E6 pq (.lst ([V.ref b0', .ref b1', .ref b3', .ref b4'] ++ [V.ref b5']))) a (C i) [(f, y)] := fun {a i y f} h => by
      rcases h with ⟨e, _⟩ | ⟨dx, h1, h2⟩
      · cases e
      · exact .inr ⟨dx, (upd_ne (nx h1 fun xs z => by cases (show HO.ext _ = HO.lst xs from z))).trans h1, (upd_ne (nx h2 fun xs z => by cases (show HO.ext _ = HO.lst xs from z))).trans h2⟩
    have sE : Same HD (upd E6 pq (.lst ([V.ref b0', .ref b1', .ref b3', .ref b4'] ++ [V.ref b5']))) := fun b o e => by
      have nb : b ≠ pq := ne_of_none e hpq0
      rw [upd_ne nb]
      exact r6 _ _ (r5 _ _ (r4 _ _ (r3 _ _ (r2 _ _ (r1 _ _ e)))))
    have r36 := r4.trans (r5.trans r6)
    have z0 : Keeps K C (upd E6 pq (.lst ([V.ref b0', .ref b1', .ref b3', .ref b4'] ++ [V.ref b5']))) "number" (.int n) (.ref b0') := ⟨b0', 0, rfl, by decide, exk (ex_same (r2.trans (r3.trans r36)) y0)⟩
    have z1 : Keeps K C (upd E6 pq (.lst ([V.ref b0', .ref b1', .ref b3', .ref b4'] ++ [V.ref b5']))) "number" (.int n) (.ref b1') := ⟨b1', 1, rfl, by decide, exk (ex_same (r3.trans r36) y1)⟩
    have z3 : Keeps K C (upd E6 pq (.lst ([V.ref b0', .ref b1', .ref b3', .ref b4'] ++ [V.ref b5']))) "number" (.int n) (.ref b3') := ⟨b3', 3, rfl, by decide, exk (ex_same r36 y3)⟩
    have z4 : Keeps K C (upd E6 pq (.lst ([V.ref b0', .ref b1', .ref b3', .ref b4'] ++ [V.ref b5']))) "number" (.int n) (.ref b4') := ⟨b4', 4, rfl, by decide, exk (ex_same (r5.trans r6) y4)⟩
    have z5 : Keeps K C (upd E6 pq (.lst ([V.ref b0', .ref b1', .ref b3', .ref b4'] ++ [V.ref b5']))) "number" (.int n) (.ref b5') := ⟨b5', 5, rfl, by decide, exk y5⟩
    have eq := upd_same (H := E6) (a := pq) (o := .lst ([V.ref b0', .ref b1', .ref b3', .ref b4'] ++ [V.ref b5']))
    revert sE z0 z1 z3 z4 z5 eq
    generalize upd E6 pq (.lst ([V.ref b0', .ref b1', .ref b3', .ref b4'] ++ [V.ref b5'])) = HE
    intro sE z0 z1 z3 z4 z5 eq
    -- got + ..
    refine ⟨_, rfl, _, rfl, pq, rfl, ⟨_, SqL.of eq⟩, fun g3 nF => rd_nums T nF (σ := [some (.int n), some (.str r), some (.ref pv), some (.ref pl), some (.ref pn), none, some (.ref g), some (.ref d), some (.ref pq), none, none, none]) (xs := [.ref b0', .ref b1', .ref b3', .ref b4', .ref b5']) (n := n) (SqL.of eq) (by show 5 ≤ 1000; decide) (by show 5 < 12; decide) (fun v hv => ?_) fun HF sF eF => ?_⟩
    · simp only [List.mem_cons, List.not_mem_nil, or_false] at hv
      rcases hv with rfl | rfl | rfl | rfl | rfl
      · exact z0
      · exact z1
      · exact z3
      · exact z4
      · exact z5
    refine rd_getmk T (by decide) T.nR (by rfl) fun HF1 f1 => ?_
    refine rd_getmk T (by decide) T.nR (by rfl) fun HF2 f2 => ?_
    refine ⟨(by show 2 ≤ sizeLine; exact hz _ (by decide)), fun g4 hg4 => ⟨(by show 2 ≤ sizeLine; exact hz _ (by decide)), fun l1 hl1 => ?_⟩⟩
    have w1 := new_same (o := .lst [V.str r, .str r]) hg4
    have w2 := new_same (o := .lst [V.ref g3, .ref g4]) hl1
    have tF := sE.trans (sF.trans (f1.trans (f2.trans (w1.trans w2))))
    refine ⟨g, l1, _, _, rfl, rfl, tF _ _ eg, upd_same, (by show 2 + 2 ≤ sizeLine; exact hz _ (by decide)), fun gg hgg => ?_⟩
    have w3 := new_same (o := .lst ([V.ref g1, .ref g2] ++ [V.ref g3, .ref g4])) hgg
    have tG := tF.trans w3
    have eg3 := w3 _ _ (w2 _ _ (w1 _ _ (f2 _ _ (f1 _ _ eF))))
    have eg4 := w3 _ _ (w2 _ _ (upd_same (H := HF2) (a := g4) (o := .lst [V.str r, .str r])))
    have egg := upd_same (H := upd (upd HF2 g4 (.lst [V.str r, .str r])) l1 (.lst [V.ref g3, .ref g4])) (a := gg) (o := .lst ([V.ref g1, .ref g2] ++ [V.ref g3, .ref g4]))
    clear w1 w2 w3 tF
    revert tG eg3 eg4 egg
    generalize upd (upd (upd HF2 g4 (.lst [V.str r, .str r])) l1 (.lst [V.ref g3, .ref g4])) gg (.lst ([V.ref g1, .ref g2] ++ [V.ref g3, .ref g4])) = HG
    intro tG eg3 eg4 egg
    -- due * 2
    refine ⟨_, rfl, d, 2, _, rfl, rfl, tG _ _ ed, by decide, by decide, (by show 2 * 2 ≤ sizeLine; exact hz _ (by decide)), fun d' hd' => ?_⟩
    have w1 := new_same (o := .lst (List.replicate (2 : Int).toNat [V.ref d2, .ref d4]).flatten) hd'
    have ed' := upd_same (H := HG) (a := d') (o := .lst (List.replicate (2 : Int).toNat [V.ref d2, .ref d4]).flatten)
    have egg := w1 _ _ egg
    have dg' : DpAll K (upd HG d' (.lst (List.replicate (2 : Int).toNat [V.ref d2, .ref d4]).flatten)) [V.ref g1, .ref g2, .ref g3, .ref g4] (dsE n r 0) := by
      have t := dpAll_same (tG.trans w1) dg
      exact dp_app t (.cons (.lst (SqL.of (w1 _ _ eg3)) (dp_ints n 5)) (.cons (.lst (SqL.of (w1 _ _ eg4)) (dp_strs r 2)) .nil))
    have dd' : DpAll K (upd HG d' (.lst (List.replicate (2 : Int).toNat [V.ref d2, .ref d4]).flatten)) [V.ref d2, .ref d4, .ref d2, .ref d4] (dsE n r 0) := by
      have t := dpAll_same (tG.trans w1) dd
      exact dp_app t t
    have sH := sD.trans (tG.trans w1)
    clear w1 tG
    revert ed' egg dg' dd' sH
    generalize upd HG d' (.lst (List.replicate (2 : Int).toNat [V.ref d2, .ref d4]).flatten) = HH
    intro ed' egg dg' dd' sH
    -- each error asked
    refine ⟨_, rfl, pn, _, rfl, SqL.of (sH _ _ en), for_en (K := K) (a := pn) (xs := [.ref a0, .ref a1, .ref a2, .ref a3, .ref a4, .ref a5, .ref a6, .ref a7, .ref a8, .ref a9])
      (fun i σ H' => ∃ (v5 v9 v10 : Option V) (g d : Addr) (xs ys : List V), σ = [some (.int n), some (.str r), some (.ref pv), some (.ref pl), some (.ref pn), v5, some (.ref g), some (.ref d), some (.ref pq), v9, v10, none] ∧ Same HA H' ∧ H' g = some (.lst xs) ∧ H' d = some (.lst ys) ∧ DpAll K H' xs (dsE n r i) ∧ DpAll K H' ys (dsE n r i))
      ⟨none, none, none, gg, d', _, _, rfl, sH, egg, ed', dg', dd'⟩ (fun i σ H' ⟨_, _, _, _, _, _, _, _, s, _⟩ => SqL.of (s _ _ en)) ?_ ?_⟩
    · rintro i x t σ H' hx ⟨v5, v9, v10, g, d, xs, ys, rfl, s, hg, hd, dx, dy⟩ ht
      obtain ⟨a, fs, rfl, hi, hE⟩ := hex i x hx
      have lx := dpAll_len dx
      have ly := dpAll_len dy
      have ld := (dsE_ok n r i).2.2
      refine ⟨t, _, rfl, SqT.of upd_same, rfl, _, _, rfl, _, _, rfl, rfl, ?_⟩
      have w0 := new_same (o := .tup [.int (i : Nat), .ref a]) ht
      refine ⟨_, rfl, (by show 2 ≤ sizeLine; exact hz _ (by decide)), fun u hu => ⟨u, _, rfl, .inr (SqT.of upd_same), rfl, rfl, ?_⟩⟩
      have w1 := new_same (o := .tup [.int 5, .int 6]) hu
      have s2 := s.trans (w0.trans w1)
      refine ⟨_, rfl, _, rfl, a, i, fs, rfl, hi, ex_same s2 hE, fun H3 p1 s3 n3 e3 => ?_⟩
      refine ⟨_, rfl, a, i, fs, rfl, hi, ex_same (s2.trans s3) hE, fun H4 p2 s4 n4 e4 => ?_⟩
      refine ⟨(by show 2 ≤ sizeLine; exact hz _ (by decide)), fun l hl => ?_⟩
      have w5 := new_same (o := .lst [V.ref p1, .ref p2]) hl
      have t5 := (w0.trans w1).trans (s3.trans (s4.trans w5))
      refine ⟨g, l, xs, _, rfl, rfl, t5 _ _ hg, upd_same, hz _ (by rw [lx, ld]; show 4 + 2 * i + 2 ≤ 1000; omega), fun g' hg' => ?_⟩
      have w6 := new_same (o := .lst (xs ++ [V.ref p1, .ref p2])) hg'
      have t6 := t5.trans w6
      have eg' := upd_same (H := upd H4 l (.lst [V.ref p1, .ref p2])) (a := g') (o := .lst (xs ++ [V.ref p1, .ref p2]))
      have dx' : DpAll K (upd (upd H4 l (.lst [V.ref p1, .ref p2])) g' (.lst (xs ++ [V.ref p1, .ref p2]))) (xs ++ [V.ref p1, .ref p2]) (dsE n r (i + 1)) :=
        dp_app (dpAll_same t6 dx) (.cons (dp_bL (w6 _ _ (w5 _ _ (s4 _ _ e3)))) (.cons (dp_bL (w6 _ _ (w5 _ _ e4))) .nil))
      revert t6 eg' dx'
      generalize upd (upd H4 l (.lst [V.ref p1, .ref p2])) g' (.lst (xs ++ [V.ref p1, .ref p2])) = H6
      intro t6 eg' dx'
      have s6 := s.trans t6
      have hd6 : H6 d = some (.lst ys) := t6 _ _ hd
      have dy6 := dpAll_same t6 dy
      have hy : ys.length ≤ 900 := by rw [ly, ld]; omega
      refine ⟨_, rfl, _, rfl, _, rfl, ite2 (fun c => ⟨_, rfl, rd_last hi rfl (by show 11 < 12; decide) hd6 hy fun H' p D sx ex eD => ?_⟩) (fun c => ⟨_, rfl, rd_last hi rfl (by show 11 < 12; decide) hd6 hy fun H' p D sx ex eD => ?_⟩)⟩
      · have eu : undE i = lookL := if_pos (of_decide_eq_true ((inv56 i hi).symm.trans c))
        have dv : Dp K H' (.ref pl) (bL (undE i)) := by rw [eu]; exact dp_bL (sx _ _ (s6 _ _ eL))
        exact ⟨_, _, _, g', p, _, _, rfl, s6.trans sx, sx _ _ eg', ex, dpAll_same sx dx', dp_app (dpAll_same sx dy6) (.cons dv (.cons (dp_bL eD) .nil))⟩
      · have eu : undE i = valL := if_neg (fun z => c ((inv56 i hi).trans (decide_eq_true z)))
        have dv : Dp K H' (.ref pv) (bL (undE i)) := by rw [eu]; exact dp_bL (sx _ _ (s6 _ _ eV))
        exact ⟨_, _, _, g', p, _, _, rfl, s6.trans sx, sx _ _ eg', ex, dpAll_same sx dx', dp_app (dpAll_same sx dy6) (.cons dv (.cons (dp_bL eD) .nil))⟩
    · rintro σ H' ⟨v5, v9, v10, g, d, xs, ys, rfl, s, hg, hd, dx, dy⟩
      obtain ⟨a1', a2', a3'⟩ := dsE_ok n r 10
      refine ⟨_, rfl, _, rfl, .ref g, .ref d, .list (dsE n r 10), rfl, .lst (SqL.of hg) dx, .lst (SqL.of hd) dy, ?_, ⟨by rw [a3']; decide, a1'⟩, fun H2 s2 => q H2 (sA.trans (s.trans s2))⟩
      rw [PyData.depth]
      exact Nat.succ_le_succ a2'
end
end Kz

namespace Kz
open PySem PySem.Spec PyProof.Rows L2 RZ Kx
section
variable {P : Program} {w : World} {K : PySem.W.Frag} {mg : Str → Option Value} {base : Heap}
theorem box_new {H : Hp} {l p : Addr} {m : Int} {o : HO} (h : BoxAt H l m) (hp : H p = none) : BoxAt (upd H p o) l m ∧ l ≠ p := by
  obtain ⟨a, b, c, e, z⟩ := h
  have n := ne_of_none e hp
  exact ⟨⟨a, b, c, (upd_ne n).trans e, z⟩, n⟩
/-! ### one drawn case -/
def spRight : Sp := fun vs H Q _ => ∃ l : Addr, vs = [.ref l] ∧ BoxAt H l 0 ∧ ∀ H', But l H H' → Q (.bl true) H'
theorem scRight : FnScope ["_law_box_here", "_law_number_so"] ["_law_box_here"] (defScope sRight) := ⟨rfl, rfl, rfl, by decide +kernel, rfl, by decide +kernel, by decide +kernel⟩
theorem ok_right {f fT fO fM : Addr} {fd fdT fdO fdM : FuncData} (F : Fun K "_law_right" "_law_right" sRight f fd) (GT : FnOk P w K mg base CX0 1 fT fdT ["_law_box_here", "_law_below_so"] spTake2) (kT : PySem.W.keepIn K (.ref fT) = true) (bT : Binds K fdT ["_law_box_here", "_law_below_so"] []) (gT : mg "_law_take" = some (.ref fT))
    (GO : FnOk P w K mg base CX0 2 fO fdO ["_law_box_here", "_law_pool_so"] spOf) (kO : PySem.W.keepIn K (.ref fO) = true) (bO : Binds K fdO ["_law_box_here", "_law_pool_so"] []) (gO : mg "_law_of" = some (.ref fO))
    (GM : FnOk P w K mg base CX0 4 fM fdM ["_law_number_so", "_law_row_so"] spMade) (kM : PySem.W.keepIn K (.ref fM) = true) (bM : Binds K fdM ["_law_number_so", "_law_row_so"] []) (gM : mg "_law_made_right" = some (.ref fM)) : FnOk P w K mg base CX0 5 f fd ["_law_box_here"] spRight := by
  refine F.ok scRight (fun vs H Q E h => ?_) (fun cdv A outer s H vs Q E hr h => ?_)
  · obtain ⟨l, rfl, _⟩ := h
    rfl
  · obtain ⟨l, rfl, hb, q⟩ := h
    have hr1 : Room 1 _ := hr.mono (by decide)
    have hr2 : Room 2 _ := hr.mono (by decide)
    refine ⟨_, pss_cons (ps_set (i := 1) scRight.nd rfl (.inl rfl) (pe_op op_mul (pe_op op_sub (pe_call GT hr1 (by rfl) gT kT bT .nil pass0 (pa_cons (pv 0) (pa_cons pe_int pa_nil))) pe_int)
        (pe_call GO hr2 (by rfl) gO kO bO .nil pass0 (pa_cons (pv 0) (pa_cons (pe_lst (pa_cons pe_int (pa_cons pe_int (pa_cons pe_int (pa_cons (pe_op op_pow pe_int pe_int) (pa_cons (pe_call GT hr1 (by rfl) gT kT bT .nil pass0 (pa_cons (pv 0) (pa_cons (pe_op op_pow pe_int pe_int) pa_nil))) pa_nil)))))) pa_nil)))))
      (pss_one (ps_ret (pe_call GM hr (by rfl) gM kM bM .nil pass0 (pa_cons (pv 1) (pa_cons (pe_call GO hr2 (by rfl) gO kO bO .nil pass0 (pa_cons (pv 0) (pa_cons (pe_lst (pa_cons pe_str (pa_cons pe_str (pa_cons pe_str (pa_cons pe_str (pa_cons pe_str (pa_cons pe_str pa_nil))))))) pa_nil))) pa_nil))))), ?_⟩
    refine ⟨_, rfl, l, 0, 3, rfl, hb, by decide, by decide, by decide, fun H1 d d0 d1 B1 b1 => ⟨_, _, rfl, rfl, ?_⟩⟩
    refine ⟨_, rfl, 10, 9, rfl, rfl, ⟨by decide, by decide, by decide⟩, ?_⟩
    refine ⟨_, rfl, 10, 6, rfl, rfl, ⟨by decide, by decide, by decide⟩, l, _, _, rfl, b1, by decide, by decide, by decide, fun H2 t t0 t1 B2 b2 => ?_⟩
    refine ⟨(by show 5 ≤ sizeLine; decide), fun p hp => ?_⟩
    obtain ⟨b2', np⟩ := box_new (o := .lst [.int 0, .int 1, .int 7, .int (10 ^ (9 : Int).toNat), .int t]) b2 hp
    refine ⟨l, p, _, _, rfl, b2', by decide, np, upd_same, (by intro z; cases z), (by show 5 < 2 ^ 30; decide), fun H3 i v hv B3 b3 => ?_⟩
    obtain ⟨z, rfl⟩ : ∃ z, v = V.int z := by
      have hi : i < 5 := (List.getElem?_eq_some_iff.mp hv).1
      match i, hi, hv with
      | 0, _, e => exact ⟨_, (Option.some.inj e).symm⟩
      | 1, _, e => exact ⟨_, (Option.some.inj e).symm⟩
      | 2, _, e => exact ⟨_, (Option.some.inj e).symm⟩
      | 3, _, e => exact ⟨_, (Option.some.inj e).symm⟩
      | 4, _, e => exact ⟨_, (Option.some.inj e).symm⟩
    refine ⟨_, z, rfl, rfl, .inl ⟨by omega, by omega⟩, ?_⟩
    refine ⟨_, rfl, _, rfl, (by show 6 ≤ sizeLine; decide), fun p2 hp2 => ?_⟩
    obtain ⟨b3', np2⟩ := box_new (o := .lst [.str "x", .str "abcdefgh", .str "plain", .str "", .str "A", .str "no row"]) b3 hp2
    refine ⟨l, p2, _, _, rfl, b3', by decide, np2, upd_same, (by intro z; cases z), (by show 6 < 2 ^ 30; decide), fun H4 j v hv B4 b4 => ?_⟩
    obtain ⟨y, rfl⟩ : ∃ y, v = V.str y := by
      have hi : j < 6 := (List.getElem?_eq_some_iff.mp hv).1
      match j, hi, hv with
      | 0, _, e => exact ⟨_, (Option.some.inj e).symm⟩
      | 1, _, e => exact ⟨_, (Option.some.inj e).symm⟩
      | 2, _, e => exact ⟨_, (Option.some.inj e).symm⟩
      | 3, _, e => exact ⟨_, (Option.some.inj e).symm⟩
      | 4, _, e => exact ⟨_, (Option.some.inj e).symm⟩
      | 5, _, e => exact ⟨_, (Option.some.inj e).symm⟩
    exact ⟨_, y, rfl, fun H5 s5 => q H5 (B1.trans (B2.trans ((but_new hp).trans (B3.trans ((but_new hp2).trans (B4.trans (.of s5)))))))⟩
/-! ### the law -/
theorem ix_tupK {X : Cx} {K : PySem.W.Frag} (hK : X.K = K) : IxR X (rIxT K) := by subst hK; exact ix_tup
def spLaw (K : PySem.W.Frag) : Sp := fun vs H Q _ => ∃ (a : Addr) (ns : List Int), vs = [.ref a] ∧ SqL K H a (ns.map V.int) ∧ ns.length ≤ 63 ∧ ∀ H', Q (.bl true) H'
abbrev nLaw : List Str := ["_law_script", "_law_cells_here", "_law_own", "_law_nth_so"]
theorem scLaw : FnScope nLaw ["_law_script"] (defScope sLaw) := ⟨rfl, rfl, rfl, by decide +kernel, rfl, by decide +kernel, by decide +kernel⟩
theorem ok_law {f fC fB fR fM : Addr} {fd fdC fdB fdR fdM : FuncData} (F : Fun K "law" "law" sLaw f fd) (N : Nat0 mg) (GC : FnOk P w K mg base CX0 1 fC fdC ["_law_script", "_law_top_so"] (spCells K)) (kC : PySem.W.keepIn K (.ref fC) = true) (bC : Binds K fdC ["_law_script", "_law_top_so"] []) (gC : mg "_law_cells" = some (.ref fC))
    (GB : FnOk P w K mg base CX0 1 fB fdB ["_law_script", "_law_nth_so"] (spBox K)) (kB : PySem.W.keepIn K (.ref fB) = true) (bB : Binds K fdB ["_law_script", "_law_nth_so"] []) (gB : mg "_law_box" = some (.ref fB))
    (GR : FnOk P w K mg base CX0 5 fR fdR ["_law_box_here"] spRight) (kR : PySem.W.keepIn K (.ref fR) = true) (bR : Binds K fdR ["_law_box_here"] []) (gR : mg "_law_right" = some (.ref fR))
    (GM : FnOk P w K mg base CX0 4 fM fdM ["_law_number_so", "_law_row_so"] spMade) (kM : PySem.W.keepIn K (.ref fM) = true) (bM : Binds K fdM ["_law_number_so", "_law_row_so"] []) (gM : mg "_law_made_right" = some (.ref fM)) : FnOk P w K mg base CX0 6 f fd ["_law_script"] (spLaw K) := by
  refine F.ok scLaw (fun vs H Q E h => ?_) (fun cdv A outer s H vs Q E hr h => ?_)
  · obtain ⟨a, ns, rfl, _⟩ := h
    rfl
  · obtain ⟨a, ns, rfl, hS, hlen, q⟩ := h
    have hr1 : Room 1 _ := hr.mono (by decide)
    have hr4 : Room 4 _ := hr.mono (by decide)
    refine ⟨_, pss_cons (ps_if (pt_not (pt_val (pe_callB (cr_all rfl) (by rfl) N.all bt_all (pa_cons (pe_lc (own := [("_law_own", 2)]) (g := gName 2) (tt := tYes) rfl scLaw.nd
          (pi_tup (pe_tup (pa_cons (pe_tup (pa_cons pe_int (pa_cons pe_str pa_nil))) (pa_cons (pe_tup (pa_cons (pe_un un_neg pe_int) (pa_cons pe_str pa_nil))) (pa_cons (pe_tup (pa_cons (pe_op op_pow pe_int pe_int) (pa_cons pe_str pa_nil))) pa_nil)))))
          (blkOk_by (own := [("_law_own", 2)]) (N := nLaw) (sc := defScope sLaw) (by decide +kernel)) (fun _ _ _ _ _ => pg_name (i := 2) scLaw.nd rfl (Or.inl rfl)) (fun _ _ _ _ _ => pts_nil)
          (fun _ _ _ _ _ => by exact (pe_call GM hr4 (by rfl) gM kM bM .nil pass0 (pa_cons (pe_ix (ix_tupK (K := K) rfl) (pv 2) pe_int (fun _ _ => rfl)) (pa_cons (pe_ix (ix_tupK (K := K) rfl) (pv 2) pe_int (fun _ _ => rfl)) pa_nil))))) pa_nil)))) (pss_one (ps_ret pe_bl)) pss_nil)
      (pss_cons (ps_set (i := 1) scLaw.nd rfl (.inr rfl) (pe_call GC hr1 (by rfl) gC kC bC .nil pass0 (pa_cons (pv 0) (pa_cons pe_int pa_nil))))
      (pss_one (ps_ret (pe_callB (cr_all rfl) (by rfl) N.all bt_all (pa_cons (pe_lc (own := [("_law_nth_so", 3)]) (g := gName 3) (tt := tYes) rfl scLaw.nd (pi_range1 rfl N.range (pa_cons (pe_callB call_len_seq (by rfl) N.len PySem.boot_len (pa_cons (pv 1) pa_nil)) pa_nil))
          (blkOk_by (own := [("_law_nth_so", 3)]) (N := nLaw) (sc := defScope sLaw) (by decide +kernel)) (fun _ _ _ _ _ => pg_name (i := 3) scLaw.nd rfl (Or.inl rfl)) (fun _ _ _ _ _ => pts_nil)
          (fun _ _ _ _ _ => by exact (pe_call GR hr (by rfl) gR kR bR .nil pass0 (pa_cons (pe_call GB hr1 (by rfl) gB kB bB .nil pass0 (pa_cons (pv 1) (pa_cons (pv 3) pa_nil))) pa_nil)))) pa_nil))))), ?_⟩
    have hz : ∀ m : Nat, m ≤ 1000 → m ≤ sizeLine := fun m h => Nat.le_trans h (by decide)
    -- the three by hand
    refine ⟨(by show 2 ≤ sizeLine; decide), fun t0 h0 => ?_⟩
    have w0 := new_same (o := .tup [.int 0, .str "x"]) h0
    refine ⟨1, rfl, (by show 2 ≤ sizeLine; decide), fun t1 h1 => ?_⟩
    have w1 := new_same (o := .tup [.int (-1), .str ""]) h1
    refine ⟨10, 9, rfl, rfl, ⟨by decide, by decide, by decide⟩, (by show 2 ≤ sizeLine; decide), fun t2 h2 => ?_⟩
    have w2 := new_same (o := .tup [.int (10 ^ (9 : Int).toNat), .str "abcdefgh"]) h2
    refine ⟨(by show 3 ≤ sizeLine; decide), fun t3 h3 => ?_⟩
    have w3 := new_same (o := .tup [.ref t0, .ref t1, .ref t2]) h3
    have e0 := w3 _ _ (w2 _ _ (w1 _ _ (upd_same (H := H) (a := t0) (o := .tup [.int 0, .str "x"]))))
    have e1 := w3 _ _ (w2 _ _ (upd_same (H := upd H t0 (.tup [.int 0, .str "x"])) (a := t1) (o := .tup [.int (-1), .str ""])))
    have e2 := w3 _ _ (upd_same (H := upd (upd H t0 (.tup [.int 0, .str "x"])) t1 (.tup [.int (-1), .str ""])) (a := t2) (o := .tup [.int (10 ^ (9 : Int).toNat), .str "abcdefgh"]))
    have e3 := upd_same (H := upd (upd (upd H t0 (.tup [.int 0, .str "x"])) t1 (.tup [.int (-1), .str ""])) t2 (.tup [.int (10 ^ (9 : Int).toNat), .str "abcdefgh"])) (a := t3) (o := .tup [.ref t0, .ref t1, .ref t2])
    have sA := w0.trans (w1.trans (w2.trans w3))
    revert e0 e1 e2 e3 sA
    generalize upd (upd (upd (upd H t0 (.tup [.int 0, .str "x"])) t1 (.tup [.int (-1), .str ""])) t2 (.tup [.int (10 ^ (9 : Int).toNat), .str "abcdefgh"])) t3 (.tup [.ref t0, .ref t1, .ref t2]) = HA
    intro e0 e1 e2 e3 sA
    have hx : ∀ (i : Nat) (x : V), ([.ref t0, .ref t1, .ref t2] : List V)[i]? = some x → ∃ (t : Addr) (n : Int) (r : Str), x = .ref t ∧ HA t = some (.tup [.int n, .str r]) ∧ i < 3 := by
      intro i x e
      have hi : i < 3 := (List.getElem?_eq_some_iff.mp e).1
      match i, hi, e with
      | 0, _, e => exact ⟨t0, _, _, (Option.some.inj e).symm, e0, by decide⟩
      | 1, _, e => exact ⟨t1, _, _, (Option.some.inj e).symm, e1, by decide⟩
      | 2, _, e => exact ⟨t2, _, _, (Option.some.inj e).symm, e2, by decide⟩
    refine ⟨t3, rfl, ⟨_, SqT.of e3⟩, fun D hD => lc_tup (K := K) (a := t3) (xs := [.ref t0, .ref t1, .ref t2]) (fun i H' => Same HA H' ∧ H' D = some (.lst (List.replicate i (V.bl true)))) ⟨new_same hD, upd_same⟩ (fun i H' _ p => seqT_same p.1 (SqT.of e3)) (fun i x H' e p => ⟨rfl, ?_⟩) (fun H' p => ?_)⟩
    · unfold tYes
      dsimp only
      rw [if_pos rfl]
      obtain ⟨t, n, r, rfl, et, hi⟩ := hx i x e
      have et' := p.1 _ _ et
      refine ⟨_, rfl, t, _, 0, .int n, rfl, rfl, SqT.of et', atI_nat (j := 0) rfl, _, rfl, t, _, 1, .str r, rfl, rfl, SqT.of et', atI_nat (j := 1) rfl, n, r, rfl, fun H2 s2 => ⟨_, s2 _ _ p.2, ?_, fun b o e => (upd_ne (ne_of_none e hD)).trans (s2 _ _ (p.1 _ _ e)), ?_⟩⟩
      · rw [List.length_replicate]
        exact Nat.lt_of_lt_of_le hi (by decide)
      · rw [upd_same, List.replicate_succ']
    refine ⟨D, List.replicate 3 true, rfl, SqL.of p.2, true, rfl, ?_⟩
    have sB := sA.trans p.1
    -- the drawn ones
    refine iteF ⟨_, rfl, a, ns, 2, rfl, sB.seq hS, hlen, by decide, by decide, fun HC pc cs sC nC eC c1 c2 => ?_⟩
    refine ⟨_, rfl, pc, _, rfl, .inl (SqL.of eC), (cs.length : Nat), ?_, by omega, by omega, ?_⟩
    · rw [List.length_map]
    rw [Int.toNat_natCast]
    intro D2 hD2
    refine lc_range (lo := 0) (n := cs.length) (fun i H' => Same HC H' ∧ H' D2 = some (.lst (List.replicate i (V.bl true)))) ⟨new_same hD2, upd_same⟩ (fun i H' hi p => ⟨rfl, ?_⟩) (fun H' p => ?_)
    · unfold tYes
      dsimp only
      rw [if_pos rfl]
      refine ⟨_, rfl, _, rfl, pc, cs, i, ?_, SqL.of (p.1 _ _ eC), by omega, fun H2 l s2 n2 b2 => ⟨l, rfl, b2, fun H3 B3 => ?_⟩⟩
      · rw [Int.zero_add]
        rfl
      have nl : ∀ {b : Addr} {o : HO}, H' b = some o → b ≠ l := fun e => ne_of_none e n2
      have eD : H3 D2 = some (.lst (List.replicate i (V.bl true))) := B3 _ _ (nl p.2) (s2 _ _ p.2)
      refine ⟨_, eD, ?_, fun b o e => (upd_ne (ne_of_none e hD2)).trans (B3 _ _ (nl (p.1 _ _ e)) (s2 _ _ (p.1 _ _ e))), ?_⟩
      · rw [List.length_replicate]
        exact Nat.lt_of_lt_of_le (show i < 63 by omega) (by decide)
      · rw [upd_same, List.replicate_succ']
    · refine ⟨D2, List.replicate cs.length true, rfl, SqL.of (by rw [← rep_bl]; exact p.2), ?_⟩
      rw [rep_all]
      exact q H'
end
end Kz

namespace Kz
open PySem PySem.Spec PyProof.Rows L2 RZ Kx
theorem mk_ec {K : PySem.W.Frag} {mg : Str → Option Value} {x : Str} {C : Addr} {B newId : String} {nm q : Str} {N : Addr} {bs : List Value} {sn : List Str} {sub : List Value} {ab : Bool} {col : Option Bool} {dd : Option Addr} {k0 k1 k2 k3 k5 : Option Value} (g : mg x = some (.ref C))
    (l : K.lookup C = some (cob nm q C N bs B sn sub ab col dd k0 k1 k2 k3 k5 newId)) (sa : PySem.W.findIn K (.ref C) "__setattr__" = some (some (.builtin "object.__setattr__"))) (hg : PySem.W.findIn K (.ref C) "__getattribute__" = some (some (.builtin "BaseException.__getattribute__")))
    (hk : PySem.W.findIn K (.ref C) "__getattr__" = some none) (hs : PySem.W.subIn K (.ref C) (.type "BaseException") = some true) (hd : PySem.W.hasDictIn K C = true) (ha : PySem.W.findIn K (.ref C) "__class__" = some (some (.builtin "object.__class__")))
    (hn : PySem.W.specialIn K (.builtin "object.__class__") "__get__" = some (some (.builtin "getset_descriptor.__get__"))) (ht : PySem.W.takesIn K (.builtin "object.__class__") = some true) (hm : PySem.W.mroIn K C (.type "object") = some true)
    (ty : PySem.W.typeIn K (.ref C) = some (.type "type")) (kC : PySem.W.keepIn K (.ref C) = true) : EC K mg x C B newId :=
  ⟨g, ⟨_, _, _, _, _, _, _, _, _, _, _, _, _, _, l⟩, sa, ⟨hg, hk, hs, hd, ha, hn, ht, hm⟩, ty, kC⟩

theorem all_mk {l : PySem.W.OpenLaw} {w : World} {K : PySem.W.Frag} {h : Heap} {mg : Str → Option Value} {fa : Addr} (X : K.In h) (G : h.Ns mainGlobals mg) (hfa : mg "law" = some (.ref fa))
    {d0od d0an : Option Addr} {d0sl : Array (Option Value)} {d0oc d0kV d0dc d0pm d0cd d0ct : Value} {d0f : Addr}
    {d1od d1an : Option Addr} {d1sl : Array (Option Value)} {d1oc d1kV d1dc d1pm d1cd d1ct : Value} {d1f : Addr}
    {d2od d2an : Option Addr} {d2sl : Array (Option Value)} {d2oc d2kV d2dc d2pm d2cd d2ct : Value} {d2f : Addr}
    {d3od d3an : Option Addr} {d3sl : Array (Option Value)} {d3oc d3kV d3dc d3pm d3cd d3ct : Value} {d3f : Addr}
    {d4od d4an : Option Addr} {d4sl : Array (Option Value)} {d4oc d4kV d4dc d4pm d4cd d4ct : Value} {d4f : Addr}
    {d5od d5an : Option Addr} {d5sl : Array (Option Value)} {d5oc d5kV d5dc d5pm d5cd d5ct : Value} {d5f : Addr}
    {d6od d6an : Option Addr} {d6sl : Array (Option Value)} {d6oc d6kV d6dc d6pm d6cd d6ct : Value} {d6f : Addr}
    {d7od d7an : Option Addr} {d7sl : Array (Option Value)} {d7oc d7kV d7dc d7pm d7cd d7ct : Value} {d7f : Addr}
    {d8od d8an : Option Addr} {d8sl : Array (Option Value)} {d8oc d8kV d8dc d8pm d8cd d8ct : Value} {d8f : Addr}
    {d9od d9an : Option Addr} {d9sl : Array (Option Value)} {d9oc d9kV d9dc d9pm d9cd d9ct : Value} {d9f : Addr}
    {c0 c0N : Addr} {c0n c0q : Str} {c0b c0u : List Value} {c0s : List Str} {c0ab : Bool} {c0col : Option Bool} {c0dd : Option Addr} {c0k0 c0k1 c0k2 c0k3 c0k5 : Option Value}
    {i0od i0an : Option Addr} {i0sl : Array (Option Value)} {i0oc i0kV i0dc i0pm i0cd i0ct : Value} {i0f : Addr}
    {c1 c1N : Addr} {c1n c1q : Str} {c1b c1u : List Value} {c1s : List Str} {c1ab : Bool} {c1col : Option Bool} {c1dd : Option Addr} {c1k0 c1k1 c1k2 c1k3 c1k5 : Option Value}
    {i1od i1an : Option Addr} {i1sl : Array (Option Value)} {i1oc i1kV i1dc i1pm i1cd i1ct : Value} {i1f : Addr}
    {c2 c2N : Addr} {c2n c2q : Str} {c2b c2u : List Value} {c2s : List Str} {c2ab : Bool} {c2col : Option Bool} {c2dd : Option Addr} {c2k0 c2k1 c2k2 c2k3 c2k5 : Option Value}
    {c3 c3N : Addr} {c3n c3q : Str} {c3b c3u : List Value} {c3s : List Str} {c3ab : Bool} {c3col : Option Bool} {c3dd : Option Addr} {c3k0 c3k1 c3k2 c3k3 c3k5 : Option Value}
    {i3od i3an : Option Addr} {i3sl : Array (Option Value)} {i3oc i3kV i3dc i3pm i3cd i3ct : Value} {i3f : Addr}
    {c4 c4N : Addr} {c4n c4q : Str} {c4b c4u : List Value} {c4s : List Str} {c4ab : Bool} {c4col : Option Bool} {c4dd : Option Addr} {c4k0 c4k1 c4k2 c4k3 c4k5 : Option Value}
    {i4od i4an : Option Addr} {i4sl : Array (Option Value)} {i4oc i4kV i4dc i4pm i4cd i4ct : Value} {i4f : Addr}
    {c5 c5N : Addr} {c5n c5q : Str} {c5b c5u : List Value} {c5s : List Str} {c5ab : Bool} {c5col : Option Bool} {c5dd : Option Addr} {c5k0 c5k1 c5k2 c5k3 c5k5 : Option Value}
    {i5od i5an : Option Addr} {i5sl : Array (Option Value)} {i5oc i5kV i5dc i5pm i5cd i5ct : Value} {i5f : Addr}
    {c6 c6N : Addr} {c6n c6q : Str} {c6b c6u : List Value} {c6s : List Str} {c6ab : Bool} {c6col : Option Bool} {c6dd : Option Addr} {c6k0 c6k1 c6k2 c6k3 c6k5 : Option Value}
    {i6od i6an : Option Addr} {i6sl : Array (Option Value)} {i6oc i6kV i6dc i6pm i6cd i6ct : Value} {i6f : Addr}
    {c7 c7N : Addr} {c7n c7q : Str} {c7b c7u : List Value} {c7s : List Str} {c7ab : Bool} {c7col : Option Bool} {c7dd : Option Addr} {c7k0 c7k1 c7k2 c7k3 c7k5 : Option Value}
    {c8 c8N : Addr} {c8n c8q : Str} {c8b c8u : List Value} {c8s : List Str} {c8ab : Bool} {c8col : Option Bool} {c8dd : Option Addr} {c8k0 c8k1 c8k2 c8k3 c8k5 : Option Value}
    {i8od i8an : Option Addr} {i8sl : Array (Option Value)} {i8oc i8kV i8dc i8pm i8cd i8ct : Value} {i8f : Addr}
    {c9 c9N : Addr} {c9n c9q : Str} {c9b c9u : List Value} {c9s : List Str} {c9ab : Bool} {c9col : Option Bool} {c9dd : Option Addr} {c9k0 c9k1 c9k2 c9k3 c9k5 : Option Value}
    (d0a : PySem.W.nsIn K mainGlobals "_law_box" = some (some (.ref d0f)))
    (d0l : K.lookup d0f = some ⟨d0oc, d0od, .func (PySem.W.fnOf "_law_box" "_law_box" (defArgs sBox) (defBody sBox) (defScope sBox) .none d0kV d0dc d0pm d0an d0cd d0ct), d0sl⟩)
    (d0c : PySem.W.codeIn K d0cd "_law_box" = true)
    (d0k : PySem.W.keepIn K (.ref d0f) = true)
    (d1a : PySem.W.nsIn K mainGlobals "_law_take" = some (some (.ref d1f)))
    (d1l : K.lookup d1f = some ⟨d1oc, d1od, .func (PySem.W.fnOf "_law_take" "_law_take" (defArgs sTake) (defBody sTake) (defScope sTake) .none d1kV d1dc d1pm d1an d1cd d1ct), d1sl⟩)
    (d1c : PySem.W.codeIn K d1cd "_law_take" = true)
    (d1k : PySem.W.keepIn K (.ref d1f) = true)
    (d2a : PySem.W.nsIn K mainGlobals "_law_cells" = some (some (.ref d2f)))
    (d2l : K.lookup d2f = some ⟨d2oc, d2od, .func (PySem.W.fnOf "_law_cells" "_law_cells" (defArgs sCells) (defBody sCells) (defScope sCells) .none d2kV d2dc d2pm d2an d2cd d2ct), d2sl⟩)
    (d2c : PySem.W.codeIn K d2cd "_law_cells" = true)
    (d2k : PySem.W.keepIn K (.ref d2f) = true)
    (d3a : PySem.W.nsIn K mainGlobals "_law_same" = some (some (.ref d3f)))
    (d3l : K.lookup d3f = some ⟨d3oc, d3od, .func (PySem.W.fnOf "_law_same" "_law_same" (defArgs sSame) (defBody sSame) (defScope sSame) .none d3kV d3dc d3pm d3an d3cd d3ct), d3sl⟩)
    (d3c : PySem.W.codeIn K d3cd "_law_same" = true)
    (d3k : PySem.W.keepIn K (.ref d3f) = true)
    (d4a : PySem.W.nsIn K mainGlobals "_law_of" = some (some (.ref d4f)))
    (d4l : K.lookup d4f = some ⟨d4oc, d4od, .func (PySem.W.fnOf "_law_of" "_law_of" (defArgs sOf) (defBody sOf) (defScope sOf) .none d4kV d4dc d4pm d4an d4cd d4ct), d4sl⟩)
    (d4c : PySem.W.codeIn K d4cd "_law_of" = true)
    (d4k : PySem.W.keepIn K (.ref d4f) = true)
    (d5a : PySem.W.nsIn K mainGlobals "_law_under" = some (some (.ref d5f)))
    (d5l : K.lookup d5f = some ⟨d5oc, d5od, .func (PySem.W.fnOf "_law_under" "_law_under" (defArgs sUnder) (defBody sUnder) (defScope sUnder) .none d5kV d5dc d5pm d5an d5cd d5ct), d5sl⟩)
    (d5c : PySem.W.codeIn K d5cd "_law_under" = true)
    (d5k : PySem.W.keepIn K (.ref d5f) = true)
    (d6a : PySem.W.nsIn K mainGlobals "_law_which" = some (some (.ref d6f)))
    (d6l : K.lookup d6f = some ⟨d6oc, d6od, .func (PySem.W.fnOf "_law_which" "_law_which" (defArgs sWhich) (defBody sWhich) (defScope sWhich) .none d6kV d6dc d6pm d6an d6cd d6ct), d6sl⟩)
    (d6c : PySem.W.codeIn K d6cd "_law_which" = true)
    (d6k : PySem.W.keepIn K (.ref d6f) = true)
    (d7a : PySem.W.nsIn K mainGlobals "_law_made_right" = some (some (.ref d7f)))
    (d7l : K.lookup d7f = some ⟨d7oc, d7od, .func (PySem.W.fnOf "_law_made_right" "_law_made_right" (defArgs sMade) (defBody sMade) (defScope sMade) .none d7kV d7dc d7pm d7an d7cd d7ct), d7sl⟩)
    (d7c : PySem.W.codeIn K d7cd "_law_made_right" = true)
    (d7k : PySem.W.keepIn K (.ref d7f) = true)
    (d8a : PySem.W.nsIn K mainGlobals "_law_right" = some (some (.ref d8f)))
    (d8l : K.lookup d8f = some ⟨d8oc, d8od, .func (PySem.W.fnOf "_law_right" "_law_right" (defArgs sRight) (defBody sRight) (defScope sRight) .none d8kV d8dc d8pm d8an d8cd d8ct), d8sl⟩)
    (d8c : PySem.W.codeIn K d8cd "_law_right" = true)
    (d8k : PySem.W.keepIn K (.ref d8f) = true)
    (d9a : PySem.W.nsIn K mainGlobals "law" = some (some (.ref d9f)))
    (d9l : K.lookup d9f = some ⟨d9oc, d9od, .func (PySem.W.fnOf "law" "law" (defArgs sLaw) (defBody sLaw) (defScope sLaw) .none d9kV d9dc d9pm d9an d9cd d9ct), d9sl⟩)
    (d9c : PySem.W.codeIn K d9cd "law" = true)
    (d9k : PySem.W.keepIn K (.ref d9f) = true)
    (c0a : PySem.W.nsIn K mainGlobals "BadLine" = some (some (.ref c0)))
    (c0l : K.lookup c0 = some (excClassObj c0n c0q c0 c0N c0b [.type "ValueError", .type "Exception", .type "BaseException", .type "object"] true c0s c0u c0ab c0col c0dd c0k0 c0k1 c0k2 c0k3 c0k5 "ValueError.__new__"))
    (c0sa : PySem.W.findIn K (.ref c0) "__setattr__" = some (some (.builtin "object.__setattr__")))
    (c0ga : PySem.W.findIn K (.ref c0) "__getattribute__" = some (some (.builtin "BaseException.__getattribute__")))
    (c0gg : PySem.W.findIn K (.ref c0) "__getattr__" = some none)
    (c0su : PySem.W.subIn K (.ref c0) (.type "BaseException") = some true)
    (c0hd : PySem.W.hasDictIn K c0 = true)
    (c0ca : PySem.W.findIn K (.ref c0) "__class__" = some (some (.builtin "object.__class__")))
    (c0mo : PySem.W.mroIn K c0 (.type "object") = some true)
    (c0ty : PySem.W.typeIn K (.ref c0) = some (.type "type"))
    (c0kC : PySem.W.keepIn K (.ref c0) = true)
    (c0nN : PySem.W.findIn K (.ref c0) "number" = some none)
    (c0nR : PySem.W.findIn K (.ref c0) "row" = some none)
    (i0a : PySem.W.findIn K (.ref c0) "__init__" = some (some (.ref i0f)))
    (i0t : PySem.W.typeIn K (.ref i0f) = some (.type "function"))
    (i0l : K.lookup i0f = some ⟨i0oc, i0od, .func (PySem.W.fnOf "__init__" "BadLine.__init__" (defArgs sIBadLine) (defBody sIBadLine) (defScope sIBadLine) .none i0kV i0dc i0pm i0an i0cd i0ct), i0sl⟩)
    (i0c : PySem.W.codeIn K i0cd "BadLine.__init__" = true)
    (i0k : PySem.W.keepIn K (.ref i0f) = true)
    (c1a : PySem.W.nsIn K mainGlobals "Barred" = some (some (.ref c1)))
    (c1l : K.lookup c1 = some (excClassObj c1n c1q c1 c1N c1b [.type "ValueError", .type "Exception", .type "BaseException", .type "object"] true c1s c1u c1ab c1col c1dd c1k0 c1k1 c1k2 c1k3 c1k5 "ValueError.__new__"))
    (c1sa : PySem.W.findIn K (.ref c1) "__setattr__" = some (some (.builtin "object.__setattr__")))
    (c1ga : PySem.W.findIn K (.ref c1) "__getattribute__" = some (some (.builtin "BaseException.__getattribute__")))
    (c1gg : PySem.W.findIn K (.ref c1) "__getattr__" = some none)
    (c1su : PySem.W.subIn K (.ref c1) (.type "BaseException") = some true)
    (c1hd : PySem.W.hasDictIn K c1 = true)
    (c1ca : PySem.W.findIn K (.ref c1) "__class__" = some (some (.builtin "object.__class__")))
    (c1mo : PySem.W.mroIn K c1 (.type "object") = some true)
    (c1ty : PySem.W.typeIn K (.ref c1) = some (.type "type"))
    (c1kC : PySem.W.keepIn K (.ref c1) = true)
    (c1nN : PySem.W.findIn K (.ref c1) "number" = some none)
    (c1nR : PySem.W.findIn K (.ref c1) "row" = some none)
    (i1a : PySem.W.findIn K (.ref c1) "__init__" = some (some (.ref i1f)))
    (i1t : PySem.W.typeIn K (.ref i1f) = some (.type "function"))
    (i1l : K.lookup i1f = some ⟨i1oc, i1od, .func (PySem.W.fnOf "__init__" "Barred.__init__" (defArgs sIBarred) (defBody sIBarred) (defScope sIBarred) .none i1kV i1dc i1pm i1an i1cd i1ct), i1sl⟩)
    (i1c : PySem.W.codeIn K i1cd "Barred.__init__" = true)
    (i1k : PySem.W.keepIn K (.ref i1f) = true)
    (c2a : PySem.W.nsIn K mainGlobals "CanNot" = some (some (.ref c2)))
    (c2l : K.lookup c2 = some (excClassObj c2n c2q c2 c2N c2b [.type "ValueError", .type "Exception", .type "BaseException", .type "object"] true c2s c2u c2ab c2col c2dd c2k0 c2k1 c2k2 c2k3 c2k5 "ValueError.__new__"))
    (c2sa : PySem.W.findIn K (.ref c2) "__setattr__" = some (some (.builtin "object.__setattr__")))
    (c2ga : PySem.W.findIn K (.ref c2) "__getattribute__" = some (some (.builtin "BaseException.__getattribute__")))
    (c2gg : PySem.W.findIn K (.ref c2) "__getattr__" = some none)
    (c2su : PySem.W.subIn K (.ref c2) (.type "BaseException") = some true)
    (c2hd : PySem.W.hasDictIn K c2 = true)
    (c2ca : PySem.W.findIn K (.ref c2) "__class__" = some (some (.builtin "object.__class__")))
    (c2mo : PySem.W.mroIn K c2 (.type "object") = some true)
    (c2ty : PySem.W.typeIn K (.ref c2) = some (.type "type"))
    (c2kC : PySem.W.keepIn K (.ref c2) = true)
    (c2nN : PySem.W.findIn K (.ref c2) "number" = some none)
    (c2nR : PySem.W.findIn K (.ref c2) "row" = some none)
    (i2z : PySem.W.findIn K (.ref c2) "__init__" = some (some (.builtin "ValueError.__init__")))
    (c3a : PySem.W.nsIn K mainGlobals "Held" = some (some (.ref c3)))
    (c3l : K.lookup c3 = some (excClassObj c3n c3q c3 c3N c3b [.type "ValueError", .type "Exception", .type "BaseException", .type "object"] true c3s c3u c3ab c3col c3dd c3k0 c3k1 c3k2 c3k3 c3k5 "ValueError.__new__"))
    (c3sa : PySem.W.findIn K (.ref c3) "__setattr__" = some (some (.builtin "object.__setattr__")))
    (c3ga : PySem.W.findIn K (.ref c3) "__getattribute__" = some (some (.builtin "BaseException.__getattribute__")))
    (c3gg : PySem.W.findIn K (.ref c3) "__getattr__" = some none)
    (c3su : PySem.W.subIn K (.ref c3) (.type "BaseException") = some true)
    (c3hd : PySem.W.hasDictIn K c3 = true)
    (c3ca : PySem.W.findIn K (.ref c3) "__class__" = some (some (.builtin "object.__class__")))
    (c3mo : PySem.W.mroIn K c3 (.type "object") = some true)
    (c3ty : PySem.W.typeIn K (.ref c3) = some (.type "type"))
    (c3kC : PySem.W.keepIn K (.ref c3) = true)
    (c3nN : PySem.W.findIn K (.ref c3) "number" = some none)
    (c3nR : PySem.W.findIn K (.ref c3) "row" = some none)
    (i3a : PySem.W.findIn K (.ref c3) "__init__" = some (some (.ref i3f)))
    (i3t : PySem.W.typeIn K (.ref i3f) = some (.type "function"))
    (i3l : K.lookup i3f = some ⟨i3oc, i3od, .func (PySem.W.fnOf "__init__" "Held.__init__" (defArgs sIHeld) (defBody sIHeld) (defScope sIHeld) .none i3kV i3dc i3pm i3an i3cd i3ct), i3sl⟩)
    (i3c : PySem.W.codeIn K i3cd "Held.__init__" = true)
    (i3k : PySem.W.keepIn K (.ref i3f) = true)
    (c4a : PySem.W.nsIn K mainGlobals "Late" = some (some (.ref c4)))
    (c4l : K.lookup c4 = some (excClassObj c4n c4q c4 c4N c4b [.type "ValueError", .type "Exception", .type "BaseException", .type "object"] true c4s c4u c4ab c4col c4dd c4k0 c4k1 c4k2 c4k3 c4k5 "ValueError.__new__"))
    (c4sa : PySem.W.findIn K (.ref c4) "__setattr__" = some (some (.builtin "object.__setattr__")))
    (c4ga : PySem.W.findIn K (.ref c4) "__getattribute__" = some (some (.builtin "BaseException.__getattribute__")))
    (c4gg : PySem.W.findIn K (.ref c4) "__getattr__" = some none)
    (c4su : PySem.W.subIn K (.ref c4) (.type "BaseException") = some true)
    (c4hd : PySem.W.hasDictIn K c4 = true)
    (c4ca : PySem.W.findIn K (.ref c4) "__class__" = some (some (.builtin "object.__class__")))
    (c4mo : PySem.W.mroIn K c4 (.type "object") = some true)
    (c4ty : PySem.W.typeIn K (.ref c4) = some (.type "type"))
    (c4kC : PySem.W.keepIn K (.ref c4) = true)
    (c4nN : PySem.W.findIn K (.ref c4) "number" = some none)
    (c4nR : PySem.W.findIn K (.ref c4) "row" = some none)
    (i4a : PySem.W.findIn K (.ref c4) "__init__" = some (some (.ref i4f)))
    (i4t : PySem.W.typeIn K (.ref i4f) = some (.type "function"))
    (i4l : K.lookup i4f = some ⟨i4oc, i4od, .func (PySem.W.fnOf "__init__" "Late.__init__" (defArgs sILate) (defBody sILate) (defScope sILate) .none i4kV i4dc i4pm i4an i4cd i4ct), i4sl⟩)
    (i4c : PySem.W.codeIn K i4cd "Late.__init__" = true)
    (i4k : PySem.W.keepIn K (.ref i4f) = true)
    (c5a : PySem.W.nsIn K mainGlobals "NoNumber" = some (some (.ref c5)))
    (c5l : K.lookup c5 = some (excClassObj c5n c5q c5 c5N c5b [.type "LookupError", .type "Exception", .type "BaseException", .type "object"] true c5s c5u c5ab c5col c5dd c5k0 c5k1 c5k2 c5k3 c5k5 "LookupError.__new__"))
    (c5sa : PySem.W.findIn K (.ref c5) "__setattr__" = some (some (.builtin "object.__setattr__")))
    (c5ga : PySem.W.findIn K (.ref c5) "__getattribute__" = some (some (.builtin "BaseException.__getattribute__")))
    (c5gg : PySem.W.findIn K (.ref c5) "__getattr__" = some none)
    (c5su : PySem.W.subIn K (.ref c5) (.type "BaseException") = some true)
    (c5hd : PySem.W.hasDictIn K c5 = true)
    (c5ca : PySem.W.findIn K (.ref c5) "__class__" = some (some (.builtin "object.__class__")))
    (c5mo : PySem.W.mroIn K c5 (.type "object") = some true)
    (c5ty : PySem.W.typeIn K (.ref c5) = some (.type "type"))
    (c5kC : PySem.W.keepIn K (.ref c5) = true)
    (c5nN : PySem.W.findIn K (.ref c5) "number" = some none)
    (c5nR : PySem.W.findIn K (.ref c5) "row" = some none)
    (i5a : PySem.W.findIn K (.ref c5) "__init__" = some (some (.ref i5f)))
    (i5t : PySem.W.typeIn K (.ref i5f) = some (.type "function"))
    (i5l : K.lookup i5f = some ⟨i5oc, i5od, .func (PySem.W.fnOf "__init__" "NoNumber.__init__" (defArgs sINoNumber) (defBody sINoNumber) (defScope sINoNumber) .none i5kV i5dc i5pm i5an i5cd i5ct), i5sl⟩)
    (i5c : PySem.W.codeIn K i5cd "NoNumber.__init__" = true)
    (i5k : PySem.W.keepIn K (.ref i5f) = true)
    (c6a : PySem.W.nsIn K mainGlobals "NoRow" = some (some (.ref c6)))
    (c6l : K.lookup c6 = some (excClassObj c6n c6q c6 c6N c6b [.type "LookupError", .type "Exception", .type "BaseException", .type "object"] true c6s c6u c6ab c6col c6dd c6k0 c6k1 c6k2 c6k3 c6k5 "LookupError.__new__"))
    (c6sa : PySem.W.findIn K (.ref c6) "__setattr__" = some (some (.builtin "object.__setattr__")))
    (c6ga : PySem.W.findIn K (.ref c6) "__getattribute__" = some (some (.builtin "BaseException.__getattribute__")))
    (c6gg : PySem.W.findIn K (.ref c6) "__getattr__" = some none)
    (c6su : PySem.W.subIn K (.ref c6) (.type "BaseException") = some true)
    (c6hd : PySem.W.hasDictIn K c6 = true)
    (c6ca : PySem.W.findIn K (.ref c6) "__class__" = some (some (.builtin "object.__class__")))
    (c6mo : PySem.W.mroIn K c6 (.type "object") = some true)
    (c6ty : PySem.W.typeIn K (.ref c6) = some (.type "type"))
    (c6kC : PySem.W.keepIn K (.ref c6) = true)
    (c6nN : PySem.W.findIn K (.ref c6) "number" = some none)
    (c6nR : PySem.W.findIn K (.ref c6) "row" = some none)
    (i6a : PySem.W.findIn K (.ref c6) "__init__" = some (some (.ref i6f)))
    (i6t : PySem.W.typeIn K (.ref i6f) = some (.type "function"))
    (i6l : K.lookup i6f = some ⟨i6oc, i6od, .func (PySem.W.fnOf "__init__" "NoRow.__init__" (defArgs sINoRow) (defBody sINoRow) (defScope sINoRow) .none i6kV i6dc i6pm i6an i6cd i6ct), i6sl⟩)
    (i6c : PySem.W.codeIn K i6cd "NoRow.__init__" = true)
    (i6k : PySem.W.keepIn K (.ref i6f) = true)
    (c7a : PySem.W.nsIn K mainGlobals "Pinched" = some (some (.ref c7)))
    (c7l : K.lookup c7 = some (excClassObj c7n c7q c7 c7N c7b [.type "ValueError", .type "Exception", .type "BaseException", .type "object"] true c7s c7u c7ab c7col c7dd c7k0 c7k1 c7k2 c7k3 c7k5 "ValueError.__new__"))
    (c7sa : PySem.W.findIn K (.ref c7) "__setattr__" = some (some (.builtin "object.__setattr__")))
    (c7ga : PySem.W.findIn K (.ref c7) "__getattribute__" = some (some (.builtin "BaseException.__getattribute__")))
    (c7gg : PySem.W.findIn K (.ref c7) "__getattr__" = some none)
    (c7su : PySem.W.subIn K (.ref c7) (.type "BaseException") = some true)
    (c7hd : PySem.W.hasDictIn K c7 = true)
    (c7ca : PySem.W.findIn K (.ref c7) "__class__" = some (some (.builtin "object.__class__")))
    (c7mo : PySem.W.mroIn K c7 (.type "object") = some true)
    (c7ty : PySem.W.typeIn K (.ref c7) = some (.type "type"))
    (c7kC : PySem.W.keepIn K (.ref c7) = true)
    (c7nN : PySem.W.findIn K (.ref c7) "number" = some none)
    (c7nR : PySem.W.findIn K (.ref c7) "row" = some none)
    (i7z : PySem.W.findIn K (.ref c7) "__init__" = some (some (.builtin "ValueError.__init__")))
    (c8a : PySem.W.nsIn K mainGlobals "Twice" = some (some (.ref c8)))
    (c8l : K.lookup c8 = some (excClassObj c8n c8q c8 c8N c8b [.type "ValueError", .type "Exception", .type "BaseException", .type "object"] true c8s c8u c8ab c8col c8dd c8k0 c8k1 c8k2 c8k3 c8k5 "ValueError.__new__"))
    (c8sa : PySem.W.findIn K (.ref c8) "__setattr__" = some (some (.builtin "object.__setattr__")))
    (c8ga : PySem.W.findIn K (.ref c8) "__getattribute__" = some (some (.builtin "BaseException.__getattribute__")))
    (c8gg : PySem.W.findIn K (.ref c8) "__getattr__" = some none)
    (c8su : PySem.W.subIn K (.ref c8) (.type "BaseException") = some true)
    (c8hd : PySem.W.hasDictIn K c8 = true)
    (c8ca : PySem.W.findIn K (.ref c8) "__class__" = some (some (.builtin "object.__class__")))
    (c8mo : PySem.W.mroIn K c8 (.type "object") = some true)
    (c8ty : PySem.W.typeIn K (.ref c8) = some (.type "type"))
    (c8kC : PySem.W.keepIn K (.ref c8) = true)
    (c8nN : PySem.W.findIn K (.ref c8) "number" = some none)
    (c8nR : PySem.W.findIn K (.ref c8) "row" = some none)
    (i8a : PySem.W.findIn K (.ref c8) "__init__" = some (some (.ref i8f)))
    (i8t : PySem.W.typeIn K (.ref i8f) = some (.type "function"))
    (i8l : K.lookup i8f = some ⟨i8oc, i8od, .func (PySem.W.fnOf "__init__" "Twice.__init__" (defArgs sITwice) (defBody sITwice) (defScope sITwice) .none i8kV i8dc i8pm i8an i8cd i8ct), i8sl⟩)
    (i8c : PySem.W.codeIn K i8cd "Twice.__init__" = true)
    (i8k : PySem.W.keepIn K (.ref i8f) = true)
    (c9a : PySem.W.nsIn K mainGlobals "Unfit" = some (some (.ref c9)))
    (c9l : K.lookup c9 = some (excClassObj c9n c9q c9 c9N c9b [.type "ValueError", .type "Exception", .type "BaseException", .type "object"] true c9s c9u c9ab c9col c9dd c9k0 c9k1 c9k2 c9k3 c9k5 "ValueError.__new__"))
    (c9sa : PySem.W.findIn K (.ref c9) "__setattr__" = some (some (.builtin "object.__setattr__")))
    (c9ga : PySem.W.findIn K (.ref c9) "__getattribute__" = some (some (.builtin "BaseException.__getattribute__")))
    (c9gg : PySem.W.findIn K (.ref c9) "__getattr__" = some none)
    (c9su : PySem.W.subIn K (.ref c9) (.type "BaseException") = some true)
    (c9hd : PySem.W.hasDictIn K c9 = true)
    (c9ca : PySem.W.findIn K (.ref c9) "__class__" = some (some (.builtin "object.__class__")))
    (c9mo : PySem.W.mroIn K c9 (.type "object") = some true)
    (c9ty : PySem.W.typeIn K (.ref c9) = some (.type "type"))
    (c9kC : PySem.W.keepIn K (.ref c9) = true)
    (c9nN : PySem.W.findIn K (.ref c9) "number" = some none)
    (c9nR : PySem.W.findIn K (.ref c9) "row" = some none)
    (i9z : PySem.W.findIn K (.ref c9) "__init__" = some (some (.builtin "ValueError.__init__")))
    (gHn : PySem.W.specialIn K (.builtin "object.__class__") "__get__" = some (some (.builtin "getset_descriptor.__get__")))
    (gHt : PySem.W.takesIn K (.builtin "object.__class__") = some true)
    (z_int : PySem.W.nsIn K mainGlobals "int" = some none)
    (z_len : PySem.W.nsIn K mainGlobals "len" = some none)
    (z_abs : PySem.W.nsIn K mainGlobals "abs" = some none)
    (z_list : PySem.W.nsIn K mainGlobals "list" = some none)
    (z_tuple : PySem.W.nsIn K mainGlobals "tuple" = some none)
    (z_bool : PySem.W.nsIn K mainGlobals "bool" = some none)
    (z_str : PySem.W.nsIn K mainGlobals "str" = some none)
    (z_enumerate : PySem.W.nsIn K mainGlobals "enumerate" = some none)
    (z_isinstance : PySem.W.nsIn K mainGlobals "isinstance" = some none)
    (z_all : PySem.W.nsIn K mainGlobals "all" = some none)
    (z_zip : PySem.W.nsIn K mainGlobals "zip" = some none)
    (z_range : PySem.W.nsIn K mainGlobals "range" = some none)
    (z_LookupError : PySem.W.nsIn K mainGlobals "LookupError" = some none)
    (z_ValueError : PySem.W.nsIn K mainGlobals "ValueError" = some none)
    (z_TypeError : PySem.W.nsIn K mainGlobals "TypeError" = some none)
    (z_KeyError : PySem.W.nsIn K mainGlobals "KeyError" = some none)
    (z_IndexError : PySem.W.nsIn K mainGlobals "IndexError" = some none)
    (z_RuntimeError : PySem.W.nsIn K mainGlobals "RuntimeError" = some none)
    (z_AttributeError : PySem.W.nsIn K mainGlobals "AttributeError" = some none)
    (z_Exception : PySem.W.nsIn K mainGlobals "Exception" = some none)
    (nd : ([c0, c1, c2, c3, c4, c5, c6, c7, c8, c9] : List Addr).Nodup)
    : ∃ fd : FuncData, (∀ (s : Shared) (v : Value), BindsTo s fd ⟨[v], []⟩ [("_law_script", v)]) ∧ ∀ base : Heap, K.In base → base.Ns mainGlobals mg → FnOk l.prog w K mg base CX0 6 fa fd ["_law_script"] (spLaw K) := by
  have e := hfa.symm.trans (PySem.W.mg_of X G d9a)
  cases e
  have F0 := fun_mk (st := sBox) d0l d0c d0k
  have b0 := F0.binds (ps := ["_law_script", "_law_nth_so"]) fun _ _ _ _ _ _ us hl => match us, hl with | [_, _], _ => rfl
  have g0 := PySem.W.mg_of X G d0a
  have F1 := fun_mk (st := sTake) d1l d1c d1k
  have b1 := F1.binds (ps := ["_law_box_here", "_law_below_so"]) fun _ _ _ _ _ _ us hl => match us, hl with | [_, _], _ => rfl
  have g1 := PySem.W.mg_of X G d1a
  have F2 := fun_mk (st := sCells) d2l d2c d2k
  have b2 := F2.binds (ps := ["_law_script", "_law_top_so"]) fun _ _ _ _ _ _ us hl => match us, hl with | [_, _], _ => rfl
  have g2 := PySem.W.mg_of X G d2a
  have F3 := fun_mk (st := sSame) d3l d3c d3k
  have b3 := F3.binds (ps := ["_law_got", "_law_due"]) fun _ _ _ _ _ _ us hl => match us, hl with | [_, _], _ => rfl
  have g3 := PySem.W.mg_of X G d3a
  have F4 := fun_mk (st := sOf) d4l d4c d4k
  have b4 := F4.binds (ps := ["_law_box_here", "_law_pool_so"]) fun _ _ _ _ _ _ us hl => match us, hl with | [_, _], _ => rfl
  have g4 := PySem.W.mg_of X G d4a
  have F5 := fun_mk (st := sUnder) d5l d5c d5k
  have b5 := F5.binds (ps := ["_law_error_so"]) fun _ _ _ _ _ _ us hl => match us, hl with | [_], _ => rfl
  have g5 := PySem.W.mg_of X G d5a
  have F6 := fun_mk (st := sWhich) d6l d6c d6k
  have b6 := F6.binds (ps := ["_law_error_so"]) fun _ _ _ _ _ _ us hl => match us, hl with | [_], _ => rfl
  have g6 := PySem.W.mg_of X G d6a
  have F7 := fun_mk (st := sMade) d7l d7c d7k
  have b7 := F7.binds (ps := ["_law_number_so", "_law_row_so"]) fun _ _ _ _ _ _ us hl => match us, hl with | [_, _], _ => rfl
  have g7 := PySem.W.mg_of X G d7a
  have F8 := fun_mk (st := sRight) d8l d8c d8k
  have b8 := F8.binds (ps := ["_law_box_here"]) fun _ _ _ _ _ _ us hl => match us, hl with | [_], _ => rfl
  have g8 := PySem.W.mg_of X G d8a
  have F9 := fun_mk (st := sLaw) d9l d9c d9k
  have N0 : Nat0 mg := ⟨PySem.W.mg_none_of X G z_int, PySem.W.mg_none_of X G z_len, PySem.W.mg_none_of X G z_abs, PySem.W.mg_none_of X G z_list, PySem.W.mg_none_of X G z_tuple, PySem.W.mg_none_of X G z_bool, PySem.W.mg_none_of X G z_str, PySem.W.mg_none_of X G z_enumerate, PySem.W.mg_none_of X G z_isinstance, PySem.W.mg_none_of X G z_all, PySem.W.mg_none_of X G z_zip, PySem.W.mg_none_of X G z_range⟩
  have NE : NatE mg := ⟨PySem.W.mg_none_of X G z_LookupError, PySem.W.mg_none_of X G z_ValueError, PySem.W.mg_none_of X G z_TypeError, PySem.W.mg_none_of X G z_KeyError, PySem.W.mg_none_of X G z_IndexError, PySem.W.mg_none_of X G z_RuntimeError, PySem.W.mg_none_of X G z_AttributeError, PySem.W.mg_none_of X G z_Exception⟩
  have E0 : EC K mg "BadLine" c0 "ValueError" "ValueError.__new__" := mk_ec (PySem.W.mg_of X G c0a) c0l c0sa c0ga c0gg c0su c0hd c0ca gHn gHt c0mo c0ty c0kC
  have E1 : EC K mg "Barred" c1 "ValueError" "ValueError.__new__" := mk_ec (PySem.W.mg_of X G c1a) c1l c1sa c1ga c1gg c1su c1hd c1ca gHn gHt c1mo c1ty c1kC
  have E2 : EC K mg "CanNot" c2 "ValueError" "ValueError.__new__" := mk_ec (PySem.W.mg_of X G c2a) c2l c2sa c2ga c2gg c2su c2hd c2ca gHn gHt c2mo c2ty c2kC
  have E3 : EC K mg "Held" c3 "ValueError" "ValueError.__new__" := mk_ec (PySem.W.mg_of X G c3a) c3l c3sa c3ga c3gg c3su c3hd c3ca gHn gHt c3mo c3ty c3kC
  have E4 : EC K mg "Late" c4 "ValueError" "ValueError.__new__" := mk_ec (PySem.W.mg_of X G c4a) c4l c4sa c4ga c4gg c4su c4hd c4ca gHn gHt c4mo c4ty c4kC
  have E5 : EC K mg "NoNumber" c5 "LookupError" "LookupError.__new__" := mk_ec (PySem.W.mg_of X G c5a) c5l c5sa c5ga c5gg c5su c5hd c5ca gHn gHt c5mo c5ty c5kC
  have E6 : EC K mg "NoRow" c6 "LookupError" "LookupError.__new__" := mk_ec (PySem.W.mg_of X G c6a) c6l c6sa c6ga c6gg c6su c6hd c6ca gHn gHt c6mo c6ty c6kC
  have E7 : EC K mg "Pinched" c7 "ValueError" "ValueError.__new__" := mk_ec (PySem.W.mg_of X G c7a) c7l c7sa c7ga c7gg c7su c7hd c7ca gHn gHt c7mo c7ty c7kC
  have E8 : EC K mg "Twice" c8 "ValueError" "ValueError.__new__" := mk_ec (PySem.W.mg_of X G c8a) c8l c8sa c8ga c8gg c8su c8hd c8ca gHn gHt c8mo c8ty c8kC
  have E9 : EC K mg "Unfit" c9 "ValueError" "ValueError.__new__" := mk_ec (PySem.W.mg_of X G c9a) c9l c9sa c9ga c9gg c9su c9hd c9ca gHn gHt c9mo c9ty c9kC
  let C : Nat → Addr := fun i => ([c0, c1, c2, c3, c4, c5, c6, c7, c8, c9] : List Addr).getD i 0
  have T : Ten K mg C := by
    refine ⟨fun i hi => ?_, fun i j hi hj e => ?_, fun i hi => ?_, fun i hi => ?_⟩
    · match i, hi with
      | 0, _ => exact E0
      | 1, _ => exact E1
      | 2, _ => exact E2
      | 3, _ => exact E3
      | 4, _ => exact E4
      | 5, _ => exact E5
      | 6, _ => exact E6
      | 7, _ => exact E7
      | 8, _ => exact E8
      | 9, _ => exact E9
    · have q := fun (k : Nat) (hk : k < 10) => (List.getElem?_eq_getElem (l := ([c0, c1, c2, c3, c4, c5, c6, c7, c8, c9] : List Addr)) (i := k) hk)
      have r := fun (k : Nat) (hk : k < 10) => show C k = ([c0, c1, c2, c3, c4, c5, c6, c7, c8, c9] : List Addr)[k] from by
        show ([c0, c1, c2, c3, c4, c5, c6, c7, c8, c9] : List Addr).getD k 0 = _
        rw [List.getD_eq_getElem?_getD, q k hk]
        rfl
      rw [r i hi, r j hj] at e
      exact (List.getElem_inj nd).mp e
    · match i, hi with
      | 0, _ => exact c0nN
      | 1, _ => exact c1nN
      | 2, _ => exact c2nN
      | 3, _ => exact c3nN
      | 4, _ => exact c4nN
      | 5, _ => exact c5nN
      | 6, _ => exact c6nN
      | 7, _ => exact c7nN
      | 8, _ => exact c8nN
      | 9, _ => exact c9nN
    · match i, hi with
      | 0, _ => exact c0nR
      | 1, _ => exact c1nR
      | 2, _ => exact c2nR
      | 3, _ => exact c3nR
      | 4, _ => exact c4nR
      | 5, _ => exact c5nR
      | 6, _ => exact c6nR
      | 7, _ => exact c7nR
      | 8, _ => exact c8nR
      | 9, _ => exact c9nR
  have I0 := fun_mk (st := sIBadLine) i0l i0c i0k
  have ib0 := I0.binds (ps := ["self", "number"]) fun _ _ _ _ _ _ us hl => match us, hl with | [_, _], _ => rfl
  have I1 := fun_mk (st := sIBarred) i1l i1c i1k
  have ib1 := I1.binds (ps := ["self", "number"]) fun _ _ _ _ _ _ us hl => match us, hl with | [_, _], _ => rfl
  have I3 := fun_mk (st := sIHeld) i3l i3c i3k
  have ib3 := I3.binds (ps := ["self", "number"]) fun _ _ _ _ _ _ us hl => match us, hl with | [_, _], _ => rfl
  have I4 := fun_mk (st := sILate) i4l i4c i4k
  have ib4 := I4.binds (ps := ["self", "number"]) fun _ _ _ _ _ _ us hl => match us, hl with | [_, _], _ => rfl
  have I5 := fun_mk (st := sINoNumber) i5l i5c i5k
  have ib5 := I5.binds (ps := ["self", "number"]) fun _ _ _ _ _ _ us hl => match us, hl with | [_, _], _ => rfl
  have I6 := fun_mk (st := sINoRow) i6l i6c i6k
  have ib6 := I6.binds (ps := ["self", "row"]) fun _ _ _ _ _ _ us hl => match us, hl with | [_, _], _ => rfl
  have I8 := fun_mk (st := sITwice) i8l i8c i8k
  have ib8 := I8.binds (ps := ["self", "row"]) fun _ _ _ _ _ _ us hl => match us, hl with | [_, _], _ => rfl
  refine ⟨PySem.W.fnOf "law" "law" (defArgs sLaw) (defBody sLaw) (defScope sLaw) .none d9kV d9dc d9pm d9an d9cd d9ct, fun s v => .of_eq rfl, fun base _ _ => ?_⟩
  have J0 : IniOk l.prog w K mg base (C 0) "number" := ⟨i0f, _, ⟨i0a, i0t⟩, ok_iBadLine I0 E0 c0nN, ib0, fun s v ws _ hl => match ws, hl with | [_], _ => .of_eq rfl⟩
  have J1 : IniOk l.prog w K mg base (C 1) "number" := ⟨i1f, _, ⟨i1a, i1t⟩, ok_iBarred I1 E1 c1nN, ib1, fun s v ws _ hl => match ws, hl with | [_], _ => .of_eq rfl⟩
  have J3 : IniOk l.prog w K mg base (C 3) "number" := ⟨i3f, _, ⟨i3a, i3t⟩, ok_iHeld I3 E3 c3nN, ib3, fun s v ws _ hl => match ws, hl with | [_], _ => .of_eq rfl⟩
  have J4 : IniOk l.prog w K mg base (C 4) "number" := ⟨i4f, _, ⟨i4a, i4t⟩, ok_iLate I4 E4 c4nN, ib4, fun s v ws _ hl => match ws, hl with | [_], _ => .of_eq rfl⟩
  have J5 : IniOk l.prog w K mg base (C 5) "number" := ⟨i5f, _, ⟨i5a, i5t⟩, ok_iNoNumber I5 E5 c5nN, ib5, fun s v ws _ hl => match ws, hl with | [_], _ => .of_eq rfl⟩
  have J6 : IniOk l.prog w K mg base (C 6) "row" := ⟨i6f, _, ⟨i6a, i6t⟩, ok_iNoRow I6 E6 c6nR, ib6, fun s v ws _ hl => match ws, hl with | [_], _ => .of_eq rfl⟩
  have J8 : IniOk l.prog w K mg base (C 8) "row" := ⟨i8f, _, ⟨i8a, i8t⟩, ok_iTwice I8 E8 c8nR, ib8, fun s v ws _ hl => match ws, hl with | [_], _ => .of_eq rfl⟩
  have GT : FnOk l.prog w K mg base CX0 1 d1f _ ["_law_box_here", "_law_below_so"] spTake2 := ok_take2 F1 N0
  have GM : FnOk l.prog w K mg base CX0 4 d7f _ ["_law_number_so", "_law_row_so"] spMade := ok_made F7 N0 NE T J0 J1 J3 J4 J5 J6 J8 i2z i7z i9z F5 b5 g5 F6 b6 g6 F3 b3 g3
  have GO : FnOk l.prog w K mg base CX0 2 d4f _ ["_law_box_here", "_law_pool_so"] spOf := ok_of F4 N0 F1 b1 g1
  exact ok_law F9 N0 (ok_cells F2 N0) d2k b2 g2 (ok_box F0 N0) d0k b0 g0 (ok_right F8 GT d1k b1 g1 GO d4k b4 g4 GM d7k b7 g7) d8k b8 g8 GM d7k b7 g7
end Kz
open PySem PySem.W PyProof.Rows
set_option maxHeartbeats 0 in
theorem PySem.Challenge.cw_nosplit_k00_errors_made_by_hand_holds : PySem.Challenge.rw_nosplit_k00_errors_made_by_hand.Holds := by
  w_on; o_law; k_head; (case hw => w_witness2)
  k_fill
  refine L2.walk_of (l := PySem.Challenge.rw_nosplit_k00_errors_made_by_hand) (n := 63) (k := 6) (x := "_law_script") (CX := fun _ => L2.CX0) (sp := fun w => Kz.spLaw _) rfl (by decide) rfl ⟨rfl, by decide, by decide⟩ (fun w h Y => PySem.W.kIn_of Y) ?F (fun _ _ a ns hl _ hS => ⟨a, ns, rfl, hS, hl, fun _ => rfl⟩) (fun _ _ _ _ _ h => h)
  case F =>
    intro w mg fa h KX G hmg
    refine' Kz.all_mk KX G hmg ?d0a ?d0l ?d0c ?d0k ?d1a ?d1l ?d1c ?d1k ?d2a ?d2l ?d2c ?d2k ?d3a ?d3l ?d3c ?d3k ?d4a ?d4l ?d4c ?d4k ?d5a ?d5l ?d5c ?d5k ?d6a ?d6l ?d6c ?d6k ?d7a ?d7l ?d7c ?d7k ?d8a ?d8l ?d8c ?d8k ?d9a ?d9l ?d9c ?d9k ?c0a ?c0l ?c0sa ?c0ga ?c0gg ?c0su ?c0hd ?c0ca ?c0mo ?c0ty ?c0kC ?c0nN ?c0nR ?i0a ?i0t ?i0l ?i0c ?i0k ?c1a ?c1l ?c1sa ?c1ga ?c1gg ?c1su ?c1hd ?c1ca ?c1mo ?c1ty ?c1kC ?c1nN ?c1nR ?i1a ?i1t ?i1l ?i1c ?i1k ?c2a ?c2l ?c2sa ?c2ga ?c2gg ?c2su ?c2hd ?c2ca ?c2mo ?c2ty ?c2kC ?c2nN ?c2nR ?i2z ?c3a ?c3l ?c3sa ?c3ga ?c3gg ?c3su ?c3hd ?c3ca ?c3mo ?c3ty ?c3kC ?c3nN ?c3nR ?i3a ?i3t ?i3l ?i3c ?i3k ?c4a ?c4l ?c4sa ?c4ga ?c4gg ?c4su ?c4hd ?c4ca ?c4mo ?c4ty ?c4kC ?c4nN ?c4nR ?i4a ?i4t ?i4l ?i4c ?i4k ?c5a ?c5l ?c5sa ?c5ga ?c5gg ?c5su ?c5hd ?c5ca ?c5mo ?c5ty ?c5kC ?c5nN ?c5nR ?i5a ?i5t ?i5l ?i5c ?i5k ?c6a ?c6l ?c6sa ?c6ga ?c6gg ?c6su ?c6hd ?c6ca ?c6mo ?c6ty ?c6kC ?c6nN ?c6nR ?i6a ?i6t ?i6l ?i6c ?i6k ?c7a ?c7l ?c7sa ?c7ga ?c7gg ?c7su ?c7hd ?c7ca ?c7mo ?c7ty ?c7kC ?c7nN ?c7nR ?i7z ?c8a ?c8l ?c8sa ?c8ga ?c8gg ?c8su ?c8hd ?c8ca ?c8mo ?c8ty ?c8kC ?c8nN ?c8nR ?i8a ?i8t ?i8l ?i8c ?i8k ?c9a ?c9l ?c9sa ?c9ga ?c9gg ?c9su ?c9hd ?c9ca ?c9mo ?c9ty ?c9kC ?c9nN ?c9nR ?i9z ?gHn ?gHt ?z_int ?z_len ?z_abs ?z_list ?z_tuple ?z_bool ?z_str ?z_enumerate ?z_isinstance ?z_all ?z_zip ?z_range ?z_LookupError ?z_ValueError ?z_TypeError ?z_KeyError ?z_IndexError ?z_RuntimeError ?z_AttributeError ?z_Exception ?nd
    (case d0a => k_is)
    (case d0l => k_is)
    (case d0c => k_is)
    (case d0k => k_is)
    (case d1a => k_is)
    (case d1l => k_is)
    (case d1c => k_is)
    (case d1k => k_is)
    (case d2a => k_is)
    (case d2l => k_is)
    (case d2c => k_is)
    (case d2k => k_is)
    (case d3a => k_is)
    (case d3l => k_is)
    (case d3c => k_is)
    (case d3k => k_is)
    (case d4a => k_is)
    (case d4l => k_is)
    (case d4c => k_is)
    (case d4k => k_is)
    (case d5a => k_is)
    (case d5l => k_is)
    (case d5c => k_is)
    (case d5k => k_is)
    (case d6a => k_is)
    (case d6l => k_is)
    (case d6c => k_is)
    (case d6k => k_is)
    (case d7a => k_is)
    (case d7l => k_is)
    (case d7c => k_is)
    (case d7k => k_is)
    (case d8a => k_is)
    (case d8l => k_is)
    (case d8c => k_is)
    (case d8k => k_is)
    (case d9a => k_is)
    (case d9l => k_is)
    (case d9c => k_is)
    (case d9k => k_is)
    (case c0a => k_is)
    (case c0l => k_is)
    (case c0sa => k_is)
    (case c0ga => k_is)
    (case c0gg => k_is)
    (case c0su => k_is)
    (case c0hd => k_is)
    (case c0ca => k_is)
    (case c0mo => k_is)
    (case c0ty => k_is)
    (case c0kC => k_is)
    (case c0nN => k_is)
    (case c0nR => k_is)
    (case i0a => k_is)
    (case i0t => k_is)
    (case i0l => k_is)
    (case i0c => k_is)
    (case i0k => k_is)
    (case c1a => k_is)
    (case c1l => k_is)
    (case c1sa => k_is)
    (case c1ga => k_is)
    (case c1gg => k_is)
    (case c1su => k_is)
    (case c1hd => k_is)
    (case c1ca => k_is)
    (case c1mo => k_is)
    (case c1ty => k_is)
    (case c1kC => k_is)
    (case c1nN => k_is)
    (case c1nR => k_is)
    (case i1a => k_is)
    (case i1t => k_is)
    (case i1l => k_is)
    (case i1c => k_is)
    (case i1k => k_is)
    (case c2a => k_is)
    (case c2l => k_is)
    (case c2sa => k_is)
    (case c2ga => k_is)
    (case c2gg => k_is)
    (case c2su => k_is)
    (case c2hd => k_is)
    (case c2ca => k_is)
    (case c2mo => k_is)
    (case c2ty => k_is)
    (case c2kC => k_is)
    (case c2nN => k_is)
    (case c2nR => k_is)
    (case i2z => k_is)
    (case c3a => k_is)
    (case c3l => k_is)
    (case c3sa => k_is)
    (case c3ga => k_is)
    (case c3gg => k_is)
    (case c3su => k_is)
    (case c3hd => k_is)
    (case c3ca => k_is)
    (case c3mo => k_is)
    (case c3ty => k_is)
    (case c3kC => k_is)
    (case c3nN => k_is)
    (case c3nR => k_is)
    (case i3a => k_is)
    (case i3t => k_is)
    (case i3l => k_is)
    (case i3c => k_is)
    (case i3k => k_is)
    (case c4a => k_is)
    (case c4l => k_is)
    (case c4sa => k_is)
    (case c4ga => k_is)
    (case c4gg => k_is)
    (case c4su => k_is)
    (case c4hd => k_is)
    (case c4ca => k_is)
    (case c4mo => k_is)
    (case c4ty => k_is)
    (case c4kC => k_is)
    (case c4nN => k_is)
    (case c4nR => k_is)
    (case i4a => k_is)
    (case i4t => k_is)
    (case i4l => k_is)
    (case i4c => k_is)
    (case i4k => k_is)
    (case c5a => k_is)
    (case c5l => k_is)
    (case c5sa => k_is)
    (case c5ga => k_is)
    (case c5gg => k_is)
    (case c5su => k_is)
    (case c5hd => k_is)
    (case c5ca => k_is)
    (case c5mo => k_is)
    (case c5ty => k_is)
    (case c5kC => k_is)
    (case c5nN => k_is)
    (case c5nR => k_is)
    (case i5a => k_is)
    (case i5t => k_is)
    (case i5l => k_is)
    (case i5c => k_is)
    (case i5k => k_is)
    (case c6a => k_is)
    (case c6l => k_is)
    (case c6sa => k_is)
    (case c6ga => k_is)
    (case c6gg => k_is)
    (case c6su => k_is)
    (case c6hd => k_is)
    (case c6ca => k_is)
    (case c6mo => k_is)
    (case c6ty => k_is)
    (case c6kC => k_is)
    (case c6nN => k_is)
    (case c6nR => k_is)
    (case i6a => k_is)
    (case i6t => k_is)
    (case i6l => k_is)
    (case i6c => k_is)
    (case i6k => k_is)
    (case c7a => k_is)
    (case c7l => k_is)
    (case c7sa => k_is)
    (case c7ga => k_is)
    (case c7gg => k_is)
    (case c7su => k_is)
    (case c7hd => k_is)
    (case c7ca => k_is)
    (case c7mo => k_is)
    (case c7ty => k_is)
    (case c7kC => k_is)
    (case c7nN => k_is)
    (case c7nR => k_is)
    (case i7z => k_is)
    (case c8a => k_is)
    (case c8l => k_is)
    (case c8sa => k_is)
    (case c8ga => k_is)
    (case c8gg => k_is)
    (case c8su => k_is)
    (case c8hd => k_is)
    (case c8ca => k_is)
    (case c8mo => k_is)
    (case c8ty => k_is)
    (case c8kC => k_is)
    (case c8nN => k_is)
    (case c8nR => k_is)
    (case i8a => k_is)
    (case i8t => k_is)
    (case i8l => k_is)
    (case i8c => k_is)
    (case i8k => k_is)
    (case c9a => k_is)
    (case c9l => k_is)
    (case c9sa => k_is)
    (case c9ga => k_is)
    (case c9gg => k_is)
    (case c9su => k_is)
    (case c9hd => k_is)
    (case c9ca => k_is)
    (case c9mo => k_is)
    (case c9ty => k_is)
    (case c9kC => k_is)
    (case c9nN => k_is)
    (case c9nR => k_is)
    (case i9z => k_is)
    (case gHn => k_is)
    (case gHt => k_is)
    (case z_int => k_is)
    (case z_len => k_is)
    (case z_abs => k_is)
    (case z_list => k_is)
    (case z_tuple => k_is)
    (case z_bool => k_is)
    (case z_str => k_is)
    (case z_enumerate => k_is)
    (case z_isinstance => k_is)
    (case z_all => k_is)
    (case z_zip => k_is)
    (case z_range => k_is)
    (case z_LookupError => k_is)
    (case z_ValueError => k_is)
    (case z_TypeError => k_is)
    (case z_KeyError => k_is)
    (case z_IndexError => k_is)
    (case z_RuntimeError => k_is)
    (case z_AttributeError => k_is)
    (case z_Exception => k_is)
    (case nd => decide)


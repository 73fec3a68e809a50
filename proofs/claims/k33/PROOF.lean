import PyProof.Rows.All
import Wide.All
import OpenK.AllK
import Wide.FinOn
import HandS.ForMost
import HandS.Codes
import HandS.IsInst
import HandS.Wide
import HandS.CallLocal
import HandS.StrMore
import HandS.Replace
import HandS.ReplaceDef
import HandS.ReplaceLit
import HandS.ReplaceList
import Wide.Txt
import HandS.Exc
import HandS.ExcInit
import HandS.Defaults
import HandS.MakeKw
import HandS.TryOnly
import HandS.ExcField
import KE.KExcIs
import KE.KExcInit
import PyProof.P3Eq
import HandS.ExcIs
import HandS.OwnEq
import HandS.Property
import HandS.ExcOwn
import HandS.NamedTupSort
import KE.KOpsOwn
import PyProof.InstNe
import HandS.MakeKwOnly
import PyProof.InstEq
import PyProof.DictUpdate
import PyProof.DictDisplay
import HandS.DictComp
import KE.KEqDict
import HandS.More
import HandS.TryMany
import HandS.WordsDict
import PyProof.Rows.StrMeet
import HandS.RaiseMore
import HandS.TupAny
import KE.KRevSl
import PyProof.SliceList
import PySem.Challenge.RW_forkhaul_k33_edits_open_at_the_same_time
import PyProof.SumAny
import PyProof.SumWalk
import Flt.Sum
import HandS.Zip
import HandS.Style
set_option Elab.async false
set_option linter.all false
set_option maxRecDepth 100000
set_option maxHeartbeats 4000000
/-! The base of the proofs: repetition of texts, defs by their names, comprehensions by an invariant, frames. -/
namespace Fk
open PySem PySem.Spec PyProof.Rows L2

/-! ### a text repeated -/
theorem fold_cps (x : Array Nat) : ∀ (n : Nat) (acc : Array Nat), ((List.replicate n x).foldl (· ++ ·) acc).toList = acc.toList ++ (List.replicate n x.toList).flatten
  | 0, acc => by simp
  | n + 1, acc => by
    rw [List.replicate_succ, List.foldl_cons, fold_cps x n (acc ++ x), List.replicate_succ, List.flatten_cons, Array.toList_append, List.append_assoc]
def repS (x : Str) (n : Nat) : Str := ⟨(List.replicate n x.cps.toList).flatten.toArray⟩
theorem tl_rep (x : Str) (n : Nat) : TL.tl (repS x n) = (List.replicate n (TL.tl x)).flatten := rfl
theorem rep_len (x : Str) (n : Nat) : (repS x n).length = n * x.length := by
  rw [TL.len_tl, tl_rep, TL.len_tl]
  induction n with
  | zero => simp
  | succ n ih => rw [List.replicate_succ, List.flatten_cons, List.length_append, ih, Nat.succ_mul, Nat.add_comm]
theorem tooLong_no {n : Nat} (h : n ≤ 16777216) : Builtin.Str.tooLong n = false := by
  unfold Builtin.Str.tooLong
  have e : (16777216 : Nat) = sizeLine ∨ 16777216 ≤ sizeLine := by right; decide
  have h2 : 16777216 ≤ sizeLine := by rcases e with e | e <;> omega
  simp
  omega
def rMulSI : R2 := fun x y H Q => ∃ (z : Str) (k : Int), x = .str z ∧ y = .int k ∧ 0 ≤ k ∧ k ≤ 10000 ∧ z.length * k.toNat ≤ 1000000 ∧ Q (.str (repS z k.toNat)) H
theorem op_mul_si {X : Cx} : OpR X (binaryOp .Mult) rMulSI := by
  intro pins s σ H x y v u Q I rx ry h
  obtain ⟨z, k, rfl, rfl, h0, h1, h2, q⟩ := h
  obtain ⟨t, rfl⟩ := rx
  obtain ⟨t', rfl⟩ := ry
  refine PySem.P.mul_str ?_ (fun h3 h4 => ?_) (fun h3 h4 => ?_) ?_
  · have e1 : ¬ k < -(2 ^ 63 : Int) := by omega
    have e2 : ¬ k ≥ 2 ^ 63 := by omega
    rw [decide_eq_false e1, decide_eq_false e2]
    rfl
  · have hk : 1 ≤ k := by omega
    have hz : z.length ≤ 1000000 := by
      have h5 : z.length * 1 ≤ z.length * k.toNat := Nat.mul_le_mul_left _ (by omega)
      omega
    have h6 : (10 ^ 14 : Int) ≤ (2 ^ 63 - 1) / k := by
      refine Int.le_ediv_of_mul_le (by omega) ?_
      have h7 : (10 ^ 14 : Int) * k ≤ 10 ^ 14 * 10000 := Int.mul_le_mul_of_nonneg_left h1 (by decide)
      have h8 : ((10 ^ 14 : Int) * 10000) ≤ 2 ^ 63 - 1 := by decide
      omega
    have h9 : ((z.length : Nat) : Int) ≤ 1000000 := by omega
    have h10 : (1000000 : Int) < 10 ^ 14 := by decide
    omega
  · exact tooLong_no (by omega)
  · by_cases h3 : k < 1
    · rw [if_pos h3]
      have e : k.toNat = 0 := by omega
      rw [e] at q
      have ez : repS z 0 = Str.empty := TL.ext_tl rfl
      rw [ez] at q
      exact ⟨by decide, V.str Str.empty, H, I.tok _, ⟨_, rfl⟩, q⟩
    · rw [if_neg h3]
      by_cases h4 : (k == 1 || z.length == 0) = true
      · rw [if_pos h4]
        have ez : repS z k.toNat = z := by
          apply TL.ext_tl
          rw [tl_rep]
          rcases Bool.or_eq_true_iff.mp h4 with h5 | h5
          · have e : k.toNat = 1 := by
              have := eq_of_beq h5
              omega
            rw [e]
            simp
          · have e : TL.tl z = [] := by
              have := eq_of_beq h5
              rw [TL.len_tl] at this
              exact List.length_eq_zero_iff.mp this
            rw [e]
            simp
        rw [ez] at q
        exact ⟨V.str z, H, I, ⟨_, rfl⟩, q⟩
      · rw [if_neg h4]
        have ez : (⟨(List.replicate k.toNat z.cps).foldl (· ++ ·) #[]⟩ : Str) = repS z k.toNat := by
          apply TL.ext_tl
          show ((List.replicate k.toNat z.cps).foldl (· ++ ·) #[]).toList = _
          rw [fold_cps]
          rfl
        have hl : (repS z k.toNat).length ≤ sizeLine := by
          rw [rep_len, Nat.mul_comm]
          exact Nat.le_trans h2 (by decide)
        rw [← ez] at q hl
        exact ⟨hl, V.str _, H, I.tok _, ⟨_, rfl⟩, q⟩

section
variable {P : Program} {w : World} {K : PySem.W.Frag} {mg : Str → Option Value} {base : Heap}
/-! ### defs by their names -/
/-- a def of the module whose parameters have no defaults -/
def IsDef (K : PySem.W.Frag) (mg : Str → Option Value) (x : Str) (st : Stmt) : Prop := ∃ f fd, C8.Def K mg x st f fd ∧ fd.defaults = .none
theorem cal_of {x : Str} {st : Stmt} {N ps : List Str} {k : Nat} {sp : Sp} (D : IsDef K mg x st) (S : FnScope N ps (C8.fnScope st))
    (hb : ∀ (kV doc pm : Value) (an : Option Addr) (cdv ct : Value) (us : List Value), us.length = ps.length → bindArgs (PySem.W.fnOf x x (C8.fnArgs st) (C8.fnBody st) (C8.fnScope st) .none kV doc pm an cdv ct) ⟨us, []⟩ = pure (ps.zip us))
    (len : ∀ vs H Q E, sp vs H Q E → vs.length = ps.length)
    (hbody : ∀ (f : Addr) (cdv : Value) (A : Around) (outer : List Env) (s : Shared) (H : Hp) (vs : List V) (Q : VK) (E : XK), Room k (A.deeper (envOfC x (C8.fnScope st) s.heap.objs.size f cdv)) → sp vs H Q E →
      ∃ t, PSs (cxOf C8.CX0 P w K mg base N x (C8.fnScope st) f cdv A outer s H E).nox (C8.fnBody st) t ∧ t { nx := fun _ H' => Q .non H', rt := Q } (start N vs) H) : C8.Cal P w K mg base (k + 1) x sp [] := by
  obtain ⟨f, fd, D, df⟩ := D
  exact C8.cal0 D (D.fn.binds df hb) .nil S len (hbody f)
theorem pe_c0 {X : Cx} {k j : Nat} {x : Str} {sp : Sp} {dvs : List V} {p pos : Pos} (c : C8.Cal X.prog X.w X.K X.mg X.base k x sp dvs) (hr : Room j X.A) (hk : k ≤ j) (hg : Gl X x)
    (hdb : (x == ("__debug__" : Str)) = false := by decide) : PE X (.Call (.Name x p) [] [] pos) (tCall sp dvs C8.E0 tNil) := by
  obtain ⟨f, fd, ps, ds, F, hm, kp, b, d⟩ := c.ex
  exact pe_call0 F (hr.mono hk) hg hm kp b d C8.pass0 hdb
/-- a def's address as a value, with its promise -/
theorem held_of {k : Nat} {x : Str} {sp : Sp} {f : Addr} (c : C8.Cal P w K mg base k x sp []) (h : mg x = some (.ref f)) : Held P w K mg base k f sp := by
  obtain ⟨f', fd, ps, ds, F, hm, kp, b, d⟩ := c.ex
  rw [h] at hm
  cases hm
  cases d
  exact ⟨fd, ps, F, kp, b⟩
end

/-! ### heaps -/
/-- all that was tracked is as it was, but what stands at a -/
def Fr (a : Addr) (H H' : Hp) : Prop := ∀ b o, b ≠ a → H b = some o → H' b = some o
theorem Fr.refl (a : Addr) (H : Hp) : Fr a H H := fun _ _ _ h => h
theorem Fr.trans {a : Addr} {H H1 H2 : Hp} (x : Fr a H H1) (y : Fr a H1 H2) : Fr a H H2 := fun b o n h => y b o n (x b o n h)
theorem Fr.at {a : Addr} {H : Hp} {o : HO} : Fr a H (upd H a o) := fun b u n h => by
  rw [upd_ne n]
  exact h
theorem Fr.new {a p : Addr} {H : Hp} {o : HO} (h : H p = none) : Fr a H (upd H p o) := fun b u _ e => by
  rw [upd_ne (ne_of_none e h)]
  exact e
/-- what came later may change -/
theorem Fr.mut {a p : Addr} {H H' : Hp} {o : HO} (x : Fr a H H') (h : H p = none) : Fr a H (upd H' p o) := fun b u n e => by
  rw [upd_ne (ne_of_none e h)]
  exact x b u n e
theorem Fr.same {a : Addr} {H H' : Hp} (h : Same H H') : Fr a H H' := fun b o _ e => h b o e
theorem Fr.free {a p : Addr} {H H' : Hp} (x : Fr a H H') (n : p ≠ a) (h : H' p = none) : H p = none := by
  cases q : H p with
  | none => rfl
  | some o =>
    rw [x p o n q] at h
    cases h
theorem same_new {H : Hp} {p : Addr} {o : HO} (h : H p = none) : Same H (upd H p o) := fun b u e => by
  rw [upd_ne (ne_of_none e h)]
  exact e
theorem same_mut {H H' : Hp} {p : Addr} {o : HO} (x : Same H H') (h : H p = none) : Same H (upd H' p o) := fun b u e => by
  rw [upd_ne (ne_of_none e h)]
  exact x b u e
theorem small_line {n : Nat} (h : n ≤ 1000000) : n ≤ sizeLine := Nat.le_trans h (by decide)
theorem small_lt {n : Nat} (h : n ≤ 1000000) : n < sizeLine := Nat.lt_of_le_of_lt h (by decide)

/-! ### comprehensions -/
theorem set_set {σ : L2.St} {i : Nat} {x y : Option V} : (σ.set i x).set i y = σ.set i y := by
  rw [List.set_set]
/-- what an iterator yields while the list at D grows: the items of a list -/
structure Yields (J : It) (items : List V) (G : Hp → Prop) : Prop where
  go : ∀ k H, G H → k < items.length → J.go k H
  stop : ∀ H, G H → J.stop items.length H
  yld : ∀ k H x H', k < items.length → G H → J.yld k H x H' → H' = H ∧ items[k]? = some x
theorem yields_str (x : Str) : Yields (Its x) (x.cps.toList.map fun c => V.str ⟨#[c]⟩) (fun _ => True) where
  go := fun k H _ h => by
    rw [List.length_map] at h
    exact (by simpa using h : k < x.cps.size)
  stop := fun H _ => by
    show x.cps.size ≤ _
    simp
  yld := fun k H v H' _ _ h => by
    obtain ⟨e, c, hc, hv⟩ := h
    refine ⟨e, ?_⟩
    rw [List.getElem?_map, Array.getElem?_toList, hc, hv]
    rfl
theorem yields_list {K : PySem.W.Frag} {a : Addr} {xs : List V} : Yields (Itl K a) xs (fun H => SqL K H a xs) where
  go := fun k H g h => ⟨xs, xs[k], g, List.getElem?_eq_getElem h⟩
  stop := fun H g => ⟨xs, g, Nat.le_refl _⟩
  yld := fun k H x H' _ g h => ⟨h.1, h.2 xs g⟩
theorem yields_range {lo : Int} {n : Nat} : Yields (Itr lo n) ((List.range n).map fun (i : Nat) => V.int (lo + (i : Int))) (fun _ => True) where
  go := fun k H _ h => by
    rw [List.length_map, List.length_range] at h
    exact h
  stop := fun H _ => by
    show n ≤ _
    rw [List.length_map, List.length_range]
    exact Nat.le_refl _
  yld := fun k H x H' hk _ h => by
    obtain ⟨e, hx⟩ := h
    rw [List.length_map, List.length_range] at hk
    refine ⟨e, ?_⟩
    rw [List.getElem?_map, List.getElem?_range hk, hx]
    rfl
/-- behind k turns of a comprehension: the list at D holds acc, of which I speaks -/
def LcN (I : Nat → List V → Hp → Prop) (D : Addr) (k : Nat) (H : Hp) : Prop := ∃ acc, H D = some (.lst acc) ∧ acc.length ≤ k ∧ I k acc H
theorem lc_take {I : Nat → List V → Hp → Prop} {D : Addr} {k : Nat} {H4 : Hp} {y : V} {acc : List V} (h : H4 D = some (.lst acc)) (l : acc.length ≤ k) (hk : k < 1000000) (q : I (k + 1) (acc ++ [y]) (upd H4 D (.lst (acc ++ [y])))) :
    ∃ acc, H4 D = some (.lst acc) ∧ acc.length < sizeLine ∧ LcN I D (k + 1) (upd H4 D (.lst (acc ++ [y]))) :=
  ⟨acc, h, small_lt (by omega), acc ++ [y], upd_same, by rw [List.length_append, List.length_singleton]; omega, q⟩
theorem lc_skip {I : Nat → List V → Hp → Prop} {D : Addr} {k : Nat} {H4 : Hp} {acc : List V} (h : H4 D = some (.lst acc)) (l : acc.length ≤ k) (q : I (k + 1) acc H4) : LcN I D (k + 1) H4 := ⟨acc, h, by omega, q⟩
/-- a comprehension by an invariant I over (turns, what the new list holds, the heap) -/
theorem lc_inv {J : It} {items : List V} {G : Hp → Prop} {H1 : Hp} {D : Addr} {σ : L2.St} {i : Nat} {tt : TT} {te : TE} {Q : Hp → Prop} (Y : Yields J items G) (I : Nat → List V → Hp → Prop)
    (hG : ∀ k acc H, I k acc H → H D = some (.lst acc) → G H) (h0 : I 0 [] (upd H1 D (.lst [])))
    (hs : ∀ k acc H x, I k acc H → H D = some (.lst acc) → items[k]? = some x → acc.length ≤ k → k < 1000000 → tt (σ.set i (some x)) H fun b H3 =>
      if b = true then te (σ.set i (some x)) H3 fun y H4 => ∃ acc, H4 D = some (.lst acc) ∧ acc.length < sizeLine ∧ LcN I D (k + 1) (upd H4 D (.lst (acc ++ [y]))) else LcN I D (k + 1) H3)
    (hl : items.length ≤ 1000000) (hd : ∀ acc H, I items.length acc H → H D = some (.lst acc) → acc.length ≤ items.length → Q H) :
    ∃ W : Nat → Nat → Hp → Prop, (∃ m, W 0 m (upd H1 D (.lst []))) ∧ ∀ k m H, W k m H →
      (J.stop k H ∧ Q H) ∨ (J.go k H ∧ ∃ Nx : Hp → Prop, (∀ H', Nx H' → ∃ m', m' < m ∧ W (k + 1) m' H') ∧ ∀ x H', J.yld k H x H' → gName i x (wipe σ [i]) H' fun σ2 H2 => wipe σ2 [i] = wipe σ [i] ∧ tt σ2 H2 fun b H3 =>
        if b = true then te σ2 H3 fun y H4 => ∃ acc, H4 D = some (.lst acc) ∧ acc.length < sizeLine ∧ Nx (upd H4 D (.lst (acc ++ [y]))) else Nx H3) := by
  refine ⟨fun k m H => m = items.length - k ∧ k ≤ items.length ∧ LcN I D k H, ⟨items.length, by omega, Nat.zero_le _, [], upd_same, Nat.zero_le _, h0⟩, ?_⟩
  rintro k m H ⟨rfl, hk, acc, hD, hacc, hI⟩
  by_cases hlt : k < items.length
  · refine .inr ⟨Y.go k H (hG _ _ _ hI hD) hlt, LcN I D (k + 1), fun H' q => ⟨items.length - (k + 1), by omega, rfl, hlt, q⟩, fun x H' y => ?_⟩
    obtain ⟨rfl, hx⟩ := Y.yld k H x H' hlt (hG _ _ _ hI hD) y
    show wipe ((wipe σ [i]).set i (some x)) [i] = wipe σ [i] ∧ tt ((wipe σ [i]).set i (some x)) _ _
    have e1 : (wipe σ [i]).set i (some x) = σ.set i (some x) := set_set
    have e2 : wipe (σ.set i (some x)) [i] = wipe σ [i] := set_set
    rw [e1]
    exact ⟨e2, hs k acc _ x hI hD hx hacc (by omega)⟩
  · have e : k = items.length := by omega
    subst e
    exact .inl ⟨Y.stop H (hG _ _ _ hI hD), hd acc H hI hD hacc⟩
/-- a comprehension whose element and test change nothing that is tracked -/
theorem lc_pure {α : Type} {J : It} {us : List α} {g : α → V} {G : Hp → Prop} {H1 : Hp} {D : Addr} {σ : L2.St} {i : Nat} {tt : TT} {te : TE} {Q : Hp → Prop} (Y : Yields J (us.map g) G) (f : α → V) (p : α → Bool) (hD1 : H1 D = none)
    (hG : ∀ H, Same H1 H → G H)
    (hs : ∀ H u, Same H1 H → u ∈ us → ∀ (R : Bool → Hp → Prop), (∀ H3, Same H H3 → R (p u) H3) → tt (σ.set i (some (g u))) H R)
    (he : ∀ H u, Same H1 H → u ∈ us → p u = true → ∀ (R : VK), (∀ H3, Same H H3 → R (f u) H3) → te (σ.set i (some (g u))) H R)
    (hl : us.length ≤ 1000000) (hd : ∀ H, Same H1 H → H D = some (.lst ((us.filter p).map f)) → Q H) :
    ∃ W : Nat → Nat → Hp → Prop, (∃ m, W 0 m (upd H1 D (.lst []))) ∧ ∀ k m H, W k m H →
      (J.stop k H ∧ Q H) ∨ (J.go k H ∧ ∃ Nx : Hp → Prop, (∀ H', Nx H' → ∃ m', m' < m ∧ W (k + 1) m' H') ∧ ∀ x H', J.yld k H x H' → gName i x (wipe σ [i]) H' fun σ2 H2 => wipe σ2 [i] = wipe σ [i] ∧ tt σ2 H2 fun b H3 =>
        if b = true then te σ2 H3 fun y H4 => ∃ acc, H4 D = some (.lst acc) ∧ acc.length < sizeLine ∧ Nx (upd H4 D (.lst (acc ++ [y]))) else Nx H3) := by
  refine lc_inv Y (fun k acc H => Same H1 H ∧ acc = ((us.take k).filter p).map f) (fun k acc H h _ => hG H h.1) ⟨same_new hD1, rfl⟩ (fun k acc H x hI hD hx hacc hk => ?_) (by rw [List.length_map]; exact hl) (fun acc H hI hD _ => ?_)
  · obtain ⟨sm, ea⟩ := hI
    rw [List.getElem?_map] at hx
    cases hu : us[k]? with
    | none => rw [hu] at hx; cases hx
    | some u =>
      rw [hu] at hx
      cases hx
      have hm : u ∈ us := List.mem_of_getElem? hu
      have et : us.take (k + 1) = us.take k ++ [u] := by
        rw [List.take_add_one, hu]
        rfl
      refine hs H u sm hm _ (fun H3 s3 => ?_)
      by_cases hp : p u = true
      · rw [if_pos hp]
        refine he H3 u (sm.trans s3) hm hp _ (fun H4 s4 => ?_)
        refine lc_take (s4 _ _ (s3 _ _ hD)) hacc hk ⟨same_mut ((sm.trans s3).trans s4) hD1, ?_⟩
        rw [et, List.filter_append, List.map_append, ← ea, List.filter_cons, hp]
        rfl
      · rw [if_neg hp]
        refine lc_skip (s3 _ _ hD) hacc ⟨sm.trans s3, ?_⟩
        rw [et, List.filter_append, List.map_append, ← ea, List.filter_cons, if_neg hp]
        simp
  · obtain ⟨sm, ea⟩ := hI
    rw [List.length_map, List.take_length] at ea
    rw [ea] at hD
    exact hd H sm hD

/-! ### what may be asked -/
def evalV (f : Str → Bool) : V → Bool
  | .str x => f x
  | _ => false
/-- its signs are signs -/
def OkS (x : Str) : Prop := ∀ u ∈ TL.tl x, u < 1114112
/-- a text, not too long, or a thing that is no text -/
inductive Thing (H : Hp) : V → Prop where
  | str (x : Str) (h : x.length ≤ 100000) (o : OkS x) : Thing H (.str x)
  | non : Thing H .non
  | bl (b : Bool) : Thing H (.bl b)
  | int (i : Int) : Thing H (.int i)
  | lst (a : Addr) (xs : List V) (h : H a = some (.lst xs)) : Thing H (.ref a)
  | tup (a : Addr) (xs : List V) (h : H a = some (.tup xs)) : Thing H (.ref a)
  | dK (a : Addr) (kvs : List (Key × V)) (h : H a = some (.dK kvs)) : Thing H (.ref a)
theorem Thing.fr {a : Addr} {H H' : Hp} {v : V} (t : Thing H v) (n : v ≠ .ref a) (f : Fr a H H') : Thing H' v := by
  cases t with
  | str x h o => exact .str x h o
  | non => exact .non
  | bl b => exact .bl b
  | int i => exact .int i
  | lst b xs h => exact .lst b xs (f b _ (fun e => n (by rw [e])) h)
  | tup b xs h => exact .tup b xs (f b _ (fun e => n (by rw [e])) h)
  | dK b xs h => exact .dK b xs (f b _ (fun e => n (by rw [e])) h)
theorem Thing.same {H H' : Hp} {v : V} (t : Thing H v) (f : Same H H') : Thing H' v := by
  cases t with
  | str x h o => exact .str x h o
  | non => exact .non
  | bl b => exact .bl b
  | int i => exact .int i
  | lst b xs h => exact .lst b xs (f b _ h)
  | tup b xs h => exact .tup b xs (f b _ h)
  | dK b xs h => exact .dK b xs (f b _ h)
/-- isinstance(thing, str) -/
theorem Thing.isi {K : PySem.W.Frag} {H : Hp} {v : V} {Q : VK} (t : Thing H v) (h : Q (.bl (evalV (fun _ => true) v)) H) : rIsi K [v, .ty "str"] H Q := by
  cases t with
  | str x _ _ => exact ⟨_, _, .type "str", .type "str", true, rfl, .ty "str", .base (.str x), kit_ty (by decide +kernel), h⟩
  | non => exact ⟨_, _, .type "NoneType", .type "str", false, rfl, .ty "str", .base .non, kit_ty (by decide +kernel), h⟩
  | bl b => exact ⟨_, _, .type "bool", .type "str", false, rfl, .ty "str", .base (.bl b), kit_ty (by decide +kernel), h⟩
  | int i => exact ⟨_, _, .type "int", .type "str", false, rfl, .ty "str", .base (.int i), kit_ty (by decide +kernel), h⟩
  | lst a xs e => exact ⟨_, _, .type "list", .type "str", false, rfl, .ty "str", .base (.lst e), kit_ty (by decide +kernel), h⟩
  | tup a xs e => exact ⟨_, _, .type "tuple", .type "str", false, rfl, .ty "str", .base (.tup e), kit_ty (by decide +kernel), h⟩
  | dK a xs e => exact ⟨_, _, .type "dict", .type "str", false, rfl, .ty "str", .base (.dK e), kit_ty (by decide +kernel), h⟩
theorem Thing.cases {H : Hp} {v : V} (t : Thing H v) : (∃ x, v = .str x ∧ x.length ≤ 100000 ∧ OkS x) ∨ ∀ f, evalV f v = false := by
  cases t with
  | str x h o => exact .inl ⟨x, rfl, h, o⟩
  | _ => exact .inr fun _ => rfl
/-- the promise of a def that tells whether its argument is such a text -/
def spWord (f : Str → Bool) : Sp := fun vs H Q _ => ∃ v, vs = [v] ∧ Thing H v ∧ ∀ H', Same H H' → Q (.bl (evalV f v)) H'

/-! ### the words, as functions of a text -/
def HEX : Str := "0123456789abcdef"
def LET : Str := "abcdefghijklmnopqrstuvwxyz"
def RSG : Str := "abcdefghijklmnopqrstuvwxyz0123456789-"
def SSG : Str := "abcdefghijklmnopqrstuvwxyz0123456789._-"
def sgn (c : Nat) : V := .str ⟨#[c]⟩
def hasOnly (x y : Str) : Bool := (TL.tl x).all fun c => decide (c ∈ TL.tl y)
def dots (x : Str) : Bool := !(Builtin.Str.occurrences x (".." : Str) 0 x.length 1).isEmpty
def isWordF (y x : Str) : Bool := decide (1 ≤ x.length) && (decide (x.length ≤ 12) && hasOnly x y)
def isSegF (x : Str) : Bool := isWordF SSG x && (!decide (x = ".") && !dots x)
def segs (x : Str) : List Str := Txt.split x "/"
def isIdF (x : Str) : Bool := decide (x.length = 16) && hasOnly x HEX
def isPathF (x : Str) : Bool := decide ((segs x).length ≤ 6) && (segs x).all isSegF
def mostF (x : Str) : Nat := if (segs x)[0]? = some ("far" : Str) then 7 else 5
def isRefF (x : Str) : Bool := decide ((segs x).length ≤ mostF x) && (segs x).all (isWordF RSG)
def plainC (c : Nat) : Bool := !decide ([c] < [32]) && !decide ([126] < [c])
def isTextF (x : Str) : Bool := decide (x.length ≤ 2000) && (TL.tl x).all fun c => decide (c = 10) || plainC c
end Fk
namespace Fk
open PySem PySem.Spec PyProof.Rows L2
theorem sql_fr {K : PySem.W.Frag} {a b : Addr} {H H' : Hp} {xs : List V} (h : SqL K H b xs) (n : b ≠ a) (f : Fr a H H') : SqL K H' b xs := by
  rcases h with (h | ⟨o, h⟩) | h
  · exact .inl (.inl (f _ _ n h))
  · exact .inl (.inr ⟨o, f _ _ n h⟩)
  · exact .inr h
/-- a well of numbers at a, from which c were drawn -/
def Wl (H : Hp) (a : Addr) (c : Int) : Prop := 0 ≤ c ∧ ∃ x y : Int, H a = some (.lst [.int x, .int y, .int c])
theorem Wl.same {H H' : Hp} {a : Addr} {c : Int} (h : Wl H a c) (f : Same H H') : Wl H' a c := by
  obtain ⟨h0, x, y, e⟩ := h
  exact ⟨h0, x, y, f _ _ e⟩
/-- behind at most d draws from the well at a -/
def Aft (a : Addr) (c d : Int) (H : Hp) (R : Hp → Prop) : Prop := ∀ H' c', Fr a H H' → Wl H' a c' → c ≤ c' → c' ≤ c + d → R H'
theorem join_signs : ∀ cs : List Nat, TL.tl (Txt.join ("" : Str) (cs.map fun c => (⟨#[c]⟩ : Str))) = cs := by
  intro cs
  rw [TL.join_eq, TL.tl_join]
  have e : TL.tl ("" : Str) = [] := by decide +kernel
  rw [e]
  induction cs with
  | nil => rfl
  | cons c r ih =>
    cases r with
    | nil => rfl
    | cons d r =>
      show [c] ++ [] ++ TL.joinL [] (((d :: r).map fun c => (⟨#[c]⟩ : Str)).map TL.tl) = _
      rw [ih]
      rfl
theorem signs_sum : ∀ cs : List Nat, ((cs.map fun c => (⟨#[c]⟩ : Str)).map (·.length)).sum = cs.length
  | [] => rfl
  | c :: r => by
    rw [List.map_cons, List.map_cons, List.sum_cons, signs_sum r, List.length_cons]
    show 1 + _ = _
    omega
theorem atI_int {α : Type} {xs : List α} {r : Int} (h0 : 0 ≤ r) (h1 : r < xs.length) : ∃ v, v ∈ xs ∧ xs[r.toNat]? = some v ∧ atI xs r = some v := by
  have h2 : r.toNat < xs.length := by omega
  have e : r = ((r.toNat : Nat) : Int) := by omega
  refine ⟨xs[r.toNat], List.getElem_mem h2, List.getElem?_eq_getElem h2, ?_⟩
  have q := atI_nat (List.getElem?_eq_getElem h2)
  rw [← e] at q
  exact q
theorem Wl.upd {H : Hp} {a : Addr} {x y c : Int} (h : 0 ≤ c) : Wl (upd H a (.lst [.int x, .int y, .int c])) a c := ⟨h, x, y, upd_same⟩
theorem Fr.fr_new {a p : Addr} {H H' : Hp} {o : HO} (x : Fr a H H') (h : H' p = none) : Fr a H (L2.upd H' p o) := x.trans (Fr.new h)
theorem Wl.new {H : Hp} {a p : Addr} {c : Int} {o : HO} (h : Wl H a c) (n : H p = none) : Wl (L2.upd H p o) a c := h.same (same_new n)
theorem Wl.mut {H : Hp} {a p : Addr} {c : Int} {o : HO} (h : Wl H a c) (n : p ≠ a) : Wl (L2.upd H p o) a c := by
  obtain ⟨h0, x, y, e⟩ := h
  exact ⟨h0, x, y, by rw [upd_ne n.symm]; exact e⟩
theorem Wl.ne {H : Hp} {a p : Addr} {c : Int} (h : Wl H a c) (n : H p = none) : p ≠ a := by
  obtain ⟨h0, x, y, e⟩ := h
  exact (ne_of_none e n).symm
theorem Aft.start {a : Addr} {c d : Int} {H : Hp} {R : Hp → Prop} (h : Aft a c d H R) (w : Wl H a c) (hd : 0 ≤ d) : R H := h H c (Fr.refl a H) w (Int.le_refl _) (by omega)
theorem Aft.more {a : Addr} {c c1 d d1 : Int} {H H1 : Hp} {R : Hp → Prop} (h : Aft a c d H R) (f : Fr a H H1) (h1 : c ≤ c1) (h2 : c1 + d1 ≤ c + d) : Aft a c1 d1 H1 R := fun H' c' f' w h3 h4 => h H' c' (f.trans f') w (by omega) (by omega)
theorem yes_ {σ : L2.St} {H : Hp} {A B : Hp → Prop} (h : A H) : tYes σ H (fun b H3 => if b = true then A H3 else B H3) := by
  show (if true = true then A H else B H)
  rw [if_pos rfl]
  exact h
end Fk

set_option maxHeartbeats 4000000
namespace Fk
open PySem PySem.Spec PyProof.Rows L2
/-! ### texts that are drawn: what holds of them -/
theorem tl_cut (z : Str) (lo hi : Option Int) : TL.tl (cutS z lo hi) = ((TL.tl z).drop (HT.sIx z.length 0 lo)).take (HT.sIx z.length z.length hi - HT.sIx z.length 0 lo) := rfl
theorem cut_to (z : Str) (n : Nat) : TL.tl (cutS z none (some (n : Int))) = (TL.tl z).take n := by
  rw [tl_cut, HT.sIx_none, HT.sIx_nat, List.drop_zero, Nat.sub_zero, TL.len_tl]
  rcases Nat.le_total n (TL.tl z).length with h | h
  · rw [Nat.min_eq_left h]
  · rw [Nat.min_eq_right h, List.take_length, List.take_of_length_le h]
theorem cut_from (z : Str) (n : Nat) : TL.tl (cutS z (some (n : Int)) none) = (TL.tl z).drop n := by
  rw [tl_cut, HT.sIx_none, HT.sIx_nat, TL.len_tl]
  rcases Nat.le_total n (TL.tl z).length with h | h
  · rw [Nat.min_eq_left h, List.take_of_length_le (by rw [List.length_drop]; omega)]
  · rw [Nat.min_eq_right h, List.drop_length, List.take_nil, List.drop_of_length_le h]
theorem cutS_le (z : Str) (lo hi : Option Int) : (cutS z lo hi).length ≤ z.length := cutS_length z lo hi
def LTS : Str := "abcdefghijklmnopqrstuvwxyz0123456789_-"
theorem dots_count {x : Str} (h : dots x = true) : 2 ≤ (TL.tl x).count 46 := by
  obtain ⟨i, _, h2⟩ := (StrLaws.found_iff x (".." : Str)).mp h
  rw [StrLaws.subAt_eq] at h2
  have e : ((TL.tl x).drop i).take 2 = [46, 46] := by
    have e1 := eq_of_beq h2
    have e2 : (".." : Str).length = 2 := by decide +kernel
    have e3 : (".." : Str).cps.toList = [46, 46] := by decide +kernel
    rw [e2, e3] at e1
    exact e1
  have s : List.Sublist [46, 46] (TL.tl x) := by
    rw [← e]
    exact (List.take_sublist _ _).trans (List.drop_sublist _ _)
  exact s.count_le 46
theorem has_only {x y : Str} (h : ∀ u ∈ TL.tl x, u ∈ TL.tl y) : hasOnly x y = true := by
  unfold hasOnly
  rw [List.all_eq_true]
  exact fun u hu => decide_eq_true (h u hu)
theorem dot_tl : TL.tl ("." : Str) = [46] := by decide +kernel
theorem seg_of {x : Str} (h : ∀ u ∈ TL.tl x, u ∈ TL.tl SSG) (h1 : 1 ≤ x.length) (h2 : x.length ≤ 12) (h3 : (TL.tl x).count 46 ≤ 1) (h4 : (TL.tl x).count 46 = 0 ∨ 2 ≤ x.length) : isSegF x = true := by
  unfold isSegF isWordF
  have d : dots x = false := Bool.eq_false_iff.mpr fun z => by
    have := dots_count z
    omega
  have n : ¬ x = "." := fun e => by
    have e1 : TL.tl x = [46] := by rw [e]; exact dot_tl
    rw [TL.len_tl, e1] at h4
    rcases h4 with h4 | h4
    · exact absurd h4 (by decide)
    · exact absurd h4 (by decide)
  rw [decide_eq_true h1, decide_eq_true h2, has_only h, decide_eq_false n, d]
  rfl
theorem lts_ssg : ∀ u ∈ TL.tl LTS, u ∈ TL.tl SSG := by decide +kernel
theorem lts_dot : 46 ∉ TL.tl LTS := by decide +kernel
theorem seg_plain {x : Str} (h : ∀ u ∈ TL.tl x, u ∈ TL.tl LTS) (h1 : 1 ≤ x.length) (h2 : x.length ≤ 12) : isSegF x = true := by
  have c0 : (TL.tl x).count 46 = 0 := List.count_eq_zero.mpr fun z => lts_dot (h _ z)
  exact seg_of (fun u hu => lts_ssg u (h u hu)) h1 h2 (by omega) (.inl c0)
theorem seg_dotted {x : Str} (n : Nat) (h : ∀ u ∈ TL.tl x, u ∈ TL.tl LTS) (h1 : 1 ≤ x.length) (h2 : x.length < 12) :
    isSegF ((cutS x none (some (n : Int)) ++ ("." : Str)) ++ cutS x (some (n : Int)) none) = true ∧ ((cutS x none (some (n : Int)) ++ ("." : Str)) ++ cutS x (some (n : Int)) none).length ≤ 12 := by
  have e : TL.tl ((cutS x none (some (n : Int)) ++ ("." : Str)) ++ cutS x (some (n : Int)) none) = ((TL.tl x).take n ++ [46]) ++ (TL.tl x).drop n := by
    rw [TL.tl_append, TL.tl_append, cut_to, cut_from, dot_tl]
  have c0 : (TL.tl x).count 46 = 0 := List.count_eq_zero.mpr fun z => lts_dot (h _ z)
  have len : (((TL.tl x).take n ++ [46]) ++ (TL.tl x).drop n).length = x.length + 1 := by
    have := congrArg List.length (List.take_append_drop n (TL.tl x))
    rw [List.length_append] at this
    rw [List.length_append, List.length_append, List.length_singleton, TL.len_tl]
    omega
  have cnt : (((TL.tl x).take n ++ [46]) ++ (TL.tl x).drop n).count 46 = 1 := by
    have := congrArg (List.count 46) (List.take_append_drop n (TL.tl x))
    rw [List.count_append, c0] at this
    rw [List.count_append, List.count_append]
    have : [46].count 46 = 1 := rfl
    omega
  refine ⟨seg_of (fun u hu => ?_) (by rw [TL.len_tl, e, len]; omega) (by rw [TL.len_tl, e, len]; omega) (by rw [e, cnt]; exact Nat.le_refl _) (.inr (by rw [TL.len_tl, e, len]; omega)), by rw [TL.len_tl, e, len]; omega⟩
  rw [e] at hu
  rcases List.mem_append.mp hu with hu | hu
  · rcases List.mem_append.mp hu with hu | hu
    · exact lts_ssg u (h u (List.mem_of_mem_take hu))
    · rw [List.mem_singleton.mp hu]
      decide +kernel
  · exact lts_ssg u (h u (List.mem_of_mem_drop hu))
theorem slash_tl : TL.tl ("/" : Str) = [47] := by decide +kernel
theorem seg_slash {x : Str} (h : isSegF x = true) : 47 ∉ TL.tl x := by
  unfold isSegF isWordF hasOnly at h
  simp only [Bool.and_eq_true] at h
  have h1 := h.1.2.2
  rw [List.all_eq_true] at h1
  intro z
  have h2 := of_decide_eq_true (h1 47 z)
  exact absurd h2 (by decide +kernel)
theorem seg_len {x : Str} (h : isSegF x = true) : x.length ≤ 12 := by
  unfold isSegF isWordF at h
  simp only [Bool.and_eq_true] at h
  exact of_decide_eq_true h.1.2.1
theorem path_of {ps : List Str} (h0 : ps ≠ []) (h1 : ps.length ≤ 6) (h : ∀ p ∈ ps, isSegF p = true) : isPathF (Txt.join "/" ps) = true := by
  unfold isPathF segs
  rw [TL.split_join (S := []) slash_tl (by decide +kernel) h0 fun p hp => seg_slash (h p hp), decide_eq_true h1, List.all_eq_true.mpr h]
  rfl
theorem join_len (y : Str) : ∀ ps : List Str, (∀ p ∈ ps, p.length ≤ 12) → (Txt.join y ps).length ≤ ps.length * (12 + y.length) := by
  intro ps h
  rw [TL.join_eq]
  refine Nat.le_trans (StrLaws.join_length_le y ps) ?_
  rw [Nat.mul_add]
  refine Nat.add_le_add_right ?_ _
  induction ps with
  | nil => exact Nat.le_refl _
  | cons p r ih =>
    rw [List.map_cons, List.sum_cons, List.length_cons, Nat.succ_mul]
    have := ih fun q hq => h q (List.mem_cons_of_mem _ hq)
    have := h p List.mem_cons_self
    omega
theorem sum_len : ∀ ps : List Str, (∀ p ∈ ps, p.length ≤ 12) → (ps.map (·.length)).sum ≤ ps.length * 12 := by
  intro ps h
  induction ps with
  | nil => exact Nat.le_refl _
  | cons p r ih =>
    rw [List.map_cons, List.sum_cons, List.length_cons, Nat.succ_mul]
    have := ih fun q hq => h q (List.mem_cons_of_mem _ hq)
    have := h p List.mem_cons_self
    omega
def ALL : Str := (" !\"#$&'()*+,-./0123456789:;<=>?@ABCDEFGHIJKLMNOPQRSTUVWXYZ[]^_`abcdefghijklmnopqrstuvwxyz{|}~" : Str) ++ ("\\" : Str) ++ ("\n" : Str)
theorem all_plain : ∀ u ∈ TL.tl ALL, (decide (u = 10) || plainC u) = true := by decide +kernel
theorem text_of {x : Str} (h : ∀ u ∈ TL.tl x, u ∈ TL.tl ALL) (h1 : x.length ≤ 2000) : isTextF x = true := by
  unfold isTextF
  rw [decide_eq_true h1, List.all_eq_true.mpr fun u hu => all_plain u (h u hu)]
  rfl
theorem id_of {x : Str} (h : ∀ u ∈ TL.tl x, u ∈ TL.tl HEX) (h1 : x.length = 16) : isIdF x = true := by
  unfold isIdF
  rw [decide_eq_true h1, has_only h]
  rfl
theorem filt_all {α : Type} (l : List α) : l.filter (fun _ => true) = l := List.filter_eq_self.mpr fun _ _ => rfl
theorem of_ev {f : Str → Bool} {x : Str} {b : Bool} {Q : VK} {H : Hp} (q : Q (.bl (evalV f (.str x))) H) (e : f x = b) : Q (.bl b) H := by
  rw [← e]
  exact q
theorem of_ev0 {f : Str → Bool} {v : V} {Q : VK} {H : Hp} (hn : ∀ f, evalV f v = false) (q : Q (.bl (evalV f v)) H) : Q (.bl false) H := by
  rw [← hn f]
  exact q
theorem segs_ne (x : Str) : segs x ≠ [] := by
  intro h
  have e := TL.split_spl x "/" (by decide +kernel) (TL.kind_ok (by decide +kernel))
  have h' : Txt.split x "/" = [] := h
  rw [h'] at e
  have e2 : ∀ l k acc, TL.spl (TL.tl "/") k acc l ≠ [] := by
    intro l
    induction l with
    | nil => intro k acc h; rw [TL.spl_nil] at h; cases h
    | cons c r ih =>
      intro k acc h
      cases k with
      | zero =>
        unfold TL.spl at h
        split at h
        · cases h
        · exact ih _ _ h
      | succ k => exact ih _ _ h
  exact e2 _ _ _ e.symm
theorem segs_len (x : Str) (h : x.length ≤ 100000) : (segs x).length ≤ 100001 ∧ ∀ y ∈ segs x, y.length ≤ 100000 := by
  have e := TL.split_spl x "/" (by decide +kernel) (TL.kind_ok (by decide +kernel))
  have e2 : ∀ l k acc, (TL.spl (TL.tl "/") k acc l).length ≤ l.length + 1 ∧ ∀ y ∈ TL.spl (TL.tl "/") k acc l, y.length ≤ acc.length + l.length := by
    intro l
    induction l with
    | nil => intro k acc; rw [TL.spl_nil]; exact ⟨Nat.le_refl _, fun y hy => by rw [List.mem_singleton.mp hy]; simp⟩
    | cons c r ih =>
      intro k acc
      cases k with
      | zero =>
        unfold TL.spl
        split
        · obtain ⟨i1, i2⟩ := ih ((TL.tl "/").length - 1) []
          refine ⟨by simp only [List.length_cons]; omega, fun y hy => ?_⟩
          rcases List.mem_cons.mp hy with rfl | hy
          · simp only [List.length_cons]; omega
          · have := i2 y hy
            simp only [List.length_cons, List.length_nil] at this ⊢
            omega
        · obtain ⟨i1, i2⟩ := ih 0 (acc ++ [c])
          refine ⟨by simp only [List.length_cons]; omega, fun y hy => ?_⟩
          have := i2 y hy
          simp only [List.length_cons, List.length_append, List.length_nil] at this ⊢
          omega
      | succ k =>
        obtain ⟨i1, i2⟩ := ih k acc
        unfold TL.spl
        refine ⟨by simp only [List.length_cons]; omega, fun y hy => ?_⟩
        have := i2 y hy
        simp only [List.length_cons] at this ⊢
        omega
  obtain ⟨i1, i2⟩ := e2 (TL.tl x) 0 []
  rw [← e] at i1 i2
  rw [List.length_map, ← TL.len_tl] at i1
  refine ⟨?_, fun y hy => ?_⟩
  · show (Txt.split x "/").length ≤ _
    omega
  · have := i2 (TL.tl y) (List.mem_map_of_mem hy)
    rw [← TL.len_tl, ← TL.len_tl] at this
    simp at this
    omega
theorem segs_ok (x : Str) (h : OkS x) : ∀ y ∈ segs x, OkS y := by
  have e := TL.split_spl x "/" (by decide +kernel) (TL.kind_ok (by decide +kernel))
  have e2 : ∀ l k acc, (∀ u ∈ l, u < 1114112) → (∀ u ∈ acc, u < 1114112) → ∀ y ∈ TL.spl (TL.tl "/") k acc l, ∀ u ∈ y, u < 1114112 := by
    intro l
    induction l with
    | nil =>
      intro k acc h1 h2 y hy
      rw [TL.spl_nil] at hy
      rw [List.mem_singleton.mp hy]
      exact h2
    | cons c r ih =>
      intro k acc h1 h2 y hy
      have h3 : ∀ u ∈ r, u < 1114112 := fun u hu => h1 u (List.mem_cons_of_mem _ hu)
      cases k with
      | zero =>
        unfold TL.spl at hy
        split at hy
        · rcases List.mem_cons.mp hy with rfl | hy
          · exact h2
          · exact ih _ _ h3 (fun u hu => (List.not_mem_nil hu).elim) y hy
        · refine ih _ _ h3 (fun u hu => ?_) y hy
          rcases List.mem_append.mp hu with hu | hu
          · exact h2 u hu
          · rw [List.mem_singleton.mp hu]
            exact h1 c List.mem_cons_self
      | succ k => exact ih _ _ h3 h2 y hy
  intro y hy
  have i2 := e2 (TL.tl x) 0 [] h (fun u hu => (List.not_mem_nil hu).elim) (TL.tl y)
  rw [← e] at i2
  exact i2 (List.mem_map_of_mem hy)
theorem dp_nil {K : PySem.W.Frag} {H : Hp} {p : Addr} (h : H p = some (.lst [])) : Dp K H (.ref p) (.list []) := .lst (SqL.of h) .nil
theorem dp_strs {K : PySem.W.Frag} {H : Hp} : ∀ ys : List Str, DpAll K H (ys.map V.str) (ys.map PyData.str)
  | [] => .nil
  | y :: r => .cons (.str y) (dp_strs r)
theorem strOk_of {x : Str} (h : OkS x) : PyData.strOk x = true := by
  unfold PyData.strOk
  rw [← Array.all_toList, List.all_eq_true]
  exact fun u hu => decide_eq_true (h u hu)
theorem lay_strs : ∀ ys : List Str, (∀ y ∈ ys, OkS y) → PyData.canLayAll0 (ys.map PyData.str) = true
  | [], _ => rfl
  | y :: r, h => by simp [PyData.canLayAll0, PyData.canLay0, lay_strs r fun z hz => h z (List.mem_cons_of_mem _ hz), strOk_of (h y List.mem_cons_self)]
theorem depth_strs : ∀ ys : List Str, PyData.depthAll (ys.map PyData.str) = 0
  | [] => rfl
  | _ :: r => by simp [PyData.depthAll, PyData.depth, depth_strs r]
theorem shaped_strs (ys : List Str) (h : ∀ y ∈ ys, OkS y) : SeqAt.shaped (.list (ys.map PyData.str)) = true := by
  simp [SeqAt.shaped, PyData.canLay0, PyData.depth, lay_strs ys h, depth_strs]
theorem shaped_nil : SeqAt.shaped (.list []) = true := shaped_strs [] fun _ h => (List.not_mem_nil h).elim
theorem eqv_nil (ys : List Str) : PyData.eqv (.list (ys.map PyData.str)) (.list []) = ys.isEmpty := by
  cases ys with
  | nil => simp [PyData.eqv, PyData.eqvAll]
  | cons y r => simp [PyData.eqv, PyData.eqvAll]
theorem ifF {c A B : Prop} [Decidable c] (h : ¬ c) (b : B) : if c then A else B := by
  rw [if_neg h]
  exact b
theorem ifT {c A B : Prop} [Decidable c] (h : c) (b : A) : if c then A else B := by
  rw [if_pos h]
  exact b
/-- a list of texts is asked for being empty -/
theorem ask_nil {K : PySem.W.Frag} {H' : Hp} {p q : Addr} {ys : List Str} {Q : VK} (ho : ∀ y ∈ ys, OkS y) (h : H' p = some (.lst (ys.map V.str))) (hq : H' q = some (.lst [])) (k : Q (.bl ys.isEmpty) H') : rEqD K (.ref p) (.ref q) H' Q :=
  ⟨_, _, .lst (SqL.of h) (dp_strs ys), dp_nil hq, shaped_strs ys ho, shaped_nil, by rw [eqv_nil]; exact k⟩
theorem filt_empty {α : Type} (l : List α) (p : α → Bool) : (l.filter fun u => !p u).isEmpty = l.all p := by
  induction l with
  | nil => rfl
  | cons a r ih =>
    rw [List.filter_cons, List.all_cons]
    cases h : p a with
    | true => simpa [h] using ih
    | false => simp [h]
theorem map_sgn (cs : List Nat) : cs.map sgn = (cs.map fun c => (⟨#[c]⟩ : Str)).map V.str := by
  rw [List.map_map]
  rfl
theorem ok_sgn {c : Nat} (h : c < 1114112) : OkS ⟨#[c]⟩ := fun u hu => by
  have e : u = c := List.mem_singleton.mp hu
  rw [e]
  exact h
theorem ok_sgns {x : Str} (h : OkS x) (p : Nat → Bool) : ∀ y ∈ ((TL.tl x).filter p).map fun c => (⟨#[c]⟩ : Str), OkS y := fun y hy => by
  obtain ⟨c, hc, rfl⟩ := List.mem_map.mp hy
  exact ok_sgn (h c ((List.mem_filter.mp hc).1))
end Fk
namespace Fk
open PySem PySem.Spec PyProof.Rows L2
theorem ok_app {x y : Str} (hx : OkS x) (hy : OkS y) : OkS (x ++ y) := fun u hu => by
  rw [TL.tl_append] at hu
  rcases List.mem_append.mp hu with hu | hu
  · exact hx u hu
  · exact hy u hu
theorem ok_cut {x : Str} (hx : OkS x) (lo hi : Option Int) : OkS (cutS x lo hi) := fun u hu => by
  rw [tl_cut] at hu
  exact hx u (List.mem_of_mem_drop (List.mem_of_mem_take hu))
theorem ok_rep {x : Str} (hx : OkS x) (n : Nat) : OkS (repS x n) := fun u hu => by
  rw [tl_rep] at hu
  obtain ⟨l, hl, hu⟩ := List.mem_flatten.mp hu
  rw [(List.mem_replicate.mp hl).2] at hu
  exact hx u hu
theorem ok_join {y : Str} (hy : OkS y) {ps : List Str} (h : ∀ p ∈ ps, OkS p) : OkS (Txt.join y ps) := fun u hu => by
  rw [TL.join_eq, TL.tl_join] at hu
  have e : ∀ ls : List (List Nat), (∀ l ∈ ls, ∀ u ∈ l, u < 1114112) → ∀ u ∈ TL.joinL (TL.tl y) ls, u < 1114112 := by
    intro ls
    induction ls with
    | nil => intro _ u hu; exact (List.not_mem_nil hu).elim
    | cons l r ih =>
      intro h u hu
      cases r with
      | nil => exact h l List.mem_cons_self u hu
      | cons m r =>
        have hu : u ∈ l ++ (TL.tl y ++ TL.joinL (TL.tl y) (m :: r)) := hu
        rcases List.mem_append.mp hu with hu | hu
        · exact h l List.mem_cons_self u hu
        · rcases List.mem_append.mp hu with hu | hu
          · exact hy u hu
          · exact ih (fun l hl => h l (List.mem_cons_of_mem _ hl)) u hu
  refine e _ (fun l hl => ?_) u hu
  obtain ⟨p, hp, rfl⟩ := List.mem_map.mp hl
  exact h p hp
theorem ok_by {x : Str} (h : (TL.tl x).all (fun u => decide (u < 1114112)) = true) : OkS x := fun u hu => of_decide_eq_true (List.all_eq_true.mp h u hu)
theorem ok_sub {x y : Str} (h : ∀ u ∈ TL.tl x, u ∈ TL.tl y) (hy : OkS y) : OkS x := fun u hu => hy u (h u hu)
theorem ok_hex : OkS HEX := ok_by (by decide +kernel)
theorem ok_ssg : OkS SSG := ok_by (by decide +kernel)
theorem ok_rsg : OkS RSG := ok_by (by decide +kernel)
theorem ok_let : OkS LET := ok_by (by decide +kernel)
theorem ok_all : OkS ALL := ok_by (by decide +kernel)
theorem ok_slash : OkS "/" := ok_by (by decide +kernel)
theorem only_sub {x y : Str} (h : hasOnly x y = true) : ∀ u ∈ TL.tl x, u ∈ TL.tl y := fun u hu => of_decide_eq_true (List.all_eq_true.mp h u hu)
theorem ok_seg {x : Str} (h : isSegF x = true) : OkS x := by
  unfold isSegF isWordF at h
  simp only [Bool.and_eq_true] at h
  exact ok_sub (only_sub h.1.2.2) ok_ssg
theorem word_of {x y : Str} (h : ∀ u ∈ TL.tl x, u ∈ TL.tl y) (h1 : 1 ≤ x.length) (h2 : x.length ≤ 12) : isWordF y x = true := by
  unfold isWordF
  rw [decide_eq_true h1, decide_eq_true h2, has_only h]
  rfl
theorem Same.of_fr {a : Addr} {H H1 H2 : Hp} (h : H a = none) (s : Same H H1) (f : Fr a H1 H2) : Same H H2 := fun b o e => f b o (ne_of_none e h) (s b o e)
theorem def_ne {K : PySem.W.Frag} {mg : Str → Option Value} {x y : Str} {st st' : Stmt} {f f' : Addr} {fd fd' : FuncData} (D : C8.Def K mg x st f fd) (D' : C8.Def K mg y st' f' fd') (h : x ≠ y) : f ≠ f' := by
  intro e
  subst e
  obtain ⟨oc, od, dV, kV, doc, pm, an, cdv, ct, osl, rfl, lk, _⟩ := D.fn.ex
  obtain ⟨oc', od', dV', kV', doc', pm', an', cdv', ct', osl', rfl, lk', _⟩ := D'.fn.ex
  rw [lk] at lk'
  have e1 := Option.some.inj lk'
  injection e1 with e1 e2 e3 e4
  injection e3 with e3
  exact h (congrArg FuncData.name e3)
end Fk
namespace Fk
open PySem PySem.Spec PyProof.Rows L2
theorem plain_lt {c : Nat} (h : (decide (c = 10) || plainC c) = true) : c < 1114112 := by
  rcases Bool.or_eq_true_iff.mp h with h | h
  · have := of_decide_eq_true h
    omega
  · unfold plainC at h
    have h2 := (Bool.and_eq_true_iff.mp h).2
    have h3 : ¬ ([126] < [c]) := fun z => by
      rw [decide_eq_true z] at h2
      exact absurd h2 (by decide)
    have h4 : ¬ 126 < c := fun z => h3 (List.Lex.rel z)
    omega
theorem ok_text {x : Str} (h : isTextF x = true) : OkS x := fun u hu => plain_lt (List.all_eq_true.mp (Bool.and_eq_true_iff.mp h).2 u hu)
end Fk

set_option maxHeartbeats 4000000
/-! strip(signs), isascii, replace, isprintable: what they say of the words; a def that begins with a token out. -/
namespace Fk
open PySem PySem.Spec PyProof.Rows L2
section
variable {X : Cx} {a b o : Expr} {rest : List Expr} {ta tb t to : TE} {pos : Pos}
theorem pet_one {op} (h : PET X a t) : PET X (.BoolOp op [a] pos) t := fun pins s σ H Q h0 I hw => BoolOp_one (h pins s σ H Q h0 I hw)
theorem pet_and (ha : PE X a ta) (hb : PET X (.BoolOp .And (b :: rest) pos) tb) : PET X (.BoolOp .And (a :: b :: rest) pos) (tAndV ta tb) := by
  intro pins s σ H Q h0 I h
  refine BoolOp_and (wpAny_mono (PySem.wpAny_toks (ha.run pins s σ H _ I h)) (fun v s1 q => ?_) fun _ _ z => z.2)
  obtain ⟨hk, x, H1, I1, r1, q1⟩ := q
  obtain ⟨c, rfl, q1⟩ := q1
  cases r1
  refine wpAny_truthy_bool ?_
  cases c with
  | true => exact hb pins s1 σ H1 Q (by omega) I1 q1
  | false => exact ⟨.bl false, H1, I1, rfl, q1⟩
theorem pet_bm0 {T id name : String} {apos cpos : Pos} {r : V → List V → Hp → VK → Prop} (pa : PlainAttrs T) (slot : Slot T name id) (hty : typeOf (.builtin id) = pure (.type "method_descriptor")) (hm : MtR X id r) (ho : PET X o to)
    (hbase : attributeBase o name X.env (eval o X.env) = eval o X.env := by rfl) (hline : (apos.endLine == cpos.line) = true := by rfl) : PET X (.Call (.Attribute o name apos) [] [] cpos) (tBM0 X.K T r to) := by
  intro pins s σ H Q h0 I h
  refine wpAny_Call_method0_late hbase hline (thn (ho pins s σ H _ h0 I h) fun v s1 ⟨x, H1, I1, r1, ty, q1⟩ => ?_)
  obtain ⟨h1, h2⟩ := tyV_is I1 r1 ty
  exact ⟨T, id, pa, slot, hty, h1, h2, Calls.callWith_builtin rfl (PySem.evalArgs_none (hm pins s1 σ H1 x [] v [] Q I1 r1 .nil q1))⟩
end
section
variable {P : Program} {w : World} {K : PySem.W.Frag} {mg : Str → Option Value} {base : Heap}
/-- a def whose parameters are no cells: a token is out when its body begins -/
theorem cal_ofT {x : Str} {st : Stmt} {N ps : List Str} {k : Nat} {sp : Sp} (D : IsDef K mg x st) (S : FnScope N ps (C8.fnScope st))
    (hnc : ∀ y ∈ (C8.fnScope st).names, y.2 ≠ .cell) (hps : 1 ≤ ps.length)
    (hb : ∀ (kV doc pm : Value) (an : Option Addr) (cdv ct : Value) (us : List Value), us.length = ps.length → bindArgs (PySem.W.fnOf x x (C8.fnArgs st) (C8.fnBody st) (C8.fnScope st) .none kV doc pm an cdv ct) ⟨us, []⟩ = pure (ps.zip us))
    (len : ∀ vs H Q E, sp vs H Q E → vs.length = ps.length)
    (hbody : ∀ (f : Addr) (cdv : Value) (A : Around) (outer : List Env) (s : Shared) (H : Hp) (vs : List V) (Q : VK) (E : XK), Room k (A.deeper (envOfC x (C8.fnScope st) s.heap.objs.size f cdv)) → sp vs H Q E →
      ∃ t, PSsT (cxOf C8.CX0 P w K mg base N x (C8.fnScope st) f cdv A outer s H E) (C8.fnBody st) t ∧ t { nx := fun _ H' => Q .non H', rt := Q } (start N vs) H) : C8.Cal P w K mg base (k + 1) x sp [] := by
  obtain ⟨f, fd, D, df⟩ := D
  obtain ⟨oc, od, dV, kV, doc, pm, an, cdv, ct, osl, rfl, lk, hcd⟩ := D.fn.ex
  have e : dV = .none := df
  subst e
  exact ⟨f, _, ps, [], fn_ofT lk hcd S hnc hps len (hbody f cdv), D.mgf, D.kp, .all (hb kV doc pm an cdv ct), .nil⟩
end

/-! ### what strip leaves -/
theorem tw_all {p : Nat → Bool} {l : List Nat} (h : ∀ c ∈ l, p c = true) : l.takeWhile p = l := by
  induction l with
  | nil => rfl
  | cons c r ih =>
    rw [List.takeWhile_cons, h c List.mem_cons_self, if_pos rfl, ih fun d hd => h d (List.mem_cons_of_mem _ hd)]
theorem tw_short {p : Nat → Bool} {l : List Nat} {c : Nat} (h : p c = false) : ((l ++ [c]).takeWhile p).length ≤ l.length := by
  induction l with
  | nil => simp [List.takeWhile_cons, h]
  | cons d r ih =>
    rw [List.cons_append, List.takeWhile_cons]
    cases hd : p d with
    | true => simpa using ih
    | false => simp
theorem dw_head {p : Nat → Bool} : ∀ {l : List Nat}, (∃ c ∈ l, p c = false) → ∃ c r, l.drop (l.takeWhile p).length = c :: r ∧ p c = false ∧ (l.takeWhile p).length + r.length + 1 = l.length
  | [], h => by
    obtain ⟨c, hc, _⟩ := h
    exact (List.not_mem_nil hc).elim
  | d :: r, h => by
    cases hd : p d with
    | false => exact ⟨d, r, by simp [List.takeWhile_cons, hd], hd, by simp [List.takeWhile_cons, hd]⟩
    | true =>
      have h' : ∃ c ∈ r, p c = false := by
        obtain ⟨c, hc, q⟩ := h
        rcases List.mem_cons.mp hc with rfl | hc
        · rw [hd] at q
          cases q
        · exact ⟨c, hc, q⟩
      obtain ⟨c, r', e1, e2, e3⟩ := dw_head h'
      refine ⟨c, r', ?_, e2, ?_⟩
      · rw [List.takeWhile_cons, hd, if_pos rfl, List.length_cons, List.drop_succ_cons, e1]
      · rw [List.takeWhile_cons, hd, if_pos rfl, List.length_cons, List.length_cons]
        omega
theorem strip_tl (g : Nat → Bool) (x : Str) : TL.tl (Txt.stripBy g true true x) = ((TL.tl x).drop ((TL.tl x).takeWhile g).length).take (x.length - (((TL.tl x).drop ((TL.tl x).takeWhile g).length).reverse.takeWhile g).length - ((TL.tl x).takeWhile g).length) := by
  rw [PySem.W.stripBy_eq]
  exact StrLaws.strSub_toList x _ _
theorem strip_none (x y : Str) : decide (V.str (Txt.stripChars x y) = V.str "") = hasOnly x y := by
  have e0 : TL.tl ("" : Str) = [] := by decide +kernel
  have hg : ∀ c, y.cps.contains c = decide (c ∈ TL.tl y) := fun c => by
    rw [Bool.eq_iff_iff]
    simp [TL.tl]
  have key : (Txt.stripChars x y = ("" : Str)) ↔ hasOnly x y = true := by
    have et := strip_tl (fun c => y.cps.contains c) x
    constructor
    · intro h
      refine Bool.not_eq_false _ ▸ fun hf => ?_
      have hx : ∃ c ∈ TL.tl x, y.cps.contains c = false := by
        refine Classical.byContradiction fun z => ?_
        have : hasOnly x y = true := by
          unfold hasOnly
          refine List.all_eq_true.mpr fun c hc => ?_
          rw [← hg]
          cases q : y.cps.contains c with
          | true => rfl
          | false => exact absurd ⟨c, hc, q⟩ z
        rw [this] at hf
        cases hf
      obtain ⟨c, r, e1, e2, e3⟩ := dw_head (p := fun c => y.cps.contains c) hx
      have h' : Txt.stripBy (fun c => y.cps.contains c) true true x = ("" : Str) := h
      rw [h', e0, e1] at et
      have hs := tw_short (p := fun c => y.cps.contains c) (l := r.reverse) e2
      rw [List.length_reverse, ← List.reverse_cons] at hs
      rw [← TL.len_tl] at e3
      have hp : ∃ m, x.length - (((c :: r).reverse.takeWhile fun c => y.cps.contains c)).length - ((TL.tl x).takeWhile fun c => y.cps.contains c).length = m + 1 := ⟨x.length - (((c :: r).reverse.takeWhile fun c => y.cps.contains c)).length - ((TL.tl x).takeWhile fun c => y.cps.contains c).length - 1, by omega⟩
      obtain ⟨m, hm⟩ := hp
      rw [hm, List.take_succ_cons] at et
      cases et
    · intro h
      have hx : ∀ c ∈ TL.tl x, y.cps.contains c = true := fun c hc => by
        rw [hg]
        unfold hasOnly at h
        exact List.all_eq_true.mp h c hc
      apply TL.ext_tl
      rw [e0]
      refine Eq.trans et ?_
      rw [tw_all hx, List.drop_length, List.take_nil]
  rw [Bool.eq_iff_iff, decide_eq_true_iff, ← key]
  exact ⟨fun h => V.str.inj h, fun h => by rw [h]⟩

/-! ### texts of plain signs -/
theorem plain_of {c : Nat} (h : c < 128) : plainC c = Unicode.isPrintable c := by
  have : ∀ c < 128, plainC c = Unicode.isPrintable c := by decide +kernel
  exact this c h
theorem plain_far {c : Nat} (h : ¬ c < 128) : plainC c = false := by
  have h2 : [126] < [c] := List.Lex.rel (by omega)
  unfold plainC
  rw [decide_eq_true h2]
  simp
theorem repl_one (k : Nat) : ∀ l : List Nat, StrLaws.replL [k] [] l = l.filter fun c => !decide (c = k)
  | [] => by rw [StrLaws.replL_nil]; rfl
  | c :: r => by
    by_cases h : c = k
    · rw [StrLaws.replL_hit (by simp) (by simp [h])]
      rw [List.filter_cons, h]
      simp [repl_one k r]
    · rw [StrLaws.replL_miss (by simp [h]), repl_one k r, List.filter_cons]
      simp [h]
def plainT (x : Str) : Bool := Txt.isascii x && Txt.isprintable (Txt.replace x "\n" "")
theorem plain_text (x : Str) : plainT x = (TL.tl x).all fun c => decide (c = 10) || plainC c := by
  have e10 : ("\n" : Str).cps.toList = [10] := by decide +kernel
  have e00 : ("" : Str).cps.toList = [] := by decide +kernel
  have hr : (Txt.replace x "\n" "").cps.toList = (TL.tl x).filter fun c => !decide (c = 10) := by
    rw [StrLaws.replace_list (by decide +kernel), e10, e00, repl_one]
  unfold plainT Txt.isascii Txt.isprintable
  rw [← Array.all_toList, ← Array.all_toList, hr]
  show ((TL.tl x).all _ && _) = _
  induction TL.tl x with
  | nil => rfl
  | cons c r ih =>
    rw [List.all_cons, List.all_cons, ← ih, List.filter_cons]
    by_cases h1 : c < 128
    · rw [plain_of h1]
      by_cases h2 : c = 10
      · simp [h1, h2]
      · simp [h1, h2]
        cases Unicode.isPrintable c <;> simp
    · rw [plain_far h1]
      have h2 : ¬ c = 10 := by omega
      simp [h1, h2]
end Fk

set_option maxHeartbeats 4000000
/-! An error of an own class as a value: made with keywords or without, its base any whose making is the plain one. -/
namespace Fk
open PySem PySem.Spec L2
open Builtin
section
variable {prog : Program} {w : World} {A : Around} {R : Result → Shared → Prop} {h : Heap} {g : Array GenState} {d : Drawn} {t : Nat} {os : OsState}
variable {nm q : Str} {C N : Addr} {bs bm bmB : List Value} {hdct : Bool} {sn : List Str} {sub : List Value} {ab : Bool} {col : Option Bool} {dd : Option Addr} {k0 k1 k2 k3 k5 : Option Value} {B newId initId : String} {kws : List (Str × Value)}
/-- what the class's own list of bases must say -/
structure BmOk (B : String) (bm : List Value) : Prop where
  b : bm.contains (.type B) = true
  a : bm.contains (.type "AttributeError") = false
  n : bm.contains (.type "NameError") = false
theorem BmOk.b' (o : BmOk B bm) : (Value.ref C :: bm).contains (.type B) = true := by
  have := o.b
  simp only [List.contains_cons, this, Bool.or_true]
theorem BmOk.a' (o : BmOk B bm) : (Value.ref C :: bm).contains (.type "AttributeError") = false := by
  have := o.a
  rw [List.contains_cons, this] <;> rfl
theorem BmOk.n' (o : BmOk B bm) : (Value.ref C :: bm).contains (.type "NameError") = false := by
  have := o.n
  rw [List.contains_cons, this] <;> rfl
theorem xcheck_new (F : ExcBaseFacts B newId initId bmB) (o : BmOk B bm) {rest : List Value} {M : Model} {E : Value → Shared → Prop} {Q : Unit → Shared → Prop} (hC : h.get? C = some (excClassObj nm q C N bs bm hdct sn sub ab col dd k0 k1 k2 k3 k5 newId))
    (hq : Q () ⟨h, g, d, t, os⟩) : wpAny M A (checkBuiltinCall newId ⟨.ref C :: rest, kws⟩) Q E ⟨h, g, d, t, os⟩ := by
  have z1 := o.b' (C := C)
  have z2 := F.noStar
  simp only [checkBuiltinCall, F.newKind, F.newSplit, F.newRow]
  repeat (first
    | refine wpAny_loadPart_at hC ?_
    | (refine wpAny_isSubtype_exc hC ?_; rw [z1])
    | refine wpAny_staticBase_exc hC ?_
    | refine wpAny_madeBy_exc hC ?_
    | simp only [bne_self_eq_false, Bool.false_eq_true, if_false]
    | wp_step)
  exact hq
theorem xnew (F : ExcBaseFacts B newId initId bmB) (o : BmOk B bm) {rest : List Value} (hC : h.get? C = some (excClassObj nm q C N bs bm hdct sn sub ab col dd k0 k1 k2 k3 k5 newId)) (hrest : rest.length ≤ sizeLine)
    (hq : R (.ok (.ret (.ref (h.objs.size + 1)))) ⟨(h.push (W.kdv_tup rest)).push (PySem.HandSPX.excO C h.objs.size), g, d, t, os⟩) :
    codeAny (model prog w) A (.builtin newId ⟨.ref C :: rest, kws⟩) R ⟨h, g, d, t, os⟩ := by
  have z0 := F.ends
  have z1 := o.b' (C := C)
  have z2 := o.a' (C := C)
  have z3 := o.n' (C := C)
  refine codeAny_builtinAt F.entry ?_
  unfold Builtin.«BaseException.__new__»
  refine wpAt_bind ?_
  show wpAt _ _ _ (stack >>= _) _ _ _
  refine wpAt_bind (wpAt_stack fun p below => wpAt_of_wpAny ?_)
  wp_walk
  refine wpAt_of_wpAny ?_
  rw [F.owner]
  repeat (first
    | with_reducible refine wpAny_madeHere_exc F.canon hC ?_
    | with_reducible refine wpAny_loadPart_at hC ?_
    | (with_reducible refine wpAny_isSubtype_exc hC ?_; first | rw [z1] | rw [z2] | rw [z3])
    | wp_step)
  show R _ _
  rw [Heap.size_push]
  exact hq
theorem xtype_call (F : ExcBaseFacts B newId initId bmB) (o : BmOk B bm) {rest : List Value} {fI : Addr} {Q : Fin → Shared → Prop} {E : Value → Shared → Prop} (hC : h.get? C = some (excClassObj nm q C N bs bm hdct sn sub ab col dd k0 k1 k2 k3 k5 newId))
    (hi : W.Looks (model prog w) h (typeLookup (.ref C) "__init__") (some (.ref fI))) (hb : ∀ self, W.Looks (model prog w) h (bindSpecial (.ref fI) self) (.ref fI, [self])) (hrest : rest.length ≤ sizeLine)
    (hq : codeAny (model prog w) A (.call (.ref fI) ⟨.ref (h.objs.size + 1) :: rest, kws⟩) (fun r s' => match r with | .ok (.ret v) => v = .none ∧ Q (.done (.ret (.ref (h.objs.size + 1)))) s' | .ok _ => False | .error e => E e s')
      ⟨(h.push (W.kdv_tup rest)).push (PySem.HandSPX.excO C h.objs.size), g, d, t, os⟩) :
    wpAny (model prog w) A (Builtin.«type.__call__» ⟨.ref C :: rest, kws⟩) Q E ⟨h, g, d, t, os⟩ := by
  repeat (first
    | with_reducible refine wpAny_loadPart_at hC ?_
    | with_reducible refine wpAny_madeBy_exc hC ?_
    | wp_step)
  refine codeAny_call_builtin_code (Code.quiet_builtin _ F.quiet) (xcheck_new F o hC ?_)
  refine xnew F o hC hrest ?_
  show wpAny _ _ _ _ _ _
  have kk : ∀ b u, h.get? b = some u → ((h.push (W.kdv_tup rest)).push (PySem.HandSPX.excO C h.objs.size)).get? b = some u := fun b u e => Heap.get?_push_of_some _ (Heap.get?_push_of_some _ e)
  have c1 := kk _ _ hC
  have gt : ((h.push (W.kdv_tup rest)).push (PySem.HandSPX.excO C h.objs.size)).get? (h.objs.size + 1) = some (PySem.HandSPX.excO C h.objs.size) := by heap_get
  have zC : (Value.ref C :: bm).contains (.ref C) = true := by
    rw [List.contains_cons, beq_self_eq_true, Bool.true_or]
  have j1 := hi.keeps kk
  have j2 := (hb (.ref (h.objs.size + 1))).keeps kk
  unfold isInstance
  repeat (first
    | with_reducible refine wpAny_loadPart_at gt ?_
    | (with_reducible refine wpAny_isSubtype_exc c1 ?_; rw [zC])
    | wp_step)
  show wpAny _ _ (typeLookup (.ref C) _) _ _ _
  refine j1.at (wpAny_holding (wpAny_bind (j2.at (wpAny_bind (wpAny_call (codeAny_mono hq fun r s' z => ?_))))))
  rcases r with e | (v | _ | _ | _) <;> first | exact z | exact z.elim | skip
  obtain ⟨rfl, z⟩ := z
  first
    | exact wpAny_pure (wpAny_pure z)
    | (wp_walk; exact z)

theorem xcall (F : ExcBaseFacts B newId initId bmB) (o : BmOk B bm) {rest : List Value} {fI : Addr} (hC : h.get? C = some (excClassObj nm q C N bs bm hdct sn sub ab col dd k0 k1 k2 k3 k5 newId))
    (hi : W.Looks (model prog w) h (typeLookup (.ref C) "__init__") (some (.ref fI))) (hb : ∀ self, W.Looks (model prog w) h (bindSpecial (.ref fI) self) (.ref fI, [self])) (hrest : rest.length ≤ sizeLine)
    (hq : codeAny (model prog w) (A.under (.builtin "type.__call__" ⟨.ref C :: rest, kws⟩)) (.call (.ref fI) ⟨.ref (h.objs.size + 1) :: rest, kws⟩) (W.InitBack (h.objs.size + 1) R) ⟨(h.push (W.kdv_tup rest)).push (PySem.HandSPX.excO C h.objs.size), g, d, t, os⟩) :
    codeAny (model prog w) A (.call (.ref C) ⟨rest, kws⟩) R ⟨h, g, d, t, os⟩ := by
  have z1 := tc_lookup
  have z2 := tc_bind (.ref C)
  have zT : (⟨h, g, d, t, os⟩ : Shared).TypeIs (.ref C) "type" := ⟨_, hC, rfl⟩
  refine codeAny_of_tree ?_
  show wpAny _ _ (callAny (.ref C) _) _ _ _
  repeat (any_goals (first
    | assumption
    | with_reducible refine wpAny_loadPart_at hC ?_
    | wp_step))
  refine ⟨rfl, codeAny_call_builtin_at (Code.quiet_builtin _ (by decide +kernel)) entry_typeCall (wpAny_check_type_call_sub hC (xtype_call F o hC hi hb hrest (codeAny_mono hq fun r s' z => ?_)))⟩
  rcases r with e | (v | _ | _ | _) <;> exact z

open Builtin.ObjectAttr in
theorem xosa {K : W.Frag} {name : Str} {tk : Tok} {v : Value} {x C : Addr} {fv : Array Value} {cd : ClassData} (XK : K.In h) (hx : h.get? x = some { cls := .ref C, data := .fields fv }) (hcd : W.clsIn K C = some cd) (hne : cd.mro.isEmpty = false)
    (hob : cd.mro.contains (.type "object") = true) (hps : refuseLoop (.ref x) "__setattr__" cd.mro = pure ()) (hh : cd.hasDict = true) (ha : W.findIn K (.ref C) name = some none)
    (hq : ∀ h' tk' dx, (∀ b u, b ≠ x → h.get? b = some u → h'.get? b = some u) → h.objs.size ≤ dx → dx ≠ x → h'.get? x = some { cls := .ref C, dict := some dx, data := .fields fv } → h'.Ns1 dx (fun y => if y = name then some v else none) → R (.ok (.ret .none)) ⟨h', g, d, tk', os⟩) :
    codeAny (model prog w) A (.call (.builtin "object.__setattr__") ⟨[.ref x, .str name tk, v], []⟩) R ⟨h, g, d, t, os⟩ := by
  have iT : W.InstAt h x { cls := .ref C, data := .fields fv } C none := ⟨hx, rfl, rfl, trivial⟩
  have sF := PySem.F.store_object
  have nx : x ≠ h.objs.size := Nat.ne_of_lt (Heap.lt_size hx)
  have isO : W.Looks (model prog w) h (isInstance (.ref x) (.type "object")) true := by
    refine iT.type.andThen (W.looks_mroIn XK ?_)
    unfold W.mroIn
    rw [hcd, Option.bind_some, if_neg (by rw [hne]; decide), hob]
  refine codeAny_call_builtin sF.slot.plain sF.entry (@W.check_slot (model prog w) _ _ ⟨h, g, d, t, os⟩ "object.__setattr__" "object" "__setattr__" (.ref x)
    [.str name tk, v] [] _ sF.kind sF.split isO (sF.args (.ref x) (.str name tk) v) ?_)
  have y1 : W.Looks (model prog w) h (mroOf (.ref C)) cd.mro := (W.looks_clsIn XK hcd).andThen .now
  have y2 : W.Looks (model prog w) h (storeTaker? none) none := .now
  have y3 : W.Looks (model prog w) h (classData C) cd := W.looks_clsIn XK hcd
  rw [W.osa_eq, refuse_eq]
  refine wpAny_bind (wpAny_bind (iT.type.at (wpAny_bind (y1.at ?_))))
  rw [hps]
  refine wpAny_pure (wpAny_bind (iT.type.at (wpAny_bind ((W.looks_findIn XK ha).at (wpAny_bind (y2.at ?_))))))
  show wpAny _ _ (storeInOwnDict (.ref x) (.ref C) (.str name tk) name v false) _ _ _
  obtain ⟨z1, z2, z3, z4, z5, hd, z6, z7, z8, z9, z10⟩ := cd
  dsimp only at hh
  subst hh
  unfold storeInOwnDict ownDictForStores
  repeat (first
    | with_reducible refine PySem.HandSPX.store_in_new ?_ ?_
    | with_reducible refine wpAny_loadPart_at hx ?_
    | with_reducible refine y3.at ?_
    | wp_step)
  · exact ⟨_, #[], _, (Heap.get?_update_ne _ _ _ _ nx.symm).trans (Heap.get?_push_at rfl rfl), rfl, fun e he => absurd he (by simp), fun _ => rfl⟩
  · intro h' tk' hn' hs
    have hx' : (h.push { cls := .type "dict", data := .dict #[] }).get? x = some { cls := .ref C, data := .fields fv } := Heap.get?_push_of_some _ hx
    refine hq h' tk' h.objs.size (fun b u hb hu => ?_) (Nat.le_refl _) nx.symm ?_ hn'
    · exact (hs.2 b (Nat.ne_of_lt (Heap.lt_size hu))).trans ((Heap.get?_update_ne _ _ _ _ hb).trans (Heap.get?_push_of_some _ hu))
    · exact (hs.2 x nx).trans (Heap.get?_update_self _ hx' rfl)
end
end Fk

set_option maxHeartbeats 4000000
namespace Fk
open PySem PySem.Spec L2
/-- what the written part says of an error's class, whose __init__ stands at fI -/
structure XC (K : PySem.W.Frag) (C fI : Addr) : Prop where
  cls : ∃ (B newId initId : String) (bmB : List Value) (nm q : Str) (N : Addr) (bs bm : List Value) (sn : List Str) (sub : List Value) (ab : Bool) (col : Option Bool) (dd : Option Addr) (k0 k1 k2 k3 k5 : Option Value),
    ExcBaseFacts B newId initId bmB ∧ BmOk B bm ∧ (∀ self, refuseLoop self "__setattr__" bm = pure ()) ∧ bm.contains (.type "object") = true ∧ K.lookup C = some (excClassObj nm q C N bs bm true sn sub ab col dd k0 k1 k2 k3 k5 newId)
  sa : PySem.W.findIn K (.ref C) "__setattr__" = some (some (.builtin "object.__setattr__"))
  kC : PySem.W.keepIn K (.ref C) = true
  iC : PySem.W.findIn K (.ref C) "__init__" = some (some (.ref fI))
  tI : PySem.W.typeIn K (.ref fI) = some (.type "function")
  ga : PySem.W.findIn K (.ref C) "__getattribute__" = some (some (.builtin "BaseException.__getattribute__"))
  gg : PySem.W.findIn K (.ref C) "__getattr__" = some none
  su : PySem.W.subIn K (.ref C) (.type "BaseException") = some true
  hd : PySem.W.hasDictIn K C = true
  ha : PySem.W.findIn K (.ref C) "__class__" = some (some (.builtin "object.__class__"))
  hn : PySem.W.specialIn K (.builtin "object.__class__") "__get__" = some (some (.builtin "getset_descriptor.__get__"))
  ht : PySem.W.takesIn K (.builtin "object.__class__") = some true
  hm : PySem.W.mroIn K C (.type "object") = some true
section
variable {X : Cx} {CX : CXT} {k : Nat} {fI C : Addr} {fd : FuncData} {ps : List Str} {sp : Sp}
theorem run_mkv {pins : List (Addr × Obj)} {σ : L2.St} {H : Hp} {s : Shared} {Q : VK} {us vals : List Value} {kz : List (Str × Value)} {vvs : List V} (T : XC X.K C fI) (F1 : FnOk X.prog X.w X.K X.mg X.base CX k fI fd ps sp) (hr : Room (k + 1) X.A)
    (hx : Passes CX X (fun _ _ _ => False)) (I : Inv X pins σ H s) (rv : Vals vvs vals) (hus : us.length ≤ 1000) (hbind : ∀ (s' : Shared) (self : Value), X.K.In s'.heap → BindsTo s' fd ⟨self :: us, kz⟩ (ps.zip (self :: vals)))
    (h : ∀ a, H a = none → sp (.ref a :: vvs) (upd H a (exo a C none)) (fun v H2 => v = .non ∧ Q (.ref a) H2) (fun _ _ _ => False)) :
    wpAny (model X.prog X.w) X.A (call (.ref C) us kz) (EP X pins σ Q) X.xe s := by
  obtain ⟨B, newId, initId, bmB, nm, q, N, bs, bm, sn, sub, ab, col, dd, k0, k1, k2, k3, k5, FB, ok, _, _, hC⟩ := T.cls
  obtain ⟨hp, g, dr, tk, os⟩ := s
  have hsz : hp.objs.size ≤ hp.objs.size + 1 := Nat.le_succ _
  have hq := h (hp.objs.size + 1) (I.hok.fresh hsz)
  have gt : ((hp.push (PySem.W.kdv_tup us)).push (PySem.HandSPX.excO C hp.objs.size)).get? (hp.objs.size + 1) = some (PySem.HandSPX.excO C hp.objs.size) := by heap_get
  have I2 : Inv X pins σ (upd H (hp.objs.size + 1) (exo (hp.objs.size + 1) C none)) ⟨(hp.push (PySem.W.kdv_tup us)).push (PySem.HandSPX.excO C hp.objs.size), g, dr, tk, os⟩ :=
    I.laid (t' := tk) (a := hp.objs.size + 1) (o := exo (hp.objs.size + 1) C none) (fun b u e => Heap.get?_push_of_some _ (Heap.get?_push_of_some _ e)) hsz (exo_ok gt)
  have r2 : Vals (V.ref (hp.objs.size + 1) :: vvs) (Value.ref (hp.objs.size + 1) :: vals) := .cons rfl rv
  have hz : us.length ≤ sizeLine := Nat.le_trans hus (by decide)
  refine wpAny_call (xcall FB ok (I.kIn _ _ hC) (PySem.W.looks_findIn I.kIn T.iC) (fun self => PySem.W.bind_fn I.kIn self T.tI) hz
    (codeAny_mono (F1.run _ X.stack _ _ ⟨Value.ref (hp.objs.size + 1) :: us, kz⟩ _ _ _ (fun _ _ _ => False) (hr.make C us kz) (I2.env0.make C us kz) (hbind _ _ I2.kIn) r2 hq) fun r s' z => ?_))
  cases r with
  | error e => exact hx pins σ _ _ e s' I2 z
  | ok fl =>
    cases fl with
    | ret u =>
      obtain ⟨v, H', I3, rv', ev, q3⟩ := I2.after z
      subst ev
      exact ⟨rv', ⟨V.ref (hp.objs.size + 1), H', I3, rfl, q3⟩⟩
    | next => exact z.elim
    | brk => exact z.elim
    | cont => exact z.elim
variable {x : Str} {p p' pos : Pos} {e o : Expr} {es : List Expr} {kws : List Keyword} {t tk : TA} {ds : List Value} {dvs : List V} {ks : List Str} {te to : TE} {f : Str}
/-- C(e, ..) as a value: an error's object stands at a, then __init__ -/
def tMkV (C : Addr) (sp : Sp) (dvs : List V) (t : TA) : TE := fun σ H Q => t σ H fun vs H1 => vs.length ≤ 1000 ∧ ∀ a, H1 a = none → sp (.ref a :: (vs ++ dvs)) (upd H1 a (exo a C none)) (fun v H2 => v = .non ∧ Q (.ref a) H2) (fun _ _ _ => False)
theorem pe_mkv (T : XC X.K C fI) (F1 : FnOk X.prog X.w X.K X.mg X.base CX k fI fd ps sp) (hr : Room (k + 1) X.A) (hb : Binds X.K fd ps ds) (hd : Vals dvs ds) (hx : Passes CX X (fun _ _ _ => False)) (hg : Gl X x) (hm : X.mg x = some (.ref C)) (ha : PA X (e :: es) t)
    (hdb : (x == ("__debug__" : Str)) = false := by decide) (he : starEach (e :: es) X.env = (false, eval e X.env) :: starEach es X.env := by rfl) (hpl : (backTo pos (starEach es X.env)).any (·.1) = false := by rfl) :
    PE X (.Call (.Name x p) (e :: es) [] pos) (tMkV C sp dvs t) := by
  refine ⟨fun pins s σ H Q I h => ?_⟩
  refine wpAny_Call_Name_kw (ld_glob I hg hm ?_ hdb)
  refine PySem.W.callWith_K (h₀ := X.base) I.ok.mod.kin T.kC (thn (ha.run pos pins s σ H _ I h) fun us s1 ⟨vs, H1, I1, r1, hz, q1⟩ => ⟨I1.kIn, ?_⟩) he hpl
  have q0 := q1 _ (I1.hok.fresh (Nat.le_refl _))
  have l0 := F1.len _ _ _ _ q0
  have l1 := (r1.append hd).length
  rw [List.length_cons] at l0
  exact run_mkv (us := us) (kz := []) T F1 hr hx I1 (r1.append hd) (by rw [← r1.length]; exact hz) (fun s' self X1 => hb s' (self :: us) X1 (by rw [List.cons_append, List.length_cons, ← l1]; exact l0)) q1
theorem pe_mkv0 (T : XC X.K C fI) (F1 : FnOk X.prog X.w X.K X.mg X.base CX k fI fd ps sp) (hr : Room (k + 1) X.A) (hb : Binds X.K fd ps ds) (hd : Vals dvs ds) (hx : Passes CX X (fun _ _ _ => False)) (hg : Gl X x) (hm : X.mg x = some (.ref C))
    (hdb : (x == ("__debug__" : Str)) = false := by decide) : PE X (.Call (.Name x p) [] [] pos) (tMkV C sp dvs tNil) := by
  refine ⟨fun pins s σ H Q I h => ?_⟩
  obtain ⟨_, q1⟩ := h
  refine wpAny_Call_Name_kw (ld_glob I hg hm ?_ hdb)
  refine PySem.W.callWith_K0 I.kIn T.kC ?_
  have q0 := q1 _ (I.hok.fresh (Nat.le_refl _))
  have l0 := F1.len _ _ _ _ q0
  rw [List.length_cons] at l0
  exact run_mkv (us := []) (kz := []) T F1 hr hx I hd (Nat.zero_le _) (fun s' self X1 => hb s' [self] X1 (by rw [List.singleton_append, List.length_cons, ← hd.length]; exact l0)) q1
/-- C(k = e, ..) as a value -/
def tMkVK (C : Addr) (n : Nat) (sp : Sp) (t : TA) : TE := fun σ H Q => t σ H fun zs H1 => zs.length = n ∧ ∀ a, H1 a = none → sp (.ref a :: zs) (upd H1 a (exo a C none)) (fun v H2 => v = .non ∧ Q (.ref a) H2) (fun _ _ _ => False)
theorem pe_mkvK (T : XC X.K C fI) (F1 : FnOk X.prog X.w X.K X.mg X.base CX k fI fd ps sp) (hr : Room (k + 1) X.A) (hb : ∀ (s : Shared) (self : Value) (ws : List Value), X.K.In s.heap → ws.length = ks.length → BindsTo s fd ⟨[self], ks.zip ws⟩ (ps.zip (self :: ws))) (hx : Passes CX X (fun _ _ _ => False))
    (hg : Gl X x) (hm : X.mg x = some (.ref C)) (hkw : PK X kws tk) (hall : (backToKw pos (keywordEach kws X.env)).all (·.1.isSome) = true := by rfl) (hks : (backToKw pos (keywordEach kws X.env)).filterMap (·.1) = ks := by rfl) (hdb : (x == ("__debug__" : Str)) = false := by decide)
    (hpl : ((backTo pos (starEach [] X.env)).any (·.1) || (backToKw pos (keywordEach kws X.env)).any (·.1.isNone)) = false := by rfl) : PE X (.Call (.Name x p) [] kws pos) (tMkVK C ks.length sp tk) := by
  refine ⟨fun pins s σ H Q I h => ?_⟩
  refine wpAny_Call_Name_kw (ld_glob I hg hm ?_ hdb)
  refine PySem.W.callWith_KW0 (h₀ := X.base) I.ok.mod.kin T.kC hall ?_ hpl
  refine thn (hkw.run pos pins s σ H _ I h) fun ws s2 ⟨zs, H2, I2, rz, l2, q2⟩ => ⟨I2.kIn, ?_⟩
  rw [hks]
  exact run_mkv (us := []) T F1 hr hx I2 rz (Nat.zero_le _) (fun s' self X1 => hb s' self ws X1 (by rw [← rz.length]; exact l2)) q2

theorem inst_v {H : Hp} {h : Heap} {P : Program} {w : World} {a d : Addr} {fs : List (Str × V)} (hok : HOk P w H h) (ea : H a = some (exo a C (some d))) (ed : H d = some (exd d fs)) :
    ∃ (ox od : Obj) (mA : Str → Option Value), PySem.W.InstAt h a ox C (some od) ∧ h.get? d = some od ∧ h.Ns1 d mA ∧ ∀ g, RelO (fs.lookup g) (mA g) := by
  obtain ⟨t1, ho⟩ := exo_at hok ea
  obtain ⟨mA, hns, rel⟩ := exd_at hok ed
  obtain ⟨od, es', ep, h1, h2, h3⟩ := id hns
  exact ⟨_, od, mA, ⟨ho, rfl, rfl, h1⟩, h1, hns, rel⟩
/-- e.f, e an error's value -/
def tFv (K : PySem.W.Frag) (f : Str) (te : TE) : TE := fun σ H Q => te σ H fun x H1 => ∃ (a C fI d : Addr) (fs : List (Str × V)) (v : V), x = .ref a ∧ XC K C fI ∧ PySem.W.findIn K (.ref C) f = some none ∧ H1 a = some (exo a C (some d)) ∧ H1 d = some (exd d fs) ∧ fs.lookup f = some v ∧ Q v H1
theorem pe_fv (he : PE X e te) (hb : attributeBase e f X.env (eval e X.env) = eval e X.env := by rfl) : PE X (.Attribute e f pos) (tFv X.K f te) := by
  refine ⟨fun pins s σ H Q I h => ?_⟩
  refine attr_of hb (thn (he.run pins s σ H _ I h) fun u s1 hh => ?_)
  obtain ⟨x, H1, I1, rx, a, C, fI, d, fs, v, ex, T, hno, ea, ed, l, q⟩ := hh
  subst ex
  obtain rfl : u = Value.ref a := rx
  obtain ⟨ox, od, mA, J, hod, hns, rel⟩ := inst_v I1.hok ea ed
  obtain ⟨od', ho', hl'⟩ := lookIn_ns hns
  rw [hod] at ho'
  cases ho'
  obtain ⟨u, hu, ru⟩ := RelO.some_of (v := v) (o := mA f) (by rw [← l]; exact rel f)
  exact PySem.HandSPX.exc_get I1.kIn J T.ga T.gg T.su (PySem.W.findObj_own T.hd hno rfl (by rw [hl', hu])) (handed_of ru) ⟨v, H1, I1.tok _, ru, q⟩
theorem kit_v {K : PySem.W.Frag} {a : Addr} {od : Option Obj} {ox : Obj} (T : XC K C fI) : PySem.W.KitX K (.ref a) (.ref C) (fun h => PySem.W.InstAt h a ox C od) := by
  refine PySem.W.kitx_exc ?_ T.ga T.gg T.su T.ha T.hn T.ht T.hm
  obtain ⟨B, newId, initId, bmB, nm, q, N, bs, bm, sn, sub, ab, col, dd, k0, k1, k2, k3, k5, FB, ok, _, _, hC⟩ := T.cls
  unfold PySem.W.clsIn
  rw [hC]
  rfl
/-- isinstance(e, c), e an error's value -/
def rIsV (K : PySem.W.Frag) : List V → Hp → VK → Prop := fun xs H Q => ∃ (a C fI d : Addr) (fs : List (Str × V)) (c : V) (u : Value) (b : Bool), xs = [.ref a, c] ∧ ClsV c u ∧ XC K C fI ∧ H a = some (exo a C (some d)) ∧ H d = some (exd d fs) ∧ PySem.W.kitOne K (.ref C) u = some b ∧ Q (.bl b) H
theorem call_isv : CallR X (.builtin "isinstance") (rIsV X.K) := by
  intro pins s σ H xs us Q I r h
  obtain ⟨a, C, fI, d, fs, c, u, b, rfl, kc, T, ea, ed, e, q⟩ := h
  obtain ⟨u1, u2, rfl, r1, r2⟩ := vals2 r
  have e2 := kc.eq r2
  subst e2
  obtain rfl : u1 = Value.ref a := r1
  obtain ⟨ox, od, mA, J, hod, hns, rel⟩ := inst_v I.hok ea ed
  exact PySem.W.kia_one (kit_v T) I.kIn J e (fun z => nomatch z) fun tk => ⟨.bl b, H, I.tok tk, rfl, q⟩
/-- isinstance(e, (c, ..)), e the error that the suite holds -/
def rIsS (K : PySem.W.Frag) (a : Addr) (cls : Value) (d : Option Addr) : List V → Hp → VK → Prop := fun xs H Q => ∃ (C fI tp dd : Addr) (fs : List (Str × V)) (cs : List V) (us : List Value) (b : Bool), xs = [.ref a, .ref tp] ∧ cls = .ref C ∧ d = some dd ∧ XC K C fI ∧ H dd = some (.xd fs) ∧
  H tp = some (.tup cs) ∧ Paired ClsV cs us ∧ PySem.W.kitAny K (.ref C) us = some b ∧ Q (.bl b) H
theorem call_isS {a : Addr} {oe : Obj} {cls : Value} {d : Option Addr} {pn : List (Addr × Obj)} (hz : Zc cls d oe) (hf : ∃ vs, oe.data = .fields vs) : CallR (X.suite a ((a, oe) :: pn)) (.builtin "isinstance") (rIsS X.K a cls d) := by
  intro pins s σ H xs us Q I r h
  obtain ⟨C, fI, tp, dd, fs, cs, ws, b, rfl, rfl, rfl, T, ed, hT, kc, e, q⟩ := h
  obtain ⟨u1, u2, rfl, r1, r2⟩ := vals2 r
  obtain rfl : u1 = Value.ref a := r1
  cases (show u2 = Value.ref tp from r2)
  obtain ⟨hget, _⟩ := I.pin (a, oe) (List.mem_append_left _ List.mem_cons_self)
  obtain ⟨vs, hv⟩ := hf
  obtain ⟨mA, hns, rel⟩ := (show ObjOk X.prog X.w H s.heap dd (.xd fs) from I.hok dd _ ed)
  obtain ⟨od, ho, hl⟩ := lookIn_ns hns
  have J : PySem.W.InstAt s.heap a oe C (some od) := ⟨hget, hz.1, by unfold PySem.W.notCls; rw [hv] <;> rfl, by rw [hz.2]; exact ho⟩
  obtain ⟨_, its, rv, o, h1, h2, n, h3⟩ := (show ObjOk X.prog X.w H s.heap tp (.tup cs) from I.hok tp _ hT)
  have e3 := ClsV.all kc rv
  subst e3
  obtain ⟨oc, od', dt, sl⟩ := o
  simp only at h2 h3
  subst h2 h3
  exact PySem.W.kia_tup (kit_v T) I.kIn J h1 e (fun z => nomatch z) fun tk => ⟨.bl b, H, I.tok tk, rfl, q⟩
theorem xost {pins : List (Addr × Obj)} {σ : L2.St} {H : Hp} {s : Shared} {a : Addr} {y : V} {u : Value} {Q : Unit → Shared → Prop} {E : Value → Shared → Prop} {A : Around} (T : XC X.K C fI) (I : Inv X pins σ H s) (ea : H a = some (exo a C none))
    (hno : PySem.W.findIn X.K (.ref C) f = some none) (ry : RelV y u)
    (h : ∀ dx s', H dx = none → dx ≠ a → Inv X pins σ (upd (upd H dx (exd dx [(f, y)])) a (exo a C (some dx))) s' → Q () s') : wpAny (model X.prog X.w) A (setAttr (.ref a) f u) Q E s := by
  obtain ⟨B, newId, initId, bmB, nm, q, N, bs, bm, sn, sub, ab, col, dd, k0, k1, k2, k3, k5, FB, ok, hps, hob, hC⟩ := T.cls
  have hcl : PySem.W.clsIn X.K C = some { name := nm, bases := bs, mro := .ref C :: bm, ns := N, qualname := q, hasDict := true, slotNames := sn, subclasses := sub, abstract := ab, collection := col, hasDel := false } := by
    unfold PySem.W.clsIn
    rw [hC]
  obtain ⟨t1, ho⟩ := exo_at I.hok ea
  obtain ⟨hp, g, d, t, os⟩ := s
  refine PySem.W.set_plain I.kIn (ox := { cls := .ref C, dict := none, data := .fields #[.ref t1, .none, .none, .none, .bool false, .none] }) (od := none) ⟨ho, rfl, rfl, trivial⟩ T.sa ?_
  refine xosa I.kIn ho hcl rfl (by rw [List.contains_cons, hob, Bool.or_true]) (by rw [refuseLoop_ref]; exact hps _) rfl hno (fun h' tk' dx kp dn dne hx hn => ?_)
  have zd : H dx = none := I.hok.fresh dn
  have nd : ∀ {b : Addr} {o : Obj}, hp.get? b = some o → b ≠ dx := fun {b o} w => Nat.ne_of_lt (Nat.lt_of_lt_of_le (Heap.lt_size w) dn)
  have na : ∀ {b : Addr}, H b = none → b ≠ a := fun {b} n z => by
    rw [z, ea] at n
    cases n
  have U : Un X.fs [] H (upd (upd H dx (exd dx [(f, y)])) a (exo a C (some dx))) hp h' := by
    refine ⟨fun b o w n _ _ => kp b o (na n) w, fun b o w n _ _ => ⟨o.slots, kp b o (na n) w⟩, fun b o w n _ => ?_, fun b o w _ => ?_, fun b xs w => ?_, fun b o v w => ?_, fun b ps w => ⟨#[], ?_⟩⟩
    · rw [upd_ne (na n), upd_ne (nd w)]
      exact n
    · by_cases hb : b = a
      · rw [hb]
        exact ⟨_, hx⟩
      · exact ⟨o, kp b o hb w⟩
    · rw [upd_ne (at_ne ea w exo_tup), upd_ne (ne_of_none w zd)]
      exact w
    · rw [upd_ne (at_ne ea w exo_frz), upd_ne (ne_of_none w zd)]
      exact w
    · rw [upd_ne (at_ne ea w exo_tbl), upd_ne (ne_of_none w zd), w]
      simp
  refine h dx _ zd dne (I.un (t' := tk') U fun b o w => ?_)
  by_cases hb : b = a
  · rw [hb, upd_same] at w
    cases w
    rw [hb]
    exact exo_ok hx
  rw [upd_ne hb] at w
  by_cases hd : b = dx
  · rw [hd, upd_same] at w
    cases w
    rw [hd]
    exact exd_ok hn (relO_put (fs := []) ry fun g => True.intro)
  rw [upd_ne hd] at w
  refine (I.hok b o w).stay (fun c v hc z => kp c v ?_ z) (fun c hc => ?_) (fun c xs hc => ?_)
  · rcases hc with hc | hc
    · rw [hc]
      exact hb
    · exact at_ne ea hc exo_own
  · rw [upd_ne (at_ne ea hc exo_own), upd_ne (ne_of_none hc zd)]
    exact hc
  · rw [upd_ne (at_ne ea hc exo_tup), upd_ne (ne_of_none hc zd)]
    exact hc
/-- self.f = e, self an error that has no field yet -/
def tOsv (K : PySem.W.Frag) (f : Str) (to te : TE) : TS := fun D σ H => te σ H fun y H1 => to σ H1 fun x H2 => ∃ a C fI : Addr, x = .ref a ∧ XC K C fI ∧ PySem.W.findIn K (.ref C) f = some none ∧ H2 a = some (exo a C none) ∧
  ∀ dx, H2 dx = none → dx ≠ a → D.nx σ (upd (upd H2 dx (exd dx [(f, y)])) a (exo a C (some dx)))
theorem ps_osv (ho : PE X o to) (he : PE X e te) (hs : swapsWith e (some (.Attribute o f p')) pos.line X.env = pure false := by rfl) : PS X (.Assign [.Attribute o f p'] e pos) (tOsv X.K f to te) := by
  refine ⟨fun pins s σ H D I h => ?_⟩
  refine plainObj_wpAny_Assign_Attribute (thn (he.run pins s σ H _ I h) fun v s1 ⟨y, H1, I1, r1, q1⟩ => thn (ho.run pins s1 σ H1 _ I1 q1) fun u s2 ⟨x, H2, I2, r2, a, C, fI, ex, T, hno, ea, q⟩ => ?_) hs
  subst ex
  obtain rfl : u = Value.ref a := r2
  exact xost T I2 ea hno r1 fun dx s' n ne J => ⟨σ, _, J, q dx n ne⟩
end
end Fk

set_option maxHeartbeats 4000000
/-! What is known of an error's class by its entry in the written part. -/
namespace Fk
open PySem PySem.Spec L2
def VE : List Value := [.type "ValueError", .type "Exception", .type "BaseException", .type "object"]
def KE : List Value := [.type "KeyError", .type "LookupError", .type "Exception", .type "BaseException", .type "object"]
structure CF (K : PySem.W.Frag) (nm : Str) (newId : String) (bm : List Value) (C : Addr) : Prop where
  x : ∃ (q : Str) (N : Addr) (bs : List Value) (sn : List Str) (sub : List Value) (ab : Bool) (col : Option Bool) (dd : Option Addr) (k0 k1 k2 k3 k5 : Option Value), K.lookup C = some (excClassObj nm q C N bs bm true sn sub ab col dd k0 k1 k2 k3 k5 newId)
section
variable {K : PySem.W.Frag} {nm nm' : Str} {newId newId' : String} {bm bm' : List Value} {C C' : Addr}
theorem CF.sub (c : CF K nm newId bm C) (u : Value) : PySem.W.subIn K (.ref C) u = some ((Value.ref C :: bm).contains u) := by
  obtain ⟨q, N, bs, sn, sub, ab, col, dd, k0, k1, k2, k3, k5, e⟩ := c.x
  show PySem.W.mroIn K C u = _
  unfold PySem.W.mroIn PySem.W.clsIn
  rw [e]
  rfl
theorem CF.mro (c : CF K nm newId bm C) (u : Value) : PySem.W.mroIn K C u = some ((Value.ref C :: bm).contains u) := c.sub u
theorem CF.typ (c : CF K nm newId bm C) : PySem.W.typeIn K (.ref C) = some (.type "type") := by
  obtain ⟨q, N, bs, sn, sub, ab, col, dd, k0, k1, k2, k3, k5, e⟩ := c.x
  show (K.lookup C).map (·.cls) = _
  rw [e]
  rfl
theorem CF.hd (c : CF K nm newId bm C) : PySem.W.hasDictIn K C = true := by
  obtain ⟨q, N, bs, sn, sub, ab, col, dd, k0, k1, k2, k3, k5, e⟩ := c.x
  unfold PySem.W.hasDictIn PySem.W.clsIn
  rw [e]
  rfl
theorem CF.isc (c : CF K nm newId bm C) : (PySem.W.clsIn K C).isSome = true := by
  obtain ⟨q, N, bs, sn, sub, ab, col, dd, k0, k1, k2, k3, k5, e⟩ := c.x
  unfold PySem.W.clsIn
  rw [e]
  rfl
theorem CF.kit (c : CF K nm newId bm C) (c' : CF K nm' newId' bm' C') : PySem.W.kitOne K (.ref C) (.ref C') = some ((Value.ref C :: bm).contains (.ref C')) := by
  unfold PySem.W.kitOne
  by_cases h : C = C'
  · subst h
    have e : (Value.ref C == .ref C) = true := beq_self_eq_true _
    rw [if_pos e, List.contains_cons, e, Bool.true_or]
  · have e : ¬ (Value.ref C == .ref C') = true := fun z => by
      have := eq_of_beq z
      cases this
      exact h rfl
    have t : ((PySem.W.clsIn K C').isSome && PySem.W.typeIn K (.ref C') == some (.type "type")) = true := by
      rw [c'.isc, c'.typ] <;> rfl
    rw [if_neg e]
    show (if ((PySem.W.clsIn K C').isSome && PySem.W.typeIn K (.ref C') == some (.type "type")) = true then PySem.W.subIn K (.ref C) (.ref C') else none) = _
    rw [if_pos t]
    exact c.sub _
theorem CF.kitT (c : CF K nm newId bm C) {n : String} (h : PySem.W.kitMeta n = true) : PySem.W.kitOne K (.ref C) (.type n) = some ((Value.ref C :: bm).contains (.type n)) := by
  unfold PySem.W.kitOne
  have e : ¬ (Value.ref C == .type n) = true := fun z => by
    have := eq_of_beq z
    cases this
  rw [if_neg e]
  show (if PySem.W.kitMeta n = true then PySem.W.subIn K (.ref C) (.type n) else none) = _
  rw [if_pos h]
  exact c.sub _
theorem CF.name (c : CF K nm newId bm C) (c' : CF K nm' newId' bm' C) : nm = nm' := by
  obtain ⟨q, N, bs, sn, sub, ab, col, dd, k0, k1, k2, k3, k5, e⟩ := c.x
  obtain ⟨q', N', bs', sn', sub', ab', col', dd', k0', k1', k2', k3', k5', e'⟩ := c'.x
  rw [e] at e'
  have z := Option.some.inj e'
  injection z with z1 z2 z3 z4
  injection z3 with z5
  injection z5
theorem CF.oex (c : CF K nm "ValueError.__new__" bm C) (h : PySem.HandSPX.refsVE bm = true) (sa : PySem.W.findIn K (.ref C) "__setattr__" = some (some (.builtin "object.__setattr__"))) (kC : PySem.W.keepIn K (.ref C) = true) (hb : bm.contains (.type "BaseException") = true) : OexC K C := by
  obtain ⟨q, N, bs, sn, sub, ab, col, dd, k0, k1, k2, k3, k5, e⟩ := id c.x
  refine { cls := ⟨nm, q, N, bs, bm, sn, sub, ab, col, dd, k0, k1, k2, k3, k5, e, h⟩, sa := sa, exC := ?_, tyC := c.typ, kC := kC }
  rw [c.sub, List.contains_cons, hb, Bool.or_true]
theorem CF.exm (c : CF K nm newId bm C) (c' : CF K nm' newId' bm' C') (hb : bm'.contains (.type "BaseException") = true) {b : Bool} (e : (Value.ref C :: bm).contains (.ref C') = b) : PySem.W.exmOne K (.ref C) (.ref C') = some b := by
  refine PySem.W.exm_ref ?_ c'.hd c'.typ ((c.sub _).trans (congrArg some e))
  rw [c'.sub, List.contains_cons, hb, Bool.or_true]
theorem CF.xc (c : CF K nm newId bm C) {B initId : String} {bmB : List Value} {fI : Addr} (FB : ExcBaseFacts B newId initId bmB) (ok : BmOk B bm) (ps : ∀ self, refuseLoop self "__setattr__" bm = pure ()) (ob : bm.contains (.type "object") = true) (hb : bm.contains (.type "BaseException") = true)
    (sa : PySem.W.findIn K (.ref C) "__setattr__" = some (some (.builtin "object.__setattr__"))) (kC : PySem.W.keepIn K (.ref C) = true) (iC : PySem.W.findIn K (.ref C) "__init__" = some (some (.ref fI))) (tI : PySem.W.typeIn K (.ref fI) = some (.type "function"))
    (ga : PySem.W.findIn K (.ref C) "__getattribute__" = some (some (.builtin "BaseException.__getattribute__"))) (gg : PySem.W.findIn K (.ref C) "__getattr__" = some none) (ha : PySem.W.findIn K (.ref C) "__class__" = some (some (.builtin "object.__class__")))
    (hn : PySem.W.specialIn K (.builtin "object.__class__") "__get__" = some (some (.builtin "getset_descriptor.__get__"))) (ht : PySem.W.takesIn K (.builtin "object.__class__") = some true) : XC K C fI := by
  obtain ⟨q, N, bs, sn, sub, ab, col, dd, k0, k1, k2, k3, k5, e⟩ := id c.x
  refine { cls := ⟨B, newId, initId, bmB, nm, q, N, bs, bm, sn, sub, ab, col, dd, k0, k1, k2, k3, k5, FB, ok, ps, ob, e⟩, sa := sa, kC := kC, iC := iC, tI := tI, ga := ga, gg := gg, su := ?_, hd := c.hd, ha := ha, hn := hn, ht := ht, hm := ?_ }
  · rw [c.sub, List.contains_cons, hb, Bool.or_true]
  · rw [c.mro, List.contains_cons, ob, Bool.or_true]
end
theorem ve_ok : BmOk "ValueError" VE := ⟨by decide +kernel, by decide +kernel, by decide +kernel⟩
theorem ke_ok : BmOk "LookupError" KE := ⟨by decide +kernel, by decide +kernel, by decide +kernel⟩
theorem rve_ok (c : Addr) : BmOk "ValueError" (.ref c :: VE) := ⟨ve_ok.b', ve_ok.a', ve_ok.n'⟩
theorem ve_pass (self : Value) : refuseLoop self "__setattr__" VE = pure () := PySem.F.store_ValueError.passes self
theorem rve_pass (c : Addr) (self : Value) : refuseLoop self "__setattr__" (.ref c :: VE) = pure () := by
  rw [refuseLoop_ref]
  exact ve_pass self
theorem ke_pass (self : Value) : refuseLoop self "__setattr__" KE = pure () := by
  kernel_rfl
end Fk

set_option maxHeartbeats 4000000
/-! Operators of an own class: ==, !=, +, unary -. -/
namespace Fk
open PySem PySem.Spec PyProof.Rows L2
/-- nothing is let out where E0 is asked -/
def NoEx (CX : CXT) : Prop := ∀ outer H s u s', CX outer H s C8.E0 u s' → False
theorem noEx0 : NoEx C8.CX0 := fun _ _ _ _ _ h => h
theorem noExL {P : Program} {w : World} : NoEx (L2.CX P w) := fun outer H s u s' h => by
  obtain ⟨_, _, _, _, _, _, _, _, _, _, _, _, e⟩ := h
  exact e
/-- a method of an own class -/
structure OwnM (P : Program) (w : World) (K : PySem.W.Frag) (mg : Str → Option Value) (base : Heap) (CX : CXT) (k : Nat) (C : Addr) (m : Str) (sp : Sp) : Prop where
  ex : ∃ (f : Addr) (fd : FuncData) (ps : List Str), PySem.W.findIn K (.ref C) m = some (some (.ref f)) ∧ PySem.W.isFn K (.ref f) = true ∧ FnOk P w K mg base CX k f fd ps sp ∧ Binds K fd ps []
section
variable {X : Cx} {CX : CXT} {k : Nat} {C a dx : Addr} {sp : Sp} {fs : List (Str × V)} {y : V} {u tb : Value} {pins : List (Addr × Obj)} {σ : L2.St} {H : Hp} {s : Shared} {Q : VK}
/-- a def runs, somewhere below the body; it lets nothing out -/
theorem run_in {f : Addr} {fd : FuncData} {ps : List Str} {us : List Value} {vs : List V} {E' : Value → Shared → Prop} {A : Around} (F : FnOk X.prog X.w X.K X.mg X.base CX k f fd ps sp) (hr : Room k A) (hA : Env0 X.prog X.w X.K X.mg X.base A X.stack s H) (hb : Binds X.K fd ps []) (hx : NoEx CX)
    (I : Inv X pins σ H s) (r : Vals vs us) (h : sp vs H Q C8.E0) : wpAny (model X.prog X.w) A (call (.ref f) us) (EP X pins σ Q) E' s := by
  have hl : us.length = ps.length := by
    rw [← r.length]
    exact F.len _ _ _ _ h
  have b := hb s us I.kIn (by rw [List.append_nil]; exact hl)
  rw [List.append_nil] at b
  refine wpAny_call (codeAny_mono (F.run A X.stack s H ⟨us, []⟩ us vs Q C8.E0 hr hA b r h) fun r s' hq => ?_)
  cases r with
  | error e => exact (hx _ _ _ _ _ hq).elim
  | ok fl =>
    cases fl with
    | ret u => exact I.after hq
    | next => exact hq.elim
    | brk => exact hq.elim
    | cont => exact hq.elim
/-- x == y, x an own object -/
def rOwnEq (K : PySem.W.Frag) (C : Addr) (sp : Sp) : R2 := fun x y H Q => ∃ (a dx : Addr) (fs : List (Str × V)) (tb : Value), x = .ref a ∧ H a = some (.ins C dx fs) ∧ TyX K H y tb ∧ PySem.W.notFirst K C tb = true ∧ sp [x, y] H (fun v H' => ∃ b, v = .bl b ∧ Q (.bl b) H') C8.E0
theorem op_ownEq (M : OwnM X.prog X.w X.K X.mg X.base CX k C "__eq__" sp) (hr : Room k X.A) (hx : NoEx CX) : OpR X (compareOp .Eq) (rOwnEq X.K C sp) := by
  intro pins s σ H x y v u Q I rx ry h
  obtain ⟨a, dx, fs, tb, rfl, ha, ty, hn, q⟩ := h
  obtain ⟨f, fd, ps, hs, hf, F, hb⟩ := M.ex
  cases (show v = Value.ref a from rx)
  obtain ⟨mA, J, _⟩ := ins_get I.hok ha
  obtain ⟨od, J, _⟩ := J.look
  obtain ⟨m, hF⟩ := I.fr
  obtain ⟨P', Z, p, _⟩ := kit_of I ry ty
  show wpAny (model X.prog X.w) X.A (richCompare .Eq (.ref a) u) (EP X pins σ Q) X.xe s
  refine PySem.W.cmp_K (op := .Eq) hr.units0 hF I.ok.mod.kin J (Z.ty _ _ I.kIn p) hn hs hf (wpAny_mono (run_in F hr I.env0 hb hx I (show Vals [V.ref a, y] [Value.ref a, u] from .cons rfl (.cons ry .nil)) q) (fun v s' z => ?_) fun _ _ x => x)
  obtain ⟨x, H', I', rv, b, rfl, q'⟩ := z
  cases (show v = Value.bool b from rv)
  exact ⟨.bl b, H', I', rfl, q'⟩
/-- x != y by object.__ne__, which asks x's own == -/
def rOwnNe (K : PySem.W.Frag) (C : Addr) (sp : Sp) : R2 := fun x y H Q => ∃ (a dx : Addr) (fs : List (Str × V)) (tb : Value), x = .ref a ∧ H a = some (.ins C dx fs) ∧ TyX K H y tb ∧ PySem.W.notFirst K C tb = true ∧ sp [x, y] H (fun v H' => ∃ b, v = .bl b ∧ Q (.bl (!b)) H') C8.E0
theorem op_ownNe (M : OwnM X.prog X.w X.K X.mg X.base CX k C "__eq__" sp) (hr : Room (k + 1) X.A) (hx : NoEx CX) (hne : PySem.W.findIn X.K (.ref C) "__ne__" = some (some (.builtin "object.__ne__"))) (hob : PySem.W.mroIn X.K C (.type "object") = some true) :
    OpR X (compareOp .NotEq) (rOwnNe X.K C sp) := by
  intro pins s σ H x y v u Q I rx ry h
  obtain ⟨a, dx, fs, tb, rfl, ha, ty, hn, q⟩ := h
  obtain ⟨f, fd, ps, hs, hf, F, hb⟩ := M.ex
  cases (show v = Value.ref a from rx)
  obtain ⟨mA, J, _⟩ := ins_get I.hok ha
  obtain ⟨od, J, _⟩ := J.look
  obtain ⟨P', Z, p, _⟩ := kit_of I ry ty
  have hbT := Z.ty (model X.prog X.w) s.heap I.kIn p
  have X0 := I.kIn
  have one : wpAny (model X.prog X.w) X.A (tryCompare (.ref a) "__ne__" u) (fun r s' => ∃ v, r = some v ∧ EP X pins σ Q v s') X.xe s := by
    unfold tryCompare
    have sp : PySem.W.Looks (model X.prog X.w) s.heap (specialOf (.ref a) "__ne__") (some (.builtin "object.__ne__")) := J.type.andThen (PySem.W.looks_findIn X0 hne)
    have iv : PySem.W.Looks (model X.prog X.w) s.heap (isInstance (.ref a) (.type "object")) true := J.type.andThen (PySem.W.looks_mroIn X0 hob)
    refine wpAny_bind (NtL.csib (E := X.xe) sp (PySem.F.cmp_object.ne.bind _) ?_)
    refine wpAny_call (codeAny_call_builtin PySem.F.cmp_object.ne.plain PySem.F.cmpEntry_ne (PySem.W.check_slot PySem.F.cmpKind_ne PySem.F.cmpSplit_ne iv (PySem.F.cmpArgs_ne _ _) ?_))
    have hu : X.A.in1.units < cLine := hr.in1.units0
    unfold Builtin.«object.__ne__»
    repeat (first
      | with_reducible refine wpAny_cRoomFor hu ?_
      | (refine wpAny_bind (m := callSpecialIfBound? (.ref a) (Str.ofString "__eq__") [u]) (PySem.W.ifBound_K X0 J hs hf (wpAny_mono (run_in (E' := fun _ _ => False) F hr.in1 I.env0.in1 hb hx I (show Vals [V.ref a, y] [Value.ref a, u] from .cons rfl (.cons ry .nil)) q) (fun v s' z => ?_) fun _ _ x => x.elim)))
      | wp_step)
    obtain ⟨x, H', I', rv, b, rfl, q'⟩ := z
    cases (show v = Value.bool b from rv)
    show wpAny _ _ (truthy (.bool b) >>= _) _ _ _
    refine wpAny_bind (wpAny_truthy_bool ?_)
    exact wpAny_pure (wpAny_pure ⟨_, rfl, .bl (!b), H', I', rfl, q'⟩)
  show wpAny (model X.prog X.w) X.A (richCompare .NotEq (.ref a) u) (EP X pins σ Q) X.xe s
  unfold richCompare
  simp only [oneThing_ref]
  refine wpAny_holding (wpAny_bind (wpAny_cRoomFor hr.units0 ?_))
  refine wpAny_bind (J.type.here (wpAny_bind (hbT.here ?_)))
  split
  · rename_i z
    have e : PySem.W.subIn X.K tb (.ref C) = some false := by
      rcases Bool.or_eq_true_iff.mp hn with e | e
      · rw [beq_iff_eq.mp e] at z
        simp at z
      · exact beq_iff_eq.mp e
    refine wpAny_bind ((PySem.W.looks_subIn X0 e).here ?_)
    simp only [Bool.false_eq_true, if_false]
    refine wpAny_bind (wpAny_mono one (fun r s' z => ?_) fun _ _ e => e)
    obtain ⟨v, rfl, hq⟩ := z
    exact wpAny_pure hq
  · refine wpAny_bind (wpAny_pure ?_)
    simp only [Bool.false_eq_true, if_false]
    refine wpAny_bind (wpAny_mono one (fun r s' z => ?_) fun _ _ e => e)
    obtain ⟨v, rfl, hq⟩ := z
    exact wpAny_pure hq
/-- -x -/
def rOwnNeg (C : Addr) (sp : Sp) : V → Hp → VK → Prop := fun x H Q => ∃ (a dx : Addr) (fs : List (Str × V)), x = .ref a ∧ H a = some (.ins C dx fs) ∧ sp [x] H Q C8.E0
theorem un_ownNeg (M : OwnM X.prog X.w X.K X.mg X.base CX k C "__neg__" sp) (hr : Room k X.A) (hx : NoEx CX) : UnR X (unaryOp .USub) (rOwnNeg C sp) := by
  intro pins s σ H x v Q I rx h
  obtain ⟨a, dx, fs, rfl, ha, q⟩ := h
  obtain ⟨f, fd, ps, hs, hf, F, hb⟩ := M.ex
  cases (show v = Value.ref a from rx)
  obtain ⟨mA, J, _⟩ := ins_get I.hok ha
  obtain ⟨od, J, _⟩ := J.look
  obtain ⟨m, hF⟩ := I.fr
  exact PySem.W.ksp_neg hF I.ok.mod.kin J hs hf (run_in F hr I.env0 hb hx I (show Vals [V.ref a] [Value.ref a] from .cons rfl .nil) q)
end
end Fk
namespace PySem.W
open PySem PySem.Spec PyProof.Rows
section
variable {prog : Program} {w : World} {A : Around} {E : Value → Shared → Prop} {s : Shared} {K : Frag} {x C L f : Addr} {h₀ : Heap} {m : Str → Option Value} {ox : Obj} {od : Option Obj} {nm T : String}
theorem fk_binT {op : Operator} {b : Value} {fo ro rc : Option Value} {Q : Value → Shared → Prop} (F : Fr h₀ L s.heap m) (X₀ : K.In h₀) (I : InstAt s.heap x ox C od) (hb : Looks (model prog w) s.heap (typeOf b) (.type T)) (hc : selfFirst K C = true)
    (hs : findIn K (.ref C) (PySem.dunder op.info.2) = some (some (.ref f))) (hf : isFn K (.ref f) = true) (hr : findIn K (.ref C) (dunderR op.info.2) = some rc) (hp : rc = none ∨ ∃ g : Addr, rc = some (.ref g))
    (h1 : findIn K (.type T) (PySem.dunder op.info.2) = some fo) (h2 : findIn K (.type T) (dunderR op.info.2) = some ro) (hsub : subIn K (.type T) (.ref C) = some false)
    (h : wpAny (model prog w) A (call (.ref f) [.ref x, b]) (CmpBack Q) E s) : wpAny (model prog w) A (binaryOp op (.ref x) b) Q E s := by
  have X := X₀.keeps F.keep
  obtain ⟨cd, rest, hcd, hm⟩ := ksp_first hc
  rcases hi : op.info with ⟨sym, nm'⟩
  rw [hi] at hs hr h1 h2
  dsimp only at hs hr h1 h2
  have one := ksp_try X I hs hf h
  obtain ⟨hh, g, d, tt, os⟩ := s
  have L1 : Looks (model prog w) hh (typeOf (.ref x)) (.ref C) := I.type
  have L2 : Looks (model prog w) hh (typeOf b) (.type T) := hb
  have L3 : Looks (model prog w) hh (fillsNumberSlot (.ref C) nm') true := fills_K X hcd hm hs
  have L4 : Looks (model prog w) hh (fillsNumberSlot (.type T) nm') ((fo.isSome && !isSeqSlot fo) || (ro.isSome && !isSeqSlot ro)) := ksp_fillsT X h1 h2
  have L5 : Looks (model prog w) hh (isSubtype (.type T) (.ref C)) false := looks_subIn X hsub
  have L6 : Looks (model prog w) hh (numberSlotInPython (.ref C) nm') true := ksp_inPy X hs hr hp
  have L7 : Looks (model prog w) hh (numberSlotInPython (.type T) nm') false := Looks.of_pure rfl
  have L8 : Looks (model prog w) hh (typeLookup (.type T) (dunderR nm')) ro := looks_findIn X h2
  generalize ((fo.isSome && !isSeqSlot fo) || (ro.isSome && !isSeqSlot ro)) = right at L4
  have hne : (Value.ref C == Value.type T) = false := Bool.eq_false_iff.mpr fun q => by cases beq_iff_eq.mp q
  simp only [binaryOp, hi]
  refine wpAny_holding (wpAny_bind ?_)
  unfold binaryOp1
  refine wpAny_bind (L1.at (wpAny_bind (L2.at (wpAny_bind (L3.at ?_)))))
  simp only [hne, Bool.false_eq_true, if_false]
  cases right with
  | false =>
    ksp_lk
    refine wpAny_mono one (fun r s' hr' => ?_) fun _ _ e => e
    obtain ⟨v, rfl, hq⟩ := hr'
    ksp_lk
    exact hq
  | true =>
    ksp_lk
    refine wpAny_mono one (fun r s' hr' => ?_) fun _ _ e => e
    obtain ⟨v, rfl, hq⟩ := hr'
    ksp_lk
    exact hq
end
end PySem.W
namespace Fk
open PySem PySem.Spec PyProof.Rows L2
/-- what is asked of a class for its + -/
structure AddF (K : PySem.W.Frag) (C : Addr) : Prop where
  first : PySem.W.selfFirst K C = true
  noR : PySem.W.findIn K (.ref C) "__radd__" = some none
/-- what may stand on the right of an own + -/
inductive RightOf (K : PySem.W.Frag) (H : Hp) (C : Addr) : V → Prop where
  | ins {b dy : Addr} {gs : List (Str × V)} (h : H b = some (.ins C dy gs)) : RightOf K H C (.ref b)
  | ty {y : V} {T : String} {fo ro : Option Value} (h : TyX K H y (.type T)) (h1 : PySem.W.findIn K (.type T) "__add__" = some fo) (h2 : PySem.W.findIn K (.type T) "__radd__" = some ro) (hs : PySem.W.subIn K (.type T) (.ref C) = some false) : RightOf K H C y
/-- x + y by x's own +: what may be let out is E, at the slots; the answer is an object -/
def tOwnAdd (K : PySem.W.Frag) (C : Addr) (sp : Sp) (E : L2.St → XK) (ta tb : TE) : TE := fun σ H Q => ta σ H fun x H1 => tb σ H1 fun y H2 => ∃ (a dx : Addr) (fs : List (Str × V)), x = .ref a ∧ H2 a = some (.ins C dx fs) ∧ RightOf K H2 C y ∧
  sp [x, y] H2 (fun v H' => ∃ b, v = .ref b ∧ Q v H') (E σ)
theorem pe_ownAdd {X : Cx} {CX : CXT} {k : Nat} {C : Addr} {sp : Sp} {E : L2.St → XK} {a b : Expr} {ta tb : TE} {pos : Pos} (M : OwnM X.prog X.w X.K X.mg X.base CX k C "__add__" sp) (T : AddF X.K C) (hr : Room k X.A) (hx : ∀ σ, PassesAt CX X σ (E σ)) (ha : PE X a ta) (hb : PE X b tb) :
    PE X (.BinOp a .Add b pos) (tOwnAdd X.K C sp E ta tb) := by
  refine ⟨fun pins s σ H Q I h => ?_⟩
  refine wpAny_BinOp (binT ha hb I h fun v u s2 x y H2 I2 rx ry q => ?_)
  obtain ⟨a, dx, fs, rfl, ea, ri, q⟩ := q
  obtain ⟨f, fd, ps, hs, hf, F, hb⟩ := M.ex
  cases (show v = Value.ref a from rx)
  obtain ⟨mA, J, _⟩ := ins_get I2.hok ea
  obtain ⟨od, J, _⟩ := J.look
  obtain ⟨m, hF⟩ := I2.fr
  have go : wpAny (model X.prog X.w) X.A (call (.ref f) [.ref a, u]) (PySem.W.CmpBack (EP X pins σ Q)) X.xe s2 := by
    refine wpAny_mono (run_fnS F hr hb (hx σ) I2 (show Vals [V.ref a, y] [Value.ref a, u] from .cons rfl (.cons ry .nil)) q) (fun v s' z => ?_) fun _ _ e => e
    obtain ⟨x, H', I', rv, b, rfl, q'⟩ := z
    cases (show v = Value.ref b from rv)
    exact ⟨.ref b, H', I', rfl, q'⟩
  cases ri with
  | @ins b dy gs eb =>
    cases (show u = Value.ref b from ry)
    obtain ⟨mB, J', _⟩ := ins_get I2.hok eb
    obtain ⟨od', J', _⟩ := J'.look
    exact PySem.W.binop_K (op := .Add) hF I2.ok.mod.kin J J'.type T.first hs hf go
  | @ty _ T' fo ro ty h1 h2 hsb =>
    obtain ⟨P', Z, p, _⟩ := kit_of I2 ry ty
    exact PySem.W.fk_binT (op := .Add) hF I2.ok.mod.kin J (Z.ty _ _ I2.kIn p) T.first hs hf T.noR (.inl rfl) h1 h2 hsb go
end Fk

set_option maxHeartbeats 4000000
/-! len, in, [] of an own class; methods that may raise, in a try and out of it; classes made. -/
namespace Fk
open PySem PySem.Spec PyProof.Rows L2
section
variable {X : Cx} {CX : CXT} {k : Nat} {C : Addr} {sp : Sp}
/-- len(x) -/
theorem call_ownLen (M : OwnM X.prog X.w X.K X.mg X.base CX k C "__len__" sp) (hr : Room (k + 1) X.A) (hx : NoEx CX) :
    CallR X (.builtin "len") (fun xs H Q => ∃ (a dx : Addr) (fs : List (Str × V)), xs = [.ref a] ∧ H a = some (.ins C dx fs) ∧ sp xs H (fun v H' => ∃ n : Nat, v = .int n ∧ n ≤ 1000000 ∧ Q v H') C8.E0) := by
  intro pins s σ H xs us Q I r h
  obtain ⟨a, dx, fs, rfl, ha, q⟩ := h
  obtain ⟨u, rfl, ru⟩ := vals1 r
  cases (show u = Value.ref a from ru)
  obtain ⟨f, fd, ps, hs, hf, F, hb⟩ := M.ex
  obtain ⟨mA, J, _⟩ := ins_get I.hok ha
  obtain ⟨od, J, _⟩ := J.look
  obtain ⟨m, hF⟩ := I.fr
  refine PySem.W.len_K hF I.ok.mod.kin J hs hf (wpAny_mono (run_in F hr.in1 I.env0.in1 hb hx I (show Vals [V.ref a] [Value.ref a] from .cons rfl .nil) q) (fun v s' z => ?_) fun _ _ x => x)
  obtain ⟨x, H', I', rv, n, rfl, hn, q'⟩ := z
  obtain ⟨t, rfl⟩ := (show ∃ t, v = Value.int n t from rv)
  exact ⟨⟨by omega, by omega⟩, .int n, H', I'.tok _, ⟨_, rfl⟩, q'⟩
/-- y in x, y not in x -/
def rOwnIn (C : Addr) (sp : Sp) : R2 := fun y x H Q => ∃ (a dx : Addr) (fs : List (Str × V)), x = .ref a ∧ H a = some (.ins C dx fs) ∧ sp [x, y] H (fun v H' => ∃ b, v = .bl b ∧ Q (.bl b) H') C8.E0
def rOwnNotIn (C : Addr) (sp : Sp) : R2 := fun y x H Q => ∃ (a dx : Addr) (fs : List (Str × V)), x = .ref a ∧ H a = some (.ins C dx fs) ∧ sp [x, y] H (fun v H' => ∃ b, v = .bl b ∧ Q (.bl (!b)) H') C8.E0
theorem op_ownIn (M : OwnM X.prog X.w X.K X.mg X.base CX k C "__contains__" sp) (hr : Room k X.A) (hx : NoEx CX) : OpR X (compareOp .In) (rOwnIn C sp) := by
  intro pins s σ H y x u v Q I ry rx h
  obtain ⟨a, dx, fs, rfl, ha, q⟩ := h
  cases (show v = Value.ref a from rx)
  obtain ⟨f, fd, ps, hs, hf, F, hb⟩ := M.ex
  obtain ⟨mA, J, _⟩ := ins_get I.hok ha
  obtain ⟨od, J, _⟩ := J.look
  obtain ⟨m, hF⟩ := I.fr
  refine PySem.W.in_K hF I.ok.mod.kin J hs hf (wpAny_mono (run_in F hr I.env0 hb hx I (show Vals [V.ref a, y] [Value.ref a, u] from .cons rfl (.cons ry .nil)) q) (fun v s' z => ?_) fun _ _ x => x)
  obtain ⟨x, H', I', rv, b, rfl, q'⟩ := z
  cases (show v = Value.bool b from rv)
  exact wpAny_truthy_bool ⟨.bl b, H', I', rfl, q'⟩
theorem op_ownNotIn (M : OwnM X.prog X.w X.K X.mg X.base CX k C "__contains__" sp) (hr : Room k X.A) (hx : NoEx CX) : OpR X (compareOp .NotIn) (rOwnNotIn C sp) := by
  intro pins s σ H y x u v Q I ry rx h
  obtain ⟨a, dx, fs, rfl, ha, q⟩ := h
  cases (show v = Value.ref a from rx)
  obtain ⟨f, fd, ps, hs, hf, F, hb⟩ := M.ex
  obtain ⟨mA, J, _⟩ := ins_get I.hok ha
  obtain ⟨od, J, _⟩ := J.look
  obtain ⟨m, hF⟩ := I.fr
  refine PySem.W.notIn_K hF I.ok.mod.kin J hs hf (wpAny_mono (run_in F hr I.env0 hb hx I (show Vals [V.ref a, y] [Value.ref a, u] from .cons rfl (.cons ry .nil)) q) (fun v s' z => ?_) fun _ _ x => x)
  obtain ⟨x, H', I', rv, b, rfl, q'⟩ := z
  cases (show v = Value.bool b from rv)
  exact wpAny_truthy_bool ⟨.bl (!b), H', I', rfl, q'⟩
end
/-- a method of an own class with its defaults -/
structure MetX (P : Program) (w : World) (K : PySem.W.Frag) (mg : Str → Option Value) (base : Heap) (CX : CXT) (k : Nat) (C : Addr) (m : Str) (sp : Sp) (dvs : List V) : Prop where
  ex : ∃ (f : Addr) (fd : FuncData) (ps : List Str) (ds : List Value), Cls K C ∧ Meth K C m f ∧ FnOk P w K mg base CX k f fd ps sp ∧ Binds K fd ps ds ∧ Vals dvs ds
/-- a class that may be made -/
structure MakX (P : Program) (w : World) (K : PySem.W.Frag) (mg : Str → Option Value) (base : Heap) (CX : CXT) (k : Nat) (x : Str) (C : Addr) (sp : Sp) (dvs : List V) : Prop where
  ex : ∃ (f : Addr) (fd : FuncData) (ps : List Str) (ds : List Value), Mk K C f ∧ FnOk P w K mg base CX k f fd ps sp ∧ mg x = some (.ref C) ∧ Binds K fd ps ds ∧ Vals dvs ds
/-- a def that may raise -/
structure CalX (P : Program) (w : World) (K : PySem.W.Frag) (mg : Str → Option Value) (base : Heap) (CX : CXT) (k : Nat) (x : Str) (sp : Sp) (dvs : List V) : Prop where
  ex : ∃ (f : Addr) (fd : FuncData) (ps : List Str) (ds : List Value), FnOk P w K mg base CX k f fd ps sp ∧ mg x = some (.ref f) ∧ PySem.W.keepIn K (.ref f) = true ∧ Binds K fd ps ds ∧ Vals dvs ds
section
variable {X : Cx} {CX : CXT} {k j : Nat} {C : Addr} {sp : Sp} {dvs : List V} {m x : Str} {E : L2.St → XK} {o e : Expr} {es : List Expr} {ta : TE} {t : TA} {p pos apos : Pos}
theorem run_at {pins : List (Addr × Obj)} {σ : L2.St} {H : Hp} {s : Shared} {Q : VK} {f : Addr} {fd : FuncData} {ps : List Str} {us ds : List Value} {vs : List V} (F : FnOk X.prog X.w X.K X.mg X.base CX k f fd ps sp) (hr : Room k X.A) (hb : Binds X.K fd ps ds) (hd : Vals dvs ds) (hx : PassesAt CX X σ (E σ))
    (I : Inv X pins σ H s) (r : Vals vs us) (h : sp (vs ++ dvs) H Q (E σ)) : wpAny (model X.prog X.w) X.A (call (.ref f) us) (EP X pins σ Q) X.xe s := by
  have r2 : Vals (vs ++ dvs) (us ++ ds) := r.append hd
  have hl : (us ++ ds).length = ps.length := by
    rw [← r2.length]
    exact F.len _ _ _ _ h
  refine wpAny_call (codeAny_mono (F.run X.A X.stack s H ⟨us, []⟩ (us ++ ds) (vs ++ dvs) Q (E σ) hr I.env0 (hb s us I.kIn hl) r2 h) fun r s' hq => ?_)
  cases r with
  | error e => exact hx pins H s e s' I hq
  | ok fl =>
    cases fl with
    | ret u => exact I.after hq
    | next => exact hq.elim
    | brk => exact hq.elim
    | cont => exact hq.elim
/-- o.m(e, ..) -/
def tMx (C : Addr) (m : Str) (sp : Sp) (dvs : List V) (E : L2.St → XK) (ta : TE) (t : TA) : TE := fun σ H Q => ta σ H fun x H1 => ∃ (a dx : Addr) (fs : List (Str × V)), x = .ref a ∧ H1 a = some (.ins C dx fs) ∧ fs.lookup m = none ∧ t σ H1 fun vs H2 => sp (.ref a :: (vs ++ dvs)) H2 Q (E σ)
theorem pe_mx {pl : Sem Bool} (c : MetX X.prog X.w X.K X.mg X.base CX k C m sp dvs) (hr : Room j X.A) (hk : k ≤ j) (hx : ∀ σ, PassesAt CX X σ (E σ)) (he : PE X o ta) (ha : PA X (e :: es) t)
    (hst : starEach (e :: es) X.env = (false, eval e X.env) :: starEach es X.env := by rfl) (hpl : (backTo pos (starEach es X.env)).any (·.1) = false := by rfl)
    (ht : eval (.Call (.Attribute o m apos) (e :: es) [] pos) X.env = (do
      let ov ← eval o X.env
      standAt apos.atName
      let (f, first) ← holding [ov] (getMethod ov m pl)
      callWith pos f first (backTo pos (starEach (e :: es) X.env)) (backToKw pos (keywordEach [] X.env))) := by rfl) :
    PE X (.Call (.Attribute o m apos) (e :: es) [] pos) (tMx C m sp dvs E ta t) := by
  obtain ⟨f, fd, ps, ds, cl, hm, F, b, d⟩ := c.ex
  refine ⟨fun pins s σ H Q I h => ?_⟩
  refine PySem.W.methodCall_KW (pl := pl) (thn (he.run pins s σ H _ I h) fun u s1 ⟨x, H1, I1, rx, a, dx, fs, ex, ea, l, q⟩ => ?_) ht
  subst ex
  obtain rfl : u = Value.ref a := rx
  refine getmeth_ok I1 ea cl hm l ?_
  refine PySem.W.callWith_K (first := [.ref a]) (h₀ := X.base) I.ok.mod.kin hm.kp (thn (ha.run pos pins s1 σ H1 _ I1 q) fun us s2 ⟨vs, H2, I2, r, q2⟩ => ⟨I2.kIn, ?_⟩) hst hpl
  exact run_at (us := .ref a :: us) (vs := .ref a :: vs) F (hr.mono hk) b d (hx σ) I2 (.cons rfl r) q2
theorem pe_mx0 {pl : Sem Bool} (c : MetX X.prog X.w X.K X.mg X.base CX k C m sp dvs) (hr : Room j X.A) (hk : k ≤ j) (hx : ∀ σ, PassesAt CX X σ (E σ)) (he : PE X o ta)
    (ht : eval (.Call (.Attribute o m apos) [] [] pos) X.env = (do
      let ov ← eval o X.env
      standAt apos.atName
      let (f, first) ← holding [ov] (getMethod ov m pl)
      callWith pos f first (backTo pos (starEach [] X.env)) (backToKw pos (keywordEach [] X.env))) := by rfl) :
    PE X (.Call (.Attribute o m apos) [] [] pos) (tMx C m sp dvs E ta tNil) := by
  obtain ⟨f, fd, ps, ds, cl, hm, F, b, d⟩ := c.ex
  refine ⟨fun pins s σ H Q I h => ?_⟩
  refine PySem.W.methodCall_KW (pl := pl) (thn (he.run pins s σ H _ I h) fun u s1 ⟨x, H1, I1, rx, a, dx, fs, ex, ea, l, q⟩ => ?_) ht
  subst ex
  obtain rfl : u = Value.ref a := rx
  refine getmeth_ok I1 ea cl hm l ?_
  exact PySem.W.callWith_K0 (first := [.ref a]) I1.kIn hm.kp (run_at (us := [.ref a]) (vs := [.ref a]) F (hr.mono hk) b d (hx σ) I1 (.cons rfl .nil) q)
/-- a def by its name -/
def tCx (sp : Sp) (dvs : List V) (E : L2.St → XK) (t : TA) : TE := fun σ H Q => t σ H fun vs H1 => sp (vs ++ dvs) H1 Q (E σ)
theorem pe_cx (c : CalX X.prog X.w X.K X.mg X.base CX k x sp dvs) (hr : Room j X.A) (hk : k ≤ j) (hx : ∀ σ, PassesAt CX X σ (E σ)) (hg : Gl X x) (ha : PA X (e :: es) t)
    (hdb : (x == ("__debug__" : Str)) = false := by decide) (he : starEach (e :: es) X.env = (false, eval e X.env) :: starEach es X.env := by rfl) (hpl : (backTo pos (starEach es X.env)).any (·.1) = false := by rfl) :
    PE X (.Call (.Name x p) (e :: es) [] pos) (tCx sp dvs E t) := by
  obtain ⟨f, fd, ps, ds, F, hm, kp, b, d⟩ := c.ex
  refine ⟨fun pins s σ H Q I h => ?_⟩
  refine wpAny_Call_Name_kw (ld_glob I hg hm ?_ hdb)
  refine PySem.W.callWith_K (h₀ := X.base) I.ok.mod.kin kp (thn (ha.run pos pins s σ H _ I h) fun us s1 ⟨vs, H1, I1, r, q⟩ => ⟨I1.kIn, ?_⟩) he hpl
  exact run_at F (hr.mono hk) b d (hx σ) I1 r q
end
end Fk

set_option maxHeartbeats 4000000
/-! x != y of objects of one class without an own ==: whether they are two. -/
namespace Fk
open PySem PySem.Spec PyProof.Rows L2
structure PlainEq (K : PySem.W.Frag) (C : Addr) : Prop where
  ne : PySem.W.findIn K (.ref C) "__ne__" = some (some (.builtin "object.__ne__"))
  eq : PySem.W.findIn K (.ref C) "__eq__" = some (some (.builtin "object.__eq__"))
  ob : PySem.W.mroIn K C (.type "object") = some true
def rIdNe (C : Addr) : R2 := fun x y H Q => ∃ (a b dx dy : Addr) (fs gs : List (Str × V)), x = .ref a ∧ y = .ref b ∧ H a = some (.ins C dx fs) ∧ H b = some (.ins C dy gs) ∧ Q (.bl (!decide (a = b))) H
section
variable {X : Cx} {C : Addr}
theorem idEq {pins : List (Addr × Obj)} {σ : L2.St} {H : Hp} {s : Shared} {A : Around} {E : Value → Shared → Prop} {a b dx dy : Addr} {fs gs : List (Str × V)} {Q : Option Value → Shared → Prop} (T : PlainEq X.K C) (I : Inv X pins σ H s) (ha : H a = some (.ins C dx fs)) (hb : H b = some (.ins C dy gs))
    (h : Q (some (if a = b then .bool true else .notImplemented)) s) : wpAny (model X.prog X.w) A (callSpecialIfBound? (.ref a) "__eq__" [.ref b]) Q E s := by
  obtain ⟨mA, J, _⟩ := ins_get I.hok ha
  obtain ⟨od, J, _⟩ := J.look
  obtain ⟨mB, J', _⟩ := ins_get I.hok hb
  obtain ⟨od', J', _⟩ := J'.look
  have sp : PySem.W.Looks (model X.prog X.w) s.heap (specialOf (.ref a) "__eq__") (some (.builtin "object.__eq__")) := J.type.andThen (PySem.W.looks_findIn I.kIn T.eq)
  have iv : PySem.W.Looks (model X.prog X.w) s.heap (isInstance (.ref a) (.type "object")) true := J.type.andThen (PySem.W.looks_mroIn I.kIn T.ob)
  refine NtL.csib (E := E) sp (PySem.F.cmp_object.eq.bind _) ?_
  refine wpAny_call (codeAny_call_builtin PySem.F.cmp_object.eq.plain PySem.F.cmpEntry_eq (PySem.W.check_slot PySem.F.cmpKind_eq PySem.F.cmpSplit_eq iv (PySem.F.cmpArgs_eq _ _) ?_))
  by_cases e : a = b
  · subst e
    rw [if_pos rfl] at h
    exact objEq_entry_same h
  · rw [if_neg e] at h
    exact objEq_entry_other e J.at_ J'.at_ (by rw [J.cls]; intro z; cases z) h
theorem idNe {pins : List (Addr × Obj)} {σ : L2.St} {H : Hp} {s : Shared} {A : Around} {E : Value → Shared → Prop} {a b dx dy : Addr} {fs gs : List (Str × V)} {Q : Option Value → Shared → Prop} (T : PlainEq X.K C) (hu : A.units + 1 < cLine) (I : Inv X pins σ H s) (ha : H a = some (.ins C dx fs)) (hb : H b = some (.ins C dy gs))
    (h : Q (if a = b then some (.bool false) else none) s) : wpAny (model X.prog X.w) A (tryCompare (.ref a) "__ne__" (.ref b)) Q E s := by
  obtain ⟨mA, J, _⟩ := ins_get I.hok ha
  obtain ⟨od, J, _⟩ := J.look
  have sp : PySem.W.Looks (model X.prog X.w) s.heap (specialOf (.ref a) "__ne__") (some (.builtin "object.__ne__")) := J.type.andThen (PySem.W.looks_findIn I.kIn T.ne)
  have iv : PySem.W.Looks (model X.prog X.w) s.heap (isInstance (.ref a) (.type "object")) true := J.type.andThen (PySem.W.looks_mroIn I.kIn T.ob)
  have hu' : A.in1.units < cLine := hu
  unfold tryCompare
  refine wpAny_bind (NtL.csib (E := E) sp (PySem.F.cmp_object.ne.bind _) ?_)
  refine wpAny_call (codeAny_call_builtin PySem.F.cmp_object.ne.plain PySem.F.cmpEntry_ne (PySem.W.check_slot PySem.F.cmpKind_ne PySem.F.cmpSplit_ne iv (PySem.F.cmpArgs_ne _ _) ?_))
  unfold Builtin.«object.__ne__»
  repeat (first
    | with_reducible refine wpAny_cRoomFor hu' ?_
    | (refine wpAny_bind (m := callSpecialIfBound? (.ref a) (Str.ofString "__eq__") [.ref b]) (idEq T I ha hb ?_))
    | wp_step)
  by_cases e : a = b
  · rw [if_pos e] at h ⊢
    show wpAny _ _ (truthy (.bool true) >>= _) _ _ _
    refine wpAny_bind (wpAny_truthy_bool ?_)
    exact wpAny_pure (wpAny_pure h)
  · rw [if_neg e] at h ⊢
    exact wpAny_pure (wpAny_pure h)
theorem op_idNe (T : PlainEq X.K C) (hu : X.A.units + 1 < cLine) : OpR X (compareOp .NotEq) (rIdNe C) := by
  intro pins s σ H x y v u Q I rx ry h
  obtain ⟨a, b, dx, dy, fs, gs, rfl, rfl, ha, hb, q⟩ := h
  cases (show v = Value.ref a from rx)
  cases (show u = Value.ref b from ry)
  obtain ⟨mA, J, _⟩ := ins_get I.hok ha
  obtain ⟨od, J, _⟩ := J.look
  obtain ⟨mB, J', _⟩ := ins_get I.hok hb
  obtain ⟨od', J', _⟩ := J'.look
  show wpAny (model X.prog X.w) X.A (richCompare .NotEq (.ref a) (.ref b)) (EP X pins σ Q) X.xe s
  unfold richCompare
  simp only [oneThing_ref]
  refine wpAny_holding (wpAny_bind (wpAny_cRoomFor (by omega) ?_))
  refine wpAny_bind (J.type.here (wpAny_bind (J'.type.here ?_)))
  simp only [bne_self_eq_false, Bool.false_eq_true, if_false]
  refine wpAny_bind (wpAny_pure ?_)
  simp only [Bool.false_eq_true, if_false]
  refine wpAny_bind (idNe (E := X.xe) T hu I ha hb ?_)
  by_cases e : a = b
  · rw [if_pos e]
    exact wpAny_pure ⟨.bl false, H, I, rfl, by simpa [e] using q⟩
  · rw [if_neg e]
    simp only [Bool.not_false, if_true]
    refine wpAny_bind (idNe (E := X.xe) T hu I hb ha ?_)
    rw [if_neg (fun z => e z.symm)]
    refine wpAny_bind (m := isSame (.ref a) (.ref b)) (wpAny_isSame_ref_other e J.at_ J'.at_ (by rw [J.cls]; intro z; cases z) ?_)
    exact wpAny_pure ⟨.bl true, H, I, rfl, by simpa [e] using q⟩
end
end Fk

set_option maxHeartbeats 4000000
/-! dict(d); a displayed dict of ** alone. -/
namespace Fk
open PySem PySem.Spec PyProof.Rows L2
theorem call_dictC {X : Cx} : CallR X (.type "dict") (fun xs H Q => ∃ a kvs, xs = [.ref a] ∧ Rd H a (.dK kvs) ∧ ∀ p, H p = none → Q (.ref p) (upd H p (.dK kvs))) := by
  intro pins s σ H xs us Q I r h
  obtain ⟨a, kvs, rfl, e, q⟩ := h
  obtain ⟨u, rfl, ru⟩ := vals1 r
  cases (show u = Value.ref a from ru)
  exact d_copyOf I e fun p s' hp I' => ⟨.ref p, _, I', rfl, q p hp⟩
section
variable {prog : Program} {w : World} {K : Type} [DecidableEq K] {knd : KeyKind prog w K} {A : Around} {E : Value → Shared → Prop} {s : Shared}
theorem wpAny_dictPut {d : Addr} {kvs : List (K × Value)} {k : K} {key v : Value} {Q : Unit → Shared → Prop} (hkey : knd.is k key = true) (hm : s.heap.DictOf knd d kvs)
    (hQ : ∀ h', h'.DictOf knd d (stored kvs k v) → Heap.SameBut d s.heap h' → Q () { s with heap := h' }) (hsz : kvs.length ≤ sizeLine) :
    wpAny (model prog w) A (dictPut d (knd.hash k) key v) Q E s := by
  obtain ⟨o, es, ep, ho, hc, hd, hk, hp, hn⟩ := hm
  have hes : es.size ≤ sizeLine := by
    have e1 := hp.length
    have e2 : es.toList.length = es.size := by simp
    omega
  unfold dictPut
  try with_reducible refine wpAny_holding ?_
  refine wpAny_bind (wpAny_dictFind_of hkey ho hd hk ?_)
  have hidx : (es.findIdx? fun e => knd.is k e.key) = kvs.findIdx? fun kv => decide (kv.1 = k) := by
    rw [← hp.findIdx k]; obtain ⟨l⟩ := es; simp
  cases hi : es.findIdx? fun e => knd.is k e.key with
  | some i =>
    refine (wpAny_updateDict ho hd (hQ _ ⟨_, _, ep, Heap.get?_update_self _ ho (Obj.isFreed_of_dict (Obj.data_mapDict hd _)),
      hc.mapDict _, Obj.data_mapDict hd _, hk.modify _ _, ?_, ?_⟩ (Heap.SameBut.update ..)))
    · rw [stored, if_pos (any_of_findIdx_some (hidx ▸ hi))]
      have hl : (es.toList.findIdx? fun e => knd.is k e.key) = some i := by rw [← hi]; obtain ⟨l⟩ := es; simp
      have := hp.modify hn hl v
      obtain ⟨l⟩ := es
      simpa using this
    · rw [stored, if_pos (any_of_findIdx_some (hidx ▸ hi)), keys_map_store]; exact hn
  | none =>
    have hnot : k ∉ kvs.map (·.1) := not_mem_of_findIdx_none (hidx ▸ hi)
    have hany : ¬ (kvs.any fun kv => decide (kv.1 = k)) = true := by
      rw [List.any_eq_true]; rintro ⟨kv, hkv, he⟩
      exact hnot (List.mem_map.mpr ⟨kv, hkv, of_decide_eq_true he⟩)
    refine (wpAny_updateDictKeys (hz := hes) ho hd (hQ _ ⟨_, _, ep + 1, Heap.get?_update_self _ ho (Obj.isFreed_of_dict (Obj.data_mapDictKeys hd _)),
      hc.mapDictKeys _, Obj.data_mapDictKeys hd _, hk.push hkey _, ?_, ?_⟩ (Heap.SameBut.update ..)))
    · rw [stored, if_neg hany]
      have := hp.append hkey (knd.hash k) v
      obtain ⟨l⟩ := es
      simpa using this
    · rw [stored, if_neg hany, List.map_append, List.nodup_append]
      refine ⟨hn, by simp, ?_⟩
      intro a ha b hb
      simp only [List.map_cons, List.map_nil, List.mem_singleton] at hb
      subst hb
      exact fun e => hnot (e ▸ ha)
theorem dict_iter : typeLookup (.type "dict") "__iter__" = pure (some (.builtin "dict.__iter__")) := by rw [typeLookup_type, builtinLookup_eq_fast]; kernel_rfl
theorem wpAny_mergeMapping {d o : Addr} {kvs more : List (K × Value)} {Q : Unit → Shared → Prop} (hkr : ∀ (k : K) (a : Addr), knd.is k (.ref a) = false) (hdo : d ≠ o) (hoS : (o == sysModules) = false)
    (hd : s.heap.DictOf knd d kvs) (ho : s.heap.DictOf knd o more)
    (hQ : ∀ h', h'.DictOf knd d (merged kvs more) → h'.DictOf knd o more → Heap.SameBut d s.heap h' → Q () { s with heap := h' })
    (hsz : kvs.length + more.length ≤ sizeLine) :
    wpAny (model prog w) A (mergeMapping d (.ref o) false) Q E s := by
  obtain ⟨od, esd, epd, hod, hcd, hdd, hkd, hpd, hnd⟩ := id hd
  obtain ⟨oo, eso, epo, hoo, hco, hdo', hko, hpo, hno⟩ := id ho
  have hlen : more.length = eso.size := by rw [← hpo.length]; simp
  have loop : wpAny (model prog w) A (do
      let epoch ← dictEpoch o
      forIn (List.range eso.size) PUnit.unit fun i (_ : PUnit) => (do
          let l' ← dictEntries o
          match l'[i]? with
            | some e => do
              holding [e.key, e.val] (dictPut d e.hash e.key e.val)
              let ep' ← dictEpoch o
              if (ep' != epoch) = true then do
                  (unsupported "dict.changed-during-merge" : Sem PUnit)
                  pure (ForInStep.yield PUnit.unit)
                else pure (ForInStep.yield PUnit.unit)
            | _ => do
              (unsupported "dict.changed-during-merge" : Sem PUnit)
              pure (ForInStep.yield PUnit.unit) : Sem (ForInStep PUnit))
      pure ()) Q E s := by
    refine wpAny_bind (wpAny_dictEpoch hoo hdo' ?_)
    refine wpAny_bind ?_
    refine wpAny_forIn_list _
      (fun rest _ s' => ∃ h' i, s' = { s with heap := h' } ∧ rest = (List.range eso.size).drop i ∧ i ≤ eso.size ∧ h'.DictOf knd d (merged kvs (more.take i)) ∧ h'.get? o = some oo ∧ Heap.SameBut d s.heap h')
      _ ?_ ?_ _ _ ⟨s.heap, 0, rfl, rfl, Nat.zero_le _, by simpa [merged] using hd, hoo, Heap.SameBut.refl _ _⟩
    · rintro x rest b s' ⟨h', i, rfl, hr, hi, hd', hoo', hs'⟩
      have hlt : i < eso.size := by
        rcases Nat.lt_or_ge i eso.size with h | h
        · exact h
        · rw [List.drop_of_length_le (by rw [List.length_range]; exact h)] at hr; cases hr
      have hlt' : i < (List.range eso.size).length := by rw [List.length_range]; exact hlt
      rw [List.drop_eq_getElem_cons hlt', List.getElem_range] at hr
      injection hr with h1 hrest
      subst h1
      refine wpAny_bind (wpAny_dictEntries hoo' hdo' ?_)
      rw [Array.getElem?_eq_getElem hlt]
      obtain ⟨kv, hkv⟩ : ∃ kv, more[x]? = some kv := ⟨more[x]'(by rw [hlen]; exact hlt), List.getElem?_eq_getElem _⟩
      obtain ⟨k, v⟩ := kv
      obtain ⟨hkey, hval⟩ := hpo.get? (e := eso[x]) (by simp [hlt]) hkv
      obtain ⟨k', hkey', hhash⟩ := hko eso[x] (Array.getElem_mem hlt)
      obtain rfl : k' = k := knd.inj _ _ _ hkey' hkey
      show wpAny _ _ (holding [eso[x].key, eso[x].val] (dictPut d eso[x].hash eso[x].key eso[x].val) >>= _) _ _ _
      rw [hhash, hval]
      have hmx : (merged kvs (more.take x)).length ≤ sizeLine := by
        have e1 := merged_length_le kvs (more.take x)
        have e2 : (more.take x).length ≤ more.length := by rw [List.length_take]; omega
        omega
      refine wpAny_bind (wpAny_holding (wpAny_dictPut (hsz := hmx) hkey hd' fun h'' hd'' hs'' => ?_))
      have hoo'' : h''.get? o = some oo := (hs''.2 o (Ne.symm hdo)).trans hoo'
      refine wpAny_bind (wpAny_dictEpoch hoo'' hdo' ?_)
      rw [if_neg (by simp)]
      exact wpAny_pure ⟨h'', x + 1, rfl, hrest, hlt, by rw [merged_take_succ kvs more x (k', v) hkv]; exact hd'', hoo'', hs'.trans hs''⟩
    · rintro b s' ⟨h', i, rfl, hr, hi, hd', hoo', hs'⟩
      have hin : i = eso.size := by
        rcases Nat.lt_or_ge i eso.size with h | h
        · have hlt' : i < (List.range eso.size).length := by rw [List.length_range]; exact h
          rw [List.drop_eq_getElem_cons hlt'] at hr; exact nomatch hr
        · exact Nat.le_antisymm hi h
      refine wpAny_pure (hQ h' ?_ ⟨oo, eso, epo, hoo', hco, hdo', hko, hpo, hno⟩ hs')
      rw [hin, ← hlen, List.take_length] at hd'; exact hd'
  have loop2 : wpAny (model prog w) A (dictEntries o >>= fun l => (do
      let epoch ← dictEpoch o
      forIn (List.range l.size) PUnit.unit fun i (_ : PUnit) => (do
          let l' ← dictEntries o
          match l'[i]? with
            | some e => do
              holding [e.key, e.val] (dictPut d e.hash e.key e.val)
              let ep' ← dictEpoch o
              if (ep' != epoch) = true then do
                  (unsupported "dict.changed-during-merge" : Sem PUnit)
                  pure (ForInStep.yield PUnit.unit)
                else pure (ForInStep.yield PUnit.unit)
            | _ => do
              (unsupported "dict.changed-during-merge" : Sem PUnit)
              pure (ForInStep.yield PUnit.unit) : Sem (ForInStep PUnit))
      pure ())) Q E s := wpAny_bind (wpAny_dictEntries hoo hdo' loop)
  unfold mergeMapping
  refine wpAny_bind (m := isInstance (.ref o) (.type "dict")) (wpAny_isInstance ho.typeIs isSubtype_dict_dict ?_)
  simp only [if_true]
  refine wpAny_bind (m := specialOf (.ref o) "__iter__") (wpAny_specialOf ho.typeIs dict_iter ?_)
  rw [show ((some (Value.builtin "dict.__iter__") == some (Value.builtin "dict.__iter__")) = true) from beq_self_eq_true _]
  first | rw [if_neg (by rw [hoS]; exact Bool.false_ne_true)] | (refine wpAny_ite ?_; rw [if_neg (by rw [hoS]; exact Bool.false_ne_true)]) | (refine wpAny_pure ?_; rw [if_neg (by rw [hoS]; exact Bool.false_ne_true)])
  refine wpAny_bind (wpAny_dictEntries hod hdd ?_)
  split
  · refine wpAny_bind (wpAny_dictEntries hoo hdo' ?_)
    refine wpAny_bind ?_
    rw [← Array.forIn_toList]
    refine wpAny_forIn_list _ (fun rest _ s' => s' = s ∧ ∀ e ∈ rest, e ∈ eso.toList) _ ?_ ?_ _ _ ⟨rfl, fun e he => he⟩
    · rintro e rest b s' ⟨rfl, hr⟩
      obtain ⟨k, hk, _⟩ := hko e (Array.mem_toList_iff.mp (hr e List.mem_cons_self))
      have hrest : ∀ e' ∈ rest, e' ∈ eso.toList := fun e' he' => hr e' (List.mem_cons_of_mem _ he')
      cases hkey : e.key with
      | ref a =>
        rw [hkey, hkr] at hk
        cases hk
      | _ => exact wpAny_pure ⟨rfl, hrest⟩
    · rintro b s' ⟨rfl, _⟩
      exact loop2
  · exact loop2
end
end Fk

set_option maxHeartbeats 4000000
namespace Fk
open PySem PySem.Spec PyProof.Rows L2
section
variable {prog : Program} {w : World} {K : Type} [DecidableEq K] {knd : KeyKind prog w K} {A : Around} {E : Value → Shared → Prop} {s : Shared} {Q : Value → Shared → Prop}
theorem wp_stars {items : List (Option (Sem Value) × Sem Value)} (hkr : ∀ (k : K) (a : Addr), knd.is k (.ref a) = false) (hn : ∀ x ∈ items, x.1 = none) (hne : items ≠ []) (R : List (Option (Sem Value) × Sem Value) → Addr → Shared → Prop)
    (h0 : R items s.heap.objs.size { s with heap := s.heap.push { cls := .type "dict", data := .dict #[] } })
    (hs : ∀ x rest p s1, R (x :: rest) p s1 → wpAny (model prog w) A x.2 (fun m s2 => ∃ (a : Addr) (kvs more : List (K × Value)), m = .ref a ∧ p ≠ a ∧ (a == sysModules) = false ∧ s2.heap.DictOf knd p kvs ∧ s2.heap.DictOf knd a more ∧ kvs.length + more.length ≤ sizeLine ∧
      ∀ h', h'.DictOf knd p (merged kvs more) → h'.DictOf knd a more → Heap.SameBut p s2.heap h' → R rest p { s2 with heap := h' }) E s1)
    (hd : ∀ p s1, R [] p s1 → Q (.ref p) s1) : wpAny (model prog w) A (dictDisplay items) Q E s := by
  unfold dictDisplay
  dsimp only
  have turn : ∀ (x : Option (Sem Value) × Sem Value) (rest : List (Option (Sem Value) × Sem Value)) (p : Addr) (s1 : Shared) {Q' : ForInStep (Option Addr × List (Sem Value × Sem Value)) → Shared → Prop}, R (x :: rest) p s1 → (∀ s2, R rest p s2 → Q' (.yield (some p, [])) s2) →
      wpAny (model prog w) A (do
        let m ← holding [Value.ref p] x.2
        (((holding [Value.ref p, m] (mergeMapping p m false)).onRaise fun y => do
                    let _ ← holding [Value.ref p, m, y] (runValue (Code.builtin "proto.let_go" { }))
                    pure ()).tryCatch
                fun e => do
                let b ← isInstance e (Value.type "AttributeError")
                if b = true then do
                    rule "dict.display.not-a-mapping"
                    let n ← typeNameOf m
                    raiseErrorMade "TypeError"
                        (toString "'" ++ toString n ++ toString "' object is not a mapping")
                    throw e
                  else throw e).onRaise
            fun y => do
            let _ ← holding [Value.ref p, y] (runValue (Code.builtin "proto.let_go" { }))
            pure ()
        pure (ForInStep.yield (some p, ([] : List (Sem Value × Sem Value))))) Q' E s1 := by
    intro x rest p s1 Q' hr hq
    refine wpAny_bind (wpAny_holding (wpAny_mono (hs x rest p s1 hr) (fun m s2 q => ?_) fun _ _ e => e))
    obtain ⟨a, kvs, more, rfl, hpa, hoS, dp, da, hz, k⟩ := q
    refine wpAny_bind (wpAny_onRaise (wpAny_tryCatch (wpAny_onRaise (wpAny_holding (wpAny_mergeMapping hkr hpa hoS dp da (fun h' d1 d2 sb => ?_) hz)))))
    exact wpAny_pure (hq _ (k h' d1 d2 sb))
  refine wpAny_bind ?_
  refine wpAny_forIn_list _ (fun rest b s' => b.2 = [] ∧ (∀ x ∈ rest, x.1 = none) ∧ ((b.1 = none ∧ s' = s ∧ rest = items) ∨ ∃ p, b.1 = some p ∧ R rest p s')) _ ?_ ?_ _ _ ⟨rfl, hn, .inl ⟨rfl, rfl, rfl⟩⟩
  · rintro ⟨k, v⟩ rest ⟨main, run⟩ s' ⟨hb, hk, h⟩
    have hk0 : k = none := hk (k, v) List.mem_cons_self
    have hkr' : ∀ x ∈ rest, x.1 = none := fun x hx => hk x (List.mem_cons_of_mem _ hx)
    subst hk0
    dsimp only at hb h
    subst hb
    rcases h with ⟨rfl, rfl, rfl⟩ | ⟨p, rfl, hr⟩
    · refine wpAny_bind (wpAny_pure ?_)
      dsimp only
      refine wpAny_bind (wpAny_alloc ?_)
      exact turn (none, v) rest _ _ h0 fun s2 q => ⟨rfl, hkr', .inr ⟨_, rfl, q⟩⟩
    · refine wpAny_bind (wpAny_pure ?_)
      dsimp only
      refine wpAny_bind (wpAny_pure ?_)
      exact turn (none, v) rest p s' hr fun s2 q => ⟨rfl, hkr', .inr ⟨_, rfl, q⟩⟩
  · rintro ⟨main, run⟩ s' ⟨hb, _, h⟩
    dsimp only at hb h
    subst hb
    rcases h with ⟨_, _, e⟩ | ⟨p, rfl, hr⟩
    · exact (hne e.symm).elim
    · refine wpAny_bind (wpAny_pure ?_)
      exact wpAny_pure (hd p s' hr)
end
/-- the dict at p takes the dicts in turn -/
def goStars : List TE → Addr → TE
  | [], p => fun _ H Q => Q (.ref p) H
  | t :: ts, p => fun σ H Q => t σ H fun x H1 => ∃ (a : Addr) (kvs more : List (Key × V)), x = .ref a ∧ p ≠ a ∧ H1 p = some (.dK kvs) ∧ H1 a = some (.dK more) ∧ kvs.length + more.length ≤ sizeLine ∧ goStars ts p σ (upd H1 p (.dK (mergeK kvs more))) Q
def tStars (ts : List TE) : TE := fun σ H Q => ∀ p, H p = none → goStars ts p σ (upd H p (.dK [])) Q
theorem mix_noref {P : Program} {w : World} (k : Key) (a : Addr) : (mixKind P w).is k (.ref a) = false := by
  cases k <;> rfl
/-- {**e1, **e2, ..} -/
inductive StE (X : Cx) : List Expr → List TE → Prop where
  | nil : StE X [] []
  | cons {e : Expr} {es : List Expr} {t : TE} {ts : List TE} (h : PE X e t) (hs : StE X es ts) : StE X (e :: es) (t :: ts)
theorem pe_stars {X : Cx} {keys : List (Option Expr)} {values : List Expr} {pos : Pos} {ts : List TE} (h : StE X values ts) (hv : values ≠ []) (hk : keys = values.map fun _ => none) : PE X (.Dict keys values pos) (tStars ts) := by
  refine ⟨fun pins s σ H Q I q => ?_⟩
  have hn := I.hok.fresh (Nat.le_refl s.heap.objs.size)
  have I1 := I.laid (a := s.heap.objs.size) (o := .dK []) (h' := s.heap.push { cls := .type "dict", data := .dict #[] }) (t' := s.toks) (fun _ _ q => Heap.get?_push_of_some _ q) (Nat.le_refl _) (dk_empty s.heap I.big)
  rw [arm_eval_Dict]
  subst hk
  refine wpAny_bind (wpAny_standAt ?_)
  have hz : ∀ vs : List Expr, (evalEachOpt (vs.map fun _ => (none : Option Expr)) X.env).zip ((evalEach vs X.env).map fun v => do let x ← v; standAt pos; pure x) = vs.map fun e => ((none : Option (Sem Value)), (do let x ← eval e X.env; standAt pos; pure x : Sem Value)) := by
    intro vs
    induction vs with
    | nil => rfl
    | cons e r ih =>
      show ((none : Option (Sem Value)), (do let x ← eval e X.env; standAt pos; pure x : Sem Value)) :: _ = _
      rw [List.map_cons]
      congr 1
  rw [hz]
  refine wp_stars (knd := mixKind X.prog X.w) mix_noref (fun x hx => ?_) ?_ (fun rest p s' => ∃ es us H', rest = es.map (fun e => ((none : Option (Sem Value)), (do let x ← eval e X.env; standAt pos; pure x : Sem Value))) ∧ StE X es us ∧ Inv X pins σ H' s' ∧ goStars us p σ H' Q) ⟨values, ts, _, rfl, h, I1, q _ hn⟩ ?_ ?_
  · obtain ⟨e, _, rfl⟩ := List.mem_map.mp hx
    rfl
  · intro z
    exact hv (List.map_eq_nil_iff.mp z)
  · rintro x rest p s1 ⟨es, us, H', er, hs, I', g⟩
    cases hs with
    | nil => cases er
    | @cons e es t us he hs =>
      rw [List.map_cons] at er
      injection er with e1 e2
      subst e1
      subst e2
      refine wpAny_bind (wpAny_mono (he.run pins s1 σ H' _ I' g) (fun v s2 z => ?_) fun _ _ x => x)
      obtain ⟨y, H2, I2, ry, a, kvs, more, rfl, hpa, hp, ha, hz2, g2⟩ := z
      cases (show v = Value.ref a from ry)
      refine wpAny_bind (wpAny_standAt (wpAny_pure ?_))
      obtain ⟨z1, hd1, vs1, r1, d1⟩ := dk_of I2.hok hp
      obtain ⟨z2, hd2, vs2, r2, d2⟩ := dk_of I2.hok ha
      refine ⟨a, vs1, vs2, rfl, hpa, hd2, d1, d2, by rw [← r1.length, ← r2.length]; exact hz2, fun h' e1 e2 sb => ⟨es, us, _, rfl, hs, ?_, g2⟩⟩
      have he : ∃ q, h'.get? p = some q := let ⟨q, _, _, hq, _⟩ := e1; ⟨q, hq⟩
      refine d_write I2 (by rw [hp]; exact True.intro) sb he (dk_new ?_ hd1 (r2.merge r1) e1)
      have := length_mergeK more kvs
      omega
  · rintro p s1 ⟨es, us, H', er, hs, I', g⟩
    cases hs with
    | nil => exact ⟨.ref p, H', I', rfl, g⟩
    | cons => cases er
end Fk

set_option maxHeartbeats 4000000
/-! dicts of data: what they hold, == and != of them; repr. -/
namespace Fk
open PySem PySem.Spec PyProof.Rows L2
/-- a dict's entries are these data -/
def DD (K : PySem.W.Frag) (H : Hp) (kvs : List (Key × V)) (ds : List (Key × PyData)) : Prop := Paired (fun p q => p.1 = q.1 ∧ Dp K H p.2 q.2) kvs ds
def DatAt (K : PySem.W.Frag) (H : Hp) (a : Addr) (ds : List (Key × PyData)) : Prop := ∃ kvs, H a = some (.dK kvs) ∧ DD K H kvs ds
def valD (ds : List (Key × PyData)) (k : Key) : Option PyData := (ds.find? fun p => decide (p.1 = k)).map (·.2)
theorem valD_pos {p : Key × PyData} {r : List (Key × PyData)} {k : Key} (e : p.1 = k) : valD (p :: r) k = some p.2 := by simp [valD, List.find?_cons, e]
theorem valD_neg {p : Key × PyData} {r : List (Key × PyData)} {k : Key} (e : ¬ p.1 = k) : valD (p :: r) k = valD r k := by simp [valD, List.find?_cons, e]
def hitD (es : List (Key × PyData)) (p : Key × PyData) : Bool := match valD es p.1 with
  | none => false
  | some e => PyData.eqv p.2 e
def eqvDict (ds es : List (Key × PyData)) : Bool := decide (ds.length = es.length) && ds.all (hitD es)
def shapedAll (ds : List (Key × PyData)) : Prop := ∀ p ∈ ds, SeqAt.shaped p.2 = true
theorem DD.val {K : PySem.W.Frag} {H : Hp} {kvs : List (Key × V)} {ds : List (Key × PyData)} (h : DD K H kvs ds) (k : Key) : (valV kvs k = none ∧ valD ds k = none) ∨ ∃ v d, valV kvs k = some v ∧ valD ds k = some d ∧ Dp K H v d := by
  unfold DD at h
  induction h with
  | nil => exact .inl ⟨rfl, rfl⟩
  | @cons p q ps qs h t ih =>
    obtain ⟨h1, h2⟩ := h
    by_cases e : p.1 = k
    · exact .inr ⟨p.2, q.2, valV_pos e, valD_pos (h1 ▸ e), h2⟩
    · rw [valV_neg e, valD_neg (h1 ▸ e)]
      exact ih
theorem DD.len {K : PySem.W.Frag} {H : Hp} {kvs : List (Key × V)} {ds : List (Key × PyData)} (h : DD K H kvs ds) : kvs.length = ds.length := Paired.length h
mutual
theorem dp_same {K : PySem.W.Frag} {H H' : Hp} (f : Same H H') : ∀ {v : V} {d : PyData}, Dp K H v d → Dp K H' v d
  | _, _, .non => .non
  | _, _, .bl b => .bl b
  | _, _, .int i => .int i
  | _, _, .str x => .str x
  | _, _, .lst hs ha => .lst (by
      rcases hs with (h | ⟨o, h⟩) | h
      · exact .inl (.inl (f _ _ h))
      · exact .inl (.inr ⟨o, f _ _ h⟩)
      · exact .inr h) (dpAll_same f ha)
  | _, _, .tup hs ha => .tup (by
      rcases hs with (h | ⟨o, h⟩) | h
      · exact .inl (.inl (f _ _ h))
      · exact .inl (.inr ⟨o, f _ _ h⟩)
      · exact .inr h) (dpAll_same f ha)
theorem dpAll_same {K : PySem.W.Frag} {H H' : Hp} (f : Same H H') : ∀ {vs : List V} {ds : List PyData}, DpAll K H vs ds → DpAll K H' vs ds
  | _, _, .nil => .nil
  | _, _, .cons h t => .cons (dp_same f h) (dpAll_same f t)
end
theorem DD.same {K : PySem.W.Frag} {H H' : Hp} {kvs : List (Key × V)} {ds : List (Key × PyData)} (h : DD K H kvs ds) (f : Same H H') : DD K H' kvs ds := by
  unfold DD at h ⊢
  induction h with
  | nil => exact .nil
  | cons h t ih => exact .cons ⟨h.1, dp_same f h.2⟩ ih
theorem DatAt.same {K : PySem.W.Frag} {H H' : Hp} {a : Addr} {ds : List (Key × PyData)} (h : DatAt K H a ds) (f : Same H H') : DatAt K H' a ds := by
  obtain ⟨kvs, e, d⟩ := h
  exact ⟨kvs, f _ _ e, d.same f⟩
theorem room66 {k : Nat} {A : Around} (r : Room k A) : A.units + 66 < cLine := by
  have := r.un
  omega
section
variable {X : Cx}
theorem hits_data {pins : List (Addr × Obj)} {σ : L2.St} {H : Hp} {s : Shared} {A : Around} (I : Inv X pins σ H s) (hu : A.units + 64 < cLine) {ls : List (Key × V)} {es : List (Key × PyData)} {vb : List (Key × Value)} (rb : KV ls vb) (hb : DD X.K H ls es) (se : shapedAll es) {ks : List (Key × V)} {ds : List (Key × PyData)} {va : List (Key × Value)}
    (ra : KV ks va) (hd : DD X.K H ks ds) (sd : shapedAll ds) : PySem.W.KeqHits A s vb va (ds.all (hitD es)) := by
  unfold KV at ra
  unfold DD at hd
  induction ra generalizing ds with
  | nil =>
    cases hd
    exact .nil
  | @cons p q ps qs h t ih =>
    cases hd with
    | @cons _ d _ ds hd1 hds =>
      obtain ⟨h1, h2⟩ := h
      obtain ⟨e1, e2⟩ := hd1
      obtain ⟨key, v⟩ := q
      have h1' : p.1 = key := h1
      have tl := ih hds (fun x hx => sd x (List.mem_cons_of_mem _ hx))
      rw [List.all_cons]
      rcases hb.val key with ⟨n1, n2⟩ | ⟨y, e, v1, v2, dy⟩
      · have : hitD es d = false := by
          unfold hitD
          rw [← e1, h1', n2]
        rw [this, Bool.false_and]
        refine .miss ?_
        have rr : RelO none (valueAt vb key) := by rw [← n1]; exact rb.val key
        cases z : valueAt vb key with
        | none => rfl
        | some u =>
          rw [z] at rr
          cases rr
      · have : hitD es d = PyData.eqv d.2 e := by
          unfold hitD
          rw [← e1, h1', v2]
        rw [this]
        have rr : RelO (some y) (valueAt vb key) := by rw [← v1]; exact rb.val key
        obtain ⟨u, hy, ry⟩ := rr.some_of
        obtain ⟨as, r1⟩ := Dp.reads I d.2 p.2 v e2 h2
        obtain ⟨bs, r2⟩ := Dp.reads I e y u dy ry
        have s1 := sd d List.mem_cons_self
        have s2 : SeqAt.shaped e = true := by
          unfold valD at v2
          cases z : es.find? (fun p => decide (p.1 = key)) with
          | none => rw [z] at v2; cases v2
          | some w =>
            rw [z] at v2
            cases v2
            exact se _ (List.mem_of_find?_eq_some z)
        exact .hit hy (SeqAt.eqAt_reads d.2 e A s v u as bs r1 r2 (SeqAt.canLay_of_shaped s1) (SeqAt.canLay_of_shaped s2) (SeqAt.room_of_shaped s1 hu)) tl
/-- d == e of dicts of data -/
def rEqDD (K : PySem.W.Frag) : R2 := fun x y H Q => ∃ a b ds es, x = .ref a ∧ y = .ref b ∧ DatAt K H a ds ∧ DatAt K H b es ∧ shapedAll ds ∧ shapedAll es ∧ Q (.bl (eqvDict ds es)) H
def rNeDD (K : PySem.W.Frag) : R2 := fun x y H Q => ∃ a b ds es, x = .ref a ∧ y = .ref b ∧ DatAt K H a ds ∧ DatAt K H b es ∧ shapedAll ds ∧ shapedAll es ∧ Q (.bl (!eqvDict ds es)) H
theorem op_eqDD (hu : X.A.units + 66 < cLine) : OpR X (compareOp .Eq) (rEqDD X.K) := by
  intro pins s σ H x y v u Q I rx ry h
  obtain ⟨a, b, ds, es, rfl, rfl, ⟨ks, ea, da⟩, ⟨ls, eb, db⟩, sd, se, q⟩ := h
  obtain rfl : v = Value.ref a := rx
  obtain rfl : u = Value.ref b := ry
  obtain ⟨_, ya, va, ra, dda⟩ := (show ObjOk X.prog X.w H s.heap a (.dK ks) from I.hok a _ ea)
  obtain ⟨_, yb, vb, rb, ddb⟩ := (show ObjOk X.prog X.w H s.heap b (.dK ls) from I.hok b _ eb)
  have e : (va.length == vb.length && ds.all (hitD es)) = eqvDict ds es := by
    unfold eqvDict
    rw [← ra.length, ← rb.length, da.len, db.len]
    rfl
  refine PySem.W.keq_eq (knd := mixKind X.prog X.w) (r := ds.all (hitD es)) ya yb dda ddb (by omega) (fun _ => hits_data I ?_ rb db se ra da sd) ?_
  · show X.A.units + 1 + 64 < cLine
    omega
  · rw [e]
    exact ⟨.bl _, H, I, rfl, q⟩
theorem op_neDD (hu : X.A.units + 66 < cLine) : OpR X (compareOp .NotEq) (rNeDD X.K) := by
  intro pins s σ H x y v u Q I rx ry h
  obtain ⟨a, b, ds, es, rfl, rfl, ⟨ks, ea, da⟩, ⟨ls, eb, db⟩, sd, se, q⟩ := h
  obtain rfl : v = Value.ref a := rx
  obtain rfl : u = Value.ref b := ry
  obtain ⟨_, ya, va, ra, dda⟩ := (show ObjOk X.prog X.w H s.heap a (.dK ks) from I.hok a _ ea)
  obtain ⟨_, yb, vb, rb, ddb⟩ := (show ObjOk X.prog X.w H s.heap b (.dK ls) from I.hok b _ eb)
  have e : (va.length == vb.length && ds.all (hitD es)) = eqvDict ds es := by
    unfold eqvDict
    rw [← ra.length, ← rb.length, da.len, db.len]
    rfl
  refine PySem.W.keq_ne (knd := mixKind X.prog X.w) (r := ds.all (hitD es)) ya yb dda ddb (by omega) (fun _ => hits_data I ?_ rb db se ra da sd) ?_
  · show X.A.units + 1 + 64 < cLine
    omega
  · rw [e]
    exact ⟨.bl _, H, I, rfl, q⟩
end
end Fk

set_option maxHeartbeats 4000000
/-! Walks and comprehensions by an invariant, over lists, tuples, dicts; a raise within a locked walk; frames. -/
namespace Fk
open PySem PySem.Spec PyProof.Rows L2
/-! ### frames -/
/-- all that was tracked is as it was, but what stands at L -/
def FrL (L : List Addr) (H H' : Hp) : Prop := ∀ b o, b ∉ L → H b = some o → H' b = some o
theorem FrL.refl (L : List Addr) (H : Hp) : FrL L H H := fun _ _ _ h => h
theorem FrL.trans {L : List Addr} {H H1 H2 : Hp} (x : FrL L H H1) (y : FrL L H1 H2) : FrL L H H2 := fun b o n h => y b o n (x b o n h)
theorem FrL.mono {L M : List Addr} {H H' : Hp} (x : FrL L H H') (h : ∀ a ∈ L, a ∈ M) : FrL M H H' := fun b o n e => x b o (fun z => n (h b z)) e
theorem FrL.at {L : List Addr} {a : Addr} {H : Hp} {o : HO} (h : a ∈ L) : FrL L H (upd H a o) := fun b u n e => by
  have z : b ≠ a := fun z => n (by rw [z]; exact h)
  rw [upd_ne z]
  exact e
theorem FrL.same {L : List Addr} {H H' : Hp} (h : Same H H') : FrL L H H' := fun b o _ e => h b o e
theorem FrL.to {H H' : Hp} (h : FrL [] H H') : Same H H' := fun b o e => h b o (fun z => nomatch z) e
theorem FrL.of {a : Addr} {H H' : Hp} (h : Fr a H H') : FrL [a] H H' := fun b o n e => h b o (fun z => n (z ▸ List.mem_singleton_self a)) e
theorem FrL.new {L : List Addr} {p : Addr} {H : Hp} {o : HO} (h : H p = none) : FrL L H (upd H p o) := FrL.same (same_new h)
/-! ### what is yielded -/
theorem yields_keys {d : Addr} {o : Obj} {kvs : List (Key × V)} : Yields (Itk d o kvs) (kvs.map fun p => kV p.1) (fun H => H d = some (.frz o (.dK kvs))) where
  go := fun k H g h => ⟨g, by rw [List.length_map] at h; exact h⟩
  stop := fun H g => ⟨g, by rw [List.length_map]; exact Nat.le_refl _⟩
  yld := fun k H x H' _ g h => by
    obtain ⟨e, key, v, hk, hx⟩ := h
    refine ⟨e, ?_⟩
    rw [List.getElem?_map, hk, hx]
    rfl
theorem yields_tup {K : PySem.W.Frag} {a : Addr} {xs : List V} : Yields (Itt K a) xs (fun H => SqT K H a xs) where
  go := fun k H g h => ⟨xs, xs[k], g, List.getElem?_eq_getElem h⟩
  stop := fun H g => ⟨xs, g, Nat.le_refl _⟩
  yld := fun k H x H' _ g h => ⟨h.1, h.2 xs g⟩
/-! ### comprehensions -/
theorem lcG {J : It} {items : List V} {G : Hp → Prop} {H1 : Hp} {D : Addr} {σ : L2.St} {vs : List Nat} {g : TG} {tt : TT} {te : TE} {Q : Hp → Prop} (Y : Yields J items G) (I : Nat → List V → Hp → Prop)
    (hG : ∀ k acc H, I k acc H → H D = some (.lst acc) → G H) (h0 : I 0 [] (upd H1 D (.lst [])))
    (hs : ∀ k acc H x, I k acc H → H D = some (.lst acc) → items[k]? = some x → acc.length ≤ k → k < 1000000 → g x (wipe σ vs) H fun σ2 H2 => wipe σ2 vs = wipe σ vs ∧ tt σ2 H2 fun b H3 =>
      if b = true then te σ2 H3 fun y H4 => ∃ acc, H4 D = some (.lst acc) ∧ acc.length < sizeLine ∧ LcN I D (k + 1) (upd H4 D (.lst (acc ++ [y]))) else LcN I D (k + 1) H3)
    (hl : items.length ≤ 1000000) (hd : ∀ acc H, I items.length acc H → H D = some (.lst acc) → acc.length ≤ items.length → Q H) :
    ∃ W : Nat → Nat → Hp → Prop, (∃ m, W 0 m (upd H1 D (.lst []))) ∧ ∀ k m H, W k m H →
      (J.stop k H ∧ Q H) ∨ (J.go k H ∧ ∃ Nx : Hp → Prop, (∀ H', Nx H' → ∃ m', m' < m ∧ W (k + 1) m' H') ∧ ∀ x H', J.yld k H x H' → g x (wipe σ vs) H' fun σ2 H2 => wipe σ2 vs = wipe σ vs ∧ tt σ2 H2 fun b H3 =>
        if b = true then te σ2 H3 fun y H4 => ∃ acc, H4 D = some (.lst acc) ∧ acc.length < sizeLine ∧ Nx (upd H4 D (.lst (acc ++ [y]))) else Nx H3) := by
  refine ⟨fun k m H => m = items.length - k ∧ k ≤ items.length ∧ LcN I D k H, ⟨items.length, by omega, Nat.zero_le _, [], upd_same, Nat.zero_le _, h0⟩, ?_⟩
  rintro k m H ⟨rfl, hk, acc, hD, hacc, hI⟩
  by_cases hlt : k < items.length
  · refine .inr ⟨Y.go k H (hG _ _ _ hI hD) hlt, LcN I D (k + 1), fun H' q => ⟨items.length - (k + 1), by omega, rfl, hlt, q⟩, fun x H' y => ?_⟩
    obtain ⟨rfl, hx⟩ := Y.yld k H x H' hlt (hG _ _ _ hI hD) y
    exact hs k acc _ x hI hD hx hacc (by omega)
  · have e : k = items.length := by omega
    subst e
    exact .inl ⟨Y.stop H (hG _ _ _ hI hD), hd acc H hI hD hacc⟩
/-- behind k turns of a dict's comprehension -/
def DcN (I : Nat → List (Key × V) → Hp → Prop) (D : Addr) (k : Nat) (H : Hp) : Prop := ∃ kvs, H D = some (.dK kvs) ∧ kvs.length ≤ k ∧ I k kvs H
theorem dc_take {I : Nat → List (Key × V) → Hp → Prop} {D : Addr} {k : Nat} {H5 : Hp} {key : Key} {z : V} {kvs : List (Key × V)} (h : H5 D = some (.dK kvs)) (l : kvs.length ≤ k) (hk : k < 1000000) (q : I (k + 1) (putK kvs key z) (upd H5 D (.dK (putK kvs key z)))) :
    ∃ kvs k', (kV key) = kV k' ∧ H5 D = some (.dK kvs) ∧ kvs.length < sizeLine ∧ DcN I D (k + 1) (upd H5 D (.dK (putK kvs k' z))) :=
  ⟨kvs, key, rfl, h, small_lt (by omega), _, upd_same, by have := length_putK kvs key z; omega, q⟩
theorem dc_skip {I : Nat → List (Key × V) → Hp → Prop} {D : Addr} {k : Nat} {H5 : Hp} {kvs : List (Key × V)} (h : H5 D = some (.dK kvs)) (l : kvs.length ≤ k) (q : I (k + 1) kvs H5) : DcN I D (k + 1) H5 := ⟨kvs, h, by omega, q⟩
theorem dcG {J : It} {items : List V} {G : Hp → Prop} {H1 : Hp} {D : Addr} {σ : L2.St} {vs : List Nat} {g : TG} {tt : TT} {tk tv : TE} {Q : Hp → Prop} (Y : Yields J items G) (I : Nat → List (Key × V) → Hp → Prop)
    (hG : ∀ k kvs H, I k kvs H → H D = some (.dK kvs) → G H) (h0 : I 0 [] (upd H1 D (.dK [])))
    (hs : ∀ k kvs H x, I k kvs H → H D = some (.dK kvs) → items[k]? = some x → kvs.length ≤ k → k < 1000000 → g x (wipe σ vs) H fun σ2 H2 => wipe σ2 vs = wipe σ vs ∧ tt σ2 H2 fun b H3 =>
      if b = true then tk σ2 H3 fun y H4 => tv σ2 H4 fun z H5 => ∃ kvs key, y = kV key ∧ H5 D = some (.dK kvs) ∧ kvs.length < sizeLine ∧ DcN I D (k + 1) (upd H5 D (.dK (putK kvs key z))) else DcN I D (k + 1) H3)
    (hl : items.length ≤ 1000000) (hd : ∀ kvs H, I items.length kvs H → H D = some (.dK kvs) → kvs.length ≤ items.length → Q H) :
    ∃ W : Nat → Nat → Hp → Prop, (∃ m, W 0 m (upd H1 D (.dK []))) ∧ ∀ k m H, W k m H →
      (J.stop k H ∧ Q H) ∨ (J.go k H ∧ ∃ Nx : Hp → Prop, (∀ H', Nx H' → ∃ m', m' < m ∧ W (k + 1) m' H') ∧ ∀ x H', J.yld k H x H' → g x (wipe σ vs) H' fun σ2 H2 => wipe σ2 vs = wipe σ vs ∧ tt σ2 H2 fun b H3 =>
        if b = true then tk σ2 H3 fun y H4 => tv σ2 H4 fun z H5 => ∃ kvs key, y = kV key ∧ H5 D = some (.dK kvs) ∧ kvs.length < sizeLine ∧ Nx (upd H5 D (.dK (putK kvs key z))) else Nx H3) := by
  refine ⟨fun k m H => m = items.length - k ∧ k ≤ items.length ∧ DcN I D k H, ⟨items.length, by omega, Nat.zero_le _, [], upd_same, Nat.zero_le _, h0⟩, ?_⟩
  rintro k m H ⟨rfl, hk, kvs, hD, hacc, hI⟩
  by_cases hlt : k < items.length
  · refine .inr ⟨Y.go k H (hG _ _ _ hI hD) hlt, DcN I D (k + 1), fun H' q => ⟨items.length - (k + 1), by omega, rfl, hlt, q⟩, fun x H' y => ?_⟩
    obtain ⟨rfl, hx⟩ := Y.yld k H x H' hlt (hG _ _ _ hI hD) y
    exact hs k kvs _ x hI hD hx hacc (by omega)
  · have e : k = items.length := by omega
    subst e
    exact .inl ⟨Y.stop H (hG _ _ _ hI hD), hd kvs H hI hD hacc⟩
/-! ### walks -/
theorem forG {J : It} {items : List V} {G : Hp → Prop} {g : TG} {tb : TS} {D : Ends} {σ : L2.St} {H : Hp} (Y : Yields J items G) (Pv : Nat → L2.St → Hp → Prop) (h0 : Pv 0 σ H) (hG : ∀ i σ H, Pv i σ H → G H)
    (hs : ∀ i x σ H, items[i]? = some x → Pv i σ H → g x σ H fun σ2 H2 => tb { D with nx := Pv (i + 1), ct := Pv (i + 1), bk := D.nx } σ2 H2) (hd : ∀ σ H, Pv items.length σ H → D.nx σ H) :
    ∃ W : Nat → Nat → L2.St → Hp → Prop, (∃ m, W 0 m σ H) ∧ ∀ i m σ H, W i m σ H →
      (J.stop i H ∧ D.nx σ H) ∨ (J.go i H ∧ ∃ N : L2.St → Hp → Prop, (∀ σ' H', N σ' H' → ∃ m', m' < m ∧ W (i + 1) m' σ' H') ∧ ∀ x H', J.yld i H x H' → g x σ H' fun σ2 H2 => tb { D with nx := N, ct := N, bk := D.nx } σ2 H2) := by
  refine ⟨fun i m σ H => m = items.length - i ∧ i ≤ items.length ∧ Pv i σ H, ⟨items.length, by omega, Nat.zero_le _, h0⟩, ?_⟩
  rintro i m σ H ⟨rfl, hi, p⟩
  by_cases hlt : i < items.length
  · refine .inr ⟨Y.go i H (hG _ _ _ p) hlt, Pv (i + 1), fun σ' H' p' => ⟨items.length - (i + 1), by omega, rfl, hlt, p'⟩, fun x H' y => ?_⟩
    obtain ⟨rfl, hx⟩ := Y.yld i H x H' hlt (hG _ _ _ p) y
    exact hs i x σ _ hx p
  · have e : i = items.length := by omega
    subst e
    exact .inl ⟨Y.stop H (hG _ _ _ p), hd σ H p⟩
/-! ### a raise within a locked walk -/
/-- what is let out of a locked walk, told of the heap with the lock off -/
def wLock (X : Cx) (W : WX) : WX := fun cls dd σ H => ∃ (d : Addr) (od : Obj) (u : HO), H d = some (.frz od u) ∧ (∀ o' u', X.H_0 d ≠ some (.frz o' u')) ∧ W cls dd σ (upd H d u)
theorem takes_lock {X : Cx} {W : WX} (tk : Takes X W) : Takes X (wLock X W) := by
  rintro v s' ⟨a, B, sI, pins, σ, H, cls, dd, e, I, nb, up, sky, na, os, ag, d, od, u, hd, hn, w⟩
  refine tk v s' ⟨a, B, sI, pins, σ, upd H d u, cls, dd, e, I.unlock hd hn, nb, up, sky, ?_, os, ag, w⟩
  rw [upd_ne (fun z => by rw [z, hd] at na; cases na)]
  exact na
end Fk

set_option maxHeartbeats 4000000
/-! A dict's comprehension that is given a name; tables with texts as keys; texts in order. -/
namespace Fk
open PySem PySem.Spec PyProof.Rows L2
section
variable {X : Cx}
theorem sw_trueD {kx vx : Expr} {gs : List Comprehension} {scope : Scope} {pos py : Pos} {y : Str} {l : Nat} {env : Env} (hk : env.scope.kind = .function) (hy : env.scope.names.lookup y = some .local) (hl : (py.line == pos.line) = true)
    (ha : (scope.names.any fun (n, k) => n == y && (k == .local || k == .cell)) = false) : swapsWith (.DictComp kx vx gs scope pos) (some (.Name y py)) l env = pure true := by
  have ky : env.kindOf y = some .local := hy
  have hb : env.blockKind = .function := by unfold Env.blockKind; rw [hk]; rfl
  unfold swapsWith
  simp only [hb, ky, ha, Expr.pos, hl]
  rfl
/-- name = {k: v for ..} on one line, the name a local -/
theorem ps_setDc {i : Nat} {y : Str} {py : Pos} {kx vx tg iter : Expr} {ifs : List Expr} {scope : Scope} {own : List (Str × Nat)} {pos spos : Pos} {wi : TI} {g : TG} {tt : TT} {tk tv : TE} (hc : X.calm = true) (hN : X.N.Nodup) (hy : X.N[i]? = some y) (hyl : X.env.scope.names.lookup y = some .local)
    (hsw : swapsWith (.DictComp kx vx [⟨tg, iter, ifs, 0⟩] scope pos) (some (.Name y py)) spos.line X.env = pure true) (hi : PI X tg iter wi) (ok : BlkOk X.N X.env.scope scope own)
    (hg : ∀ (s : Shared) (H : Hp) (C : Addr) (cl : List (Str × Addr)) (fp : List Addr), PG (X.blk s H scope (compEnvC scope cl C X.env) fp) tg g) (ht : ∀ (s : Shared) (H : Hp) (C : Addr) (cl : List (Str × Addr)) (fp : List Addr), PTs (X.blk s H scope (compEnvC scope cl C X.env) fp) ifs tt)
    (hk : ∀ (s : Shared) (H : Hp) (C : Addr) (cl : List (Str × Addr)) (fp : List Addr), PE (X.blk s H scope (compEnvC scope cl C X.env) fp) kx tk)
    (he : ∀ (s : Shared) (H : Hp) (C : Addr) (cl : List (Str × Addr)) (fp : List Addr), PE (X.blk s H scope (compEnvC scope cl C X.env) fp) vx tv) (hs : ∀ x, foldedSetIterable iter X.env x = pure x := by intro _; rfl) :
    PS X (.Assign [.Name y py] (.DictComp kx vx [⟨tg, iter, ifs, 0⟩] scope pos) spos) (tAsg (tDc wi g tt tk tv (own.map (·.2))) (gName i)) := by
  refine ⟨fun pins s σ H D I h => ?_⟩
  rw [exec_Assign_Name_used _ _ _ _ hsw]
  refine wpAny_bind (wpAny_standAt (wpAny_bind ?_))
  show wpAny _ X.A (do let _ ← comprehension (.DictComp kx vx [⟨tg, iter, ifs, 0⟩] scope pos) scope X.env (firstIterPos [⟨tg, iter, ifs, 0⟩] pos) newDict false (eval iter X.env) (some (assign (.Name y py) X.env))) _ _ s
  have h : tDc wi g tt tk tv (own.map (·.2)) σ H (fun x H1 => gName i x σ H1 D.nx) := h
  refine wpAny_bind (thn (dc_core (Qf := fun _ s' => SP X pins D .next s') hc hN I hi ok hg ht hk he hs h fun L C s' m H' I' q hn f => ?_) fun _ s' hq => wpAny_pure (wpAny_pure hq))
  show wpAny _ _ (assign (.Name y py) X.env (.ref L)) _ _ _
  refine wpAny_assign_Name (store_ok2 (v := V.ref L) I' hN hy (.inl hyl) rfl (fun s2 I2 ⟨a, sb, ha⟩ => ?_) (.inr hyl))
  obtain ⟨f0, f1, f2, f3, f4, f5⟩ := f
  have haC : C ≠ a := by
    rcases ha with z | z
    · rw [z]; exact f1
    · exact fun e => f4 y a z e.symm
  refine ⟨m, hn.sameBut sb haC, fun h3 sb3 => ?_⟩
  exact ⟨_, H', I2.turned (t' := s2.toks) (fun b o hb e => (sb3.2 b hb).trans e) f0 f1 f3 f4 f5, q⟩
end
/-! ### tables with texts as keys -/
abbrev Tab := List (Str × V)
def kT (t : Tab) : List (Key × V) := t.map fun p => (.inr p.1, p.2)
theorem valV_kT (t : Tab) (x : Str) : valV (kT t) (.inr x) = valV t x := by
  induction t with
  | nil => rfl
  | cons p r ih =>
    show valV ((.inr p.1, p.2) :: kT r) (.inr x) = _
    by_cases h : p.1 = x
    · rw [valV_pos (show (Sum.inr p.1 : Key) = .inr x by rw [h]), valV_pos h]
    · rw [valV_neg (fun e => h (Sum.inr.inj e)), valV_neg h, ih]
theorem any_kT (t : Tab) (x : Str) : ((kT t).any fun kv => decide (kv.1 = .inr x)) = t.any fun kv => decide (kv.1 = x) := by
  rw [valV_any, valV_any, valV_kT]
theorem putK_kT (t : Tab) (x : Str) (v : V) : putK (kT t) (.inr x) v = kT (putK t x v) := by
  unfold putK
  rw [any_kT]
  split
  · unfold kT
    rw [List.map_map, List.map_map]
    refine List.map_congr_left fun p _ => ?_
    show (if (Sum.inr p.1 : Key) = .inr x then _ else _) = _
    by_cases h : p.1 = x
    · rw [if_pos (by rw [h])]
      show _ = ((Sum.inr (if p.1 = x then (p.1, v) else p).1, (if p.1 = x then (p.1, v) else p).2) : Key × V)
      rw [if_pos h]
    · rw [if_neg (fun e => h (Sum.inr.inj e))]
      show _ = ((Sum.inr (if p.1 = x then (p.1, v) else p).1, (if p.1 = x then (p.1, v) else p).2) : Key × V)
      rw [if_neg h]
  · unfold kT
    rw [List.map_append]
    rfl
theorem dropK_kT (t : Tab) (x : Str) : dropK (kT t) (.inr x) = kT (dropK t x) := by
  unfold dropK kT
  rw [List.filter_map]
  congr 1
  refine List.filter_congr fun p _ => ?_
  show decide ((Sum.inr p.1 : Key) ≠ .inr x) = decide (p.1 ≠ x)
  exact decide_eq_decide.mpr ⟨fun n e => n (by rw [e]), fun n e => n (Sum.inr.inj e)⟩
theorem keys_kT (t : Tab) : (kT t).map (·.1) = (t.map (·.1)).map Sum.inr := by
  unfold kT
  rw [List.map_map, List.map_map]
  rfl
theorem kV_kT (t : Tab) : ((kT t).map fun p => kV p.1) = (t.map (·.1)).map V.str := by
  unfold kT
  rw [List.map_map, List.map_map]
  rfl
theorem len_kT (t : Tab) : (kT t).length = t.length := List.length_map ..
/-- what a[x] is -/
theorem dget_kT {H : Hp} {a : Addr} {t : Tab} (h : Rd H a (.dK (kT t))) (x : Str) : DGet H a (.str x) (valV t x) := .inl ⟨kT t, .inr x, h, rfl, (valV_kT t x).symm⟩
theorem valV_drop {κ : Type} [DecidableEq κ] (t : List (κ × V)) (x y : κ) : valV (dropK t x) y = if y = x then none else valV t y := by
  induction t with
  | nil => split <;> rfl
  | cons p r ih =>
    by_cases h : p.1 = x
    · rw [dropK_pos h, ih]
      by_cases e : y = x
      · rw [if_pos e, if_pos e]
      · rw [if_neg e, if_neg e, valV_neg (fun z => e (by rw [← z, h]))]
    · rw [dropK_neg h]
      by_cases e : p.1 = y
      · rw [valV_pos e, valV_pos e, if_neg (fun z => h (by rw [e, z]))]
      · rw [valV_neg e, valV_neg e, ih]
/-- no key twice -/
def Nd (t : Tab) : Prop := (t.map (·.1)).Nodup
theorem nd_put {t : Tab} (h : Nd t) (x : Str) (v : V) : Nd (putK t x v) := by
  cases e : valV t x with
  | none => exact nd_putK v h e
  | some u =>
    unfold Nd putK
    rw [if_pos (by rw [valV_any, e]; rfl), List.map_map]
    have : ((fun p : Str × V => p.1) ∘ fun kv : Str × V => if kv.1 = x then (kv.1, v) else kv) = fun p => p.1 := by
      funext p
      show (if p.1 = x then (p.1, v) else p).1 = p.1
      split <;> rfl
    rw [this]
    exact h
theorem nd_drop {t : Tab} (h : Nd t) (x : Str) : Nd (dropK t x) := nd_dropK h
theorem mem_val {t : Tab} {x : Str} : x ∈ t.map (·.1) ↔ (valV t x).isSome = true := by
  rw [← valV_any, List.any_eq_true]
  constructor
  · intro m
    obtain ⟨p, hp, e⟩ := List.mem_map.mp m
    exact ⟨p, hp, decide_eq_true e⟩
  · rintro ⟨p, hp, e⟩
    exact List.mem_map.mpr ⟨p, hp, of_decide_eq_true e⟩
/-- tables with the same keys -/
theorem keys_perm {t u : Tab} (ht : Nd t) (hu : Nd u) (h : ∀ x, (valV t x).isSome = (valV u x).isSome) : (t.map (·.1)).Perm (u.map (·.1)) :=
  (List.perm_ext_iff_of_nodup ht hu).mpr fun x => by rw [mem_val, mem_val, h]
/-! ### texts in order -/
def leS (a b : Str) : Prop := ¬ b.cps.toList < a.cps.toList
theorem leS_trans {a b c : Str} (h : leS a b) (k : leS b c) : leS a c := by
  unfold leS at *
  intro z
  exact h (List.lt_of_le_of_lt (List.not_lt.mp k) z)
theorem str_ext {a b : Str} (h : a.cps.toList = b.cps.toList) : a = b := by
  cases a; cases b
  congr 1
  exact Array.toList_inj.mp h
theorem leS_anti {a b : Str} (h : leS a b) (k : leS b a) : a = b := str_ext (List.le_antisymm (List.not_lt.mp h) (List.not_lt.mp k))
theorem rising_pw : ∀ (l : List Str) (p : Str), risingS p l = true → (p :: l).Pairwise leS
  | [], p, _ => List.pairwise_singleton _ _
  | x :: r, p, h => by
    have h : (!ltCps x.cps.toList p.cps.toList && risingS x r) = true := h
    obtain ⟨h1, h2⟩ := Bool.and_eq_true_iff.mp h
    have ih := rising_pw r x h2
    have px : leS p x := fun z => by
      rw [ltCps_eq, decide_eq_true z] at h1
      exact absurd h1 (by decide)
    refine List.pairwise_cons.mpr ⟨fun y hy => ?_, ih⟩
    rcases List.mem_cons.mp hy with e | hy
    · rw [e]
      exact px
    · exact leS_trans px ((List.pairwise_cons.mp ih).1 y hy)
theorem sorted_pw {l : List Str} (h : sortedS l = true) : l.Pairwise leS := by
  cases l with
  | nil => exact List.Pairwise.nil
  | cons x r => exact rising_pw r x h
theorem pw_uniq : ∀ {l m : List Str}, l.Pairwise leS → m.Pairwise leS → l.Perm m → l = m
  | [], m, _, _, p => (List.nil_perm.mp p).symm ▸ rfl
  | a :: r, [], _, _, p => absurd (List.perm_nil.mp p) (by simp)
  | a :: r, b :: s, h, k, p => by
    obtain ⟨h1, h2⟩ := List.pairwise_cons.mp h
    obtain ⟨k1, k2⟩ := List.pairwise_cons.mp k
    have e : a = b := by
      rcases List.mem_cons.mp (p.mem_iff.mp List.mem_cons_self) with z | z
      · exact z
      · rcases List.mem_cons.mp (p.mem_iff.mpr (List.mem_cons_self (a := b))) with y | y
        · exact y.symm
        · exact leS_anti (h1 b y) (k1 a z)
    subst e
    rw [pw_uniq h2 k2 ((List.perm_cons a).mp p)]
theorem sort_uniq {l m : List Str} (h : sortedS l = true) (k : sortedS m = true) (p : l.Perm m) : l = m := pw_uniq (sorted_pw h) (sorted_pw k) p
end Fk

set_option maxHeartbeats 4000000
/-! Statements that are never come to; methods with a keyword; methods that may raise. -/
namespace Fk
open PySem PySem.Spec PyProof.Rows L2
section
variable {X : Cx}
/-- what is never come to -/
theorem ps_never {st : Stmt} : PS X st (fun _ _ _ => False) := ⟨fun _ _ _ _ _ _ h => h.elim⟩
theorem pe_never {e : Expr} : PE X e (fun _ _ _ => False) := ⟨fun _ _ _ _ _ _ h => h.elim⟩
variable {k j : Nat} {C : Addr} {m : Str} {sp : Sp} {E : L2.St → XK} {o e : Expr} {es : List Expr} {kws : List Keyword} {ta : TE} {t tk : TA} {pos apos : Pos} {ks : List Str} {gV : List V → List V → List V}
/-- a method with these keywords -/
structure MetK (P : Program) (w : World) (K : PySem.W.Frag) (mg : Str → Option Value) (base : Heap) (k : Nat) (C : Addr) (m : Str) (sp : Sp) (ks : List Str) (gV : List V → List V → List V) : Prop where
  ex : ∃ (f : Addr) (fd : FuncData) (ps : List Str) (g : List Value → List Value → List Value), Cls K C ∧ Meth K C m f ∧ FnOk P w K mg base C8.CX0 k f fd ps sp ∧ KBinds K fd ps ks g gV
def tMeK (C : Addr) (m : Str) (sp : Sp) (gV : List V → List V → List V) (ta : TE) (t tk : TA) : TE := fun σ H Q => ta σ H fun x H1 => ∃ (a dx : Addr) (fs : List (Str × V)), x = .ref a ∧ H1 a = some (.ins C dx fs) ∧ fs.lookup m = none ∧
  t σ H1 fun vs H2 => tk σ H2 fun zs H3 => sp (gV (x :: vs) zs) H3 Q C8.E0
/-- o.m(e, .., k = v, ..) -/
theorem pe_mtK {pl : Sem Bool} (c : MetK X.prog X.w X.K X.mg X.base k C m sp ks gV) (hr : Room j X.A) (hk : k ≤ j) (he : PE X o ta) (ha : PA X (e :: es) t) (hkw : PK X kws tk)
    (hall : (backToKw pos (keywordEach kws X.env)).all (·.1.isSome) = true := by rfl) (hks : (backToKw pos (keywordEach kws X.env)).filterMap (·.1) = ks := by rfl)
    (hst : starEach (e :: es) X.env = (false, eval e X.env) :: starEach es X.env := by rfl) (hpl : ((backTo pos (starEach (e :: es) X.env)).any (·.1) || (backToKw pos (keywordEach kws X.env)).any (·.1.isNone)) = false := by rfl)
    (ht : eval (.Call (.Attribute o m apos) (e :: es) kws pos) X.env = (do
      let ov ← eval o X.env
      standAt apos.atName
      let (f, first) ← holding [ov] (getMethod ov m pl)
      callWith pos f first (backTo pos (starEach (e :: es) X.env)) (backToKw pos (keywordEach kws X.env))) := by rfl) :
    PE X (.Call (.Attribute o m apos) (e :: es) kws pos) (tMeK C m sp gV ta t tk) := by
  obtain ⟨f, fd, ps, g, cl, hm, F, b⟩ := c.ex
  refine ⟨fun pins s σ H Q I h => ?_⟩
  refine PySem.W.methodCall_KW (pl := pl) (thn (he.run pins s σ H _ I h) fun u s1 ⟨x, H1, I1, rx, a, dx, fs, ex, ea, l, q⟩ => ?_) ht
  subst ex
  obtain rfl : u = Value.ref a := rx
  refine getmeth_ok I1 ea cl hm l ?_
  refine PySem.W.callWith_KW (first := [.ref a]) (h₀ := X.base) I.ok.mod.kin hm.kp hall (thn (ha.run pos pins s1 σ H1 _ I1 q) fun us s2 ⟨vs, H2, I2, r, q2⟩ => ?_) hpl hst
  refine thn (hkw.run pos pins s2 σ H2 _ I2 q2) fun ws s3 ⟨zs, H3, I3, rz, q3⟩ => ⟨I3.kIn, ?_⟩
  rw [hks]
  exact run_fnk F (hr.mono hk) b C8.pass0 I3 (show Vals (.ref a :: vs) (.ref a :: us) from .cons rfl r) rz q3
end
section
variable {P : Program} {w : World} {K : PySem.W.Frag} {mg : Str → Option Value} {base : Heap}
/-- a method of the text as it stands behind the top, with no defaults -/
structure MDef (K : PySem.W.Frag) (C : Addr) (m qual : Str) (st : Stmt) : Prop where
  ex : ∃ (f : Addr) (fd : FuncData), C8.Fun K m qual st f fd ∧ Meth K C m f ∧ fd.defaults = .none
theorem met_of {m qual : Str} {C : Addr} {st : Stmt} {N ps : List Str} {k : Nat} {sp : Sp} (c : Cls K C) (D : MDef K C m qual st) (S : FnScope N ps (C8.fnScope st))
    (hb : ∀ (kV doc pm : Value) (an : Option Addr) (cdv ct : Value) (us : List Value), us.length = ps.length → bindArgs (PySem.W.fnOf m qual (C8.fnArgs st) (C8.fnBody st) (C8.fnScope st) .none kV doc pm an cdv ct) ⟨us, []⟩ = pure (ps.zip us))
    (len : ∀ vs H Q E, sp vs H Q E → vs.length = ps.length)
    (hbody : ∀ (f : Addr) (cdv : Value) (A : Around) (outer : List Env) (s : Shared) (H : Hp) (vs : List V) (Q : VK) (E : XK), Room k (A.deeper (envOfC qual (C8.fnScope st) s.heap.objs.size f cdv)) → sp vs H Q E →
      ∃ t, PSs (cxOf C8.CX0 P w K mg base N qual (C8.fnScope st) f cdv A outer s H E).nox (C8.fnBody st) t ∧ t { nx := fun _ H' => Q .non H', rt := Q } (start N vs) H) : C8.Met P w K mg base (k + 1) C m sp [] := by
  obtain ⟨f, fd, F, M, df⟩ := D.ex
  exact C8.met0 c M F (F.binds df hb) S len (hbody f)
/-- a method that may let errors out -/
theorem metX_of {m qual : Str} {C : Addr} {st : Stmt} {N ps : List Str} {k : Nat} {sp : Sp} (c : Cls K C) (D : MDef K C m qual st) (S : FnScope N ps (C8.fnScope st))
    (hb : ∀ (kV doc pm : Value) (an : Option Addr) (cdv ct : Value) (us : List Value), us.length = ps.length → bindArgs (PySem.W.fnOf m qual (C8.fnArgs st) (C8.fnBody st) (C8.fnScope st) .none kV doc pm an cdv ct) ⟨us, []⟩ = pure (ps.zip us))
    (len : ∀ vs H Q E, sp vs H Q E → vs.length = ps.length)
    (hbody : ∀ (f : Addr) (cdv : Value) (A : Around) (outer : List Env) (s : Shared) (H : Hp) (vs : List V) (Q : VK) (E : XK), Room k (A.deeper (envOfC qual (C8.fnScope st) s.heap.objs.size f cdv)) → sp vs H Q E →
      ∃ t, PSs (cxOf (L2.CX P w) P w K mg base N qual (C8.fnScope st) f cdv A outer s H E) (C8.fnBody st) t ∧ t { nx := fun _ H' => Q .non H', rt := Q } (start N vs) H) : MetX P w K mg base (L2.CX P w) (k + 1) C m sp [] := by
  obtain ⟨f, fd, F, M, df⟩ := D.ex
  obtain ⟨oc, od, dV, kV, doc, pm, an, cdv, ct, osl, rfl, lk, hcd⟩ := F.ex
  exact ⟨f, _, ps, [], c, M, fn_of lk hcd S len fun A outer s H vs Q E hr hsp => hbody f cdv A outer s H vs Q E hr hsp, F.binds df hb, .nil⟩
end
end Fk

set_option maxHeartbeats 4000000
/-! A comprehension with two fors that changes nothing; the prefixes of paths. -/
namespace Fk
open PySem PySem.Spec PyProof.Rows L2
theorem same_frl {D : Addr} {H1 H H' : Hp} (h : H1 D = none) (s : Same H1 H) (f : FrL [D] H H') : Same H1 H' := fun b o e => f b o (fun z => by
  rw [List.mem_singleton.mp z, h] at e
  cases e) (s b o e)
theorem lc2_pure {α β : Type} {J : It} {us : List α} {g : α → V} {h : β → V} {G : Hp → Prop} {H1 : Hp} {D : Addr} {σ : L2.St} {vs : List Nat} {i j : Nat} {wi1 : TI} {te : TE} {Q : Hp → Prop} (Y : Yields J (us.map g) G) (fs : α → List β) (f : α → β → V) (hD1 : H1 D = none) (hG : ∀ H, Same H1 H → G H)
    (e1 : ∀ x, wipe ((wipe σ vs).set i (some x)) vs = wipe σ vs)
    (e2 : ∀ x y, wipe ((wipe ((wipe σ vs).set i (some x)) [j]).set j (some y)) [j] = wipe ((wipe σ vs).set i (some x)) [j])
    (hw : ∀ H u, Same H1 H → H D ≠ none → u ∈ us → ∀ (R : It → Hp → Prop), (∀ J1 G1 H3, Yields J1 ((fs u).map h) G1 → Same H H3 → (∀ H', FrL [D] H3 H' → G1 H') → R J1 H3) → wi1 ((wipe σ vs).set i (some (g u))) H R)
    (he : ∀ H u w, Same H1 H → u ∈ us → w ∈ fs u → ∀ (R : VK), (∀ H3, Same H H3 → R (f u w) H3) → te ((wipe ((wipe σ vs).set i (some (g u))) [j]).set j (some (h w))) H R)
    (hl : (us.flatMap fs).length ≤ 1000000) (hd : ∀ H, Same H1 H → H D = some (.lst (us.flatMap fun u => (fs u).map (f u))) → Q H) :
    ∃ W : Nat → Nat → Hp → Prop, (∃ m, W 0 m (upd H1 D (.lst []))) ∧ ∀ k m H, W k m H →
      (J.stop k H ∧ Q H) ∨ (J.go k H ∧ ∃ Nx : Hp → Prop, (∀ H', Nx H' → ∃ m', m' < m ∧ W (k + 1) m' H') ∧ ∀ x H', J.yld k H x H' → gName i x (wipe σ vs) H' fun σ2 H2 => wipe σ2 vs = wipe σ vs ∧ tYes σ2 H2 fun b H3 =>
        if b = true then wi1 σ2 H3 fun J1 H4 => ∃ W1 : Nat → Nat → Hp → Prop, (∃ m, W1 0 m H4) ∧ ∀ k2 m2 H, W1 k2 m2 H →
          (J1.stop k2 H ∧ Nx H) ∨ (J1.go k2 H ∧ ∃ Nx1 : Hp → Prop, (∀ H', Nx1 H' → ∃ k', k' < m2 ∧ W1 (k2 + 1) k' H') ∧ ∀ x H', J1.yld k2 H x H' → gName j x (wipe σ2 [j]) H' fun σ3 H5 => wipe σ3 [j] = wipe σ2 [j] ∧ tYes σ3 H5 fun b H6 =>
            if b = true then te σ3 H6 fun y H7 => ∃ acc, H7 D = some (.lst acc) ∧ acc.length < sizeLine ∧ Nx1 (upd H7 D (.lst (acc ++ [y]))) else Nx1 H6)
        else Nx H3) := by
  refine ⟨fun k m H => m = us.length - k ∧ k ≤ us.length ∧ Same H1 H ∧ H D = some (.lst ((us.take k).flatMap fun u => (fs u).map (f u))), ⟨us.length, by omega, Nat.zero_le _, same_new hD1, upd_same⟩, ?_⟩
  rintro k m H ⟨rfl, hk, sm, hD⟩
  by_cases hlt : k < us.length
  · refine .inr ⟨Y.go k H (hG _ sm) (by rw [List.length_map]; exact hlt), fun H' => Same H1 H' ∧ H' D = some (.lst ((us.take (k + 1)).flatMap fun u => (fs u).map (f u))), fun H' q => ⟨us.length - (k + 1), by omega, rfl, hlt, q⟩, fun x H' y => ?_⟩
    obtain ⟨rfl, hx⟩ := Y.yld k H x H' (by rw [List.length_map]; exact hlt) (hG _ sm) y
    rw [List.getElem?_map, List.getElem?_eq_getElem hlt] at hx
    obtain rfl := Option.some.inj hx
    have hu : us[k] ∈ us := List.getElem_mem hlt
    refine ⟨e1 _, ?_⟩
    dsimp only [tYes]
    first | rw [if_pos (rfl : true = true)] | skip
    refine hw _ us[k] sm (by rw [hD]; exact fun z => nomatch z) hu _ fun J1 G1 H3 Y1 s3 hG1 => ?_
    have et : us.take (k + 1) = us.take k ++ [us[k]] := by rw [List.take_add_one, List.getElem?_eq_getElem hlt]; rfl
    have total : ((us.take k).flatMap fun u => (fs u).map (f u)).length + (fs us[k]).length ≤ 1000000 := by
      have e : us.flatMap fs = ((us.take (k + 1)) ++ us.drop (k + 1)).flatMap fs := by rw [List.take_append_drop]
      rw [e, List.flatMap_append, et, List.flatMap_append, List.length_append, List.length_append] at hl
      have e2 : ∀ l : List α, (l.flatMap fun u => (fs u).map (f u)).length = (l.flatMap fs).length := fun l => by
        induction l with
        | nil => rfl
        | cons a r ih => rw [List.flatMap_cons, List.flatMap_cons, List.length_append, List.length_append, ih, List.length_map]
      rw [e2]
      have : ([us[k]].flatMap fs).length = (fs us[k]).length := by simp
      omega
    refine ⟨fun k2 m2 H => m2 = (fs us[k]).length - k2 ∧ k2 ≤ (fs us[k]).length ∧ FrL [D] H3 H ∧ H D = some (.lst (((us.take k).flatMap fun u => (fs u).map (f u)) ++ ((fs us[k]).take k2).map (f us[k]))),
      ⟨(fs us[k]).length, by omega, Nat.zero_le _, FrL.refl _ _, by rw [List.take_zero, List.map_nil, List.append_nil]; exact s3 _ _ hD⟩, ?_⟩
    rintro k2 m2 H5 ⟨rfl, hk2, f5, hD5⟩
    by_cases hlt2 : k2 < (fs us[k]).length
    · refine .inr ⟨Y1.go k2 H5 (hG1 _ f5) (by rw [List.length_map]; exact hlt2), _, fun H' q => ⟨(fs us[k]).length - (k2 + 1), by omega, rfl, hlt2, q⟩, fun x H' y => ?_⟩
      obtain ⟨rfl, hx⟩ := Y1.yld k2 H5 x H' (by rw [List.length_map]; exact hlt2) (hG1 _ f5) y
      rw [List.getElem?_map, List.getElem?_eq_getElem hlt2] at hx
      obtain rfl := Option.some.inj hx
      refine ⟨e2 _ _, ?_⟩
      first | rw [if_pos (rfl : true = true)] | skip
      have s5 : Same H1 _ := same_frl hD1 (sm.trans s3) f5
      refine he _ us[k] (fs us[k])[k2] s5 hu (List.getElem_mem hlt2) _ fun H6 s6 => ?_
      refine ⟨_, s6 _ _ hD5, small_lt (by rw [List.length_append, List.length_map, List.length_take]; omega), FrL.trans (f5.trans (FrL.same s6)) (FrL.at (List.mem_singleton_self D)), ?_⟩
      rw [upd_same, List.take_add_one, List.getElem?_eq_getElem hlt2, List.append_assoc, List.map_append]
      rfl
    · have e : k2 = (fs us[k]).length := by omega
      subst e
      refine .inl ⟨by have := Y1.stop H5 (hG1 _ f5); rw [List.length_map] at this; exact this, same_frl hD1 (sm.trans s3) f5, ?_⟩
      rw [hD5, et, List.flatMap_append, List.take_length]
      simp
  · have e : k = us.length := by omega
    subst e
    refine .inl ⟨by have := Y.stop H (hG _ sm); rw [List.length_map] at this; exact this, hd _ sm ?_⟩
    rw [hD, List.take_length]
/-! ### prefixes -/
def prefixesF (x : Str) : List Str := (List.range ((segs x).length - 1)).map fun k => Txt.join "/" ((segs x).take (k + 1))
def haveF (ks : List Str) : Bool := ks.any fun x => (prefixesF x).any fun y => decide (y ∈ ks)
theorem have_perm {ks ls : List Str} (h : ks.Perm ls) : haveF ks = haveF ls := by
  have e : ∀ a b : List Str, a.Perm b → haveF a = true → haveF b = true := fun a b p z => by
    obtain ⟨x, hx, z⟩ := List.any_eq_true.mp z
    obtain ⟨y, hy, z⟩ := List.any_eq_true.mp z
    exact List.any_eq_true.mpr ⟨x, p.mem_iff.mp hx, List.any_eq_true.mpr ⟨y, hy, decide_eq_true (p.mem_iff.mp (of_decide_eq_true z))⟩⟩
  cases c : haveF ls with
  | true => exact e ls ks h.symm c
  | false => exact Bool.eq_false_iff.mpr fun z => by rw [e ks ls h z] at c; cases c
theorem pre_len (x : Str) (h : x.length ≤ 100000) : (prefixesF x).length ≤ 100000 := by
  unfold prefixesF
  rw [List.length_map, List.length_range]
  have := (segs_len x h).1
  omega
theorem any_flat {α β : Type} (us : List α) (fs : α → List β) (f : α → β → Bool) : (us.flatMap fun u => (fs u).map (f u)).any id = us.any fun u => (fs u).any (f u) := by
  induction us with
  | nil => rfl
  | cons a r ih => rw [List.flatMap_cons, List.any_append, ih, List.any_cons, List.any_map]; rfl
end Fk
namespace Fk
open PySem PySem.Spec PyProof.Rows L2
theorem segs_lens (x : Str) : (segs x).length ≤ x.length + 1 ∧ ∀ y ∈ segs x, y.length ≤ x.length := by
  have e := TL.split_spl x "/" (by decide +kernel) (TL.kind_ok (by decide +kernel))
  have e2 : ∀ l k acc, (TL.spl (TL.tl "/") k acc l).length ≤ l.length + 1 ∧ ∀ y ∈ TL.spl (TL.tl "/") k acc l, y.length ≤ acc.length + l.length := by
    intro l
    induction l with
    | nil => intro k acc; rw [TL.spl_nil]; exact ⟨Nat.le_refl _, fun y hy => by rw [List.mem_singleton.mp hy]; simp⟩
    | cons c r ih =>
      intro k acc
      cases k with
      | zero =>
        unfold TL.spl
        split
        · obtain ⟨i1, i2⟩ := ih ((TL.tl "/").length - 1) []
          refine ⟨by simp only [List.length_cons]; omega, fun y hy => ?_⟩
          rcases List.mem_cons.mp hy with rfl | hy
          · simp only [List.length_cons]; omega
          · have := i2 y hy
            simp only [List.length_cons, List.length_nil] at this ⊢
            omega
        · obtain ⟨i1, i2⟩ := ih 0 (acc ++ [c])
          refine ⟨by simp only [List.length_cons]; omega, fun y hy => ?_⟩
          have := i2 y hy
          simp only [List.length_cons, List.length_append, List.length_nil] at this ⊢
          omega
      | succ k =>
        obtain ⟨i1, i2⟩ := ih k acc
        unfold TL.spl
        refine ⟨by simp only [List.length_cons]; omega, fun y hy => ?_⟩
        have := i2 y hy
        simp only [List.length_cons] at this ⊢
        omega
  obtain ⟨i1, i2⟩ := e2 (TL.tl x) 0 []
  rw [← e] at i1 i2
  rw [List.length_map, ← TL.len_tl] at i1
  refine ⟨?_, fun y hy => ?_⟩
  · show (Txt.split x "/").length ≤ _
    omega
  · have := i2 (TL.tl y) (List.mem_map_of_mem hy)
    rw [← TL.len_tl, ← TL.len_tl] at this
    simp at this
    omega
theorem sum_most (n : Nat) : ∀ ps : List Str, (∀ p ∈ ps, p.length ≤ n) → (ps.map (·.length)).sum ≤ ps.length * n := by
  intro ps h
  induction ps with
  | nil => exact Nat.zero_le _
  | cons p r ih =>
    rw [List.map_cons, List.sum_cons, List.length_cons, Nat.succ_mul]
    have := ih fun q hq => h q (List.mem_cons_of_mem _ hq)
    have := h p List.mem_cons_self
    omega
theorem cut_front {α : Type} (l : List α) (g : α → V) (k : Nat) : cutV (l.map g) none (some (1 + (k : Int))) = (l.take (k + 1)).map g := by
  have e : (1 + (k : Int)) = ((k + 1 : Nat) : Int) := by omega
  unfold cutV
  rw [e, HT.sIx_none, HT.sIx_nat, List.drop_zero, Nat.sub_zero, List.map_take]
  rcases Nat.le_total (k + 1) (l.map g).length with h | h
  · rw [Nat.min_eq_left h]
  · rw [Nat.min_eq_right h, List.take_length, List.take_of_length_le h]
/-! ### rules whose reading names the written part, within a comprehension -/
section
variable {X : Cx} {K : PySem.W.Frag} {o e : Expr} {to te : TE} {f : Str}
theorem slK_list (h : X.K = K) : SlR X (rSlL K) := h ▸ sl_list
theorem ixK_list (h : X.K = K) : IxR X (rIxL K) := h ▸ ix_list
theorem ixK_tup (h : X.K = K) : IxR X (rIxT K) := h ▸ ix_tup
theorem pi_listK {tg : Expr} (h : X.K = K) (he : PE X e te) : PI X tg e (iList K te) := h ▸ pi_list he
theorem pi_tupK {tg : Expr} (h : X.K = K) (he : PE X e te) : PI X tg e (iTup K te) := h ▸ pi_tup he
theorem pg_tupK {es : List Expr} {k : Nat} {t : TGs} {n : Nat} {pos : Pos} (h : X.K = K) (hc : X.calm = true) (hp : PGs X es t)
    (hn : (assignEach es X.env).length = n := by rfl) (hst : (assignEach es X.env).findIdx? (·.1) = none := by rfl) : PG X (.Tuple es k pos) (gTup K n t) := h ▸ pg_tup hc hp hn hst
theorem pe_fldK {pos : Pos} (h : X.K = K) (he : PE X e te) (hb : attributeBase e f X.env (eval e X.env) = eval e X.env) : PE X (.Attribute e f pos) (tFld K te f) := h ▸ pe_fld he hb
def rJoin (K : PySem.W.Frag) : V → List V → Hp → VK → Prop := fun x xs H Q => ∃ a p, ∃ ys : List Str, x = .str a ∧ xs = [.ref p] ∧ (SqL K H p (ys.map V.str) ∨ SqT K H p (ys.map V.str)) ∧
  (ys.map (·.length)).sum + ys.length * a.length ≤ 16777216 ∧ Q (.str (Txt.join a ys)) H
theorem pe_joinK {apos pos : Pos} (h : X.K = K) (ho : PE X o to) (he : PE X e te) (hs : starEach [e] X.env = [(false, eval e X.env)] := by rfl) (hbase : attributeBase o "join" X.env (eval o X.env) = eval o X.env := by rfl) (hline : (apos.endLine == pos.line) = true := by rfl) :
    PE X (.Call (.Attribute o "join" apos) [e] [] pos) (tM1 (rJoin K) to te) := by
  subst h
  exact pe_join ho he hs hbase hline
end
end Fk

set_option maxHeartbeats 4000000
/-! Lists and dicts that comprehensions make of tuples; tuples of tuples. -/
namespace Fk
open PySem PySem.Spec PyProof.Rows L2
/-- at these addresses stand tuples of these things -/
def Tups (H : Hp) (as : List Addr) (ls : List (List V)) : Prop := as.length = ls.length ∧ ∀ (i : Nat) (a : Addr) (l : List V), as[i]? = some a → ls[i]? = some l → H a = some (.tup l)
def TupsAt (H : Hp) (p : Addr) (ls : List (List V)) : Prop := ∃ as : List Addr, H p = some (.tup (as.map V.ref)) ∧ Tups H as ls
/-- tuples stay -/
def TupKeep (H H' : Hp) : Prop := ∀ b xs, H b = some (.tup xs) → H' b = some (.tup xs)
theorem TupKeep.of {H H' : Hp} (s : Same H H') : TupKeep H H' := fun b xs e => s b _ e
theorem TupKeep.refl (H : Hp) : TupKeep H H := fun _ _ e => e
theorem TupKeep.trans {H H1 H2 : Hp} (a : TupKeep H H1) (b : TupKeep H1 H2) : TupKeep H H2 := fun c xs e => b c xs (a c xs e)
theorem TupKeep.at {a : Addr} {H : Hp} {o : HO} (n : ∀ xs, H a ≠ some (.tup xs)) : TupKeep H (upd H a o) := fun b xs e => by
  have z : b ≠ a := fun z => n xs (by rw [← z]; exact e)
  rw [upd_ne z]
  exact e
theorem Tups.keep {H H' : Hp} {as : List Addr} {ls : List (List V)} (t : Tups H as ls) (k : TupKeep H H') : Tups H' as ls := ⟨t.1, fun i a l h1 h2 => k _ _ (t.2 i a l h1 h2)⟩
theorem TupsAt.keep {H H' : Hp} {p : Addr} {ls : List (List V)} (t : TupsAt H p ls) (k : TupKeep H H') : TupsAt H' p ls := by
  obtain ⟨as, h, t⟩ := t
  exact ⟨as, k _ _ h, t.keep k⟩
theorem Tups.nil {H : Hp} : Tups H [] [] := ⟨rfl, fun i a l h => by simp at h⟩
theorem Tups.snoc {H : Hp} {as : List Addr} {ls : List (List V)} {a : Addr} {l : List V} (t : Tups H as ls) (h : H a = some (.tup l)) : Tups H (as ++ [a]) (ls ++ [l]) := by
  obtain ⟨e, t⟩ := t
  refine ⟨by rw [List.length_append, List.length_append, e]; rfl, fun i b m h1 h2 => ?_⟩
  by_cases hi : i < as.length
  · rw [List.getElem?_append_left hi] at h1
    rw [List.getElem?_append_left (by omega)] at h2
    exact t i b m h1 h2
  · rw [List.getElem?_append_right (by omega)] at h1
    rw [List.getElem?_append_right (by omega)] at h2
    have i1 := (List.getElem?_eq_some_iff.mp h1).1
    have e0 : i - as.length = 0 := by
      rw [List.length_singleton] at i1
      omega
    rw [e0] at h1
    rw [← e, e0] at h2
    rw [← Option.some.inj h1, ← Option.some.inj h2]
    exact h
theorem Tups.get {H : Hp} {as : List Addr} {ls : List (List V)} (t : Tups H as ls) {u : Addr × List V} (h : u ∈ as.zip ls) : H u.1 = some (.tup u.2) := by
  obtain ⟨i, hi⟩ := List.mem_iff_getElem?.mp h
  rw [List.getElem?_zip_eq_some] at hi
  exact t.2 i _ _ hi.1 hi.2
theorem zip_fst {as : List Addr} {ls : List (List V)} (e : as.length = ls.length) : (as.zip ls).map (fun u => V.ref u.1) = as.map V.ref := by
  have : (fun u : Addr × List V => V.ref u.1) = V.ref ∘ Prod.fst := rfl
  rw [this, ← List.map_map, List.map_fst_zip (by omega)]
theorem zip_snd {as : List Addr} {ls : List (List V)} (e : as.length = ls.length) : (as.zip ls).map (·.2) = ls := List.map_snd_zip (by omega)
/-- a tuple of the written part -/
def KTup (K : PySem.W.Frag) (a : Addr) (xs : List V) : Prop := ∃ (o : Obj) (its : Array Value) (n : Nat), K.lookup a = some o ∧ o.cls = .type "tuple" ∧ o.data = .seq its n ∧ its.size ≤ sizeLine ∧ Vals xs its.toList
/-- a tuple, tracked or of the written part -/
def TupK (K : PySem.W.Frag) (H : Hp) (a : Addr) (xs : List V) : Prop := H a = some (.tup xs) ∨
  ∃ (o : Obj) (its : Array Value) (n : Nat), K.lookup a = some o ∧ o.cls = .type "tuple" ∧ o.data = .seq its n ∧ its.size ≤ sizeLine ∧ Vals xs its.toList
theorem TupK.sq {K : PySem.W.Frag} {H : Hp} {a : Addr} {xs : List V} (h : TupK K H a xs) : SqT K H a xs := h.imp (fun e => .inl e) id
theorem TupK.keep {K : PySem.W.Frag} {H H' : Hp} {a : Addr} {xs : List V} (h : TupK K H a xs) (k : TupKeep H H') : TupK K H' a xs := h.imp (fun e => k _ _ e) id
def TupsK (K : PySem.W.Frag) (H : Hp) (p : Addr) (ls : List (List V)) : Prop := ∃ as : List Addr, TupK K H p (as.map V.ref) ∧ Tups H as ls
theorem TupsK.of {K : PySem.W.Frag} {H : Hp} {p : Addr} {ls : List (List V)} (h : TupsAt H p ls) : TupsK K H p ls := let ⟨as, a, b⟩ := h; ⟨as, .inl a, b⟩
theorem TupsK.keep {K : PySem.W.Frag} {H H' : Hp} {p : Addr} {ls : List (List V)} (h : TupsK K H p ls) (k : TupKeep H H') : TupsK K H' p ls := let ⟨as, a, b⟩ := h; ⟨as, a.keep k, b.keep k⟩
section
variable {α : Type} {J : It} {us : List α} {val : α → V} {G : Hp → Prop} {H1 : Hp} {D : Addr} {σ : L2.St} {vs : List Nat} {g : TG} {tt : TT} {te tk tv : TE} {Q : Hp → Prop}
/-- a list of new tuples -/
theorem lc_new (Y : Yields J (us.map val) G) (f : α → List V) (p : α → Bool) (σf : α → L2.St) (hD1 : H1 D = none) (hG : ∀ H, Same H1 H → G H) (hw : ∀ u ∈ us, wipe (σf u) vs = wipe σ vs)
    (hg : ∀ H u, Same H1 H → u ∈ us → ∀ (R : L2.St → Hp → Prop), R (σf u) H → g (val u) (wipe σ vs) H R)
    (ht : ∀ H u, Same H1 H → u ∈ us → ∀ (R : Bool → Hp → Prop), (∀ H3, Same H H3 → R (p u) H3) → tt (σf u) H R)
    (he : ∀ H u, Same H1 H → u ∈ us → p u = true → ∀ (R : VK), (∀ a H3, Same H H3 → H3 a = some (.tup (f u)) → R (.ref a) H3) → te (σf u) H R)
    (hl : us.length ≤ 1000000) (hd : ∀ as H, Same H1 H → H D = some (.lst (as.map V.ref)) → Tups H as ((us.filter p).map f) → Q H) :
    ∃ W : Nat → Nat → Hp → Prop, (∃ m, W 0 m (upd H1 D (.lst []))) ∧ ∀ k m H, W k m H →
      (J.stop k H ∧ Q H) ∨ (J.go k H ∧ ∃ Nx : Hp → Prop, (∀ H', Nx H' → ∃ m', m' < m ∧ W (k + 1) m' H') ∧ ∀ x H', J.yld k H x H' → g x (wipe σ vs) H' fun σ2 H2 => wipe σ2 vs = wipe σ vs ∧ tt σ2 H2 fun b H3 =>
        if b = true then te σ2 H3 fun y H4 => ∃ acc, H4 D = some (.lst acc) ∧ acc.length < sizeLine ∧ Nx (upd H4 D (.lst (acc ++ [y]))) else Nx H3) := by
  refine lcG Y (fun k acc H => Same H1 H ∧ ∃ as : List Addr, acc = as.map V.ref ∧ Tups H as (((us.take k).filter p).map f)) (fun k acc H h _ => hG H h.1) ⟨same_new hD1, [], rfl, by simpa using Tups.nil⟩ (fun k acc H x hI hD hx hacc hk => ?_) (by rw [List.length_map]; exact hl) (fun acc H hI hD _ => ?_)
  · obtain ⟨sm, as, ea, tp⟩ := hI
    rw [List.getElem?_map] at hx
    cases hu : us[k]? with
    | none => rw [hu] at hx; cases hx
    | some u =>
      rw [hu] at hx
      cases hx
      have hm : u ∈ us := List.mem_of_getElem? hu
      have et : us.take (k + 1) = us.take k ++ [u] := by
        rw [List.take_add_one, hu]
        rfl
      refine hg H u sm hm _ ⟨hw u hm, ?_⟩
      refine ht H u sm hm _ (fun H3 s3 => ?_)
      by_cases hp : p u = true
      · rw [if_pos hp]
        refine he H3 u (sm.trans s3) hm hp _ (fun a H4 s4 h4 => ?_)
        have hD4 := s4 _ _ (s3 _ _ hD)
        have kp : TupKeep H4 (upd H4 D (.lst (acc ++ [V.ref a]))) := TupKeep.at fun xs z => by rw [hD4] at z; cases z
        refine lc_take hD4 hacc hk ⟨same_mut ((sm.trans s3).trans s4) hD1, as ++ [a], by rw [ea, List.map_append]; rfl, ?_⟩
        rw [et, List.filter_append, List.map_append, List.filter_cons, hp]
        exact ((tp.keep (TupKeep.of (s3.trans s4))).snoc h4).keep kp
      · rw [if_neg hp]
        refine lc_skip (s3 _ _ hD) hacc ⟨sm.trans s3, as, ea, ?_⟩
        rw [et, List.filter_append, List.map_append, List.filter_cons, if_neg hp]
        simpa using tp.keep (TupKeep.of s3)
  · obtain ⟨sm, as, ea, tp⟩ := hI
    rw [List.length_map, List.take_length] at tp
    rw [ea] at hD
    exact hd as H sm hD tp
/-- a dict with texts as its keys -/
theorem dc_tab (Y : Yields J (us.map val) G) (kf : α → Str) (vf : α → V) (p : α → Bool) (σf : α → L2.St) (hD1 : H1 D = none) (hG : ∀ H, Same H1 H → G H) (hw : ∀ u ∈ us, wipe (σf u) vs = wipe σ vs)
    (hg : ∀ H u, Same H1 H → u ∈ us → ∀ (R : L2.St → Hp → Prop), R (σf u) H → g (val u) (wipe σ vs) H R)
    (ht : ∀ H u, Same H1 H → u ∈ us → ∀ (R : Bool → Hp → Prop), (∀ H3, Same H H3 → R (p u) H3) → tt (σf u) H R)
    (hk : ∀ H u, Same H1 H → u ∈ us → p u = true → ∀ (R : VK), (∀ H3, Same H H3 → R (.str (kf u)) H3) → tk (σf u) H R)
    (hv : ∀ H u, Same H1 H → u ∈ us → p u = true → ∀ (R : VK), (∀ H3, Same H H3 → R (vf u) H3) → tv (σf u) H R)
    (hl : us.length ≤ 1000000) (nd : ((us.filter p).map kf).Nodup) (hd : ∀ H, Same H1 H → H D = some (.dK (kT ((us.filter p).map fun u => (kf u, vf u)))) → Q H) :
    ∃ W : Nat → Nat → Hp → Prop, (∃ m, W 0 m (upd H1 D (.dK []))) ∧ ∀ k m H, W k m H →
      (J.stop k H ∧ Q H) ∨ (J.go k H ∧ ∃ Nx : Hp → Prop, (∀ H', Nx H' → ∃ m', m' < m ∧ W (k + 1) m' H') ∧ ∀ x H', J.yld k H x H' → g x (wipe σ vs) H' fun σ2 H2 => wipe σ2 vs = wipe σ vs ∧ tt σ2 H2 fun b H3 =>
        if b = true then tk σ2 H3 fun y H4 => tv σ2 H4 fun z H5 => ∃ kvs key, y = kV key ∧ H5 D = some (.dK kvs) ∧ kvs.length < sizeLine ∧ Nx (upd H5 D (.dK (putK kvs key z))) else Nx H3) := by
  refine dcG Y (fun k kvs H => Same H1 H ∧ kvs = kT (((us.take k).filter p).map fun u => (kf u, vf u))) (fun k acc H h _ => hG H h.1) ⟨same_new hD1, rfl⟩ (fun k kvs H x hI hD hx hacc hk' => ?_) (by rw [List.length_map]; exact hl) (fun acc H hI hD _ => ?_)
  · obtain ⟨sm, ea⟩ := hI
    rw [List.getElem?_map] at hx
    cases hu : us[k]? with
    | none => rw [hu] at hx; cases hx
    | some u =>
      rw [hu] at hx
      cases hx
      have hm : u ∈ us := List.mem_of_getElem? hu
      have et : us.take (k + 1) = us.take k ++ [u] := by
        rw [List.take_add_one, hu]
        rfl
      refine hg H u sm hm _ ⟨hw u hm, ?_⟩
      refine ht H u sm hm _ (fun H3 s3 => ?_)
      by_cases hp : p u = true
      · rw [if_pos hp]
        refine hk H3 u (sm.trans s3) hm hp _ (fun H4 s4 => ?_)
        refine hv H4 u ((sm.trans s3).trans s4) hm hp _ (fun H5 s5 => ?_)
        have new : valV (((us.take k).filter p).map fun u => (kf u, vf u)) (kf u) = none := by
          cases c : valV (((us.take k).filter p).map fun u => (kf u, vf u)) (kf u) with
          | none => rfl
          | some z =>
            have m := valV_in c
            rw [List.map_map] at m
            have e : us.filter p = (us.take k).filter p ++ (u :: (us.drop (k + 1)).filter p) := by
              conv => lhs; rw [← List.take_append_drop (k + 1) us, et, List.filter_append, List.filter_append, List.filter_cons, hp]
              simp
            rw [e, List.map_append] at nd
            have := (List.nodup_append.mp nd).2.2 (kf u) m (kf u) List.mem_cons_self
            exact absurd rfl this
        refine dc_take (key := .inr (kf u)) (s5 _ _ (s4 _ _ (s3 _ _ hD))) hacc hk' ⟨same_mut (((sm.trans s3).trans s4).trans s5) hD1, ?_⟩
        rw [ea, putK_kT, putK_new _ new, et, List.filter_append, List.map_append, List.filter_cons, hp]
        rfl
      · rw [if_neg hp]
        refine dc_skip (s3 _ _ hD) hacc ⟨sm.trans s3, ?_⟩
        rw [et, List.filter_append, List.map_append, List.filter_cons, if_neg hp]
        simp [ea]
  · obtain ⟨sm, ea⟩ := hI
    rw [List.length_map, List.take_length] at ea
    rw [ea] at hD
    exact hd H sm hD
end
theorem val_keys (f : Str → V) (z : Str) : ∀ ys : List Str, valV (ys.map fun x => (x, f x)) z = if z ∈ ys then some (f z) else none
  | [] => rfl
  | y :: r => by
    show valV ((y, f y) :: r.map fun x => (x, f x)) z = _
    by_cases h : y = z
    · rw [valV_pos h, if_pos (by rw [h]; exact List.mem_cons_self), h]
    · rw [valV_neg h, val_keys f z r]
      by_cases m : z ∈ r
      · rw [if_pos m, if_pos (List.mem_cons_of_mem _ m)]
      · rw [if_neg m, if_neg (fun k => (List.mem_cons.mp k).elim (fun e => h e.symm) m)]
/-- the rows of a table in order -/
def SortOf (t u : Tab) : Prop := sortedS (u.map (·.1)) = true ∧ (u.map (·.1)).Perm (t.map (·.1)) ∧ ∀ x, valV u x = valV t x
theorem sortOf_keys {t : Tab} {ys : List Str} (hp : ys.Perm (t.map (·.1))) (hs : sortedS ys = true) : SortOf t (ys.map fun x => (x, (valV t x).getD .non)) := by
  have e : (ys.map fun x => (x, (valV t x).getD .non)).map (·.1) = ys := by
    rw [List.map_map]
    exact List.map_id' ys
  refine ⟨by rw [e]; exact hs, by rw [e]; exact hp, fun z => ?_⟩
  rw [val_keys (fun x => (valV t x).getD .non)]
  cases c : valV t z with
  | none => rw [if_neg (fun m => by have := mem_val.mp (hp.mem_iff.mp m); rw [c] at this; cases this)]
  | some v => rw [if_pos (hp.mem_iff.mpr (mem_val.mpr (by rw [c]; rfl)))]; rfl
theorem SortOf.nd {t u : Tab} (h : SortOf t u) (n : Nd t) : Nd u := h.2.1.nodup_iff.mpr n
theorem SortOf.len {t u : Tab} (h : SortOf t u) : u.length = t.length := by
  have := h.2.1.length_eq
  rw [List.length_map, List.length_map] at this
  exact this
def rowL (e : Str × V) : List V := [.str e.1, e.2]
/-! ### moves -/
def moveL (m : Str × V × V) : List V := [.str m.1, m.2.1, m.2.2]
def newsT (ms : List (Str × V × V)) : Tab := ms.map fun m => (m.1, m.2.2)
def notNon : V → Bool
  | .non => false
  | _ => true
def keptT (t n : Tab) : Tab := t.filter fun p => (valV n p.1).isNone
def madeT (n : Tab) : Tab := n.filter fun p => notNon p.2
def afterT (t : Tab) (ms : List (Str × V × V)) : Tab := keptT t (newsT ms) ++ madeT (newsT ms)
theorem zip_ms {α : Type} {as : List Addr} {ms : List α} (e : as.length = ms.length) : (as.zip ms).map (fun u => V.ref u.1) = as.map V.ref := by
  have : (fun u : Addr × α => V.ref u.1) = V.ref ∘ Prod.fst := rfl
  rw [this, ← List.map_map, List.map_fst_zip (by omega)]
theorem tups_get {α : Type} {H : Hp} {as : List Addr} {ms : List α} {f : α → List V} (tp : Tups H as (ms.map f)) {u : Addr × α} (h : u ∈ as.zip ms) : H u.1 = some (.tup (f u.2)) := by
  obtain ⟨i, hi⟩ := List.mem_iff_getElem?.mp h
  rw [List.getElem?_zip_eq_some] at hi
  refine tp.2 i _ _ hi.1 ?_
  rw [List.getElem?_map, hi.2]
  rfl
theorem ne_of_none' {H : Hp} {D a : Addr} {o : HO} (h : H D = none) (k : H a = some o) : D ≠ a := (ne_of_none k h).symm
theorem same_unlock {H H2 : Hp} {d : Addr} {od : Obj} {u : HO} (s : Same (upd H d (.frz od u)) H2) (h : H d = some u) : Same H (upd H2 d u) := fun b o e => by
  by_cases hb : b = d
  · rw [hb, upd_same, ← h, ← hb, e]
  · rw [upd_ne hb]
    exact s _ _ (by rw [upd_ne hb]; exact e)
theorem lock_ne {H : Hp} {d D : Addr} {o : HO} (h : upd H d o D = none) : D ≠ d := fun z => by
  rw [z, upd_same] at h
  cases h
theorem lock_free {H : Hp} {d D : Addr} {o : HO} (h : upd H d o D = none) : H D = none := by
  have n := lock_ne h
  rw [upd_ne n] at h
  exact h
/-- a walk over a locked table -/
theorem yields_tab {d : Addr} {o : Obj} {t : Tab} : Yields (Itk d o (kT t)) (t.map fun e => V.str e.1) (fun H => H d = some (.frz o (.dK (kT t)))) := by
  have : (t.map fun e => V.str e.1) = (kT t).map fun p => kV p.1 := by
    unfold kT
    rw [List.map_map]
    rfl
  rw [this]
  exact yields_keys
theorem yields_zip {α : Type} {K : PySem.W.Frag} {a : Addr} {as : List Addr} {ms : List α} (e : as.length = ms.length) : Yields (Itt K a) ((as.zip ms).map fun u => V.ref u.1) (fun H => SqT K H a (as.map V.ref)) := by
  rw [zip_ms e]
  exact yields_tup
theorem nd_filter {t : Tab} (h : Nd t) (p : Str × V → Bool) : Nd (t.filter p) := List.Nodup.sublist ((List.filter_sublist).map _) h
theorem nd_news {ms : List (Str × V × V)} (h : (ms.map (·.1)).Nodup) : Nd (newsT ms) := by
  unfold Nd newsT
  rw [List.map_map]
  exact h
theorem nd_after {t : Tab} {ms : List (Str × V × V)} (h : Nd t) (k : (ms.map (·.1)).Nodup) : Nd (afterT t ms) := by
  unfold Nd afterT
  rw [List.map_append]
  refine List.nodup_append.mpr ⟨nd_filter h _, nd_filter (nd_news k) _, fun x hx y hy e => ?_⟩
  obtain ⟨p, hp, rfl⟩ := List.mem_map.mp hx
  obtain ⟨q, hq, rfl⟩ := List.mem_map.mp hy
  have h1 := (List.mem_filter.mp hp).2
  have h2 := val_nodup (nd_news k) q (List.mem_filter.mp hq).1
  rw [e, h2] at h1
  cases h1
theorem len_after {t : Tab} {ms : List (Str × V × V)} : (afterT t ms).length ≤ t.length + ms.length := by
  unfold afterT
  rw [List.length_append]
  have h1 := List.length_filter_le (fun p : Str × V => (valV (newsT ms) p.1).isNone) t
  have h2 := List.length_filter_le (fun p : Str × V => notNon p.2) (newsT ms)
  have h3 : (newsT ms).length = ms.length := List.length_map ..
  unfold keptT madeT
  omega
theorem val_app {t u : Tab} (x : Str) : valV (t ++ u) x = (valV t x).or (valV u x) := by
  induction t with
  | nil => rfl
  | cons p r ih =>
    by_cases h : p.1 = x
    · rw [List.cons_append, valV_pos h, valV_pos h]
      rfl
    · rw [List.cons_append, valV_neg h, valV_neg h, ih]
theorem merge_kT : ∀ {t u : Tab}, Nd (t ++ u) → mergeK (kT t) (kT u) = kT (t ++ u)
  | t, [], _ => by rw [List.append_nil]; rfl
  | t, p :: r, h => by
    have e : t ++ p :: r = (t ++ [p]) ++ r := by rw [List.append_assoc]; rfl
    have new : valV t p.1 = none := by
      cases c : valV t p.1 with
      | none => rfl
      | some v =>
        have h : ((t ++ p :: r).map (·.1)).Nodup := h
        rw [List.map_append] at h
        exact absurd rfl ((List.nodup_append.mp h).2.2 _ (valV_in c) p.1 List.mem_cons_self)
    show mergeK (putK (kT t) (.inr p.1) p.2) (kT r) = _
    rw [putK_kT, putK_new _ new, e]
    rw [e] at h
    exact merge_kT h
/-- what a table holds behind moves -/
theorem val_filter {t : Tab} (h : Nd t) (p : Str × V → Bool) (x : Str) : valV (t.filter p) x = (valV t x).bind fun v => if p (x, v) = true then some v else none := by
  induction t with
  | nil => rfl
  | cons q r ih =>
    obtain ⟨h1, h2⟩ := List.nodup_cons.mp (show ((q :: r).map (·.1)).Nodup from h)
    have ih := ih h2
    have nr : q.1 = x → valV r x = none := fun e => by
      cases c : valV r x with
      | none => rfl
      | some v => exact absurd (show q.1 ∈ r.map (·.1) by rw [e]; exact valV_in c) h1
    rw [List.filter_cons]
    by_cases e : q.1 = x
    · rw [valV_pos e]
      have eq : q = (x, q.2) := by rw [← e]
      by_cases hp : p q = true
      · rw [if_pos hp, valV_pos e]
        show some q.2 = if p (x, q.2) = true then some q.2 else none
        rw [← eq, if_pos hp]
      · rw [if_neg hp, ih, nr e]
        show none = if p (x, q.2) = true then some q.2 else none
        rw [← eq, if_neg hp]
    · rw [valV_neg e]
      by_cases hp : p q = true
      · rw [if_pos hp, valV_neg e, ih]
      · rw [if_neg hp, ih]
theorem val_after {t : Tab} {ms : List (Str × V × V)} (h : Nd t) (k : (ms.map (·.1)).Nodup) (x : Str) : valV (afterT t ms) x = match valV (newsT ms) x with
    | none => valV t x
    | some v => if notNon v = true then some v else none := by
  unfold afterT keptT madeT
  rw [val_app, val_filter h, val_filter (nd_news k)]
  cases c : valV (newsT ms) x with
  | none =>
    cases d : valV t x with
    | none => rfl
    | some v => simp [c]
  | some v =>
    cases d : valV t x with
    | none => simp
    | some w => simp [c]
/-! ### logs -/
/-- the table tells the logs: tuples of entries -/
def LogsOk (H : Hp) (t : Tab) (L : Str → List (List V)) : Prop := ∀ x, (valV t x = none ∧ L x = []) ∨ ∃ p, (L x ≠ [] ∧ valV t x = some (.ref p)) ∧ TupsAt H p (L x)
def logPut (L : Str → List (List V)) (x : Str) (e : List V) : Str → List (List V) := fun y => if y = x then L y ++ [e] else L y
def logMoves (L : Str → List (List V)) (note : List V) (ms : List (Str × V × V)) : Str → List (List V) := ms.foldl (fun L m => logPut L m.1 ([m.2.1, m.2.2] ++ note)) L
theorem LogsOk.keep {H H' : Hp} {t : Tab} {L : Str → List (List V)} (h : LogsOk H t L) (k : TupKeep H H') : LogsOk H' t L := fun x => (h x).imp id fun ⟨p, a, b⟩ => ⟨p, a, b.keep k⟩
theorem LogsOk.of {H : Hp} {t u : Tab} {L : Str → List (List V)} (h : LogsOk H t L) (e : ∀ x, valV u x = valV t x) : LogsOk H u L := fun x => by
  rw [e]
  exact h x
theorem LogsOk.put {H : Hp} {t : Tab} {L : Str → List (List V)} (h : LogsOk H t L) {x : Str} {p : Addr} {e : List V} (tp : TupsAt H p (L x ++ [e])) : LogsOk H (putK t x (.ref p)) (logPut L x e) := fun y => by
  unfold logPut
  rw [valV_put]
  by_cases c : y = x
  · rw [if_pos c, if_pos c, c]
    exact .inr ⟨p, ⟨List.append_ne_nil_of_right_ne_nil _ (fun z => nomatch z), rfl⟩, tp⟩
  · rw [if_neg c, if_neg c]
    exact h y
theorem len_put (t : Tab) (x : Str) (v : V) : (putK t x v).length ≤ t.length + 1 := length_putK t x v
theorem logMoves_take {L : Str → List (List V)} {note : List V} {ms : List (Str × V × V)} {i : Nat} {m : Str × V × V} (h : ms[i]? = some m) : logMoves L note (ms.take (i + 1)) = logPut (logMoves L note (ms.take i)) m.1 ([m.2.1, m.2.2] ++ note) := by
  unfold logMoves
  rw [List.take_add_one, h, List.foldl_append]
  rfl
theorem catA {K : PySem.W.Frag} {H : Hp} {a b : Addr} {xs ys : List V} {Q : VK} (ha : SqT K H a xs) (hb : H b = some (.tup ys)) (ny : ys ≠ []) (hz : xs.length + ys.length ≤ 1000000) (q : ∀ p H', Same H H' → H' p = some (.tup (xs ++ ys)) → Q (.ref p) H') : rCatA K (.ref a) (.ref b) H Q :=
  ⟨a, b, xs, ys, rfl, rfl, ha, SqT.of hb, small_line hz, fun e => q b H (Same.refl H) (by rw [e]; exact hb), fun _ e => absurd e ny, fun _ _ p hp => q p _ (same_new hp) upd_same⟩
/-- an entry is put behind the log of a name -/
theorem log_step {K : PySem.W.Frag} {H : Hp} {D2 nt : Addr} {lt : Tab} {L : Str → List (List V)} {x : Str} {v1 v2 n1 n2 n3 : V} {tk t1 t2 td tn : TE} {D : Ends} {σ : L2.St} (hD : H D2 = some (.dK (kT lt))) (lk : LogsOk H lt L) (hnt : H nt = some (.tup [n1, n2, n3]))
    (b : (L x).length ≤ 100000) (hl : lt.length ≤ 1000) (ek : ∀ H' Q, Q (.str x) H' → tk σ H' Q) (e1 : ∀ H' Q, Q v1 H' → t1 σ H' Q) (e2 : ∀ H' Q, Q v2 H' → t2 σ H' Q) (ed : ∀ H' Q, Q (.ref D2) H' → td σ H' Q) (en : ∀ H' Q, Q (.ref nt) H' → tn σ H' Q)
    (q : ∀ H' p, FrL [D2] H H' → TupKeep H H' → H' D2 = some (.dK (kT (putK lt x (.ref p)))) → LogsOk H' (putK lt x (.ref p)) (logPut L x ([v1, v2] ++ [n1, n2, n3])) → D.nx σ H') :
    sDPut td tk (tOp (rCatA K) (tDGet2 td tk (tTup tNil)) (tTup (tCons (tOp (rCatA K) (tTup (tCons t1 (tCons t2 tNil))) tn) tNil))) D σ H := by
  refine ed _ _ ⟨D2, rfl, .inl ⟨_, .inl hD⟩, ek _ _ ⟨Nat.zero_le _, fun pe hpe => ⟨valV lt x, ?_, ?_⟩⟩⟩
  · exact dget_kT (.inl (by rw [upd_ne (ne_of_none hD hpe)]; exact hD)) x
  · have s0 : Same H (upd H pe (.tup [])) := same_new hpe
    have p0 : (upd H pe (.tup [])) pe = some (.tup []) := upd_same
    generalize upd H pe (.tup []) = H0 at s0 p0
    obtain ⟨a, as, ea, ha, ta⟩ : ∃ (a : Addr) (as : List Addr), (valV lt x).getD (.ref pe) = .ref a ∧ H0 a = some (.tup (as.map V.ref)) ∧ Tups H0 as (L x) := by
      rcases lk x with ⟨e, l⟩ | ⟨p, ⟨_, e⟩, as, h, t⟩
      · exact ⟨pe, [], by rw [e]; rfl, p0, by rw [l]; exact Tups.nil⟩
      · exact ⟨p, as, by rw [e]; rfl, s0 _ _ h, t.keep (TupKeep.of s0)⟩
    rw [ea]
    have la : as.length ≤ 100000 := by rw [ta.1]; exact b
    refine e1 _ _ (e2 _ _ ⟨(by show 2 ≤ sizeLine; decide), fun p2 hp2 => en _ _ ?_⟩)
    refine catA (SqT.of upd_same) ((same_new hp2) _ _ (s0 _ _ hnt)) (fun z => nomatch z) (by show 2 + 3 ≤ _; decide) fun p3 H3 s3 h3 => ?_
    refine ⟨(by show 1 ≤ sizeLine; decide), fun p4 hp4 => ?_⟩
    have s04 : Same H0 (upd H3 p4 (.tup [V.ref p3])) := ((same_new hp2).trans s3).trans (same_new hp4)
    have h3' : (upd H3 p4 (.tup [V.ref p3])) p3 = some (.tup ([v1, v2] ++ [n1, n2, n3])) := (same_new hp4) _ _ h3
    have h4' : (upd H3 p4 (.tup [V.ref p3])) p4 = some (.tup [V.ref p3]) := upd_same
    generalize upd H3 p4 (.tup [V.ref p3]) = H4 at s04 h3' h4'
    refine catA (SqT.of (s04 _ _ ha)) h4' (fun z => nomatch z) (by rw [List.length_map]; show _ + 1 ≤ _; omega) fun p5 H5 s5 h5 => ?_
    have s05 := (s0.trans s04).trans s5
    have hD5 := s05 _ _ hD
    refine ed _ _ (ek _ _ ⟨D2, _, rfl, .inl ⟨kT lt, .inr x, hD5, rfl, small_lt (by rw [len_kT]; omega), rfl⟩, ?_⟩)
    rw [putK_kT]
    have kp : TupKeep H5 (upd H5 D2 (.dK (kT (putK lt x (.ref p5))))) := TupKeep.at fun xs z => by rw [hD5] at z; cases z
    have kp2 : TupKeep H (upd H5 D2 (.dK (kT (putK lt x (.ref p5))))) := (TupKeep.of s05).trans kp
    refine q _ p5 ((FrL.same s05).trans (FrL.at (List.mem_singleton_self D2))) kp2 upd_same ?_
    refine (lk.keep kp2).put ⟨as ++ [p3], ?_, ?_⟩
    · refine kp _ _ ?_
      rw [h5, List.map_append]
      rfl
    · exact ((ta.keep (TupKeep.of (s04.trans s5))).snoc (s5 _ _ h3')).keep kp
theorem logMoves_len (L : Str → List (List V)) (note : List V) (x : Str) : ∀ ms : List (Str × V × V), (logMoves L note ms x).length ≤ (L x).length + ms.length := by
  intro ms
  induction ms generalizing L with
  | nil => exact Nat.le_refl _
  | cons m r ih =>
    have := ih (logPut L m.1 ([m.2.1, m.2.2] ++ note))
    have e : (logPut L m.1 ([m.2.1, m.2.2] ++ note) x).length ≤ (L x).length + 1 := by
      unfold logPut
      split
      · rw [List.length_append]
        exact Nat.le_refl _
      · omega
    show (logMoves (logPut L m.1 ([m.2.1, m.2.2] ++ note)) note r x).length ≤ _
    rw [List.length_cons]
    omega
theorem dp_head {K : PySem.W.Frag} {H : Hp} {p : Addr} {a b : Str} (h : TupK K H p [.str a, .str b]) : Dp K H (.ref p) (.tuple [.str a, .str b]) := .tup h.sq (.cons (.str a) (.cons (.str b) .nil))
theorem shaped_head {a b : Str} (ha : OkS a) (hb : OkS b) : SeqAt.shaped (.tuple [.str a, .str b]) = true := by
  simp [SeqAt.shaped, PyData.canLay0, PyData.canLayAll0, strOk_of ha, strOk_of hb, PyData.depth, PyData.depthAll]
theorem eqv_head (a b c d : Str) : PyData.eqv (.tuple [.str a, .str b]) (.tuple [.str c, .str d]) = decide ((c, d) = (a, b)) := by
  simp only [PyData.eqv, PyData.eqvAll]
  rw [Bool.eq_iff_iff]
  simp only [Bool.and_eq_true, beq_iff_eq, decide_eq_true_eq, Prod.mk.injEq, and_true]
  exact ⟨fun ⟨x, y⟩ => ⟨x.symm, y.symm⟩, fun ⟨x, y⟩ => ⟨x.symm, y.symm⟩⟩
def flatN : V → Prop
  | .non => True
  | .str _ => True
  | _ => False
theorem scal_flat {x y : V} (hx : flatN x) (hy : flatN y) : scal x y = true := by
  cases x <;> cases y <;> first | rfl | exact hx.elim | exact hy.elim
def ledF (t : Tab) (x n : Str) : V := if x = "id" then .str n else (valV t n).getD .non
theorem flat_val {t : Tab} (h : ∀ e ∈ t, flatN e.2) (x : Str) : flatN ((valV t x).getD .non) := by
  induction t with
  | nil => exact True.intro
  | cons p r ih =>
    by_cases e : p.1 = x
    · rw [valV_pos e]
      exact h p List.mem_cons_self
    · rw [valV_neg e]
      exact ih fun q hq => h q (List.mem_cons_of_mem _ hq)
theorem flat_led {t : Tab} (h : ∀ e ∈ t, flatN e.2) (x n : Str) : flatN (ledF t x n) := by
  unfold ledF
  split
  · exact True.intro
  · exact flat_val h n
theorem flat_after {t : Tab} {ms : List (Str × V × V)} (h : ∀ e ∈ t, flatN e.2) (k : ∀ m ∈ ms, flatN m.2.2) : ∀ e ∈ afterT t ms, flatN e.2 := fun e he => by
  rcases List.mem_append.mp he with he | he
  · exact h e (List.mem_filter.mp he).1
  · obtain ⟨m, hm, rfl⟩ := List.mem_map.mp (List.mem_filter.mp he).1
    exact k m hm
end Fk

set_option maxHeartbeats 4000000
/-! What stands where references and edits are. -/
namespace Fk
open PySem PySem.Spec PyProof.Rows L2
/-- the fields of references -/
def rf (lk tb hd lg : Addr) : List (Str × V) := [("_locks", .ref lk), ("_table", .ref tb), ("_head", .ref hd), ("_logs", .ref lg)]
/-- the fields of an edit -/
def ef (R nt cl : Addr) (nh : V) (b : Bool) : List (Str × V) := [("_refs", .ref R), ("_note", .ref nt), ("_calls", .ref cl), ("_new_head", nh), ("closed", .bl b)]
/-- the calls of an edit: names, what they shall have, what they had -/
def CallsAt (H : Hp) (cl : Addr) (cs : List (Str × V × V)) : Prop := ∃ zs : List (Addr × (Str × V × V)), zs.map (·.2) = cs ∧ H cl = some (.dK (kT (zs.map fun z => (z.2.1, .ref z.1)))) ∧ ∀ z ∈ zs, H z.1 = some (.tup [z.2.2.1, z.2.2.2])
/-- the locks: those of closed edits and those of the edit at E -/
def LocksAt (H : Hp) (CE lk E : Addr) (n : Nat) : Prop := ∃ kt : Tab, H lk = some (.dK (kT kt)) ∧ Nd kt ∧ kt.length ≤ 64 ∧ (kt.filter fun p => decide (p.2 = .ref E)).length ≤ n ∧ ∀ p ∈ kt, p.2 = .ref E ∨ ∃ e dx fs, p.2 = .ref e ∧ H e = some (.ins CE dx fs) ∧ fs.lookup ("closed" : Str) = some (.bl true)
theorem mem_putK {t : Tab} {x : Str} {v : V} {p : Str × V} (h : p ∈ putK t x v) : p ∈ t ∨ p.2 = v := by
  unfold putK at h
  split at h
  · obtain ⟨q, hq, e⟩ := List.mem_map.mp h
    by_cases c : q.1 = x
    · rw [if_pos c] at e
      exact .inr (by rw [← e])
    · rw [if_neg c] at e
      exact .inl (by rw [← e]; exact hq)
  · rcases List.mem_append.mp h with h | h
    · exact .inl h
    · exact .inr (by rw [List.mem_singleton.mp h])
theorem LocksAt.keep {H H' : Hp} {CE lk E : Addr} {n : Nat} (h : LocksAt H CE lk E n) (e : ∀ o, H lk = some o → H' lk = some o) (k : ∀ a dx fs, H a = some (.ins CE dx fs) → fs.lookup ("closed" : Str) = some (.bl true) → H' a = some (.ins CE dx fs)) : LocksAt H' CE lk E n := by
  obtain ⟨kt, a, b, c, c', d⟩ := h
  exact ⟨kt, e _ a, b, c, c', fun p hp => (d p hp).imp id fun ⟨x, dx, fs, h1, h2, h3⟩ => ⟨x, dx, fs, h1, k _ _ _ h2 h3, h3⟩⟩
theorem LocksAt.same {H H' : Hp} {CE lk E : Addr} {n : Nat} (h : LocksAt H CE lk E n) (s : Same H H') : LocksAt H' CE lk E n := h.keep (fun o e => s _ _ e) fun _ _ _ e _ => s _ _ e
theorem FrL.out {L : List Addr} {H H' : Hp} (f : FrL L H H') {b : Addr} {o : HO} (e : H b = some o) (n : ∀ a ∈ L, b ≠ a) : H' b = some o := f b o (fun z => n b z rfl) e
theorem not1 {a b : Addr} (h : b ≠ a) : ∀ c ∈ [a], b ≠ c := fun c hc => by rw [List.mem_singleton.mp hc]; exact h
theorem not2 {a c b : Addr} (h : b ≠ a) (k : b ≠ c) : ∀ d ∈ [a, c], b ≠ d := fun d hd => by
  rcases List.mem_cons.mp hd with e | hd
  · rw [e]; exact h
  · rw [List.mem_singleton.mp hd]; exact k
theorem at_ne {H : Hp} {a b : Addr} {o u : HO} (h : H a = some o) (k : H b = some u) (n : o ≠ u) : a ≠ b := fun z => by
  rw [z, k] at h
  exact n (Option.some.inj h).symm
/-- what an edit has behind a call -/
def callPut (cs : List (Str × V × V)) (x : Str) (v o : V) : List (Str × V × V) := cs.filter (fun c => decide (c.1 ≠ x)) ++ [(x, v, o)]
theorem CallsAt.keep {H H' : Hp} {cl : Addr} {cs : List (Str × V × V)} (h : CallsAt H cl cs) (k : TupKeep H H') (e : ∀ o, H cl = some o → H' cl = some o) : CallsAt H' cl cs := by
  obtain ⟨zs, a, b, c⟩ := h
  exact ⟨zs, a, e _ b, fun z hz => k _ _ (c z hz)⟩
theorem calls_drop (zs : List (Addr × (Str × V × V))) (x : Str) : dropK (zs.map fun z => (z.2.1, V.ref z.1)) x = (zs.filter fun z => decide (z.2.1 ≠ x)).map fun z => (z.2.1, V.ref z.1) := by
  unfold dropK
  rw [List.filter_map]
  rfl
theorem calls_put {H : Hp} {cl p : Addr} {zs : List (Addr × (Str × V × V))} {x : Str} {v o : V} (hc : H cl = some (.dK (kT (putK (dropK (zs.map fun z => (z.2.1, V.ref z.1)) x) x (.ref p))))) (hz : ∀ z ∈ zs, H z.1 = some (.tup [z.2.2.1, z.2.2.2])) (hp : H p = some (.tup [v, o])) :
    CallsAt H cl (callPut (zs.map (·.2)) x v o) := by
  refine ⟨zs.filter (fun z => decide (z.2.1 ≠ x)) ++ [(p, x, v, o)], ?_, ?_, fun z h => ?_⟩
  · unfold callPut
    rw [List.map_append, List.filter_map]
    rfl
  · rw [hc, calls_drop, putK_new]
    · rw [List.map_append]
      rfl
    · rw [← calls_drop, valV_drop, if_pos rfl]
  · rcases List.mem_append.mp h with h | h
    · exact hz z (List.mem_filter.mp h).1
    · rw [List.mem_singleton.mp h]
      exact hp
/-! ### errors that are raised -/
def spErr (K : PySem.W.Frag) (f : Str) : Sp := fun vs H Q _ => ∃ (a C fI : Addr) (y : V), vs = [.ref a, y] ∧ XC K C fI ∧ PySem.W.findIn K (.ref C) f = some none ∧ H a = some (exo a C none) ∧
  ∀ dx, H dx = none → dx ≠ a → Q .non (upd (upd H dx (exd dx [(f, y)])) a (exo a C (some dx)))
structure ErrC (K : PySem.W.Frag) (mg : Str → Option Value) (nm f : Str) (C fI : Addr) : Prop where
  mgc : mg nm = some (.ref C)
  ox : OexC K C
  xc : XC K C fI
  nf : PySem.W.findIn K (.ref C) f = some none
  ini : ∃ fd, (∀ (P : Program) (w : World) (base : Heap), FnOk P w K mg base C8.CX0 1 fI fd ["self", f] (spErr K f)) ∧ Binds K fd ["self", f] []
section
variable {X : Cx} {nm f : Str} {C fI : Addr} {e : Expr} {es : List Expr} {t : TA} {p pos : Pos}
theorem rs_of (T : ErrC X.K X.mg nm f C fI) (hr : Room 2 X.A) (hg : Gl X nm) (ha : PA X (e :: es) t) (hdb : (nm == ("__debug__" : Str)) = false := by decide)
    (he : starEach (e :: es) X.env = (false, eval e X.env) :: starEach es X.env := by rfl) (hpl : (backTo pos (starEach es X.env)).any (·.1) = false := by rfl) :
    PMk X (.Call (.Name nm p) (e :: es) [] pos) (tMkO C (spErr X.K f) [] t) := by
  obtain ⟨fd, F, b⟩ := T.ini
  exact pmk_oex T.ox T.xc.iC T.xc.tI (F _ _ _) hr b .nil C8.pass0 hg T.mgc ha hdb he hpl
end
/-- an error made to be raised -/
theorem do_raise {K : PySem.W.Frag} {mg : Str → Option Value} {nm f : Str} {C fI : Addr} (T : ErrC K mg nm f C fI) {Hc : Hp} {y : V} {Q : XK} (q : ∀ d H', Same Hc H' → Hc d = none → H' d = some (.xd [(f, y)]) → Q (.ref C) (some d) H') :
    ∀ a, Hc a = none → spErr K f (.ref a :: ([y] ++ [])) (upd Hc a (exo a C none)) (fun v H2 => v = .non ∧ ∃ (d : Addr) (fs : List (Str × V)), H2 a = some (exo a C (some d)) ∧ H2 d = some (exd d fs) ∧ Hc d = none ∧ Q (.ref C) (some d) (upd (del H2 a) d (.xd fs))) (fun _ _ _ => False) := by
  intro a na
  refine ⟨a, C, fI, y, rfl, T.xc, T.nf, upd_same, fun dx nd ne => ⟨rfl, dx, [(f, y)], upd_same, by rw [upd_ne ne]; exact upd_same, ?_, ?_⟩⟩
  · rw [upd_ne ne] at nd
    exact nd
  · have nd' : Hc dx = none := by rw [upd_ne ne] at nd; exact nd
    refine q dx _ (fun b o e => ?_) nd' upd_same
    have n1 : b ≠ a := ne_of_none e na
    have n2 : b ≠ dx := ne_of_none e nd'
    rw [upd_ne n2]
    unfold del
    rw [if_neg n1, upd_ne n1, upd_ne n2, upd_ne n1]
    exact e
/-! ### what an edit moves -/
def bad (t : Tab) (c : Str × V × V) : Bool := !decide (c.2.2 = .str "") && !decide (c.2.2 = (valV t c.1).getD .non)
def staleF (t : Tab) (cs : List (Str × V × V)) : Option Str := (cs.find? (bad t)).map (·.1)
def newT (cs : List (Str × V × V)) : Tab := cs.map fun c => (c.1, c.2.1)
def rowsF (t : Tab) (cs : List (Str × V × V)) (ys : List Str) : List (Str × V × V) := ys.map fun x => (x, (valV t x).getD .non, (valV (newT cs) x).getD .non)
def movesF (t : Tab) (cs : List (Str × V × V)) (ys : List Str) : List (Str × V × V) := (rowsF t cs ys).filter fun m => !decide (m.2.1 = m.2.2)
theorem stale_at {t : Tab} {cs : List (Str × V × V)} {i : Nat} {c : Str × V × V} (h : cs[i]? = some c) (g : ∀ d ∈ cs.take i, bad t d = false) (b : bad t c = true) : staleF t cs = some c.1 := by
  have e : cs = cs.take i ++ c :: cs.drop (i + 1) := by
    have hi := (List.getElem?_eq_some_iff.mp h)
    obtain ⟨hi, hc⟩ := hi
    rw [← hc, List.getElem_cons_drop, List.take_append_drop]
  unfold staleF
  rw [e, List.find?_append]
  have n : (cs.take i).find? (bad t) = none := List.find?_eq_none.mpr fun d hd z => by rw [g d hd] at z; cases z
  rw [n, List.find?_cons, b]
  rfl
theorem stale_none {t : Tab} {cs : List (Str × V × V)} (g : ∀ d ∈ cs, bad t d = false) : staleF t cs = none := by
  unfold staleF
  rw [List.find?_eq_none.mpr fun d hd z => by rw [g d hd] at z; cases z]
  rfl
theorem movesF_nd {t : Tab} {cs : List (Str × V × V)} {ys : List Str} (h : ys.Nodup) : ((movesF t cs ys).map (·.1)).Nodup := by
  refine List.Nodup.sublist ((List.filter_sublist).map _) ?_
  unfold rowsF
  rw [List.map_map]
  have : ((fun x : Str × V × V => x.1) ∘ fun x : Str => (x, (valV t x).getD V.non, (valV (newT cs) x).getD V.non)) = id := rfl
  rw [this, List.map_id]
  exact h
theorem movesF_len (t : Tab) (cs : List (Str × V × V)) (ys : List Str) : (movesF t cs ys).length ≤ ys.length := by
  have := List.length_filter_le (fun m : Str × V × V => !decide (m.2.1 = m.2.2)) (rowsF t cs ys)
  unfold rowsF at this
  rw [List.length_map] at this
  exact this
theorem flat_new {cs : List (Str × V × V)} (h : ∀ c ∈ cs, flatN c.2.1) : ∀ e ∈ newT cs, flatN e.2 := fun e he => by
  obtain ⟨c, hc, rfl⟩ := List.mem_map.mp he
  exact h c hc
theorem flat_moves {t : Tab} {cs : List (Str × V × V)} {ys : List Str} (ht : ∀ e ∈ t, flatN e.2) (h : ∀ c ∈ cs, flatN c.2.1) : ∀ m ∈ rowsF t cs ys, flatN m.2.1 ∧ flatN m.2.2 := fun m hm => by
  obtain ⟨x, _, rfl⟩ := List.mem_map.mp hm
  exact ⟨flat_val ht x, flat_val (flat_new h) x⟩
theorem have_after {t u : Tab} {ms : List (Str × V × V)} (nt : Nd t) (so : SortOf t u) (nm : (ms.map (·.1)).Nodup) : haveF ((afterT u ms).map (·.1)) = haveF ((afterT t ms).map (·.1)) :=
  have_perm (keys_perm (nd_after (so.nd nt) nm) (nd_after nt nm) fun x => by rw [val_after (so.nd nt) nm, val_after nt nm, so.2.2])
theorem yields_zipL {α : Type} {K : PySem.W.Frag} {a : Addr} {as : List Addr} {ms : List α} (e : as.length = ms.length) : Yields (Itl K a) ((as.zip ms).map fun u => V.ref u.1) (fun H => SqL K H a (as.map V.ref)) := by
  rw [zip_ms e]
  exact yields_list
end Fk

set_option maxHeartbeats 4000000
/-! x[y] of an own class. -/
namespace Fk
open PySem PySem.Spec PyProof.Rows L2
section
variable {P : Program} {w : World} {K : PySem.W.Frag} {mg : Str → Option Value} {base : Heap} {k : Nat} {C : Addr} {m : Str} {sp : Sp}
theorem ownM_of (M : C8.Met P w K mg base k C m sp []) : OwnM P w K mg base C8.CX0 k C m sp := by
  obtain ⟨f, fd, ps, ds, _, hm, F, b, d⟩ := M.ex
  cases d
  exact ⟨f, fd, ps, hm.at_, hm.fn, F, b⟩
/-- .. whose def is known as a def -/
structure GetM (P : Program) (w : World) (K : PySem.W.Frag) (mg : Str → Option Value) (base : Heap) (k : Nat) (C : Addr) (sp : Sp) : Prop where
  ex : ∃ (f : Addr) (fd : FuncData) (ps : List Str), PySem.W.findIn K (.ref C) "__getitem__" = some (some (.ref f)) ∧ PySem.W.isFn K (.ref f) = true ∧ PySem.W.fnIn K f = true ∧ FnOk P w K mg base C8.CX0 k f fd ps sp ∧ Binds K fd ps []
theorem getM_of {qual : Str} {st : Stmt} {N ps : List Str} (D : MDef K C "__getitem__" qual st) (S : FnScope N ps (C8.fnScope st))
    (hb : ∀ (kV doc pm : Value) (an : Option Addr) (cdv ct : Value) (us : List Value), us.length = ps.length → bindArgs (PySem.W.fnOf "__getitem__" qual (C8.fnArgs st) (C8.fnBody st) (C8.fnScope st) .none kV doc pm an cdv ct) ⟨us, []⟩ = pure (ps.zip us))
    (len : ∀ vs H Q E, sp vs H Q E → vs.length = ps.length)
    (hbody : ∀ (f : Addr) (cdv : Value) (A : Around) (outer : List Env) (s : Shared) (H : Hp) (vs : List V) (Q : VK) (E : XK), Room k (A.deeper (envOfC qual (C8.fnScope st) s.heap.objs.size f cdv)) → sp vs H Q E →
      ∃ t, PSs (cxOf C8.CX0 P w K mg base N qual (C8.fnScope st) f cdv A outer s H E).nox (C8.fnBody st) t ∧ t { nx := fun _ H' => Q .non H', rt := Q } (start N vs) H) : GetM P w K mg base (k + 1) C sp := by
  obtain ⟨f, fd, F, M, df⟩ := D.ex
  have G := C8.fn0 (P := P) (w := w) (mg := mg) (base := base) F S len (hbody f)
  have b := F.binds df hb
  obtain ⟨oc, od, dV, kV, doc, pm, an, cdv, ct, osl, rfl, lk, hcd⟩ := F.ex
  refine ⟨f, _, ps, M.at_, M.fn, ?_, G, b⟩
  unfold PySem.W.fnIn
  rw [lk]
end
section
variable {X : Cx} {k : Nat} {C : Addr} {sp : Sp} {o i : Expr} {td ty : TE} {pos : Pos}
def tOwnGet (C : Addr) (sp : Sp) (td ty : TE) : TE := fun σ H Q => td σ H fun x H1 => ty σ H1 fun y H2 => ∃ (a dx : Addr) (fs : List (Str × V)), x = .ref a ∧ H2 a = some (.ins C dx fs) ∧ sp [x, y] H2 Q C8.E0
theorem pe_ownGet (M : GetM X.prog X.w X.K X.mg X.base k C sp) (hr : Room (k + 1) X.A) (ho : PE X o td) (hi : PE X i ty)
    (hsl : ∀ x iv, subscripted i true (.ref x) iv = runValue (.builtin "lifetime.subscript" ⟨[.ref x, iv], []⟩) := by intro _ _; with_unfolding_all rfl) : PE X (.Subscript o i pos) (tOwnGet C sp td ty) := by
  refine ⟨fun pins s σ H Q I h => ?_⟩
  refine Subscript_ (thn (ho.run pins s σ H _ I h) fun v s1 ⟨x, H1, I1, rx, q1⟩ => thn (hi.run pins s1 σ H1 _ I1 q1) fun u s2 ⟨y, H2, I2, ry, a, dx, fs, ex, ha, q⟩ => ?_)
  subst ex
  obtain rfl : v = Value.ref a := rx
  obtain ⟨f, fd, ps, hs, hf, hfi, F, hb⟩ := M.ex
  obtain ⟨mA, J, _⟩ := ins_get I2.hok ha
  obtain ⟨od, J, _⟩ := J.look
  obtain ⟨m, hF⟩ := I2.fr
  exact PySem.W.sub_K hF I2.ok.mod.kin J hs hfi hf (run_in F hr.in1 I2.env0.in1 hb noEx0 I2 (show Vals [V.ref a, y] [Value.ref a, u] from .cons rfl (.cons ry .nil)) q) (hsl _ _)
end
end Fk

set_option maxHeartbeats 4000000
/-! xs[::-1] of a list, t[::-1] of a tuple. -/
namespace Fk
open PySem PySem.Spec PyProof.Rows L2 HT
theorem back_places (n : Nat) : Builtin.Slice.sliceAdjust none none (-1) (n : Int) = ((n : Int) - 1, -1) ∧ Builtin.Slice.slicePlaces ((n : Int) - 1) (-1) (-1) = n := by
  constructor
  · first | rfl | simp [Builtin.Slice.sliceAdjust]
  · unfold Builtin.Slice.slicePlaces
    rw [if_neg (by decide)]
    by_cases h : (n : Int) - 1 > -1
    · rw [if_pos h, show (- -1 : Int) = 1 by decide, Int.ediv_one]
      omega
    · rw [if_neg h]
      omega
theorem sliceApplied_back {prog : Program} {w : World} {A : Around} {E : Value → Shared → Prop} {s : Shared} {sl : Addr} {vk : Value} {n : Nat} {Q : Int × Int × Nat → Shared → Prop} (hs : s.heap.IsSliceOf sl .none .none vk) (pk : IsPart vk (some (-1)))
    (h : Q ((n : Int) - 1, -1, n) s) : wpAny (model prog w) A (Builtin.Slice.sliceApplied (.ref sl) (pure (n : Int))) Q E s := by
  obtain ⟨os, hos, hcs, hds⟩ := id hs
  unfold Builtin.Slice.sliceApplied Builtin.Slice.sliceFields
  refine wpAny_bind (wpAny_bind (wpAny_field hos hds (x := .none) rfl (wpAny_bind (wpAny_field hos hds (x := .none) rfl (wpAny_bind (wpAny_field hos hds (x := vk) rfl (wpAny_pure ?_)))))))
  refine wpAny_bind (slicePart_ pk ?_)
  show wpAny _ _ (if ((-1 : Int) == 0) = true then _ else _) _ _ s
  rw [if_neg (by decide)]
  refine wpAny_bind (slicePart_ .none (wpAny_bind (slicePart_ .none (wpAny_bind (wpAny_pure ?_)))))
  show wpAny _ _ (match Builtin.Slice.sliceAdjust none none (-1) (n : Int) with | (lo, hi) => pure (lo, (-1 : Int), Builtin.Slice.slicePlaces lo hi (-1))) _ _ s
  rw [(back_places n).1]
  show wpAny _ _ (pure ((n : Int) - 1, (-1 : Int), Builtin.Slice.slicePlaces ((n : Int) - 1) (-1) (-1))) _ _ s
  rw [(back_places n).2]
  exact wpAny_pure h
theorem fm_congr {α β : Type} {f g : α → Option β} : ∀ {l : List α}, (∀ x ∈ l, f x = g x) → l.filterMap f = l.filterMap g
  | [], _ => rfl
  | a :: r, h => by
    rw [List.filterMap_cons, List.filterMap_cons, h a List.mem_cons_self, fm_congr fun x hx => h x (List.mem_cons_of_mem _ hx)]
theorem pick_back (items : Array Value) : ((List.range items.size).filterMap fun (k : Nat) => items[((items.size : Int) - 1 + (k : Int) * (-1)).toNat]?) = items.toList.reverse := by
  have e : ((List.range items.size).filterMap fun (k : Nat) => items[((items.size : Int) - 1 + (k : Int) * (-1)).toNat]?) = ((List.range items.size).map fun k => items.size - 1 - k).filterMap (items[·]?) := by
    rw [List.filterMap_map]
    refine fm_congr fun k hk => ?_
    have := List.mem_range.mp hk
    show _ = items[items.size - 1 - k]?
    congr 1
    omega
  rw [e, PySem.W.krv_range, List.filterMap_reverse, PySem.W.krv_all]
theorem getItem_tuple_back {prog : Program} {w : World} {A : Around} {E : Value → Shared → Prop} {s : Shared} {t sl : Addr} {items : Array Value} {vk : Value} {Q : Value → Shared → Prop} (ht : IsTup s.heap t items) (hs : s.heap.IsSliceOf sl .none .none vk) (pk : IsPart vk (some (-1)))
    (h : Q (.ref s.heap.objs.size) { s with heap := s.heap.push { cls := .type "tuple", data := .seq items.toList.reverse.toArray } }) (hsz : items.size ≤ sizeLine) : wpAny (model prog w) A (getItem (.ref t) (.ref sl)) Q E s := by
  have htake : sizeOk (.seq items.toList.reverse.toArray) := by
    show items.toList.reverse.toArray.size ≤ sizeLine
    rw [List.size_toArray, List.length_reverse, Array.length_toList]
    exact hsz
  obtain ⟨os, hos, hcs, hds⟩ := id hs
  have hTs : s.TypeIs (.ref sl) "slice" := ⟨os, hos, hcs⟩
  unfold getItem
  try with_reducible refine wpAny_holding ?_
  first | refine wpAny_bind (wpAny_pure ?_) | skip
  refine wpAny_bind (wpAny_sequenceKey ht.typeIs (by decide) ?_)
  refine wpAny_bind (wpAny_callSpecial?_slot (name := Str.ofString "__getitem__") ht.typeIs PyProof.Rows.slot_tuple_getitem
    (wpAny_call_entry PyProof.Rows.slot_tuple_getitem ht.typeIs entry_tuple_getitem ?_ (args_tuple_getitem _ _)))
  show wpAny _ _ (Builtin.Tuple.tupleItemsOf (.ref t) >>= _) _ _ s
  refine wpAny_bind (tupleItemsOf_ ht ?_)
  refine wpAny_bind (wpAny_typeOf hTs ?_)
  rw [if_pos (by decide)]
  refine wpAny_bind (sliceApplied_back hs pk ?_)
  have hno : ¬ ((((items.size : Int) - 1) == 0 && (-1 : Int) == 1 && items.size == items.size) = true) := by
    rw [show ((-1 : Int) == 1) = false from by decide, Bool.and_false, Bool.false_and]
    exact Bool.false_ne_true
  show wpAny _ _ (if (((items.size : Int) - 1) == 0 && (-1 : Int) == 1 && items.size == items.size) = true then _ else _) _ _ s
  rw [if_neg hno, pick_back]
  first
    | exact wpAny_bind (m := Builtin.Tuple.tupleExact _) (wpAny_newObj_type (wpAny_pure ⟨_, rfl, wpAny_pure h⟩) htake)
    | exact wpAny_bind (m := Builtin.Tuple.tupleExact _) (wpAny_newObj_type (wpAny_bind (wpAny_pure (wpAny_pure ⟨_, rfl, wpAny_pure h⟩))) htake)
    | exact wpAny_bind (wpAny_bind (m := Builtin.Tuple.tupleExact _) (wpAny_newObj_type (wpAny_pure (wpAny_pure ⟨_, rfl, wpAny_pure h⟩)) htake))
    | exact wpAny_bind (wpAny_bind (m := Builtin.Tuple.tupleExact _) (wpAny_newObj_type (wpAny_pure ⟨_, rfl, wpAny_pure h⟩) htake))
def rBack (K : PySem.W.Frag) : V → Hp → VK → Prop := fun x H Q => (∃ a xs, x = .ref a ∧ SqL K H a xs ∧ ∀ p, H p = none → Q (.ref p) (upd H p (.lst xs.reverse))) ∨ ∃ a xs, x = .ref a ∧ SqT K H a xs ∧ ∀ p, H p = none → Q (.ref p) (upd H p (.tup xs.reverse))
def tBack (K : PySem.W.Frag) (te ts : TE) : TE := fun σ H Q => te σ H fun x H1 => ts σ H1 fun y H2 => y = .int (-1) ∧ rBack K x H2 Q
theorem vals_rev {xs : List V} {us : List Value} (r : Vals xs us) : Vals xs.reverse us.reverse := by
  induction r with
  | nil => exact .nil
  | cons h t ih =>
    rw [List.reverse_cons, List.reverse_cons]
    exact ih.append (.cons h .nil)
/-- e[::-1] -/
theorem pe_back {X : Cx} {e st : Expr} {te ts : TE} {p2 pos : Pos} (he : PE X e te) (hst : PE X st ts) (hp : evalPart (some st) X.env = eval st X.env := by rfl)
    (hsub : ∀ x sl : Addr, ∃ ops, subscripted (.Slice none none (some st) p2) false (.ref x) (.ref sl) = operate ops (getItem (.ref x) (.ref sl)) := by intro x sl; exact ⟨_, by with_unfolding_all rfl⟩) : PE X (.Subscript e (.Slice none none (some st) p2) pos) (tBack X.K te ts) := by
  refine ⟨fun pins s σ H Q I h => ?_⟩
  refine Subscript_ (thn (he.run pins s σ H _ I h) fun v s1 ⟨x, H1, I1, r1, q1⟩ => ?_)
  refine wpAny_Slice ?_
  rw [evalPart_none]
  refine wpAny_pure (wpAny_pure ?_)
  rw [hp]
  refine thn (hst.run pins s1 σ H1 _ I1 q1) fun vk s3 ⟨y, H3, I3, pk, ey, q3⟩ => ?_
  subst ey
  obtain ⟨tk, rfl⟩ := (show ∃ t, vk = Value.int (-1) t from pk)
  have pk' : IsPart (.int (-1) tk) (some (-1)) := .int _ _
  have I4 : Inv X pins σ H3 { s3 with heap := s3.heap.push { cls := .type "slice", data := .fields #[.none, .none, .int (-1) tk] } } := I3.kept (t' := s3.toks) fun b ob q => Heap.get?_push_of_some _ q
  have hs : Heap.IsSliceOf (s3.heap.push { cls := .type "slice", data := .fields #[.none, .none, .int (-1) tk] }) s3.heap.objs.size .none .none (.int (-1) tk) := Heap.IsSliceOf.new ..
  generalize hS : ({ s3 with heap := s3.heap.push { cls := .type "slice", data := .fields #[.none, .none, .int (-1) tk] } } : Shared) = S at I4
  have hs' : S.heap.IsSliceOf s3.heap.objs.size .none .none (.int (-1) tk) := by rw [← hS]; exact hs
  show wpAny (model X.prog X.w) X.A (subscriptTail e (.Slice none none (some st) p2) v (.ref s3.heap.objs.size)) (EP X pins σ Q) X.xe S
  rcases q3 with ⟨a, xs, rfl, hx, q⟩ | ⟨a, xs, rfl, hx, q⟩
  · cases (show v = Value.ref a from r1)
    obtain ⟨its, r, hl, hz⟩ := I4.list hx
    have hlen : its.toArray.size = xs.length := by rw [List.size_toArray]; exact r.length.symm
    obtain ⟨ops, eo⟩ := hsub a s3.heap.objs.size
    refine tail_any (T := "list") (ops := ops) hl.isList.typeIs slot_list_getitem.lookup ?_ eo
    refine wpAny_getItem_list_slice hl.isList hs' .none .none pk' (by decide) ?_ (by rw [hlen]; exact hz)
    rw [PySem.W.krv_pick]
    refine ⟨.ref S.heap.objs.size, _, I4.laid (t' := S.toks) (o := .lst xs.reverse) (fun b ob q => Heap.get?_push_of_some _ q) (Nat.le_refl _) ?_, rfl, q _ (I4.hok.fresh (Nat.le_refl _))⟩
    exact ⟨by rw [List.length_reverse]; exact hz, _, 0, (vals_rev r), Heap.get?_push_size _ rfl⟩
  · cases (show v = Value.ref a from r1)
    obtain ⟨its, r, ht, hz⟩ := I4.tuple hx
    have hlen : its.toArray.size = xs.length := by rw [List.size_toArray]; exact r.length.symm
    obtain ⟨ops, eo⟩ := hsub a s3.heap.objs.size
    refine tail_any (T := "tuple") (ops := ops) ht.typeIs PyProof.Rows.slot_tuple_getitem.lookup ?_ eo
    refine getItem_tuple_back ht hs' pk' ?_ (by rw [hlen]; exact hz)
    refine ⟨.ref S.heap.objs.size, _, I4.laid (t' := S.toks) (o := .tup xs.reverse) (fun b ob q => Heap.get?_push_of_some _ q) (Nat.le_refl _) ?_, rfl, q _ (I4.hok.fresh (Nat.le_refl _))⟩
    exact ⟨by rw [List.length_reverse]; exact hz, _, (vals_rev r), IsTup.new _ _⟩
end Fk

set_option maxHeartbeats 4000000
namespace Fk
open PySem PySem.Spec PyProof.Rows L2
def top (i : Nat) : Stmt := PySem.Challenge.pw_forkhaul_k33_edits_open_at_the_same_time.main.body.getD i (.Pass ⟨0, 0, 0, 0⟩)
abbrev s__wall : Stmt := top 0
theorem sc__wall : FnScope ["k"] ["k"] (C8.fnScope s__wall) := C8.fnScope_by (by decide +kernel)

abbrev s_ForkError_init : Stmt := inClass (top 2) 0
theorem sc_ForkError_init : FnScope ["self", "why"] ["self", "why"] (C8.fnScope s_ForkError_init) := C8.fnScope_by (by decide +kernel)

abbrev s_Locked_init : Stmt := inClass (top 6) 0
theorem sc_Locked_init : FnScope ["self", "ref"] ["self", "ref"] (C8.fnScope s_Locked_init) := C8.fnScope_by (by decide +kernel)

abbrev s_Stale_init : Stmt := inClass (top 7) 0
theorem sc_Stale_init : FnScope ["self", "ref"] ["self", "ref"] (C8.fnScope s_Stale_init) := C8.fnScope_by (by decide +kernel)

abbrev s_NoRef_init : Stmt := inClass (top 8) 0
theorem sc_NoRef_init : FnScope ["self", "name"] ["self", "name"] (C8.fnScope s_NoRef_init) := C8.fnScope_by (by decide +kernel)

abbrev s_is_id : Stmt := top 16
theorem sc_is_id : FnScope ["thing"] ["thing"] (C8.fnScope s_is_id) := C8.fnScope_by (by decide +kernel)

abbrev s_is_id_or_none : Stmt := top 17
theorem sc_is_id_or_none : FnScope ["thing"] ["thing"] (C8.fnScope s_is_id_or_none) := C8.fnScope_by (by decide +kernel)

abbrev s_is_ref : Stmt := top 18
theorem sc_is_ref : FnScope ["thing", "segments", "most", "segment"] ["thing"] (C8.fnScope s_is_ref) := C8.fnScope_by (by decide +kernel)

abbrev s_is_short_ref : Stmt := top 19
theorem sc_is_short_ref : FnScope ["thing"] ["thing"] (C8.fnScope s_is_short_ref) := C8.fnScope_by (by decide +kernel)

abbrev s_is_text : Stmt := top 20
theorem sc_is_text : FnScope ["thing"] ["thing"] (C8.fnScope s_is_text) := C8.fnScope_by (by decide +kernel)

abbrev s_is_message : Stmt := top 21
theorem sc_is_message : FnScope ["thing"] ["thing"] (C8.fnScope s_is_message) := C8.fnScope_by (by decide +kernel)

abbrev s_is_time : Stmt := top 22
theorem sc_is_time : FnScope ["thing"] ["thing"] (C8.fnScope s_is_time) := C8.fnScope_by (by decide +kernel)

abbrev s_is_count : Stmt := top 23
theorem sc_is_count : FnScope ["thing"] ["thing"] (C8.fnScope s_is_count) := C8.fnScope_by (by decide +kernel)

abbrev s_ascending : Stmt := top 24
theorem sc_ascending : FnScope ["names", "name"] ["names"] (C8.fnScope s_ascending) := C8.fnScope_by (by decide +kernel)

abbrev s_prefixes : Stmt := top 25
theorem sc_prefixes : FnScope ["path", "segments", "many"] ["path"] (C8.fnScope s_prefixes) := C8.fnScope_by (by decide +kernel)

abbrev s_have_prefixes : Stmt := top 26
theorem sc_have_prefixes : FnScope ["paths", "path", "prefix"] ["paths"] (C8.fnScope s_have_prefixes) := C8.fnScope_by (by decide +kernel)

abbrev s__is_word : Stmt := top 27
theorem sc__is_word : FnScope ["thing", "signs"] ["thing", "signs"] (C8.fnScope s__is_word) := C8.fnScope_by (by decide +kernel)

abbrev s_is_state : Stmt := top 30
theorem sc_is_state : FnScope ["thing", "rows", "head", "logs", "ids", "ref", "name", "entries"] ["thing"] (C8.fnScope s_is_state) := C8.fnScope_by (by decide +kernel)

abbrev s_is_head : Stmt := top 31
theorem sc_is_head : FnScope ["thing", "word", "name"] ["thing"] (C8.fnScope s_is_head) := C8.fnScope_by (by decide +kernel)

abbrev s_is_log_name : Stmt := top 32
theorem sc_is_log_name : FnScope ["thing"] ["thing"] (C8.fnScope s_is_log_name) := C8.fnScope_by (by decide +kernel)

abbrev s_touch : Stmt := top 33
theorem sc_touch : FnScope ["one", "other"] ["one", "other"] (C8.fnScope s_touch) := C8.fnScope_by (by decide +kernel)

abbrev s_led_to : Stmt := top 34
theorem sc_led_to : FnScope ["ids", "head", "word", "name"] ["ids", "head"] (C8.fnScope s_led_to) := C8.fnScope_by (by decide +kernel)

abbrev s_moved : Stmt := top 35
theorem sc_moved : FnScope ["state", "moves", "head", "note", "rows", "old_head", "logs", "old_ids", "ref", "name", "ids", "entries", "log", "old", "new", "before", "behind"] ["state", "moves", "head", "note"] (C8.fnScope s_moved) := C8.fnScope_by (by decide +kernel)

abbrev s_after_moves : Stmt := top 36
theorem sc_after_moves : FnScope ["ids", "moves", "news", "ref", "_", "new", "kept", "made"] ["ids", "moves"] (C8.fnScope s_after_moves) := C8.fnScope_by (by decide +kernel)

abbrev s_sorted_rows : Stmt := top 37
theorem sc_sorted_rows : FnScope ["table", "name"] ["table"] (C8.fnScope s_sorted_rows) := C8.fnScope_by (by decide +kernel)

abbrev s_are_rows : Stmt := top 38
theorem sc_are_rows : FnScope ["thing", "row", "after"] ["thing"] (C8.fnScope s_are_rows) := C8.fnScope_by (by decide +kernel)

abbrev s__are_entries : Stmt := top 39
theorem sc__are_entries : FnScope ["thing", "entry"] ["thing"] (C8.fnScope s__are_entries) := C8.fnScope_by (by decide +kernel)

abbrev s__is_entry : Stmt := top 40
theorem sc__is_entry : FnScope ["thing", "old", "new", "who", "time", "message"] ["thing"] (C8.fnScope s__is_entry) := C8.fnScope_by (by decide +kernel)

abbrev s_Edit_init : Stmt := inClass (top 42) 0
theorem sc_Edit_init : FnScope ["self", "refs", "note"] ["self", "refs", "note"] (C8.fnScope s_Edit_init) := C8.fnScope_by (by decide +kernel)

abbrev s_Edit_point : Stmt := inClass (top 42) 1
theorem sc_Edit_point : FnScope ["self", "ref", "new", "old"] ["self", "ref", "new", "old"] (C8.fnScope s_Edit_point) := C8.fnScope_by (by decide +kernel)

abbrev s_Edit_delete : Stmt := inClass (top 42) 2
theorem sc_Edit_delete : FnScope ["self", "ref", "old"] ["self", "ref", "old"] (C8.fnScope s_Edit_delete) := C8.fnScope_by (by decide +kernel)

abbrev s_Edit_stand : Stmt := inClass (top 42) 3
theorem sc_Edit_stand : FnScope ["self", "word", "name"] ["self", "word", "name"] (C8.fnScope s_Edit_stand) := C8.fnScope_by (by decide +kernel)

abbrev s_Edit_finish : Stmt := inClass (top 42) 4
theorem sc_Edit_finish : FnScope ["self"] ["self"] (C8.fnScope s_Edit_finish) := C8.fnScope_by (by decide +kernel)

abbrev s_Edit_drop : Stmt := inClass (top 42) 5
theorem sc_Edit_drop : FnScope ["self"] ["self"] (C8.fnScope s_Edit_drop) := C8.fnScope_by (by decide +kernel)

abbrev s_Edit_moves : Stmt := inClass (top 42) 6
theorem sc_Edit_moves : FnScope ["self", "ids", "ref", "old", "rows", "moves", "new"] ["self"] (C8.fnScope s_Edit_moves) := C8.fnScope_by (by decide +kernel)

abbrev s_Edit_behind : Stmt := inClass (top 42) 7
theorem sc_Edit_behind : FnScope ["self", "moves", "state", "head"] ["self"] (C8.fnScope s_Edit_behind) := C8.fnScope_by (by decide +kernel)

abbrev s_Edit_enter : Stmt := inClass (top 42) 8
theorem sc_Edit_enter : FnScope ["self"] ["self"] (C8.fnScope s_Edit_enter) := C8.fnScope_by (by decide +kernel)

abbrev s_Edit_exit : Stmt := inClass (top 42) 9
theorem sc_Edit_exit : FnScope ["self", "kind", "value", "trace"] ["self", "kind", "value", "trace"] (C8.fnScope s_Edit_exit) := C8.fnScope_by (by decide +kernel)

abbrev s_Editcheck_open : Stmt := inClass (top 42) 10
theorem sc_Editcheck_open : FnScope ["self"] ["self"] (C8.fnScope s_Editcheck_open) := C8.fnScope_by (by decide +kernel)

abbrev s_Editcall : Stmt := inClass (top 42) 11
theorem sc_Editcall : FnScope ["self", "ref", "new", "old"] ["self", "ref", "new", "old"] (C8.fnScope s_Editcall) := C8.fnScope_by (by decide +kernel)

abbrev s_Editids : Stmt := inClass (top 42) 12
theorem sc_Editids : FnScope ["self", "ref", "name"] ["self"] (C8.fnScope s_Editids) := C8.fnScope_by (by decide +kernel)

abbrev s_Refs_init : Stmt := inClass (top 44) 0
theorem sc_Refs_init : FnScope ["self", "state"] ["self", "state"] (C8.fnScope s_Refs_init) := C8.fnScope_by (by decide +kernel)

abbrev s_Refs_getitem : Stmt := inClass (top 44) 1
theorem sc_Refs_getitem : FnScope ["self", "ref"] ["self", "ref"] (C8.fnScope s_Refs_getitem) := C8.fnScope_by (by decide +kernel)

abbrev s_Refs_contains : Stmt := inClass (top 44) 2
theorem sc_Refs_contains : FnScope ["self", "ref"] ["self", "ref"] (C8.fnScope s_Refs_contains) := C8.fnScope_by (by decide +kernel)

abbrev s_Refs_len : Stmt := inClass (top 44) 3
theorem sc_Refs_len : FnScope ["self"] ["self"] (C8.fnScope s_Refs_len) := C8.fnScope_by (by decide +kernel)

abbrev s_Refs_iter : Stmt := inClass (top 44) 4
theorem sc_Refs_iter : FnScope ["self"] ["self"] (C8.fnScope s_Refs_iter) := C8.fnScope_by (by decide +kernel)

abbrev s_Refs_names : Stmt := inClass (top 44) 5
theorem sc_Refs_names : FnScope ["self"] ["self"] (C8.fnScope s_Refs_names) := C8.fnScope_by (by decide +kernel)

abbrev s_Refs_head : Stmt := inClass (top 44) 6
theorem sc_Refs_head : FnScope ["self"] ["self"] (C8.fnScope s_Refs_head) := C8.fnScope_by (by decide +kernel)

abbrev s_Refs_at_head : Stmt := inClass (top 44) 7
theorem sc_Refs_at_head : FnScope ["self"] ["self"] (C8.fnScope s_Refs_at_head) := C8.fnScope_by (by decide +kernel)

abbrev s_Refs_state : Stmt := inClass (top 44) 8
theorem sc_Refs_state : FnScope ["self"] ["self"] (C8.fnScope s_Refs_state) := C8.fnScope_by (by decide +kernel)

abbrev s_Refs_log : Stmt := inClass (top 44) 9
theorem sc_Refs_log : FnScope ["self", "name"] ["self", "name"] (C8.fnScope s_Refs_log) := C8.fnScope_by (by decide +kernel)

abbrev s_Refs_back : Stmt := inClass (top 44) 10
theorem sc_Refs_back : FnScope ["self", "name", "n"] ["self", "name", "n"] (C8.fnScope s_Refs_back) := C8.fnScope_by (by decide +kernel)

abbrev s_Refs_expire : Stmt := inClass (top 44) 11
theorem sc_Refs_expire : FnScope ["self", "now", "age"] ["self", "now", "age"] (C8.fnScope s_Refs_expire) := C8.fnScope_by (by decide +kernel)

abbrev s_Refs_edit : Stmt := inClass (top 44) 12
theorem sc_Refs_edit : FnScope ["self", "who", "time", "message"] ["self", "who", "time", "message"] (C8.fnScope s_Refs_edit) := C8.fnScope_by (by decide +kernel)

abbrev s_Refs_lock : Stmt := inClass (top 44) 13
theorem sc_Refs_lock : FnScope ["self", "ref", "edit", "held", "name", "barring"] ["self", "ref", "edit"] (C8.fnScope s_Refs_lock) := C8.fnScope_by (by decide +kernel)

abbrev s_Refs_become : Stmt := inClass (top 44) 14
theorem sc_Refs_become : FnScope ["self", "state"] ["self", "state"] (C8.fnScope s_Refs_become) := C8.fnScope_by (by decide +kernel)

abbrev s_Refs_copied : Stmt := inClass (top 44) 15
theorem sc_Refs_copied : FnScope ["self"] ["self"] (C8.fnScope s_Refs_copied) := C8.fnScope_by (by decide +kernel)

abbrev s_Refstake_over : Stmt := inClass (top 44) 16
theorem sc_Refstake_over : FnScope ["self", "state", "rows", "head", "logs", "ref", "name", "entries"] ["self", "state"] (C8.fnScope s_Refstake_over) := C8.fnScope_by (by decide +kernel)

abbrev s_Refscount_entries : Stmt := inClass (top 44) 17
theorem sc_Refscount_entries : FnScope ["self"] ["self"] (C8.fnScope s_Refscount_entries) := C8.fnScope_by (by decide +kernel)

abbrev s_l_cell_at : Stmt := top 46
theorem sc_l_cell_at : FnScope ["_law_script", "_law_k"] ["_law_script", "_law_k"] (C8.fnScope s_l_cell_at) := C8.fnScope_by (by decide +kernel)

abbrev s_l_source : Stmt := top 47
theorem sc_l_source : FnScope ["_law_cell"] ["_law_cell"] (C8.fnScope s_l_source) := C8.fnScope_by (by decide +kernel)

abbrev s_l_draw : Stmt := top 48
theorem sc_l_draw : FnScope ["_law_source_here", "_law_size", "_law_digit", "_law_number"] ["_law_source_here", "_law_size"] (C8.fnScope s_l_draw) := C8.fnScope_by (by decide +kernel)

abbrev s_l_pick : Stmt := top 49
theorem sc_l_pick : FnScope ["_law_source_here", "_law_items"] ["_law_source_here", "_law_items"] (C8.fnScope s_l_pick) := C8.fnScope_by (by decide +kernel)

abbrev s_l_ref : Stmt := top 50
theorem sc_l_ref : FnScope ["_law_source_here", "_law_some"] ["_law_source_here"] (C8.fnScope s_l_ref) := C8.fnScope_by (by decide +kernel)

abbrev s_l_id : Stmt := top 51
theorem sc_l_id : FnScope ["_law_source_here"] ["_law_source_here"] (C8.fnScope s_l_id) := C8.fnScope_by (by decide +kernel)

abbrev s_l_new : Stmt := top 52
theorem sc_l_new : FnScope [] [] (C8.fnScope s_l_new) := C8.fnScope_by (by decide +kernel)

abbrev s_l_at_head : Stmt := top 53
theorem sc_l_at_head : FnScope ["_law_m"] ["_law_m"] (C8.fnScope s_l_at_head) := C8.fnScope_by (by decide +kernel)

abbrev s_l_above : Stmt := top 54
theorem sc_l_above : FnScope ["_law_ref_here", "_law_parts", "_law_k"] ["_law_ref_here"] (C8.fnScope s_l_above) := C8.fnScope_by (by decide +kernel)

abbrev s_l_behind : Stmt := top 55
theorem sc_l_behind : FnScope ["_law_m", "_law_calls", "_law_stands_here", "_law_signed", "_law_ref_here", "_law_value", "_law_had", "_law_new_here", "_law_prefix", "_law_call", "_law_entry"] ["_law_m", "_law_calls", "_law_stands_here", "_law_signed"] (C8.fnScope s_l_behind) := C8.fnScope_by (by decide +kernel)

abbrev s_l_stands : Stmt := top 56
theorem sc_l_stands : FnScope ["_law_refs", "_law_m", "_law_ref_here", "_law_name"] ["_law_refs", "_law_m"] (C8.fnScope s_l_stands) := C8.fnScope_by (by decide +kernel)

abbrev s_l_noted : Stmt := top 57
theorem sc_l_noted : FnScope ["_law_source_here", "_law_edit", "_law_m", "_law_calls", "_law_stands_here", "_law_k", "_law_way", "_law_ref_here", "_law_had", "_law_call"] ["_law_source_here", "_law_edit", "_law_m"] (C8.fnScope s_l_noted) := C8.fnScope_by (by decide +kernel)

abbrev s_l_finished : Stmt := top 58
theorem sc_l_finished : FnScope ["_law_edit", "e"] ["_law_edit"] (C8.fnScope s_l_finished) := C8.fnScope_by (by decide +kernel)

abbrev s_l_edited : Stmt := top 59
theorem sc_l_edited : FnScope ["_law_source_here", "_law_refs", "_law_m", "_law_signed", "_law_edit", "_law_calls", "_law_stands_here", "_law_due", "_law_told"] ["_law_source_here", "_law_refs", "_law_m"] (C8.fnScope s_l_edited) := C8.fnScope_by (by decide +kernel)

abbrev s_l_near : Stmt := top 60
theorem sc_l_near : FnScope ["_law_one", "_law_other"] ["_law_one", "_law_other"] (C8.fnScope s_l_near) := C8.fnScope_by (by decide +kernel)

abbrev s_l_called : Stmt := top 61
theorem sc_l_called : FnScope ["_law_edit", "_law_call", "e"] ["_law_edit", "_law_call"] (C8.fnScope s_l_called) := C8.fnScope_by (by decide +kernel)

abbrev s_l_call_right : Stmt := top 62
theorem sc_l_call_right : FnScope ["_law_source_here", "_law_works", "_law_at", "_law_ref_here", "_law_call", "_law_name", "_law_locks", "_law_k", "_law_work", "_law_near_here", "_law_lock", "_law_told", "_law_one"] ["_law_source_here", "_law_works", "_law_at"] (C8.fnScope s_l_call_right) := C8.fnScope_by (by decide +kernel)

abbrev s_law : Stmt := top 63
theorem sc_law : FnScope ["_law_script", "_law_cell", "_law_source_here", "_law_refs", "_law_m", "_law_works", "_law_turn", "_law_way", "_law_work", "_law_at", "_law_due", "_law_told"] ["_law_script"] (C8.fnScope s_law) := C8.fnScope_by (by decide +kernel)

structure Top (K : PySem.W.Frag) (mg : Str → Option Value) : Prop where
  d_is_id : IsDef K mg "is_id" s_is_id
  d_is_ref : IsDef K mg "is_ref" s_is_ref
  d_is_short_ref : IsDef K mg "is_short_ref" s_is_short_ref
  d_is_text : IsDef K mg "is_text" s_is_text
  d_is_message : IsDef K mg "is_message" s_is_message
  d_is_time : IsDef K mg "is_time" s_is_time
  d_is_count : IsDef K mg "is_count" s_is_count
  d_ascending : IsDef K mg "ascending" s_ascending
  d_prefixes : IsDef K mg "prefixes" s_prefixes
  d_have_prefixes : IsDef K mg "have_prefixes" s_have_prefixes
  d__is_word : IsDef K mg "_is_word" s__is_word
  d_is_head : IsDef K mg "is_head" s_is_head
  d_is_log_name : IsDef K mg "is_log_name" s_is_log_name
  d_touch : IsDef K mg "touch" s_touch
  d_led_to : IsDef K mg "led_to" s_led_to
  d_moved : IsDef K mg "moved" s_moved
  d_after_moves : IsDef K mg "after_moves" s_after_moves
  d_sorted_rows : IsDef K mg "sorted_rows" s_sorted_rows
  d_l_cell_at : IsDef K mg "_law_cell_at" s_l_cell_at
  d_l_source : IsDef K mg "_law_source" s_l_source
  d_l_draw : IsDef K mg "_law_draw" s_l_draw
  d_l_pick : IsDef K mg "_law_pick" s_l_pick
  d_l_ref : IsDef K mg "_law_ref" s_l_ref
  d_l_id : IsDef K mg "_law_id" s_l_id
  d_l_new : IsDef K mg "_law_new" s_l_new
  d_l_at_head : IsDef K mg "_law_at_head" s_l_at_head
  d_l_above : IsDef K mg "_law_above" s_l_above
  d_l_behind : IsDef K mg "_law_behind" s_l_behind
  d_l_stands : IsDef K mg "_law_stands" s_l_stands
  d_l_finished : IsDef K mg "_law_finished" s_l_finished
  d_l_near : IsDef K mg "_law_near" s_l_near
  d_l_called : IsDef K mg "_law_called" s_l_called
  d_l_call_right : IsDef K mg "_law_call_right" s_l_call_right
  d_law : IsDef K mg "law" s_law
  z_KeyError : mg "KeyError" = none
  z_TypeError : mg "TypeError" = none
  z_ValueError : mg "ValueError" = none
  z_all : mg "all" = none
  z_any : mg "any" = none
  z_bool : mg "bool" = none
  z_dict : mg "dict" = none
  z_enumerate : mg "enumerate" = none
  z_int : mg "int" = none
  z_isinstance : mg "isinstance" = none
  z_len : mg "len" = none
  z_list : mg "list" = none
  z_range : mg "range" = none
  z_sorted : mg "sorted" = none
  z_str : mg "str" = none
  z_sum : mg "sum" = none
  z_tuple : mg "tuple" = none
  z_zip : mg "zip" = none
  g_HEX_DIGITS : ∃ u, mg "HEX_DIGITS" = some u ∧ RelV (V.str (Str.ofString "0123456789abcdef")) u
  g_REF_SIGNS : ∃ u, mg "REF_SIGNS" = some u ∧ RelV (V.str (Str.ofString "abcdefghijklmnopqrstuvwxyz0123456789-")) u
  g_LONGEST_WORD : ∃ u, mg "LONGEST_WORD" = some u ∧ RelV (V.int 12) u
  g_LONGEST_TEXT : ∃ u, mg "LONGEST_TEXT" = some u ∧ RelV (V.int 2000) u
  g_LONGEST_MESSAGE : ∃ u, mg "LONGEST_MESSAGE" = some u ∧ RelV (V.int 200) u
  g_LATEST : ∃ u, mg "LATEST" = some u ∧ RelV (V.int 1000000000000) u
section
variable {P : Program} {w : World} {K : PySem.W.Frag} {mg : Str → Option Value} {base : Heap}
def spIsWord : Sp := fun vs H Q _ => ∃ (v : V) (y : Str), vs = [v, .str y] ∧ Thing H v ∧ ∀ H', Same H H' → Q (.bl (evalV (isWordF y) v)) H'
theorem c__is_word (T : Top K mg) : C8.Cal P w K mg base 2 "_is_word" spIsWord [] := by
  refine cal_of T.d__is_word sc__is_word (fun _ _ _ _ _ _ us hl => match us, hl with | [_, _], _ => rfl) (fun vs H Q E h => ?_) (fun f cdv A outer s H vs Q E hr h => ?_)
  · obtain ⟨x, y, rfl, _⟩ := h
    rfl
  · obtain ⟨v, y, rfl, t, q⟩ := h
    refine ⟨_, (pss_one (ps_ret (pe_and (pe_callB call_isi (by rfl) T.z_isinstance (by decide +kernel) (pa_cons (pv 0) (pa_cons (pe_bltn (v := .ty "str") (by rfl) T.z_str (by decide +kernel) rfl) pa_nil))) (pe_and (pe_chain op_le op_le pe_int (pe_callB call_len_str (by rfl) T.z_len (by decide +kernel) (pa_cons (pv 0) pa_nil)) (C8.pe_gc (by rfl) T.g_LONGEST_WORD)) (pe_one (pe_cmpR op_eq (pe_bm PySem.F.plainAttrs_str PySem.F.slot_str_strip PySem.F.type_str_strip mt_stripChars (pv 0) (pa_cons (pv 1) pa_nil)) pe_str (nomark _))))))), ?_⟩
    refine ⟨v, rfl, ?_⟩
    dsimp only [tCons, tC, tNil]
    refine t.isi ?_
    refine ⟨_, rfl, ?_⟩
    rcases t.cases with ⟨x, rfl, hx, ho⟩ | hn
    · refine iteT ⟨.str x, rfl, x, rfl, small_line (by omega), _, _, rfl, rfl, _, rfl, ite2 (fun h1 => ?_) (fun h1 => ?_)⟩
      · have h1 := of_decide_eq_true h1
        refine ⟨_, _, rfl, rfl, _, rfl, ite2 (fun h2 => ?_) (fun h2 => ?_)⟩
        · have h2 := of_decide_eq_true h2
          refine ⟨.str x, rfl, rfl, .str y, rfl, x, y, rfl, rfl, small_line (by omega), rfl, of_ev (q _ (Same.refl _)) (Eq.trans ?_ (strip_none x y).symm)⟩
          unfold isWordF
          rw [decide_eq_true (by omega), decide_eq_true (by omega)]
          rfl
        · have h2 : ¬ x.length ≤ 12 := fun z => h2 (decide_eq_true (by omega))
          refine of_ev (q _ (Same.refl _)) ?_
          unfold isWordF
          rw [decide_eq_false h2, Bool.false_and, Bool.and_false]
      · have h1 : ¬ 1 ≤ x.length := fun z => h1 (decide_eq_true (by omega))
        refine ⟨_, rfl, iteF (of_ev (q _ (Same.refl _)) ?_)⟩
        unfold isWordF
        rw [decide_eq_false h1, Bool.false_and]
    · rw [hn]
      exact iteF (of_ev0 hn (q _ (Same.refl _)))
theorem evalV_split {f : Str → Bool} : evalV f = fun v => match v with | .str x => f x | _ => false := rfl
theorem c_is_id (T : Top K mg) : C8.Cal P w K mg base 2 "is_id" (spWord isIdF) [] := by
  refine cal_of T.d_is_id sc_is_id (fun _ _ _ _ _ _ us hl => match us, hl with | [_], _ => rfl) (fun vs H Q E h => ?_) (fun f cdv A outer s H vs Q E hr h => ?_)
  · obtain ⟨x, rfl, _⟩ := h
    rfl
  · obtain ⟨v, rfl, t, q⟩ := h
    refine ⟨_, (pss_one (ps_ret (pe_and (pe_callB call_isi (by rfl) T.z_isinstance (by decide +kernel) (pa_cons (pv 0) (pa_cons (pe_bltn (v := .ty "str") (by rfl) T.z_str (by decide +kernel) rfl) pa_nil))) (pe_and (pe_cmpR op_eq (pe_callB call_len_str (by rfl) T.z_len (by decide +kernel) (pa_cons (pv 0) pa_nil)) pe_int (nomark _)) (pe_one (pe_cmpR op_eq (pe_bm PySem.F.plainAttrs_str PySem.F.slot_str_strip PySem.F.type_str_strip mt_stripChars (pv 0) (pa_cons (C8.pe_gc (by rfl) T.g_HEX_DIGITS) pa_nil)) pe_str (nomark _))))))), ?_⟩
    refine ⟨v, rfl, ?_⟩
    dsimp only [tCons, tC, tNil]
    refine t.isi ?_
    refine ⟨_, rfl, ?_⟩
    rcases t.cases with ⟨x, rfl, hx, ho⟩ | hn
    · refine iteT ⟨.str x, rfl, x, rfl, small_line (by omega), rfl, _, rfl, ite2 (fun h1 => ?_) (fun h1 => ?_)⟩
      · have h1 := V.int.inj (of_decide_eq_true h1)
        refine ⟨.str x, rfl, rfl, x, HEX, rfl, rfl, small_line (by omega), rfl, of_ev (q _ (Same.refl _)) (Eq.trans ?_ (strip_none x HEX).symm)⟩
        unfold isIdF
        rw [decide_eq_true (by omega)]
        rfl
      · have h1 : ¬ x.length = 16 := fun z => h1 (decide_eq_true (by rw [z]; rfl))
        refine of_ev (q _ (Same.refl _)) ?_
        unfold isIdF
        rw [decide_eq_false h1, Bool.false_and]
    · rw [hn]
      exact iteF (of_ev0 hn (q _ (Same.refl _)))
theorem c_is_ref (T : Top K mg) : C8.Cal P w K mg base 3 "is_ref" (spWord isRefF) [] := by
  refine cal_of T.d_is_ref sc_is_ref (fun _ _ _ _ _ _ us hl => match us, hl with | [_], _ => rfl) (fun vs H Q E h => ?_) (fun f cdv A outer s H vs Q E hr h => ?_)
  · obtain ⟨x, rfl, _⟩ := h
    rfl
  · obtain ⟨v, rfl, t, q⟩ := h
    refine ⟨_, (pss_cons (ps_if (pt_not (pt_val (pe_callB call_isi (by rfl) T.z_isinstance (by decide +kernel) (pa_cons (pv 0) (pa_cons (pe_bltn (v := .ty "str") (by rfl) T.z_str (by decide +kernel) rfl) pa_nil)))))
      (pss_one (ps_ret pe_bl))
      pss_nil)
      (pss_cons (ps_set (i := 1) sc_is_ref.nd rfl (Or.inl rfl) (pe_split (pv 0) pe_str))
      (pss_cons (ps_set (i := 2) sc_is_ref.nd rfl (Or.inl rfl) (pe_ifExp (pt_cmpR op_eq (pe_ix ix_list (pv 1) pe_int (fun _ _ => rfl)) pe_str (nomark _)) pe_int pe_int))
      (pss_one (ps_ret (pe_and (pe_cmpR op_le (pe_callB call_len_seq (by rfl) T.z_len (by decide +kernel) (pa_cons (pv 1) pa_nil)) (pv 2) (nomark _)) (pe_one (pe_callB (cr_all rfl) (by rfl) T.z_all (by decide +kernel) (pa_cons (pe_lc (own := [("segment", 3)]) (g := gName 3) (by rfl) sc_is_ref.nd (pi_list (pv 1)) (blkOk_by (own := [("segment", 3)]) (N := ["thing", "segments", "most", "segment"]) (sc := C8.fnScope s_is_ref) (by decide +kernel)) (fun _ _ _ _ _ => (pg_name (i := 3) sc_is_ref.nd rfl (Or.inl rfl))) (fun _ _ _ _ _ => pts_nil) (fun _ _ _ _ _ => (C8.pe_c (c__is_word T) hr (by decide) (by rfl) (pa_cons (pv 3) (pa_cons (C8.pe_gc (by rfl) T.g_REF_SIGNS) pa_nil))))) pa_nil))))))))), ?_⟩
    refine ⟨v, rfl, ?_⟩
    dsimp only [tCons, tC, tNil]
    refine t.isi ?_
    refine ⟨_, rfl, ?_⟩
    rcases t.cases with ⟨x, rfl, hx, ho⟩ | hn
    · obtain ⟨hl1, hl2⟩ := segs_len x hx
      have ho2 := segs_ok x ho
      refine iteF ⟨.str x, rfl, ⟨x, rfl⟩, x, _, rfl, rfl, rfl, small_line (by omega), fun p hp => ?_⟩
      have sm := same_new (o := .lst ((segs x).map V.str)) hp
      obtain ⟨y0, hy0⟩ : ∃ y0, (segs x)[0]? = some y0 := by
        cases e : segs x with
        | nil => exact absurd e (segs_ne x)
        | cons y r => exact ⟨y, rfl⟩
      refine ⟨.ref p, rfl, p, (segs x).map V.str, 0, .str y0, rfl, rfl, .inl (.inl upd_same), atI_nat (j := 0) (by rw [List.getElem?_map, hy0]; rfl), rfl, _, rfl, ?_⟩
      have key : ∀ n : Nat, mostF x = n → isRefF x = (decide ((segs x).length ≤ n) && (segs x).all (isWordF RSG)) := fun n e => by
        rw [← e]
        rfl
      refine ite2 (fun hc => ?_) (fun hc => ?_)
      · have hm := key 7 (by
          unfold mostF
          rw [hy0, if_pos (by rw [V.str.inj (of_decide_eq_true hc)])])
        refine ⟨.ref p, rfl, p, (segs x).map V.str, rfl, .inl (.inl (.inl upd_same)), _, rfl, _, _, rfl, rfl, _, rfl, ite2 (fun h1 => ?_) (fun h1 => ?_)⟩
        · have h1 : (segs x).length ≤ 7 := by
            have h1 := of_decide_eq_true h1
            rw [List.length_map] at h1
            omega
          refine ⟨.ref p, rfl, p, rfl, ⟨_, .inl (.inl upd_same)⟩, fun D hD => ?_⟩
          refine lc_pure (i := 3) (us := segs x) (g := V.str) yields_list (fun u => .bl (isWordF RSG u)) (fun _ => true) hD (fun H s => .inl (.inl (s _ _ upd_same))) (fun H u _ hu R r => r H (Same.refl H))
            (fun H u _ hu _ R r => ⟨.str u, rfl, .str u, RSG, rfl, .str u (hl2 u hu) (ho2 u hu), fun H' s' => r H' s'⟩) (by omega) (fun H2 s2 h2 => ?_)
          refine ⟨D, (segs x).map (isWordF RSG), rfl, .inl (.inl ?_), of_ev (q _ (sm.trans s2)) ?_⟩
          · rw [h2, filt_all, List.map_map]
            rfl
          · rw [hm, decide_eq_true h1, List.all_map]
            rfl
        · have h1 : ¬ (segs x).length ≤ 7 := fun z => h1 (decide_eq_true (by rw [List.length_map]; omega))
          refine of_ev (q _ sm) ?_
          rw [hm, decide_eq_false h1, Bool.false_and]
      · have hm := key 5 (by
          unfold mostF
          rw [hy0, if_neg (fun z => hc (decide_eq_true (by rw [Option.some.inj z])))])
        refine ⟨.ref p, rfl, p, (segs x).map V.str, rfl, .inl (.inl (.inl upd_same)), _, rfl, _, _, rfl, rfl, _, rfl, ite2 (fun h1 => ?_) (fun h1 => ?_)⟩
        · have h1 : (segs x).length ≤ 5 := by
            have h1 := of_decide_eq_true h1
            rw [List.length_map] at h1
            omega
          refine ⟨.ref p, rfl, p, rfl, ⟨_, .inl (.inl upd_same)⟩, fun D hD => ?_⟩
          refine lc_pure (i := 3) (us := segs x) (g := V.str) yields_list (fun u => .bl (isWordF RSG u)) (fun _ => true) hD (fun H s => .inl (.inl (s _ _ upd_same))) (fun H u _ hu R r => r H (Same.refl H))
            (fun H u _ hu _ R r => ⟨.str u, rfl, .str u, RSG, rfl, .str u (hl2 u hu) (ho2 u hu), fun H' s' => r H' s'⟩) (by omega) (fun H2 s2 h2 => ?_)
          refine ⟨D, (segs x).map (isWordF RSG), rfl, .inl (.inl ?_), of_ev (q _ (sm.trans s2)) ?_⟩
          · rw [h2, filt_all, List.map_map]
            rfl
          · rw [hm, decide_eq_true h1, List.all_map]
            rfl
        · have h1 : ¬ (segs x).length ≤ 5 := fun z => h1 (decide_eq_true (by rw [List.length_map]; omega))
          refine of_ev (q _ sm) ?_
          rw [hm, decide_eq_false h1, Bool.false_and]
    · rw [hn]
      exact iteT (of_ev0 hn (q _ (Same.refl _)))
theorem c_is_text (T : Top K mg) : C8.Cal P w K mg base 1 "is_text" (spWord isTextF) [] := by
  refine cal_ofT T.d_is_text sc_is_text (by decide +kernel) (by decide) (fun _ _ _ _ _ _ us hl => match us, hl with | [_], _ => rfl) (fun vs H Q E h => ?_) (fun f cdv A outer s H vs Q E hr h => ?_)
  · obtain ⟨x, rfl, _⟩ := h
    rfl
  · obtain ⟨v, rfl, t, q⟩ := h
    refine ⟨_, (psst_cons (PST.of (ps_if (PW.pt (pw_or (pt_not (pt_val (pe_callB call_isi (by rfl) T.z_isinstance (by decide +kernel) (pa_cons (pv 0) (pa_cons (pe_bltn (v := .ty "str") (by rfl) T.z_str (by decide +kernel) rfl) pa_nil))))) (pw_or1 (pt_cmpR op_gt (pe_callB call_len_str (by rfl) T.z_len (by decide +kernel) (pa_cons (pv 0) pa_nil)) (C8.pe_gc (by rfl) T.g_LONGEST_TEXT) (nomark _)))))
      (pss_one (ps_ret pe_bl))
      pss_nil))
      (CwR.psst_one (CwR.pst_ret (pet_and (pe_bm0 PySem.F.plainAttrs_str PySem.F.slot_str_isascii PySem.F.type_str_isascii mt_isascii (pv 0)) (pet_one (pet_bm0 PySem.F.plainAttrs_str PySem.F.slot_str_isprintable PySem.F.type_str_isprintable mt_isprintable (CwR.pet_replC (pv 0)))))))), ?_⟩
    refine ⟨v, rfl, ?_⟩
    dsimp only [tCons, tC, tNil]
    refine t.isi ?_
    refine ⟨_, rfl, ?_⟩
    rcases t.cases with ⟨x, rfl, hx, ho⟩ | hn
    · refine iteF ⟨.str x, rfl, x, rfl, small_line (by omega), _, _, rfl, rfl, _, rfl, ite2 (fun h1 => ?_) (fun h1 => ?_)⟩
      · have h1 := of_decide_eq_true h1
        refine of_ev (q _ (Same.refl _)) ?_
        unfold isTextF
        rw [decide_eq_false (by omega), Bool.false_and]
      · have h1 : x.length ≤ 2000 := by
          have : ¬ (2000 : Int) < (x.length : Nat) := fun z => h1 (decide_eq_true z)
          omega
        have key : isTextF x = plainT x := by
          unfold isTextF
          rw [decide_eq_true h1, plain_text]
          rfl
        refine ⟨.str x, rfl, rfl, x, rfl, rfl, trivial, _, rfl, ite2 (fun h2 => ?_) (fun h2 => ?_)⟩
        · refine ⟨.str x, rfl, x, rfl, by have : (Str.ofString "").length = 0 := by decide +kernel
                                          rw [this]; omega, rfl, _, rfl, rfl, trivial, of_ev (q _ (Same.refl _)) ?_⟩
          rw [key]
          unfold plainT
          rw [h2, Bool.true_and]
        · refine of_ev (q _ (Same.refl _)) ?_
          rw [key]
          unfold plainT
          rw [Bool.eq_false_iff.mpr h2, Bool.false_and]
    · rw [hn]
      exact iteT (of_ev0 hn (q _ (Same.refl _)))
theorem c_is_short_ref (T : Top K mg) : C8.Cal P w K mg base 3 "is_short_ref" (spWord (isWordF RSG)) [] := by
  refine cal_of T.d_is_short_ref sc_is_short_ref (fun _ _ _ _ _ _ us hl => match us, hl with | [_], _ => rfl) (fun vs H Q E h => ?_) (fun f cdv A outer s H vs Q E hr h => ?_)
  · obtain ⟨x, rfl, _⟩ := h
    rfl
  · obtain ⟨v, rfl, t, q⟩ := h
    refine ⟨_, (pss_one (ps_ret (C8.pe_c (c__is_word T) hr (by decide) (by rfl) (pa_cons (pv 0) (pa_cons (C8.pe_gc (by rfl) T.g_REF_SIGNS) pa_nil))))), ?_⟩
    exact ⟨v, rfl, v, RSG, rfl, t, q⟩
def spMsg : Sp := fun vs H Q _ => ∃ x : Str, vs = [.str x] ∧ isTextF x = true ∧ x.length ≤ 200 ∧ ∀ H', Same H H' → Q (.bl true) H'
theorem c_is_message (T : Top K mg) : C8.Cal P w K mg base 2 "is_message" spMsg [] := by
  refine cal_of T.d_is_message sc_is_message (fun _ _ _ _ _ _ us hl => match us, hl with | [_], _ => rfl) (fun vs H Q E h => ?_) (fun f cdv A outer s H vs Q E hr h => ?_)
  · obtain ⟨x, rfl, _⟩ := h
    rfl
  · obtain ⟨x, rfl, ht, hl, q⟩ := h
    refine ⟨_, (pss_one (ps_ret (pe_and (C8.pe_c (c_is_text T) hr (by decide) (by rfl) (pa_cons (pv 0) pa_nil)) (pe_one (pe_cmpR op_le (pe_callB call_len_str (by rfl) T.z_len (by decide +kernel) (pa_cons (pv 0) pa_nil)) (C8.pe_gc (by rfl) T.g_LONGEST_MESSAGE) (nomark _)))))), ?_⟩
    refine ⟨.str x, rfl, .str x, rfl, .str x (by omega) (ok_text ht), fun H1 s1 => ⟨_, rfl, ?_⟩⟩
    rw [show evalV isTextF (.str x) = true from ht]
    refine iteT ⟨.str x, rfl, x, rfl, small_line (by omega), _, _, rfl, rfl, ?_⟩
    show Q (.bl (decide ((x.length : Int) ≤ 200))) H1
    rw [decide_eq_true (by omega)]
    exact q H1 s1
theorem isi_int {n : Int} {C : String} {b : Bool} {Q : VK} {H : Hp} (hk : (PySem.W.kitOne K (.type "int") (.type C)) = some b) (k : Q (.bl b) H) : rIsi K [.int n, .ty C] H Q :=
  ⟨_, _, .type "int", .type C, b, rfl, .ty C, .base (.int n), hk, k⟩
def spTimeI : Sp := fun vs H Q _ => ∃ n : Int, vs = [.int n] ∧ 0 ≤ n ∧ n ≤ 1000 ∧ ∀ H', Same H H' → Q (.bl true) H'
theorem c_is_count (T : Top K mg) : C8.Cal P w K mg base 1 "is_count" spTimeI [] := by
  refine cal_of T.d_is_count sc_is_count (fun _ _ _ _ _ _ us hl => match us, hl with | [_], _ => rfl) (fun vs H Q E h => ?_) (fun f cdv A outer s H vs Q E hr h => ?_)
  · obtain ⟨x, rfl, _⟩ := h
    rfl
  · obtain ⟨n, rfl, h0, h1, q⟩ := h
    refine ⟨_, (pss_one (ps_ret (pe_and (pe_callB call_isi (by rfl) T.z_isinstance (by decide +kernel) (pa_cons (pv 0) (pa_cons (pe_bltn (v := .ty "int") (by rfl) T.z_int (by decide +kernel) rfl) pa_nil))) (pe_and (pe_not (pe_callB call_isi (by rfl) T.z_isinstance (by decide +kernel) (pa_cons (pv 0) (pa_cons (pe_bltn (v := .ty "bool") (by rfl) T.z_bool (by decide +kernel) rfl) pa_nil)))) (pe_one (pe_cmpR op_ge (pv 0) pe_int (nomark _))))))), ?_⟩
    refine ⟨.int n, rfl, ?_⟩
    dsimp only [tCons, tC, tNil]
    refine isi_int (b := true) (kit_ty (by decide +kernel)) ⟨_, rfl, iteT ?_⟩
    refine ⟨.int n, rfl, ?_⟩
    dsimp only [tCons, tC, tNil]
    refine isi_int (b := false) (kit_ty (by decide +kernel)) ⟨_, rfl, _, rfl, iteT ⟨_, rfl, _, _, rfl, rfl, ?_⟩⟩
    show Q (.bl (decide (0 ≤ n))) H
    rw [decide_eq_true h0]
    exact q H (Same.refl H)
theorem c_is_time (T : Top K mg) : C8.Cal P w K mg base 2 "is_time" spTimeI [] := by
  refine cal_of T.d_is_time sc_is_time (fun _ _ _ _ _ _ us hl => match us, hl with | [_], _ => rfl) (fun vs H Q E h => ?_) (fun f cdv A outer s H vs Q E hr h => ?_)
  · obtain ⟨x, rfl, _⟩ := h
    rfl
  · obtain ⟨n, rfl, h0, h1, q⟩ := h
    refine ⟨_, (pss_one (ps_ret (pe_and (C8.pe_c (c_is_count T) hr (by decide) (by rfl) (pa_cons (pv 0) pa_nil)) (pe_one (pe_cmpR op_le (pv 0) (C8.pe_gc (by rfl) T.g_LATEST) (nomark _)))))), ?_⟩
    refine ⟨.int n, rfl, n, rfl, h0, h1, fun H1 s1 => ⟨_, rfl, iteT ⟨_, rfl, _, _, rfl, rfl, ?_⟩⟩⟩
    show Q (.bl (decide (n ≤ 1000000000000))) H1
    rw [decide_eq_true (by omega)]
    exact q H1 s1
/-- a table's keys in order -/
def spAsc : Sp := fun vs H Q _ => ∃ (a : Addr) (t : Tab), vs = [.ref a] ∧ H a = some (.dK (kT t)) ∧ t.length < 64 ∧ ∀ (ys : List Str) (p : Addr) (H' : Hp), ys.Perm (t.map (·.1)) → sortedS ys = true → H p = none → Same H H' → H' p = some (.tup (ys.map V.str)) → Q (.ref p) H'
theorem c_ascending (T : Top K mg) : C8.Cal P w K mg base 1 "ascending" spAsc [] := by
  refine cal_of T.d_ascending sc_ascending (fun _ _ _ _ _ _ us hl => match us, hl with | [_], _ => rfl) (fun vs H Q E h => ?_) (fun f cdv A outer s H vs Q E hr h => ?_)
  · obtain ⟨a, t, rfl, _⟩ := h
    rfl
  · obtain ⟨a, t, rfl, ha, hl, q⟩ := h
    refine ⟨_, (pss_one (ps_ret (pe_callTy call_tuple_of (by rfl) T.z_tuple (by decide +kernel) (pa_cons (pe_callB (cr_sortedS) (by rfl) T.z_sorted (by decide +kernel) (pa_cons (pe_lock (pe_lc (own := [("name", 1)]) (g := gName 1) (by rfl) sc_ascending.nd (pi_keys (pv 0)) (blkOk_by (own := [("name", 1)]) (N := ["names", "name"]) (sc := C8.fnScope s_ascending) (by decide +kernel)) (fun _ _ _ _ _ => (pg_name (i := 1) sc_ascending.nd rfl (Or.inl rfl))) (fun _ _ _ _ _ => pts_nil) (fun _ _ _ _ _ => (pe_callTy SkE.call_str_str (by rfl) T.z_str (by decide +kernel) (pa_cons (pv 1) pa_nil))))) pa_nil)) pa_nil)))), ?_⟩
    refine ⟨a, _, ha, trivial, fun od => ⟨.ref a, rfl, a, od, rfl, .inl ⟨kT t, upd_same, fun D hD => ?_⟩⟩⟩
    have na : D ≠ a := fun z => by
      rw [z, upd_same] at hD
      cases hD
    have Y : Yields (Itk a od (kT t)) ((t.map (·.1)).map V.str) (fun H => H a = some (.frz od (.dK (kT t)))) := by
      rw [← kV_kT]
      exact yields_keys
    refine lc_pure (i := 1) (us := t.map (·.1)) (g := V.str) Y V.str (fun _ => true) hD (fun H s => s _ _ upd_same) (fun H u _ hu R r => r H (Same.refl H))
      (fun H u _ hu _ R r => ⟨_, rfl, u, rfl, r H (Same.refl H)⟩) (by rw [List.length_map]; omega) (fun H2 s2 h2 => ?_)
    rw [filt_all] at h2
    have sm : Same H (upd H2 a (.dK (kT t))) := fun b o e => by
      by_cases hb : b = a
      · rw [hb, upd_same, ← ha, ← hb, e]
      · rw [upd_ne hb]
        exact s2 _ _ (by rw [upd_ne hb]; exact e)
    have hD' : H D = none := by rw [upd_ne na] at hD; exact hD
    refine ⟨s2 _ _ upd_same, D, t.map (·.1), rfl, .inl (.inl ?_), by rw [List.length_map]; exact hl, fun ys p hp hs hn => ?_⟩
    · rw [upd_ne na]
      exact h2
    · refine ⟨p, _, rfl, .inl ⟨.inl (.inl upd_same), fun l hl => ?_⟩⟩
      have np : H p = none := sm.free hn
      have nl : H l = none := (sm.trans (same_new hn)).free hl
      exact q ys l _ hp hs nl ((sm.trans (same_new hn)).trans (same_new hl)) upd_same
def spPre : Sp := fun vs H Q _ => ∃ x : Str, vs = [.str x] ∧ x.length ≤ 1000 ∧ OkS x ∧ ∀ D H', H D = none → Same H H' → H' D = some (.lst ((prefixesF x).map V.str)) → Q (.ref D) H'
theorem c_prefixes (T : Top K mg) : C8.Cal P w K mg base 1 "prefixes" spPre [] := by
  refine cal_of T.d_prefixes sc_prefixes (fun _ _ _ _ _ _ us hl => match us, hl with | [_], _ => rfl) (fun vs H Q E h => ?_) (fun f cdv A outer s H vs Q E hr h => ?_)
  · obtain ⟨x, rfl, _⟩ := h
    rfl
  · obtain ⟨x, rfl, hx, ho, q⟩ := h
    refine ⟨_, (pss_cons (ps_set (i := 1) sc_prefixes.nd rfl (Or.inr rfl) (pe_split (pv 0) pe_str))
      (pss_one (ps_ret (pe_lc (own := [("many", 2)]) (g := gName 2) (by rfl) sc_prefixes.nd (pi_range2 (by rfl) T.z_range (pa_cons pe_int (pa_cons (pe_callB call_len_seq (by rfl) T.z_len (by decide +kernel) (pa_cons (pv 1) pa_nil)) pa_nil))) (blkOk_by (own := [("many", 2)]) (N := ["path", "segments", "many"]) (sc := C8.fnScope s_prefixes) (by decide +kernel)) (fun _ _ _ _ _ => (pg_name (i := 2) sc_prefixes.nd rfl (Or.inl rfl))) (fun _ _ _ _ _ => pts_nil) (fun _ _ _ _ _ => (pe_joinK (K := K) rfl pe_str (pe_slice (slK_list (K := K) rfl) (pv 1) po_none (po_some (pv 2))))))))), ?_⟩
    obtain ⟨hl1, hl2⟩ := segs_len x (by omega)
    refine ⟨.str x, rfl, ⟨x, rfl⟩, x, _, rfl, rfl, rfl, small_line (by omega), fun p hp => ?_⟩
    have sm := same_new (o := .lst ((segs x).map V.str)) hp
    refine ⟨.ref p, rfl, p, (segs x).map V.str, rfl, .inl (.inl (.inl upd_same)), ?_⟩
    refine ⟨1, ((segs x).length : Nat), by rw [List.length_map], ⟨by decide, by decide, by omega, by omega⟩, fun D hD => ?_⟩
    have en : (((segs x).length : Nat) - (1 : Int)).toNat = (segs x).length - 1 := by omega
    rw [en]
    refine lc_pure (i := 2) (us := List.range ((segs x).length - 1)) (g := fun (k : Nat) => V.int (1 + (k : Int))) yields_range (fun k => V.str (Txt.join "/" ((segs x).take (k + 1)))) (fun _ => true) hD (fun H _ => trivial) (fun H u _ hu R r => r H (Same.refl H))
      (fun H2 k s2 hk _ R r => ?_) (by rw [List.length_range]; omega) (fun H2 s2 h2 => ?_)
    · have hk : k < (segs x).length - 1 := List.mem_range.mp hk
      have cut : cutV ((segs x).map V.str) none (some (1 + (k : Int))) = ((segs x).take (k + 1)).map V.str := cut_front _ _ _
      refine ⟨⟨_, rfl⟩, .ref p, rfl, .int (1 + k), rfl, 1 + k, rfl, p, _, rfl, .inl (.inl (s2 _ _ upd_same)), fun p2 hp2 => ?_⟩
      have cut2 : cutV ((Txt.split x "/").map V.str) none (some (1 + (k : Int))) = ((segs x).take (k + 1)).map V.str := cut
      rw [cut2]
      refine ⟨_, p2, (segs x).take (k + 1), rfl, rfl, .inl (.inl (.inl upd_same)), ?_, r _ (same_new hp2)⟩
      obtain ⟨m1, m2⟩ := segs_lens x
      have s1 := sum_most 1000 ((segs x).take (k + 1)) fun y hy => Nat.le_trans (m2 y (List.mem_of_mem_take hy)) hx
      have l1 : ((segs x).take (k + 1)).length ≤ 1001 := by rw [List.length_take]; omega
      have e1 : (Str.ofString "/").length = 1 := by decide +kernel
      rw [e1]
      omega
    · refine q D H2 (sm.free hD) (sm.trans s2) ?_
      rw [h2, filt_all]
      unfold prefixesF
      rw [List.map_map]
      rfl
def spHave : Sp := fun vs H Q _ => ∃ (a : Addr) (t : Tab), vs = [.ref a] ∧ H a = some (.dK (kT t)) ∧ t.length ≤ 64 ∧ (∀ x ∈ t.map (·.1), x.length ≤ 1000 ∧ OkS x) ∧ ∀ H', Same H H' → Q (.bl (haveF (t.map (·.1)))) H'
theorem c_have_prefixes (T : Top K mg) : C8.Cal P w K mg base 2 "have_prefixes" spHave [] := by
  refine cal_of T.d_have_prefixes sc_have_prefixes (fun _ _ _ _ _ _ us hl => match us, hl with | [_], _ => rfl) (fun vs H Q E h => ?_) (fun f cdv A outer s H vs Q E hr h => ?_)
  · obtain ⟨a, t, rfl, _⟩ := h
    rfl
  · obtain ⟨a, t, rfl, ha, hl, hx, q⟩ := h
    refine ⟨_, (pss_one (ps_ret (pe_callB (cr_any rfl) (by rfl) T.z_any (by decide +kernel) (pa_cons (pe_lock (pe_lc2 (vs1 := [2]) (own := [("path", 1), ("prefix", 2)]) (g := gName 1) (by rfl) sc_have_prefixes.nd (pi_keys (pv 0)) (blkOk_by (own := [("path", 1), ("prefix", 2)]) (N := ["paths", "path", "prefix"]) (sc := C8.fnScope s_have_prefixes) (by decide +kernel)) (by decide) (fun _ _ _ _ _ => (pg_name (i := 1) sc_have_prefixes.nd rfl (Or.inl rfl))) (fun _ _ _ _ _ => pts_nil) (fun _ _ _ _ _ => (pi_listK (K := K) rfl (C8.pe_c (c_prefixes T) hr (by decide) (by rfl) (pa_cons (pv 1) pa_nil)))) (fun _ _ _ _ _ => (pg_name (i := 2) sc_have_prefixes.nd rfl (Or.inl rfl))) (fun _ _ _ _ _ => pts_nil) (fun _ _ _ _ _ => (pe_cmp (pc_din (hu_of hr) (pv 2) (pv 0)))))) pa_nil)))), ?_⟩
    refine ⟨a, _, ha, trivial, fun od => ⟨.ref a, rfl, a, od, rfl, .inl ⟨kT t, upd_same, fun D hD => ?_⟩⟩⟩
    have na : D ≠ a := fun z => by
      rw [z, upd_same] at hD
      cases hD
    have Y : Yields (Itk a od (kT t)) ((t.map (·.1)).map V.str) (fun H => H a = some (.frz od (.dK (kT t)))) := by
      rw [← kV_kT]
      exact yields_keys
    refine lc2_pure (us := t.map (·.1)) (g := V.str) (h := V.str) Y prefixesF (fun _ y => V.bl (decide (y ∈ t.map (·.1)))) hD (fun H s => s _ _ upd_same) (fun _ => rfl) (fun _ _ => rfl)
      (fun H2 u s2 nD hu R r => ?_) (fun H2 u y s2 hu hy R r => ?_) ?_ (fun H2 s2 h2 => ?_)
    · obtain ⟨ux, uo⟩ := hx u hu
      refine ⟨.str u, rfl, u, rfl, ux, uo, fun P H3 hP s3 hP3 => ⟨P, rfl, ⟨_, .inl (.inl hP3)⟩, r _ _ H3 yields_list s3 fun H' f => .inl (.inl (f P _ (fun z => ?_) hP3))⟩⟩
      rw [List.mem_singleton.mp z] at hP
      exact nD hP
    · refine ⟨.str y, rfl, .ref a, rfl, a, _, rfl, dget_kT (.inr ⟨od, s2 _ _ upd_same⟩) y, ?_⟩
      have e : (valV t y).isSome = decide (y ∈ t.map (·.1)) := by
        cases c : (valV t y).isSome with
        | true => rw [decide_eq_true (mem_val.mpr c)]
        | false => rw [decide_eq_false (fun z => by rw [mem_val.mp z] at c; cases c)]
      rw [e]
      exact r H2 (Same.refl H2)
    · have e : ∀ l : List Str, (∀ x ∈ l, x.length ≤ 1000) → (l.flatMap prefixesF).length ≤ l.length * 1000 := fun l => by
        induction l with
        | nil => intro _; exact Nat.zero_le _
        | cons y r ih =>
          intro h
          rw [List.flatMap_cons, List.length_append, List.length_cons, Nat.succ_mul]
          have := ih fun z hz => h z (List.mem_cons_of_mem _ hz)
          have h1 := h y List.mem_cons_self
          have h2 : (prefixesF y).length ≤ 1000 := by
            unfold prefixesF
            rw [List.length_map, List.length_range]
            have := (segs_lens y).1
            omega
          omega
      have := e (t.map (·.1)) fun x h => (hx x h).1
      rw [List.length_map] at this
      omega
    · have sm : Same H (upd H2 a (.dK (kT t))) := fun b o e => by
        by_cases hb : b = a
        · rw [hb, upd_same, ← ha, ← hb, e]
        · rw [upd_ne hb]
          exact s2 _ _ (by rw [upd_ne hb]; exact e)
      refine ⟨s2 _ _ upd_same, D, (t.map (·.1)).flatMap (fun u => (prefixesF u).map fun y => decide (y ∈ t.map (·.1))), rfl, .inl (.inl ?_), ?_⟩
      · rw [upd_ne na, h2, List.map_flatMap]
        simp only [List.map_map]
        rfl
      · have := q _ sm
        unfold haveF at this
        rw [← any_flat] at this
        exact this
end

end Fk

set_option maxHeartbeats 4000000
namespace Fk
open PySem PySem.Spec PyProof.Rows L2
section
variable {P : Program} {w : World} {K : PySem.W.Frag} {mg : Str → Option Value} {base : Heap}
theorem isi_tup {a : Addr} {xs : List V} {H : Hp} {C : String} {b : Bool} {Q : VK} (e : H a = some (.tup xs)) (hk : (PySem.W.kitOne K (.type "tuple") (.type C)) = some b) (k : Q (.bl b) H) : rIsi K [.ref a, .ty C] H Q :=
  ⟨_, _, .type "tuple", .type C, b, rfl, .ty C, .base (.tup e), hk, k⟩
/-- a head that may stand -/
def HeadOk (x n : Str) : Prop := (x = "ref" ∧ isRefF n = true ∨ x = "id" ∧ isIdF n = true) ∧ n.length ≤ 1000 ∧ OkS n
def spIsHead : Sp := fun vs H Q _ => ∃ (p : Addr) (x n : Str), vs = [.ref p] ∧ H p = some (.tup [.str x, .str n]) ∧ HeadOk x n ∧ ∀ H', Same H H' → Q (.bl true) H'
theorem c_is_head (T : Top K mg) : C8.Cal P w K mg base 4 "is_head" spIsHead [] := by
  refine cal_of T.d_is_head sc_is_head (fun _ _ _ _ _ _ us hl => match us, hl with | [_], _ => rfl) (fun vs H Q E h => ?_) (fun f cdv A outer s H vs Q E hr h => ?_)
  · obtain ⟨p, x, n, rfl, _⟩ := h
    rfl
  · obtain ⟨p, x, n, rfl, hp, ho, q⟩ := h
    refine ⟨_, (pss_cons (ps_if (PW.pt (pw_or (pt_not (pt_val (pe_callB call_isi (by rfl) T.z_isinstance (by decide +kernel) (pa_cons (pv 0) (pa_cons (pe_bltn (v := .ty "tuple") (by rfl) T.z_tuple (by decide +kernel) rfl) pa_nil))))) (pw_or1 (pt_cmpR op_ne (pe_callB call_len_seq (by rfl) T.z_len (by decide +kernel) (pa_cons (pv 0) pa_nil)) pe_int (nomark _)))))
      (pss_one (ps_ret pe_bl))
      pss_nil)
      (pss_cons (ps_asg (pv 0) (pg_tup rfl (pgs_cons (pg_name (i := 1) sc_is_head.nd rfl (Or.inl rfl)) (pgs_cons (pg_name (i := 2) sc_is_head.nd rfl (Or.inl rfl)) pgs_nil))))
      (pss_one (ps_ret (pe_or (pe_and (pe_cmpR op_eq (pv 1) pe_str (nomark _)) (pe_one (C8.pe_c (c_is_ref T) hr (by decide) (by rfl) (pa_cons (pv 2) pa_nil)))) (pe_one (pe_and (pe_cmpR op_eq (pv 1) pe_str (nomark _)) (pe_one (C8.pe_c (c_is_id T) hr (by decide) (by rfl) (pa_cons (pv 2) pa_nil)))))))))), ?_⟩
    refine ⟨.ref p, rfl, ?_⟩
    dsimp only [tCons, tC, tNil]
    refine isi_tup hp (b := true) (kit_ty (by decide +kernel)) ⟨_, rfl, iteF ⟨.ref p, rfl, p, _, rfl, .inr (SqT.of hp), rfl, _, rfl, iteF ⟨.ref p, rfl, p, _, rfl, SqT.of hp, rfl, _, _, rfl, _, _, rfl, rfl, ?_⟩⟩⟩
    obtain ⟨hv, hl, hk⟩ := ho
    rcases hv with ⟨rfl, hv⟩ | ⟨rfl, hv⟩
    · refine ⟨.str "ref", rfl, rfl, _, rfl, iteT ⟨.str n, rfl, .str n, rfl, .str n (by omega) hk, fun H1 s1 => ?_⟩⟩
      rw [show evalV isRefF (.str n) = true from hv]
      exact ⟨_, rfl, iteT (q _ s1)⟩
    · refine ⟨.str "id", rfl, rfl, _, rfl, iteF ⟨_, rfl, iteF ⟨.str "id", rfl, rfl, _, rfl, iteT ⟨.str n, rfl, .str n, rfl, .str n (by omega) hk, fun H1 s1 => ?_⟩⟩⟩⟩
      rw [show evalV isIdF (.str n) = true from hv]
      exact q _ s1
def spIsLog : Sp := fun vs H Q _ => ∃ x : Str, vs = [.str x] ∧ (isRefF x = true ∨ x = "HEAD") ∧ x.length ≤ 1000 ∧ OkS x ∧ ∀ H', Same H H' → Q (.bl true) H'
theorem c_is_log_name (T : Top K mg) : C8.Cal P w K mg base 4 "is_log_name" spIsLog [] := by
  refine cal_of T.d_is_log_name sc_is_log_name (fun _ _ _ _ _ _ us hl => match us, hl with | [_], _ => rfl) (fun vs H Q E h => ?_) (fun f cdv A outer s H vs Q E hr h => ?_)
  · obtain ⟨x, rfl, _⟩ := h
    rfl
  · obtain ⟨x, rfl, hx, hl, ho, q⟩ := h
    refine ⟨_, (pss_one (ps_ret (pe_or (C8.pe_c (c_is_ref T) hr (by decide) (by rfl) (pa_cons (pv 0) pa_nil)) (pe_one (pe_cmpR op_eq (pv 0) pe_str (nomark _)))))), ?_⟩
    refine ⟨.str x, rfl, .str x, rfl, .str x (by omega) ho, fun H1 s1 => ⟨_, rfl, ite2 (fun _ => q _ s1) (fun h => ⟨_, rfl, ?_⟩)⟩⟩
    rcases hx with hx | rfl
    · exact absurd hx h
    · exact ⟨rfl, by rw [decide_eq_true rfl]; exact q _ s1⟩
def spLed (K : PySem.W.Frag) : Sp := fun vs H Q _ => ∃ (a h : Addr) (t : Tab) (x n : Str), vs = [.ref a, .ref h] ∧ H a = some (.dK (kT t)) ∧ TupK K H h [.str x, .str n] ∧ Q (ledF t x n) H
theorem c_led_to (T : Top K mg) : C8.Cal P w K mg base 1 "led_to" (spLed K) [] := by
  refine cal_of T.d_led_to sc_led_to (fun _ _ _ _ _ _ us hl => match us, hl with | [_, _], _ => rfl) (fun vs H Q E h => ?_) (fun f cdv A outer s H vs Q E hr h => ?_)
  · obtain ⟨a, h, t, x, n, rfl, _⟩ := h
    rfl
  · obtain ⟨a, h, t, x, n, rfl, ha, hh, q⟩ := h
    refine ⟨_, (pss_cons (ps_asg (pv 1) (pg_tup rfl (pgs_cons (pg_name (i := 2) sc_led_to.nd rfl (Or.inl rfl)) (pgs_cons (pg_name (i := 3) sc_led_to.nd rfl (Or.inl rfl)) pgs_nil))))
      (pss_one (ps_ret (pe_ifExp (pt_cmpR op_eq (pv 2) pe_str (nomark _)) (pv 3) (pe_dget1 (hu_of hr) (pv 0) (pv 3) ⟨rfl, rfl, rfl, rfl⟩))))), ?_⟩
    refine ⟨.ref h, rfl, h, _, rfl, hh.sq, rfl, _, _, rfl, _, _, rfl, rfl, ?_⟩
    refine ⟨.str x, rfl, rfl, _, rfl, ite2 (fun h1 => ⟨.str n, rfl, ?_⟩) (fun h1 => ⟨.ref a, rfl, a, rfl, .inl ⟨_, .inl ha⟩, .str n, rfl, valV t n, dget_kT (.inl ha) n, ?_⟩)⟩
    · unfold ledF at q
      rw [if_pos (V.str.inj (of_decide_eq_true h1))] at q
      exact q
    · unfold ledF at q
      rw [if_neg (fun z => h1 (decide_eq_true (by rw [z])))] at q
      exact q
def spRows : Sp := fun vs H Q _ => ∃ (a : Addr) (t : Tab), vs = [.ref a] ∧ H a = some (.dK (kT t)) ∧ Nd t ∧ t.length < 64 ∧ ∀ p u H', Same H H' → H p = none → SortOf t u → TupsAt H' p (u.map rowL) → Q (.ref p) H'
theorem c_sorted_rows (T : Top K mg) : C8.Cal P w K mg base 2 "sorted_rows" spRows [] := by
  refine cal_of T.d_sorted_rows sc_sorted_rows (fun _ _ _ _ _ _ us hl => match us, hl with | [_], _ => rfl) (fun vs H Q E h => ?_) (fun f cdv A outer s H vs Q E hr h => ?_)
  · obtain ⟨a, t, rfl, _⟩ := h
    rfl
  · obtain ⟨a, t, rfl, ha, nd, hl, q⟩ := h
    refine ⟨_, (pss_one (ps_ret (pe_callTy call_tuple_of (by rfl) T.z_tuple (by decide +kernel) (pa_cons (pe_lc (own := [("name", 1)]) (g := gName 1) (by rfl) sc_sorted_rows.nd (pi_tup (C8.pe_c (c_ascending T) hr (by decide) (by rfl) (pa_cons (pv 0) pa_nil))) (blkOk_by (own := [("name", 1)]) (N := ["table", "name"]) (sc := C8.fnScope s_sorted_rows) (by decide +kernel)) (fun _ _ _ _ _ => (pg_name (i := 1) sc_sorted_rows.nd rfl (Or.inl rfl))) (fun _ _ _ _ _ => pts_nil) (fun _ _ _ _ _ => (pe_tup (pa_cons (pv 1) (pa_cons (pe_dget (hu_of hr) (pv 0) (pv 1) (fun _ _ => rfl)) pa_nil))))) pa_nil)))), ?_⟩
    refine ⟨.ref a, rfl, a, t, rfl, ha, hl, fun ys p H1 hp hs hn s1 h1 => ⟨p, rfl, ⟨_, SqT.of h1⟩, fun D hD => ?_⟩⟩
    refine lc_new (us := ys) (val := V.str) yields_tup (fun x => [.str x, (valV t x).getD .non]) (fun _ => true) (fun x => [some (.ref a), some (.str x)]) hD (fun H s => SqT.of (s _ _ h1)) (fun _ _ => rfl) (fun H u _ _ R r => r) (fun H u _ _ R r => r H (Same.refl H))
      (fun H2 x s2 hx _ R r => ?_) ?_ (fun as H2 s2 h2 tp => ?_)
    · have hv : valV t x = some ((valV t x).getD .non) := by
        have m := mem_val.mp (hp.mem_iff.mp hx)
        cases c : valV t x with
        | none => rw [c] at m; cases m
        | some v => rfl
      refine ⟨.str x, rfl, .ref a, rfl, .str x, rfl, a, (valV t x).getD .non, rfl, ?_, (by show 2 ≤ sizeLine; decide), fun pt hpt => r pt _ (same_new hpt) upd_same⟩
      have d := dget_kT (.inl (s2 _ _ (s1 _ _ ha))) x
      rw [hv] at d
      exact d
    · have := hp.length_eq
      rw [List.length_map] at this
      omega
    · refine ⟨D, _, rfl, .inl ⟨.inl (.inl h2), fun l hl => ?_⟩⟩
      have s3 : Same H (upd H2 l (.tup (as.map V.ref))) := (s1.trans s2).trans (same_new hl)
      refine q l _ _ s3 ((s1.trans s2).free hl) (sortOf_keys hp hs) ⟨as, upd_same, ?_⟩
      rw [filt_all] at tp
      rw [List.map_map]
      exact tp.keep (TupKeep.of (same_new hl))
end

end Fk

set_option maxHeartbeats 4000000
namespace Fk
open PySem PySem.Spec PyProof.Rows L2
section
variable {P : Program} {w : World} {K : PySem.W.Frag} {mg : Str → Option Value} {base : Heap}
def spAfter : Sp := fun vs H Q _ => ∃ (a m : Addr) (t : Tab) (ms : List (Str × V × V)), vs = [.ref a, .ref m] ∧ H a = some (.dK (kT t)) ∧ Nd t ∧ t.length ≤ 64 ∧ TupsAt H m (ms.map moveL) ∧ (ms.map (·.1)).Nodup ∧ ms.length ≤ 64 ∧
  ∀ D H', H D = none → Same H H' → H' D = some (.dK (kT (afterT t ms))) → Q (.ref D) H'
theorem c_after_moves (T : Top K mg) : C8.Cal P w K mg base 1 "after_moves" spAfter [] := by
  refine cal_of T.d_after_moves sc_after_moves (fun _ _ _ _ _ _ us hl => match us, hl with | [_, _], _ => rfl) (fun vs H Q E h => ?_) (fun f cdv A outer s H vs Q E hr h => ?_)
  · obtain ⟨a, m, t, ms, rfl, _⟩ := h
    rfl
  · obtain ⟨a, m, t, ms, rfl, ha, nd, hl, ⟨as, hm, el, tp⟩, nm, hl2, q⟩ := h
    refine ⟨_, (pss_cons (ps_set (i := 2) sc_after_moves.nd rfl (Or.inr rfl) (pe_dc (own := [("ref", 3), ("_", 4), ("new", 5)]) (g := _) (by rfl) sc_after_moves.nd (pi_tup (pv 1)) (blkOk_by (own := [("ref", 3), ("_", 4), ("new", 5)]) (N := ["ids", "moves", "news", "ref", "_", "new", "kept", "made"]) (sc := C8.fnScope s_after_moves) (by decide +kernel)) (fun _ _ _ _ _ => (pg_tupK (K := K) (n := 3) rfl rfl (pgs_cons (pg_name (i := 3) sc_after_moves.nd rfl (Or.inl rfl)) (pgs_cons (pg_name (i := 4) sc_after_moves.nd rfl (Or.inl rfl)) (pgs_cons (pg_name (i := 5) sc_after_moves.nd rfl (Or.inl rfl)) pgs_nil))))) (fun _ _ _ _ _ => pts_nil) (fun _ _ _ _ _ => (pv 3)) (fun _ _ _ _ _ => (pv 5))))
      (pss_cons (ps_lock (ps_setDc (i := 6) (own := [("ref", 3)]) (g := gName 3) (by rfl) sc_after_moves.nd rfl rfl (sw_trueD rfl rfl rfl (by decide +kernel)) (pi_keys (pv 0)) (blkOk_by (own := [("ref", 3)]) (N := ["ids", "moves", "news", "ref", "_", "new", "kept", "made"]) (sc := C8.fnScope s_after_moves) (by decide +kernel)) (fun _ _ _ _ _ => (pg_name (i := 3) sc_after_moves.nd rfl (Or.inl rfl))) (fun _ _ _ _ _ => pts_one (pt_cmp (pc_dnotin (hu_of hr) (pv 3) (pv 2)))) (fun _ _ _ _ _ => (pv 3)) (fun _ _ _ _ _ => (pe_dget (hu_of hr) (pv 0) (pv 3) (fun _ _ => rfl)))))
      (pss_cons (ps_lock (ps_setDc (i := 7) (own := [("ref", 3)]) (g := gName 3) (by rfl) sc_after_moves.nd rfl rfl (sw_trueD rfl rfl rfl (by decide +kernel)) (pi_keys (pv 2)) (blkOk_by (own := [("ref", 3)]) (N := ["ids", "moves", "news", "ref", "_", "new", "kept", "made"]) (sc := C8.fnScope s_after_moves) (by decide +kernel)) (fun _ _ _ _ _ => (pg_name (i := 3) sc_after_moves.nd rfl (Or.inl rfl))) (fun _ _ _ _ _ => pts_one (pt_cmpR op_notN (pe_dget (hu_of hr) (pv 2) (pv 3) (fun _ _ => rfl)) pe_non (nomark _))) (fun _ _ _ _ _ => (pv 3)) (fun _ _ _ _ _ => (pe_dget (hu_of hr) (pv 2) (pv 3) (fun _ _ => rfl)))))
      (pss_one (ps_ret (pe_stars (.cons (pv 6) (.cons (pv 7) .nil)) (by decide) rfl)))))), ?_⟩
    rw [List.length_map] at el
    refine ⟨.ref m, rfl, m, rfl, ⟨_, SqT.of hm⟩, fun D hD => ?_⟩
    refine dc_tab (us := as.zip ms) (val := fun u => V.ref u.1) (yields_zip el) (fun u => u.2.1) (fun u => u.2.2.2) (fun _ => true) (fun u => [some (.ref a), some (.ref m), none, some (.str u.2.1), some u.2.2.1, some u.2.2.2, none, none]) hD (fun H s => SqT.of (s _ _ hm)) (fun _ _ => rfl)
      (fun H2 u s2 hu R r => ⟨u.1, _, rfl, SqT.of (s2 _ _ (tups_get ⟨by rw [List.length_map]; exact el, tp⟩ hu)), rfl, _, _, rfl, _, _, rfl, _, _, rfl, rfl, r⟩) (fun H u _ _ R r => r H (Same.refl H)) (fun H u _ _ _ R r => ⟨_, rfl, r H (Same.refl H)⟩) (fun H u _ _ _ R r => ⟨_, rfl, r H (Same.refl H)⟩) ?_ ?_ (fun H2 s2 h2 => ?_)
    · rw [List.length_zip]
      omega
    · rw [filt_all, show (fun u : Addr × (Str × V × V) => u.2.1) = (fun m : Str × V × V => m.1) ∘ Prod.snd from rfl, ← List.map_map, List.map_snd_zip (by omega)]
      exact nm
    · have en : ((as.zip ms).filter fun _ => true).map (fun u => (u.2.1, u.2.2.2)) = newsT ms := by
        rw [filt_all, show (fun u : Addr × (Str × V × V) => (u.2.1, u.2.2.2)) = (fun m : Str × V × V => (m.1, m.2.2)) ∘ Prod.snd from rfl, ← List.map_map, List.map_snd_zip (by omega)]
        rfl
      rw [en] at h2
      have nDa : D ≠ a := ne_of_none' hD ha
      refine ⟨a, _, s2 _ _ ha, trivial, fun od => ⟨.ref a, rfl, a, od, rfl, .inl ⟨kT t, upd_same, fun D2 hD2 => ?_⟩⟩⟩
      have h2' : (upd H2 a (.frz od (.dK (kT t)))) D = some (.dK (kT (newsT ms))) := by rw [upd_ne nDa]; exact h2
      refine dc_tab (us := t) (val := fun e => V.str e.1) yields_tab (fun e => e.1) (fun e => e.2) (fun e => (valV (newsT ms) e.1).isNone) (fun e => [some (.ref a), some (.ref m), some (.ref D), some (.str e.1), none, none, none, none]) hD2 (fun H s => s _ _ upd_same) (fun _ _ => rfl)
        (fun H u _ _ R r => r) (fun H3 e s3 he R r => ?_) (fun H u _ _ _ R r => ⟨_, rfl, r H (Same.refl H)⟩) (fun H3 e s3 he _ R r => ?_) (by omega) (nd_filter nd _) (fun H3 s3 h3 => ?_)
      · refine ⟨.str e.1, rfl, .ref D, rfl, D, _, rfl, dget_kT (.inl (s3 _ _ h2')) e.1, _, rfl, ?_⟩
        rw [Option.not_isSome]
        exact r H3 (Same.refl H3)
      · refine ⟨.ref a, rfl, .str e.1, rfl, a, e.2, rfl, ?_, r H3 (Same.refl H3)⟩
        have d := dget_kT (.inr ⟨od, s3 _ _ upd_same⟩) e.1
        rw [val_nodup nd e he] at d
        exact d
      · have s23 : Same H2 (upd H3 a (.dK (kT t))) := same_unlock s3 (s2 _ _ ha)
        have hD2n : D2 ≠ a := lock_ne hD2
        have nD2D : D2 ≠ D := ne_of_none' (lock_free hD2) h2
        have h3' : (upd H3 a (.dK (kT t))) D2 = some (.dK (kT (keptT t (newsT ms)))) := by
          rw [upd_ne hD2n, h3]
          congr 3
          exact List.map_id' _
        have hD2f : H2 D2 = none := lock_free hD2
        refine ⟨s3 _ _ upd_same, ?_⟩
        generalize upd H3 a (.dK (kT t)) = H4 at s23 h3'
        refine ⟨D, _, s23 _ _ h2, trivial, fun od2 => ⟨.ref D, rfl, D, od2, rfl, .inl ⟨kT (newsT ms), upd_same, fun D3 hD3 => ?_⟩⟩⟩
        refine dc_tab (us := newsT ms) (val := fun e => V.str e.1) yields_tab (fun e => e.1) (fun e => e.2) (fun e => notNon e.2) (fun e => [some (.ref a), some (.ref m), some (.ref D), some (.str e.1), none, none, some (.ref D2), none]) hD3 (fun H s => s _ _ upd_same) (fun _ _ => rfl)
          (fun H u _ _ R r => r) (fun H5 e s5 he R r => ?_) (fun H u _ _ _ R r => ⟨_, rfl, r H (Same.refl H)⟩) (fun H5 e s5 he _ R r => ?_) (by have : (newsT ms).length = ms.length := List.length_map ..; omega) (nd_filter (nd_news nm) _) (fun H5 s5 h5 => ?_)
        · have d := dget_kT (.inr ⟨od2, s5 _ _ upd_same⟩) e.1
          rw [val_nodup (nd_news nm) e he] at d
          refine ⟨.ref D, rfl, .str e.1, rfl, D, e.2, rfl, d, rfl, _, rfl, ?_⟩
          have en : (!decide (e.2 = V.non)) = notNon e.2 := by cases e.2 <;> rfl
          rw [en]
          exact r H5 (Same.refl H5)
        · have d := dget_kT (.inr ⟨od2, s5 _ _ upd_same⟩) e.1
          rw [val_nodup (nd_news nm) e he] at d
          exact ⟨.ref D, rfl, .str e.1, rfl, D, e.2, rfl, d, r H5 (Same.refl H5)⟩
        · have s45 : Same H4 (upd H5 D (.dK (kT (newsT ms)))) := same_unlock s5 (s23 _ _ h2)
          have h5' : (upd H5 D (.dK (kT (newsT ms)))) D3 = some (.dK (kT (madeT (newsT ms)))) := by
            rw [upd_ne (lock_ne hD3), h5]
            congr 3
            exact List.map_id' _
          refine ⟨s5 _ _ upd_same, ?_⟩
          generalize upd H5 D (.dK (kT (newsT ms))) = H6 at s45 h5'
          have na := nd_after nd nm
          have lk := List.length_filter_le (fun p : Str × V => (valV (newsT ms) p.1).isNone) t
          have lm := List.length_filter_le (fun p : Str × V => notNon p.2) (newsT ms)
          have ln : (newsT ms).length = ms.length := List.length_map ..
          have h6 := s45 _ _ h3'
          intro p hp
          have np2 : p ≠ D2 := ne_of_none' hp h6
          have np3 : p ≠ D3 := ne_of_none' hp h5'
          refine ⟨.ref D2, rfl, D2, [], kT (keptT t (newsT ms)), rfl, np2, upd_same, by rw [upd_ne np2.symm]; exact h6, small_line (by rw [len_kT]; unfold keptT; simp; omega), ?_⟩
          have m1 : mergeK [] (kT (keptT t (newsT ms))) = kT (keptT t (newsT ms)) := merge_kT (t := []) (nd_filter nd _)
          rw [m1]
          refine ⟨.ref D3, rfl, D3, kT (keptT t (newsT ms)), kT (madeT (newsT ms)), rfl, np3, upd_same, by rw [upd_ne np3.symm, upd_ne np3.symm]; exact h5', small_line (by rw [len_kT, len_kT]; unfold keptT madeT; omega), ?_⟩
          rw [merge_kT na]
          have s06 := (s2.trans s23).trans s45
          refine q p _ (s06.free hp) (fun b o e => ?_) upd_same
          have nb : b ≠ p := ne_of_none (s06 _ _ e) hp
          rw [upd_ne nb, upd_ne nb, upd_ne nb]
          exact s06 _ _ e
end

end Fk

set_option maxHeartbeats 4000000
namespace Fk
open PySem PySem.Spec PyProof.Rows L2
section
variable {P : Program} {w : World} {K : PySem.W.Frag} {mg : Str → Option Value} {base : Heap}
def logsBehind (L : Str → List (List V)) (note : List V) (ms : List (Str × V × V)) (b : Bool) (v1 v2 : V) : Str → List (List V) := if b = true then logPut (logMoves L note ms) "HEAD" ([v1, v2] ++ note) else logMoves L note ms
def spMoved (K : PySem.W.Frag) : Sp := fun vs H Q _ => ∃ (st m hd nt r oh lg : Addr) (u lu : Tab) (L : Str → List (List V)) (ms : List (Str × V × V)) (ox on hx hn : Str) (n1 n2 n3 : V), vs = [.ref st, .ref m, .ref hd, .ref nt] ∧ H st = some (.tup [.ref r, .ref oh, .ref lg]) ∧
  TupsAt H r (u.map rowL) ∧ Nd u ∧ TupsAt H lg (lu.map rowL) ∧ Nd lu ∧ LogsOk H lu L ∧ TupK K H oh [.str ox, .str on] ∧ TupK K H hd [.str hx, .str hn] ∧ OkS ox ∧ OkS on ∧ OkS hx ∧ OkS hn ∧ H nt = some (.tup [n1, n2, n3]) ∧
  TupsAt H m (ms.map moveL) ∧ (ms.map (·.1)).Nodup ∧ (∀ e ∈ u, flatN e.2) ∧ (∀ e ∈ ms, flatN e.2.1 ∧ flatN e.2.2) ∧ u.length + ms.length < 64 ∧ lu.length + ms.length + 1 < 64 ∧ (∀ x, (L x).length ≤ 1000) ∧
  ∀ p r' lg' H' u' lu', H p = none → Same H H' → H' p = some (.tup [.ref r', .ref hd, .ref lg']) → TupsAt H' r' (u'.map rowL) → SortOf (afterT u ms) u' → TupsAt H' lg' (lu'.map rowL) → Nd lu' → lu'.length ≤ lu.length + ms.length + 1 →
    LogsOk H' lu' (logsBehind L [n1, n2, n3] ms (decide ((ox, on) ≠ (hx, hn)) || decide (ledF u ox on ≠ ledF (afterT u ms) hx hn)) (ledF u ox on) (ledF (afterT u ms) hx hn)) → Q (.ref p) H'
theorem c_moved (T : Top K mg) : C8.Cal P w K mg base 3 "moved" (spMoved K) [] := by
  refine cal_of T.d_moved sc_moved (fun _ _ _ _ _ _ us hl => match us, hl with | [_, _, _, _], _ => rfl) (fun vs H Q E h => ?_) (fun f cdv A outer s H vs Q E hr h => ?_)
  · obtain ⟨st, m, hd, nt, r, oh, lg, u, lu, L, ms, ox, on, hx, hn, n1, n2, n3, rfl, _⟩ := h
    rfl
  · obtain ⟨st, m, hd, nt, r, oh, lg, u, lu, L, ms, ox, on, hx, hn, n1, n2, n3, rfl, hst, ⟨rs, hr1, er, tr⟩, ndu, ⟨ls, hl1, el, tl⟩, ndl, lk, hoh, hhd, ko1, ko2, ko3, ko4, hnt, hms, nm, fu, fm, b1, b2, b3, q⟩ := h
    refine ⟨_, (pss_cons (ps_asg (pv 0) (pg_tup rfl (pgs_cons (pg_name (i := 4) sc_moved.nd rfl (Or.inl rfl)) (pgs_cons (pg_name (i := 5) sc_moved.nd rfl (Or.inl rfl)) (pgs_cons (pg_name (i := 6) sc_moved.nd rfl (Or.inl rfl)) pgs_nil)))))
      (pss_cons (ps_setDc (i := 7) (own := [("ref", 8), ("name", 9)]) (g := _) (by rfl) sc_moved.nd rfl rfl (sw_trueD rfl rfl rfl (by decide +kernel)) (pi_tup (pv 4)) (blkOk_by (own := [("ref", 8), ("name", 9)]) (N := ["state", "moves", "head", "note", "rows", "old_head", "logs", "old_ids", "ref", "name", "ids", "entries", "log", "old", "new", "before", "behind"]) (sc := C8.fnScope s_moved) (by decide +kernel)) (fun _ _ _ _ _ => (pg_tupK (K := K) (n := 2) rfl rfl (pgs_cons (pg_name (i := 8) sc_moved.nd rfl (Or.inl rfl)) (pgs_cons (pg_name (i := 9) sc_moved.nd rfl (Or.inl rfl)) pgs_nil)))) (fun _ _ _ _ _ => pts_nil) (fun _ _ _ _ _ => (pv 8)) (fun _ _ _ _ _ => (pv 9)))
      (pss_cons (ps_set (i := 10) sc_moved.nd rfl (Or.inl rfl) (C8.pe_c (c_after_moves T) hr (by decide) (by rfl) (pa_cons (pv 7) (pa_cons (pv 1) pa_nil))))
      (pss_cons (ps_setDc (i := 11) (own := [("name", 9), ("log", 12)]) (g := _) (by rfl) sc_moved.nd rfl rfl (sw_trueD rfl rfl rfl (by decide +kernel)) (pi_tup (pv 6)) (blkOk_by (own := [("name", 9), ("log", 12)]) (N := ["state", "moves", "head", "note", "rows", "old_head", "logs", "old_ids", "ref", "name", "ids", "entries", "log", "old", "new", "before", "behind"]) (sc := C8.fnScope s_moved) (by decide +kernel)) (fun _ _ _ _ _ => (pg_tupK (K := K) (n := 2) rfl rfl (pgs_cons (pg_name (i := 9) sc_moved.nd rfl (Or.inl rfl)) (pgs_cons (pg_name (i := 12) sc_moved.nd rfl (Or.inl rfl)) pgs_nil)))) (fun _ _ _ _ _ => pts_nil) (fun _ _ _ _ _ => (pv 9)) (fun _ _ _ _ _ => (pv 12)))
      (pss_cons (ps_for PassesOwn.never rfl (pi_tup (pv 1)) (pg_tup rfl (pgs_cons (pg_name (i := 8) sc_moved.nd rfl (Or.inl rfl)) (pgs_cons (pg_name (i := 13) sc_moved.nd rfl (Or.inl rfl)) (pgs_cons (pg_name (i := 14) sc_moved.nd rfl (Or.inl rfl)) pgs_nil))))
      (pss_one (ps_dput (hu_of hr) (pv 11) (pv 8) (pe_op op_catA (pe_dget2 (hu_of hr) (pv 11) (pv 8) (pe_tup pa_nil) ⟨rfl, rfl, rfl, rfl⟩) (pe_tup (pa_cons (pe_op op_catA (pe_tup (pa_cons (pv 13) (pa_cons (pv 14) pa_nil))) (pv 3)) pa_nil))) rfl)))
      (pss_cons (ps_set (i := 15) sc_moved.nd rfl (Or.inl rfl) (C8.pe_c (c_led_to T) hr (by decide) (by rfl) (pa_cons (pv 7) (pa_cons (pv 5) pa_nil))))
      (pss_cons (ps_set (i := 16) sc_moved.nd rfl (Or.inl rfl) (C8.pe_c (c_led_to T) hr (by decide) (by rfl) (pa_cons (pv 10) (pa_cons (pv 2) pa_nil))))
      (C8.pss_cut (ps_if (PW.pt (pw_or (pt_cmpR (op_neD hr.units) (pv 2) (pv 5) (nomark _)) (pw_or1 (pt_cmpR op_ne (pv 15) (pv 16) (nomark _)))))
      (pss_one (ps_dput (hu_of hr) (pv 11) pe_str (pe_op op_catA (pe_dget2 (hu_of hr) (pv 11) pe_str (pe_tup pa_nil) ⟨rfl, rfl, rfl, rfl⟩) (pe_tup (pa_cons (pe_op op_catA (pe_tup (pa_cons (pv 15) (pa_cons (pv 16) pa_nil))) (pv 3)) pa_nil))) rfl))
      pss_nil)
      (pss_one (ps_ret (pe_tup (pa_cons (C8.pe_c (c_sorted_rows T) hr (by decide) (by rfl) (pa_cons (pv 10) pa_nil)) (pa_cons (pv 2) (pa_cons (C8.pe_c (c_sorted_rows T) hr (by decide) (by rfl) (pa_cons (pv 11) pa_nil)) pa_nil)))))))))))))), ?_⟩
    rw [List.length_map] at er el
    refine ⟨.ref st, rfl, st, _, rfl, SqT.of hst, rfl, _, _, rfl, _, _, rfl, _, _, rfl, rfl, ?_⟩
    refine ⟨.ref r, rfl, r, rfl, ⟨_, SqT.of hr1⟩, fun D0 hD0 => ?_⟩
    refine dc_tab (us := rs.zip u) (val := fun z => V.ref z.1) (yields_zip er) (fun z => z.2.1) (fun z => z.2.2) (fun _ => true) (fun z => [some (.ref st), some (.ref m), some (.ref hd), some (.ref nt), some (.ref r), some (.ref oh), some (.ref lg), none, some (.str z.2.1), some z.2.2, none, none, none, none, none, none, none]) hD0 (fun H s => SqT.of (s _ _ hr1)) (fun _ _ => rfl)
      (fun H2 z s2 hz R k => ⟨z.1, _, rfl, SqT.of (s2 _ _ (tups_get ⟨by rw [List.length_map]; exact er, tr⟩ hz)), rfl, _, _, rfl, _, _, rfl, rfl, k⟩) (fun H u _ _ R k => k H (Same.refl H)) (fun H u _ _ _ R k => ⟨_, rfl, k H (Same.refl H)⟩) (fun H u _ _ _ R k => ⟨_, rfl, k H (Same.refl H)⟩) (by rw [List.length_zip]; omega) ?_ (fun H1 s1 h1 => ?_)
    · rw [filt_all, show (fun z : Addr × (Str × V) => z.2.1) = (fun m : Str × V => m.1) ∘ Prod.snd from rfl, ← List.map_map, List.map_snd_zip (by omega)]
      exact ndu
    have e0 : ((rs.zip u).filter fun _ => true).map (fun z => (z.2.1, z.2.2)) = u := by
      rw [filt_all, show (fun z : Addr × (Str × V) => (z.2.1, z.2.2)) = Prod.snd from rfl, List.map_snd_zip (by omega)]
    rw [e0] at h1
    refine ⟨.ref D0, rfl, .ref m, rfl, D0, m, u, ms, rfl, h1, ndu, by omega, hms.keep (TupKeep.of s1), nm, by omega, fun D1 H2 hD1 s2 h2 => ?_⟩
    have s12 := s1.trans s2
    refine ⟨.ref lg, rfl, lg, rfl, ⟨_, SqT.of (s12 _ _ hl1)⟩, fun D2 hD2 => ?_⟩
    refine dc_tab (us := ls.zip lu) (val := fun z => V.ref z.1) (yields_zip el) (fun z => z.2.1) (fun z => z.2.2) (fun _ => true) (fun z => [some (.ref st), some (.ref m), some (.ref hd), some (.ref nt), some (.ref r), some (.ref oh), some (.ref lg), some (.ref D0), none, some (.str z.2.1), some (.ref D1), none, some z.2.2, none, none, none, none]) hD2 (fun H s => SqT.of ((s12.trans s) _ _ hl1)) (fun _ _ => rfl)
      (fun H2 z s2 hz R k => ⟨z.1, _, rfl, SqT.of ((s12.trans s2) _ _ (tups_get ⟨by rw [List.length_map]; exact el, tl⟩ hz)), rfl, _, _, rfl, _, _, rfl, rfl, k⟩) (fun H u _ _ R k => k H (Same.refl H)) (fun H u _ _ _ R k => ⟨_, rfl, k H (Same.refl H)⟩) (fun H u _ _ _ R k => ⟨_, rfl, k H (Same.refl H)⟩) (by rw [List.length_zip]; omega) ?_ (fun H3 s3 h3 => ?_)
    · rw [filt_all, show (fun z : Addr × (Str × V) => z.2.1) = (fun m : Str × V => m.1) ∘ Prod.snd from rfl, ← List.map_map, List.map_snd_zip (by omega)]
      exact ndl
    have e1 : ((ls.zip lu).filter fun _ => true).map (fun z => (z.2.1, z.2.2)) = lu := by
      rw [filt_all, show (fun z : Addr × (Str × V) => (z.2.1, z.2.2)) = Prod.snd from rfl, List.map_snd_zip (by omega)]
    rw [e1] at h3
    have s13 := s12.trans s3
    obtain ⟨mss, hmm, em, tm⟩ := hms
    rw [List.length_map] at em
    refine ⟨.ref m, rfl, m, rfl, ⟨_, SqT.of (s13 _ _ hmm)⟩, ?_⟩
    refine forG (items := (mss.zip ms).map fun z => V.ref z.1) (yields_zip em) (fun i σ H' => FrL [D2] H3 H' ∧ TupKeep H3 H' ∧ ∃ (lt : Tab) (x8 x13 x14 : Option V), H' D2 = some (.dK (kT lt)) ∧ Nd lt ∧ lt.length ≤ lu.length + i ∧ LogsOk H' lt (logMoves L [n1, n2, n3] (ms.take i)) ∧
      σ = [some (.ref st), some (.ref m), some (.ref hd), some (.ref nt), some (.ref r), some (.ref oh), some (.ref lg), some (.ref D0), x8, none, some (.ref D1), some (.ref D2), none, x13, x14, none, none]) ?_ ?_ ?_ ?_
    · exact ⟨FrL.refl _ _, TupKeep.refl _, lu, none, none, none, h3, ndl, Nat.le_refl _, lk.keep (TupKeep.of s13), rfl⟩
    · rintro i σ H' ⟨_, k, _⟩
      exact SqT.of (k _ _ (s13 _ _ hmm))
    · rintro i x σ H4 hx' ⟨fr, kp, lt, x8, x13, x14, hD, nd, hl, lk4, rfl⟩
      rw [List.getElem?_map] at hx'
      cases hz : (mss.zip ms)[i]? with
      | none => rw [hz] at hx'; cases hx'
      | some z =>
        rw [hz] at hx'
        cases hx'
        have hz2 : ms[i]? = some z.2 := (List.getElem?_zip_eq_some.mp hz).2
        have ht : H4 z.1 = some (.tup (moveL z.2)) := kp _ _ (s13 _ _ (tups_get ⟨by rw [List.length_map]; exact em, tm⟩ (List.mem_of_getElem? hz)))
        have hi : i < ms.length := (List.getElem?_eq_some_iff.mp hz2).1
        refine ⟨z.1, _, rfl, SqT.of ht, rfl, _, _, rfl, _, _, rfl, _, _, rfl, rfl, ?_⟩
        refine log_step (x := z.2.1) (v1 := z.2.2.1) (v2 := z.2.2.2) hD lk4 (kp _ _ (s13 _ _ hnt)) ?_ (by omega) (fun H' Q q => ⟨_, rfl, q⟩) (fun H' Q q => ⟨_, rfl, q⟩) (fun H' Q q => ⟨_, rfl, q⟩) (fun H' Q q => ⟨_, rfl, q⟩) (fun H' Q q => ⟨_, rfl, q⟩) (fun H5 p f k h5 l => ?_)
        · have := logMoves_len L [n1, n2, n3] z.2.1 (ms.take i)
          have := b3 z.2.1
          rw [List.length_take] at *
          omega
        · refine ⟨fr.trans f, kp.trans k, _, _, _, _, h5, nd_put nd _ _, ?_, ?_, rfl⟩
          · have := len_put lt z.2.1 (.ref p)
            omega
          · rw [logMoves_take hz2]
            exact l
    · rintro σ H4 ⟨fr, kp, lt, x8, x13, x14, hD, nd, hl, lk4, rfl⟩
      rw [List.length_map, List.length_zip, em, Nat.min_self] at hl lk4
      rw [List.take_length] at lk4
      have s24 : Same H2 H4 := same_frl hD2 s3 fr
      have s4 := s12.trans s24
      have h04 := s24 _ _ (s2 _ _ h1)
      have h14 := s24 _ _ h2
      have fa := flat_after fu (fun e he => (fm e he).2)
      refine ⟨.ref D0, rfl, .ref oh, rfl, D0, oh, u, ox, on, rfl, h04, hoh.keep (TupKeep.of s4), ?_⟩
      refine ⟨.ref D1, rfl, .ref hd, rfl, D1, hd, afterT u ms, hx, hn, rfl, h14, hhd.keep (TupKeep.of s4), ?_⟩
      refine ⟨fun σ H' => Same H H' ∧ H' D1 = some (.dK (kT (afterT u ms))) ∧ ∃ lt2, H' D2 = some (.dK (kT lt2)) ∧ Nd lt2 ∧ lt2.length ≤ lu.length + ms.length + 1 ∧ LogsOk H' lt2 (logsBehind L [n1, n2, n3] ms (decide ((ox, on) ≠ (hx, hn)) || decide (ledF u ox on ≠ ledF (afterT u ms) hx hn)) (ledF u ox on) (ledF (afterT u ms) hx hn)) ∧
        σ[2]? = some (some (.ref hd)) ∧ σ[10]? = some (some (.ref D1)) ∧ σ[11]? = some (some (.ref D2)), ?_, ?_⟩
      · have put : ∀ {b : Bool}, b = true → logsBehind L [n1, n2, n3] ms b (ledF u ox on) (ledF (afterT u ms) hx hn) = logPut (logMoves L [n1, n2, n3] ms) "HEAD" ([ledF u ox on, ledF (afterT u ms) hx hn] ++ [n1, n2, n3]) := fun h => if_pos h
        have yes : ∀ {D : Ends} {σ : L2.St}, σ[3]? = some (some (.ref nt)) → σ[11]? = some (some (.ref D2)) → σ[15]? = some (some (ledF u ox on)) → σ[16]? = some (some (ledF (afterT u ms) hx hn)) → (∀ H' p, FrL [D2] H4 H' → TupKeep H4 H' → H' D2 = some (.dK (kT (putK lt "HEAD" (.ref p)))) → LogsOk H' (putK lt "HEAD" (.ref p)) (logPut (logMoves L [n1, n2, n3] ms) "HEAD" ([ledF u ox on, ledF (afterT u ms) hx hn] ++ [n1, n2, n3])) → D.nx σ H') →
            sDPut (tVar 11) (tC (.str "HEAD")) (tOp (rCatA K) (tDGet2 (tVar 11) (tC (.str "HEAD")) (tTup tNil)) (tTup (tCons (tOp (rCatA K) (tTup (tCons (tVar 15) (tCons (tVar 16) tNil))) (tVar 3)) tNil))) D σ H4 := fun a3 a11 a15 a16 k => by
          refine log_step hD lk4 (kp _ _ (s13 _ _ hnt)) ?_ (by omega) (fun H' Q q => q) (fun H' Q q => ⟨_, a15, q⟩) (fun H' Q q => ⟨_, a16, q⟩) (fun H' Q q => ⟨_, a11, q⟩) (fun H' Q q => ⟨_, a3, q⟩) k
          have := logMoves_len L [n1, n2, n3] "HEAD" ms
          have := b3 "HEAD"
          omega
        have mid : ∀ H' p, FrL [D2] H4 H' → TupKeep H4 H' → H' D2 = some (.dK (kT (putK lt "HEAD" (.ref p)))) → Same H H' ∧ H' D1 = some (.dK (kT (afterT u ms))) ∧ (putK lt "HEAD" (.ref p)).length ≤ lu.length + ms.length + 1 := fun H' p f k h =>
          ⟨same_frl (s12.free hD2) s4 f, same_frl hD2 s24 f _ _ h2, by have := len_put lt "HEAD" (.ref p); omega⟩
        refine ⟨.ref hd, rfl, .ref oh, rfl, _, _, dp_head (hhd.keep (TupKeep.of s4)), dp_head (hoh.keep (TupKeep.of s4)), shaped_head ko3 ko4, shaped_head ko1 ko2, _, rfl, ?_⟩
        rw [eqv_head, ← decide_not]
        by_cases c1 : ¬ (ox, on) = (hx, hn)
        · rw [decide_eq_true c1]
          refine iteT (yes rfl rfl rfl rfl fun H' p f k h l => ?_)
          obtain ⟨m1, m2, m3⟩ := mid H' p f k h
          exact ⟨m1, m2, _, h, nd_put nd _ _, m3, l, rfl, rfl, rfl⟩
        · rw [decide_eq_false c1]
          refine iteF ⟨ledF u ox on, rfl, ledF (afterT u ms) hx hn, rfl, scal_flat (flat_led fu _ _) (flat_led fa _ _), _, rfl, ?_⟩
          rw [← decide_not]
          by_cases c2 : ¬ ledF u ox on = ledF (afterT u ms) hx hn
          · rw [decide_eq_true c2]
            refine iteT (yes rfl rfl rfl rfl fun H' p f k h l => ?_)
            obtain ⟨m1, m2, m3⟩ := mid H' p f k h
            exact ⟨m1, m2, _, h, nd_put nd _ _, m3, l, rfl, rfl, rfl⟩
          · rw [decide_eq_false c2]
            exact iteF ⟨s4, h14, lt, hD, nd, by omega, lk4, rfl, rfl, rfl⟩
      · rintro σ H5 ⟨s5, h15, lt2, h25, nd2, l2, lk5, a2, a10, a11⟩
        refine ⟨.ref D1, a10, D1, afterT u ms, rfl, h15, nd_after ndu nm, by have := len_after (t := u) (ms := ms); omega, fun p1 u' H6 s6 hp1 so1 t1 => ?_⟩
        refine ⟨.ref hd, a2, .ref D2, a11, D2, lt2, rfl, s6 _ _ h25, nd2, by omega, fun p2 lu' H7 s7 hp2 so2 t2 => ?_⟩
        refine ⟨(by show 3 ≤ sizeLine; decide), fun p hp => ?_⟩
        have s57 := (s5.trans s6).trans s7
        have s8 : Same H (upd H7 p (.tup [.ref p1, .ref hd, .ref p2])) := s57.trans (same_new hp)
        refine q p p1 p2 _ u' lu' (s57.free hp) s8 upd_same (t1.keep (TupKeep.of (s7.trans (same_new hp)))) so1 (t2.keep (TupKeep.of (same_new hp))) (so2.nd nd2) (by rw [so2.len]; exact l2) ?_
        exact (lk5.keep (TupKeep.of ((s6.trans s7).trans (same_new hp)))).of so2.2.2
end

end Fk

set_option maxHeartbeats 4000000
namespace Fk
open PySem PySem.Spec PyProof.Rows L2
/-- the two classes and the errors -/
structure TopR (K : PySem.W.Frag) (mg : Str → Option Value) (CE CR cS cB iS iB ns r0 h0 l0 : Addr) : Prop extends Top K mg where
  cE : Cls K CE
  cR : Cls K CR
  pEdit : PlainEq K CE
  ne : CE ≠ CR
  mE : mg "Edit" = some (.ref CE)
  mR : mg "Refs" = some (.ref CR)
  m_Edit_stand : MDef K CE "stand" "Edit.stand" s_Edit_stand
  m_Edit_finish : MDef K CE "finish" "Edit.finish" s_Edit_finish
  m_Edit_drop : MDef K CE "drop" "Edit.drop" s_Edit_drop
  m_Edit_moves : MDef K CE "moves" "Edit.moves" s_Edit_moves
  m_Edit_behind : MDef K CE "behind" "Edit.behind" s_Edit_behind
  m_Editcheck_open : MDef K CE "_check_open" "Edit._check_open" s_Editcheck_open
  m_Editcall : MDef K CE "_call" "Edit._call" s_Editcall
  m_Editids : MDef K CE "_ids" "Edit._ids" s_Editids
  m_Refs_getitem : MDef K CR "__getitem__" "Refs.__getitem__" s_Refs_getitem
  m_Refs_contains : MDef K CR "__contains__" "Refs.__contains__" s_Refs_contains
  m_Refs_len : MDef K CR "__len__" "Refs.__len__" s_Refs_len
  m_Refs_names : MDef K CR "names" "Refs.names" s_Refs_names
  m_Refs_head : MDef K CR "head" "Refs.head" s_Refs_head
  m_Refs_at_head : MDef K CR "at_head" "Refs.at_head" s_Refs_at_head
  m_Refs_state : MDef K CR "state" "Refs.state" s_Refs_state
  m_Refs_log : MDef K CR "log" "Refs.log" s_Refs_log
  m_Refs_edit : MDef K CR "edit" "Refs.edit" s_Refs_edit
  m_Refs_lock : MDef K CR "lock" "Refs.lock" s_Refs_lock
  m_Refstake_over : MDef K CR "_take_over" "Refs._take_over" s_Refstake_over
  m_Refs_become : MDef K CR "become" "Refs.become" s_Refs_become
  nE_refs : NoAttr K CE "_refs"
  nE_note : NoAttr K CE "_note"
  nE_calls : NoAttr K CE "_calls"
  nE_new_head : NoAttr K CE "_new_head"
  nEclosed : NoAttr K CE "closed"
  nR_locks : NoAttr K CR "_locks"
  nR_table : NoAttr K CR "_table"
  nR_head : NoAttr K CR "_head"
  nR_logs : NoAttr K CR "_logs"
  eS : ErrC K mg "Stale" "ref" cS iS
  eB : ErrC K mg "BadRef" "why" cB iB
  iE : ∃ f fd, Mk K CE f ∧ C8.Fun K "__init__" "Edit.__init__" s_Edit_init f fd ∧ fd.defaults = .none
  iR : ∃ f fd ds, Mk K CR f ∧ C8.Fun K "__init__" "Refs.__init__" s_Refs_init f fd ∧ Vals [V.non] ds ∧ Binds K fd ["self", "state"] ds
  kP : ∃ f fd, Meth K CE "point" f ∧ C8.Fun K "point" "Edit.point" s_Edit_point f fd ∧ fd.defaults = .none
  kD : ∃ f fd, Meth K CE "delete" f ∧ C8.Fun K "delete" "Edit.delete" s_Edit_delete f fd ∧ fd.defaults = .none
  g_NEW_STATE : ∃ u, mg "NEW_STATE" = some u ∧ RelV (V.ref ns) u
  kS : KTup K ns [.ref r0, .ref h0, .ref l0]
  kr : KTup K r0 []
  kh : KTup K h0 [.str "ref", .str "main"]
  kl : KTup K l0 []
  exSS : PySem.W.exmOne K (.ref cS) (.ref cS) = some true
  exBS : PySem.W.exmOne K (.ref cB) (.ref cS) = some false
  exBB : PySem.W.exmOne K (.ref cB) (.ref cB) = some true
section
variable {P : Program} {w : World} {K : PySem.W.Frag} {mg : Str → Option Value} {base : Heap} {CE CR cS cB iS iB ns r0 h0 l0 : Addr}
def spOpen (CE : Addr) : Sp := fun vs H Q _ => ∃ (E dx R nt cl : Addr) (nh : V), vs = [.ref E] ∧ H E = some (.ins CE dx (ef R nt cl nh false)) ∧ Q .non H
theorem m_Editcheck_open (T : TopR K mg CE CR cS cB iS iB ns r0 h0 l0) : C8.Met P w K mg base 1 CE "_check_open" (spOpen CE) [] := by
  refine met_of T.cE T.m_Editcheck_open sc_Editcheck_open (fun _ _ _ _ _ _ us hl => match us, hl with | [_], _ => rfl) (fun vs H Q E h => ?_) (fun f cdv A outer s H vs Q E hr h => ?_)
  · obtain ⟨E, dx, R, nt, cl, nh, rfl, _⟩ := h
    rfl
  · obtain ⟨e, dx, R, nt, cl, nh, rfl, he, q⟩ := h
    refine ⟨_, (pss_one (ps_if (pt_val (pe_fld (pv 0) rfl))
      (pss_one ps_never)
      pss_nil)), ?_⟩
    refine ⟨.ref e, rfl, e, CE, dx, _, .bl false, rfl, he, T.cE, T.nEclosed, rfl, _, rfl, iteF q⟩
/-- what the references tell -/
def spState (CR : Addr) : Sp := fun vs H Q _ => ∃ (R dx lk tb hd lg : Addr) (t lt : Tab), vs = [.ref R] ∧ H R = some (.ins CR dx (rf lk tb hd lg)) ∧ H tb = some (.dK (kT t)) ∧ Nd t ∧ t.length < 64 ∧ H lg = some (.dK (kT lt)) ∧ Nd lt ∧ lt.length < 64 ∧
  ∀ p r l u lu H', H p = none → Same H H' → H' p = some (.tup [.ref r, .ref hd, .ref l]) → TupsAt H' r (u.map rowL) → SortOf t u → TupsAt H' l (lu.map rowL) → SortOf lt lu → Q (.ref p) H'
theorem m_Refs_state (T : TopR K mg CE CR cS cB iS iB ns r0 h0 l0) : C8.Met P w K mg base 3 CR "state" (spState CR) [] := by
  refine met_of T.cR T.m_Refs_state sc_Refs_state (fun _ _ _ _ _ _ us hl => match us, hl with | [_], _ => rfl) (fun vs H Q E h => ?_) (fun f cdv A outer s H vs Q E hr h => ?_)
  · obtain ⟨R, dx, lk, tb, hd, lg, t, lt, rfl, _⟩ := h
    rfl
  · obtain ⟨R, dx, lk, tb, hd, lg, t, lt, rfl, hR, ht, nd, l1, hl, nl, l2, q⟩ := h
    refine ⟨_, (pss_one (ps_ret (pe_tup (pa_cons (C8.pe_c (c_sorted_rows T.toTop) hr (by decide) (by rfl) (pa_cons (pe_fld (pv 0) rfl) pa_nil)) (pa_cons (pe_fld (pv 0) rfl) (pa_cons (C8.pe_c (c_sorted_rows T.toTop) hr (by decide) (by rfl) (pa_cons (pe_fld (pv 0) rfl) pa_nil)) pa_nil)))))), ?_⟩
    refine ⟨.ref R, rfl, R, CR, dx, _, _, rfl, hR, T.cR, T.nR_table, rfl, tb, t, rfl, ht, nd, l1, fun p1 u H1 s1 hp1 so1 t1 => ?_⟩
    refine ⟨.ref R, rfl, R, CR, dx, _, _, rfl, s1 _ _ hR, T.cR, T.nR_head, rfl, .ref R, rfl, R, CR, dx, _, _, rfl, s1 _ _ hR, T.cR, T.nR_logs, rfl, lg, lt, rfl, s1 _ _ hl, nl, l2, fun p2 lu H2 s2 hp2 so2 t2 => ?_⟩
    have s12 := s1.trans s2
    exact ⟨(by show 3 ≤ sizeLine; decide), fun p hp => q p p1 p2 u lu _ (s12.free hp) (s12.trans (same_new hp)) upd_same (t1.keep (TupKeep.of (s2.trans (same_new hp)))) so1 (t2.keep (TupKeep.of (same_new hp))) so2⟩
/-- the dict of the references -/
def spIds (CE CR : Addr) : Sp := fun vs H Q _ => ∃ (E ex R nt cl dx lk tb hd lg : Addr) (nh : V) (b : Bool) (t lt : Tab), vs = [.ref E] ∧ H E = some (.ins CE ex (ef R nt cl nh b)) ∧ H R = some (.ins CR dx (rf lk tb hd lg)) ∧ H tb = some (.dK (kT t)) ∧ Nd t ∧ t.length < 64 ∧ H lg = some (.dK (kT lt)) ∧ Nd lt ∧ lt.length < 64 ∧
  ∀ D u H', H D = none → Same H H' → H' D = some (.dK (kT u)) → SortOf t u → Q (.ref D) H'
theorem m_Editids (T : TopR K mg CE CR cS cB iS iB ns r0 h0 l0) : C8.Met P w K mg base 4 CE "_ids" (spIds CE CR) [] := by
  refine met_of T.cE T.m_Editids sc_Editids (fun _ _ _ _ _ _ us hl => match us, hl with | [_], _ => rfl) (fun vs H Q E h => ?_) (fun f cdv A outer s H vs Q E hr h => ?_)
  · obtain ⟨E, ex, R, nt, cl, dx, lk, tb, hd, lg, nh, b, t, lt, rfl, _⟩ := h
    rfl
  · obtain ⟨e, ex, R, nt, cl, dx, lk, tb, hd, lg, nh, b, t, lt, rfl, he, hR, ht, nd, l1, hl, nl, l2, q⟩ := h
    refine ⟨_, (pss_one (ps_ret (pe_dc (own := [("ref", 1), ("name", 2)]) (g := _) (by rfl) sc_Editids.nd (pi_tup (pe_ix ix_tup (C8.pe_mt0 (m_Refs_state T) hr (by decide) (pe_fld (pv 0) rfl)) pe_int (fun _ _ => rfl))) (blkOk_by (own := [("ref", 1), ("name", 2)]) (N := ["self", "ref", "name"]) (sc := C8.fnScope s_Editids) (by decide +kernel)) (fun _ _ _ _ _ => (pg_tupK (K := K) (n := 2) rfl rfl (pgs_cons (pg_name (i := 1) sc_Editids.nd rfl (Or.inl rfl)) (pgs_cons (pg_name (i := 2) sc_Editids.nd rfl (Or.inl rfl)) pgs_nil)))) (fun _ _ _ _ _ => pts_nil) (fun _ _ _ _ _ => (pv 1)) (fun _ _ _ _ _ => (pv 2))))), ?_⟩
    refine ⟨.ref e, rfl, e, CE, ex, _, _, rfl, he, T.cE, T.nE_refs, rfl, R, dx, _, rfl, hR, rfl, R, dx, lk, tb, hd, lg, t, lt, rfl, hR, ht, nd, l1, hl, nl, l2, fun p r l u lu H1 hp s1 h1 t1 so1 t2 so2 => ?_⟩
    obtain ⟨rs, hr1, er, tr⟩ := t1
    rw [List.length_map] at er
    refine ⟨p, _, 0, .ref r, rfl, rfl, SqT.of h1, rfl, r, rfl, ⟨_, SqT.of hr1⟩, fun D hD => ?_⟩
    have lu1 := so1.len
    refine dc_tab (us := rs.zip u) (val := fun z => V.ref z.1) (yields_zip er) (fun z => z.2.1) (fun z => z.2.2) (fun _ => true) (fun z => [some (.ref e), some (.str z.2.1), some z.2.2]) hD (fun H s => SqT.of (s _ _ hr1)) (fun _ _ => rfl)
      (fun H2 z s2 hz R k => ⟨z.1, _, rfl, SqT.of (s2 _ _ (tups_get ⟨by rw [List.length_map]; exact er, tr⟩ hz)), rfl, _, _, rfl, _, _, rfl, rfl, k⟩) (fun H u _ _ R k => k H (Same.refl H)) (fun H u _ _ _ R k => ⟨_, rfl, k H (Same.refl H)⟩) (fun H u _ _ _ R k => ⟨_, rfl, k H (Same.refl H)⟩) (by rw [List.length_zip]; omega) ?_ (fun H2 s2 h2 => ?_)
    · rw [filt_all, show (fun z : Addr × (Str × V) => z.2.1) = (fun m : Str × V => m.1) ∘ Prod.snd from rfl, ← List.map_map, List.map_snd_zip (by omega)]
      exact so1.nd nd
    · have e0 : ((rs.zip u).filter fun _ => true).map (fun z => (z.2.1, z.2.2)) = u := by
        rw [filt_all, show (fun z : Addr × (Str × V) => (z.2.1, z.2.2)) = Prod.snd from rfl, List.map_snd_zip (by omega)]
      rw [e0] at h2
      exact q D u H2 (s1.free hD) (s1.trans s2) h2 so1
end

end Fk

set_option maxHeartbeats 4000000
namespace Fk
open PySem PySem.Spec PyProof.Rows L2
section
variable {P : Program} {w : World} {K : PySem.W.Frag} {mg : Str → Option Value} {base : Heap} {CE CR cS cB iS iB ns r0 h0 l0 : Addr}
def spBecome (K : PySem.W.Frag) (CR : Addr) : Sp := fun vs H Q _ => ∃ (R st r hd l lk dx : Addr) (fs : List (Str × V)) (u lu : Tab), vs = [.ref R, .ref st] ∧ H R = some (.ins CR dx fs) ∧ (fs = ([(("_locks" : Str), V.ref lk)] : List (Str × V)) ∨ ∃ a b c, fs = rf lk a b c) ∧ TupK K H st [.ref r, .ref hd, .ref l] ∧
  TupsK K H r (u.map rowL) ∧ Nd u ∧ u.length < 64 ∧ TupsK K H l (lu.map rowL) ∧ Nd lu ∧ lu.length < 64 ∧
  ∀ tb lg H', FrL [R] H H' → TupKeep H H' → H' R = some (.ins CR dx (rf lk tb hd lg)) → H' tb = some (.dK (kT u)) → H' lg = some (.dK (kT lu)) → H tb = none → H lg = none → Q .non H'
theorem m_Refstake_over (T : TopR K mg CE CR cS cB iS iB ns r0 h0 l0) : C8.Met P w K mg base 1 CR "_take_over" (spBecome K CR) [] := by
  refine met_of T.cR T.m_Refstake_over sc_Refstake_over (fun _ _ _ _ _ _ us hl => match us, hl with | [_, _], _ => rfl) (fun vs H Q E h => ?_) (fun f cdv A outer s H vs Q E hr h => ?_)
  · obtain ⟨R, st, r, hd, l, lk, dx, fs, u, lu, rfl, _⟩ := h
    rfl
  · obtain ⟨R, st, r, hd, l, lk, dx, fs, u, lu, rfl, hR, hfs, hst, ⟨rs, hr1, er, tr⟩, ndu, l1, ⟨ls, hl1, el, tl⟩, ndl, l2, q⟩ := h
    refine ⟨_, (pss_cons (ps_asg (pv 1) (pg_tup rfl (pgs_cons (pg_name (i := 2) sc_Refstake_over.nd rfl (Or.inl rfl)) (pgs_cons (pg_name (i := 3) sc_Refstake_over.nd rfl (Or.inl rfl)) (pgs_cons (pg_name (i := 4) sc_Refstake_over.nd rfl (Or.inl rfl)) pgs_nil)))))
      (pss_cons (ps_fld (pv 0) (pe_dc (own := [("ref", 5), ("name", 6)]) (g := _) (by rfl) sc_Refstake_over.nd (pi_tup (pv 2)) (blkOk_by (own := [("ref", 5), ("name", 6)]) (N := ["self", "state", "rows", "head", "logs", "ref", "name", "entries"]) (sc := C8.fnScope s_Refstake_over) (by decide +kernel)) (fun _ _ _ _ _ => (pg_tupK (K := K) (n := 2) rfl rfl (pgs_cons (pg_name (i := 5) sc_Refstake_over.nd rfl (Or.inl rfl)) (pgs_cons (pg_name (i := 6) sc_Refstake_over.nd rfl (Or.inl rfl)) pgs_nil)))) (fun _ _ _ _ _ => pts_nil) (fun _ _ _ _ _ => (pv 5)) (fun _ _ _ _ _ => (pv 6))) rfl)
      (pss_cons (ps_fld (pv 0) (pv 3) rfl)
      (pss_one (ps_fld (pv 0) (pe_dc (own := [("name", 6), ("entries", 7)]) (g := _) (by rfl) sc_Refstake_over.nd (pi_tup (pv 4)) (blkOk_by (own := [("name", 6), ("entries", 7)]) (N := ["self", "state", "rows", "head", "logs", "ref", "name", "entries"]) (sc := C8.fnScope s_Refstake_over) (by decide +kernel)) (fun _ _ _ _ _ => (pg_tupK (K := K) (n := 2) rfl rfl (pgs_cons (pg_name (i := 6) sc_Refstake_over.nd rfl (Or.inl rfl)) (pgs_cons (pg_name (i := 7) sc_Refstake_over.nd rfl (Or.inl rfl)) pgs_nil)))) (fun _ _ _ _ _ => pts_nil) (fun _ _ _ _ _ => (pv 6)) (fun _ _ _ _ _ => (pv 7))) rfl))))), ?_⟩
    rw [List.length_map] at er el
    refine ⟨.ref st, rfl, st, _, rfl, hst.sq, rfl, _, _, rfl, _, _, rfl, _, _, rfl, rfl, ?_⟩
    refine ⟨.ref r, rfl, r, rfl, ⟨_, hr1.sq⟩, fun D0 hD0 => ?_⟩
    refine dc_tab (us := rs.zip u) (val := fun z => V.ref z.1) (yields_zip er) (fun z => z.2.1) (fun z => z.2.2) (fun _ => true) (fun z => [some (.ref R), some (.ref st), some (.ref r), some (.ref hd), some (.ref l), some (.str z.2.1), some z.2.2, none]) hD0 (fun H s => (hr1.keep (TupKeep.of s)).sq) (fun _ _ => rfl)
      (fun H2 z s2 hz R k => ⟨z.1, _, rfl, SqT.of (s2 _ _ (tups_get ⟨by rw [List.length_map]; exact er, tr⟩ hz)), rfl, _, _, rfl, _, _, rfl, rfl, k⟩) (fun H u _ _ R k => k H (Same.refl H)) (fun H u _ _ _ R k => ⟨_, rfl, k H (Same.refl H)⟩) (fun H u _ _ _ R k => ⟨_, rfl, k H (Same.refl H)⟩) (by rw [List.length_zip]; omega) ?_ (fun H1 s1 h1 => ?_)
    · rw [filt_all, show (fun z : Addr × (Str × V) => z.2.1) = (fun m : Str × V => m.1) ∘ Prod.snd from rfl, ← List.map_map, List.map_snd_zip (by omega)]
      exact ndu
    have e0 : ((rs.zip u).filter fun _ => true).map (fun z => (z.2.1, z.2.2)) = u := by
      rw [filt_all, show (fun z : Addr × (Str × V) => (z.2.1, z.2.2)) = Prod.snd from rfl, List.map_snd_zip (by omega)]
    rw [e0] at h1
    have lf : ∀ {n : Nat}, fs.length ≤ 4 := fun {_} => by
      rcases hfs with rfl | ⟨a, b, c, rfl⟩
      · exact (by decide : 1 ≤ 4)
      · exact Nat.le_refl 4
    have lp : ∀ (y : Str) (v : V) (gs : List (Str × V)), (putF y v gs).length ≤ gs.length + 1 := fun y v gs => length_putF y v gs
    refine ⟨.ref R, rfl, R, CR, dx, fs, rfl, s1 _ _ hR, T.cR, T.nR_table, (by have := lf (n := 0); omega), ?_⟩
    have l4 := lf (n := 0)
    have l5 := lp "_table" (.ref D0) fs
    have l6 := lp "_head" (.ref hd) (putF "_table" (.ref D0) fs)
    refine ⟨.ref hd, rfl, .ref R, rfl, R, CR, dx, _, rfl, upd_same, T.cR, T.nR_head, (by omega), ?_⟩
    have nRD : D0 ≠ R := ne_of_none' hD0 hR
    have hR1 := s1 _ _ hR
    have k1 : TupKeep H1 (upd (upd H1 R (.ins CR dx (putF "_table" (.ref D0) fs))) R (.ins CR dx (putF "_head" (.ref hd) (putF "_table" (.ref D0) fs)))) :=
      (TupKeep.at fun xs z => by rw [hR1] at z; cases z).trans (TupKeep.at fun xs z => by rw [upd_same] at z; cases z)
    have f1 : FrL [R] H1 (upd (upd H1 R (.ins CR dx (putF "_table" (.ref D0) fs))) R (.ins CR dx (putF "_head" (.ref hd) (putF "_table" (.ref D0) fs)))) := (FrL.at (List.mem_singleton_self R)).trans (FrL.at (List.mem_singleton_self R))
    have hR3 : (upd (upd H1 R (.ins CR dx (putF "_table" (.ref D0) fs))) R (.ins CR dx (putF "_head" (.ref hd) (putF "_table" (.ref D0) fs)))) R = some (.ins CR dx (putF "_head" (.ref hd) (putF "_table" (.ref D0) fs))) := upd_same
    generalize upd (upd H1 R (.ins CR dx (putF "_table" (.ref D0) fs))) R (.ins CR dx (putF "_head" (.ref hd) (putF "_table" (.ref D0) fs))) = H3 at k1 f1 hR3
    have k03 := (TupKeep.of s1).trans k1
    have hD03 := f1 D0 _ (fun z => nRD (List.mem_singleton.mp z)) h1
    refine ⟨.ref l, rfl, l, rfl, ⟨_, (hl1.keep k03).sq⟩, fun D1 hD1 => ?_⟩
    refine dc_tab (us := ls.zip lu) (val := fun z => V.ref z.1) (yields_zip el) (fun z => z.2.1) (fun z => z.2.2) (fun _ => true) (fun z => [some (.ref R), some (.ref st), some (.ref r), some (.ref hd), some (.ref l), none, some (.str z.2.1), some z.2.2]) hD1 (fun H s => (hl1.keep (k03.trans (TupKeep.of s))).sq) (fun _ _ => rfl)
      (fun H2 z s2 hz R k => ⟨z.1, _, rfl, SqT.of (s2 _ _ (k03 _ _ (tups_get ⟨by rw [List.length_map]; exact el, tl⟩ hz))), rfl, _, _, rfl, _, _, rfl, rfl, k⟩) (fun H u _ _ R k => k H (Same.refl H)) (fun H u _ _ _ R k => ⟨_, rfl, k H (Same.refl H)⟩) (fun H u _ _ _ R k => ⟨_, rfl, k H (Same.refl H)⟩) (by rw [List.length_zip]; omega) ?_ (fun H4 s4 h4 => ?_)
    · rw [filt_all, show (fun z : Addr × (Str × V) => z.2.1) = (fun m : Str × V => m.1) ∘ Prod.snd from rfl, ← List.map_map, List.map_snd_zip (by omega)]
      exact ndl
    have e1 : ((ls.zip lu).filter fun _ => true).map (fun z => (z.2.1, z.2.2)) = lu := by
      rw [filt_all, show (fun z : Addr × (Str × V) => (z.2.1, z.2.2)) = Prod.snd from rfl, List.map_snd_zip (by omega)]
    rw [e1] at h4
    have hR4 := s4 _ _ hR3
    have nRD1 : D1 ≠ R := ne_of_none' hD1 hR3
    have n01 : D1 ≠ D0 := ne_of_none' hD1 hD03
    refine ⟨.ref R, rfl, R, CR, dx, _, rfl, hR4, T.cR, T.nR_logs, (by omega), ?_⟩
    have efs : putF "_logs" (.ref D1) (putF "_head" (.ref hd) (putF "_table" (.ref D0) fs)) = rf lk D0 hd D1 := by
      rcases hfs with rfl | ⟨a, b, c, rfl⟩ <;> rfl
    rw [efs]
    have f14 := (f1.trans (FrL.same s4)).trans (FrL.at (H := H4) (o := .ins CR dx (rf lk D0 hd D1)) (List.mem_singleton_self R))
    have k4 : TupKeep H4 (upd H4 R (.ins CR dx (rf lk D0 hd D1))) := TupKeep.at fun xs z => by rw [hR4] at z; cases z
    have fH1 : H D1 = none := by
      cases c : H D1 with
      | none => rfl
      | some o =>
        have := f1 D1 o (fun z => nRD1 (List.mem_singleton.mp z)) (s1 _ _ c)
        rw [hD1] at this
        cases this
    refine q D0 D1 _ ((FrL.same s1).trans f14) ((k03.trans (TupKeep.of s4)).trans k4) upd_same ?_ ?_ hD0 fH1
    · rw [upd_ne nRD]
      exact s4 _ _ hD03
    · rw [upd_ne nRD1]
      exact h4
theorem m_Refs_become (T : TopR K mg CE CR cS cB iS iB ns r0 h0 l0) : C8.Met P w K mg base 2 CR "become" (spBecome K CR) [] := by
  refine met_of T.cR T.m_Refs_become sc_Refs_become (fun _ _ _ _ _ _ us hl => match us, hl with | [_, _], _ => rfl) (fun vs H Q E h => ?_) (fun f cdv A outer s H vs Q E hr h => ?_)
  · obtain ⟨R, st, r, hd, l, lk, dx, fs, u, lu, rfl, _⟩ := h
    rfl
  · obtain ⟨R, st, r, hd, l, lk, dx, fs, u, lu, rfl, hR, hfs, rest⟩ := h
    refine ⟨_, (pss_one (ps_expr (C8.pe_mt (m_Refstake_over T) hr (by decide) (pv 0) (pa_cons (pv 1) pa_nil)))), ?_⟩
    refine ⟨.ref R, rfl, R, dx, fs, rfl, hR, ?_, .ref st, rfl, R, st, r, hd, l, lk, dx, fs, u, lu, rfl, hR, hfs, rest⟩
    rcases hfs with rfl | ⟨a, b, c, rfl⟩ <;> rfl
/-- a reference, or HEAD, is locked for an edit; all other edits are closed -/
def spLock (CE CR : Addr) : Sp := fun vs H Q _ => ∃ (R E dx ex lk tb hd lg : Addr) (fs : List (Str × V)) (x : Str) (n : Nat), vs = [.ref R, .str x, .ref E] ∧ H R = some (.ins CR dx (rf lk tb hd lg)) ∧ H E = some (.ins CE ex fs) ∧ fs.lookup ("closed" : Str) = some (.bl false) ∧ LocksAt H CE lk E n ∧ n < 64 ∧
  ∀ lk' H', H lk' = none → FrL [R] H H' → TupKeep H H' → H' R = some (.ins CR dx (rf lk' tb hd lg)) → LocksAt H' CE lk' E (n + 1) → Q .non H'
theorem m_Refs_lock (T : TopR K mg CE CR cS cB iS iB ns r0 h0 l0) : C8.Met P w K mg base 3 CR "lock" (spLock CE CR) [] := by
  refine met_of T.cR T.m_Refs_lock sc_Refs_lock (fun _ _ _ _ _ _ us hl => match us, hl with | [_, _, _], _ => rfl) (fun vs H Q E h => ?_) (fun f cdv A outer s H vs Q E hr h => ?_)
  · obtain ⟨R, E, dx, ex, lk, tb, hd, lg, fs, x, n, rfl, _⟩ := h
    rfl
  · obtain ⟨R, e, dx, ex, lk, tb, hd, lg, fs, x, n, rfl, hR, he, hc, ⟨kt, hk, nd, hl, hl', al⟩, hn, q⟩ := h
    refine ⟨_, (pss_cons (ps_set (i := 3) sc_Refs_lock.nd rfl (Or.inr rfl) (pe_lock (pe_dc (own := [("name", 4)]) (g := gName 4) (by rfl) sc_Refs_lock.nd (pi_keys (pe_fld (pv 0) rfl)) (blkOk_by (own := [("name", 4)]) (N := ["self", "ref", "edit", "held", "name", "barring"]) (sc := C8.fnScope s_Refs_lock) (by decide +kernel)) (fun _ _ _ _ _ => (pg_name (i := 4) sc_Refs_lock.nd rfl (Or.inl rfl))) (fun _ _ _ _ _ => pts_one (pt_not (pt_val (pe_fldK (K := K) rfl (pe_dget (hu_of hr) (pe_fldK (K := K) rfl (pv 0) rfl) (pv 4) (fun _ _ => rfl)) rfl)))) (fun _ _ _ _ _ => (pv 4)) (fun _ _ _ _ _ => (pe_dget (hu_of hr) (pe_fldK (K := K) rfl (pv 0) rfl) (pv 4) (fun _ _ => rfl))))))
      (pss_cons (ps_lock (ps_setLc (i := 5) (own := [("name", 4)]) (g := gName 4) (by rfl) sc_Refs_lock.nd rfl rfl (sw_true rfl rfl rfl (by decide +kernel)) (pi_keys (pv 3)) (blkOk_by (own := [("name", 4)]) (N := ["self", "ref", "edit", "held", "name", "barring"]) (sc := C8.fnScope s_Refs_lock) (by decide +kernel)) (fun _ _ _ _ _ => (pg_name (i := 4) sc_Refs_lock.nd rfl (Or.inl rfl))) (fun _ _ _ _ _ => pts_one (PW.pt (pw_and (pt_cmpR (op_idNe T.pEdit (hu_of hr)) (pe_dget (hu_of hr) (pv 3) (pv 4) (fun _ _ => rfl)) (pv 2) (nomark _)) (pw_and1 (pt_val pe_never))))) (fun _ _ _ _ _ => (pv 4))))
      (pss_cons (ps_if (pt_truth (pv 5) (by intro _; rfl))
      (pss_one ps_never)
      pss_nil)
      (pss_cons (ps_dput (hu_of hr) (pv 3) (pv 1) (pv 2) rfl)
      (pss_one (ps_fld (pv 0) (pv 3) rfl)))))), ?_⟩
    have nkR : lk ≠ R := fun z => by rw [z, hR] at hk; cases hk
    have hR1 : ∀ {o : HO}, (upd H lk o) R = some (.ins CR dx (rf lk tb hd lg)) := fun {o} => by rw [upd_ne nkR.symm]; exact hR
    have nke : lk ≠ e := fun z => by rw [z, he] at hk; cases hk
    refine ⟨lk, _, hk, trivial, fun od => ⟨.ref R, rfl, R, CR, dx, _, .ref lk, rfl, hR1, T.cR, T.nR_locks, rfl, lk, od, rfl, .inl ⟨kT kt, upd_same, fun D hD => ?_⟩⟩⟩
    refine dc_tab (us := kt) (val := fun z => V.str z.1) yields_tab (fun z => z.1) (fun z => z.2) (fun z => decide (z.2 = .ref e)) (fun z => [some (.ref R), some (.str x), some (.ref e), none, some (.str z.1), none]) hD (fun H s => s _ _ upd_same) (fun _ _ => rfl)
      (fun H2 z s2 hz R k => k) (fun H2 z s2 hz R' k => ?_) (fun H u _ _ _ R k => ⟨_, rfl, k H (Same.refl H)⟩) (fun H2 z s2 hz _ R' k => ?_) (by omega) (nd_filter nd _) (fun H2 s2 h2 => ?_)
    · have d := dget_kT (.inr ⟨od, s2 _ _ upd_same⟩) z.1
      rw [val_nodup nd z hz] at d
      obtain ⟨e', dx', fs', b, e1, e2, e3, e4⟩ : ∃ (e' dx' : Addr) (fs' : List (Str × V)) (b : Bool), z.2 = .ref e' ∧ H e' = some (.ins CE dx' fs') ∧ fs'.lookup ("closed" : Str) = some (.bl b) ∧ (!b) = decide (z.2 = .ref e) := by
        rcases al z hz with h | ⟨e', dx', fs', h1, h2, h3⟩
        · exact ⟨e, ex, fs, false, h, he, hc, by rw [decide_eq_true h]; rfl⟩
        · refine ⟨e', dx', fs', true, h1, h2, h3, ?_⟩
          rw [decide_eq_false]
          · rfl
          · intro z1
            rw [h1] at z1
            cases z1
            rw [he] at h2
            cases h2
            rw [hc] at h3
            cases h3
      have nk' : e' ≠ lk := fun z => by rw [z, hk] at e2; cases e2
      have e2' := s2 _ _ (show (upd H lk (.frz od (.dK (kT kt)))) e' = some (.ins CE dx' fs') by rw [upd_ne nk']; exact e2)
      refine ⟨.ref R, rfl, R, CR, dx, _, .ref lk, rfl, s2 _ _ hR1, T.cR, T.nR_locks, rfl, .str z.1, rfl, lk, z.2, rfl, d, e', CE, dx', fs', .bl b, e1, e2', T.cE, T.nEclosed, e3, b, rfl, ?_⟩
      show R' (!b) H2
      rw [e4]
      exact k H2 (Same.refl H2)
    · have d := dget_kT (.inr ⟨od, s2 _ _ upd_same⟩) z.1
      rw [val_nodup nd z hz] at d
      exact ⟨.ref R, rfl, R, CR, dx, _, .ref lk, rfl, s2 _ _ hR1, T.cR, T.nR_locks, rfl, .str z.1, rfl, lk, z.2, rfl, d, k H2 (Same.refl H2)⟩
    have hf : ∃ ht : Tab, ht = kt.filter fun z => decide (z.2 = .ref e) := ⟨_, rfl⟩
    obtain ⟨ht, eht⟩ := hf
    have h2' : H2 D = some (.dK (kT ht)) := by
      rw [h2, eht]
      congr 3
      exact List.map_id' _
    have s3 : Same H (upd H2 lk (.dK (kT kt))) := same_unlock s2 hk
    have h3 : (upd H2 lk (.dK (kT kt))) D = some (.dK (kT ht)) := by rw [upd_ne (lock_ne hD)]; exact h2'
    have fD : H D = none := lock_free hD
    refine ⟨s2 _ _ upd_same, ?_⟩
    generalize upd H2 lk (.dK (kT kt)) = H3 at s3 h3
    have aht : ∀ z ∈ ht, z.2 = .ref e := fun z hz => by
      rw [eht] at hz
      exact of_decide_eq_true (List.mem_filter.mp hz).2
    have ndh : Nd ht := by rw [eht]; exact nd_filter nd _
    have lht : ht.length ≤ n := by rw [eht]; exact hl'
    refine ⟨D, _, h3, trivial, fun od2 => ⟨.ref D, rfl, D, od2, rfl, .inl ⟨kT ht, upd_same, fun D2 hD2 => ?_⟩⟩⟩
    have nDe : e ≠ D := fun z => by rw [z, fD] at he; cases he
    refine lc_pure (i := 4) (us := ht) (g := fun z => V.str z.1) yields_tab (fun z => V.str z.1) (fun _ => false) hD2 (fun H s => s _ _ upd_same) (fun H4 z s4 hz R' k => ?_) (fun H4 z s4 hz hp R' k => by cases hp) (by omega) (fun H4 s4 h4 => ?_)
    · have d := dget_kT (.inr ⟨od2, s4 _ _ upd_same⟩) z.1
      rw [val_nodup ndh z hz] at d
      have he4 := s4 _ _ (show (upd H3 D (.frz od2 (.dK (kT ht)))) e = some (.ins CE ex fs) by rw [upd_ne nDe]; exact s3 _ _ he)
      refine ⟨.ref D, rfl, .str z.1, rfl, D, z.2, rfl, d, .ref e, rfl, e, e, ex, ex, fs, fs, aht z hz, rfl, he4, he4, _, rfl, ?_⟩
      rw [decide_eq_true rfl]
      exact iteF (k H4 (Same.refl H4))
    have ef0 : ht.filter (fun _ => false) = [] := by simp
    rw [ef0] at h4
    have s5 : Same H3 (upd H4 D (.dK (kT ht))) := same_unlock s4 h3
    have h5 : (upd H4 D (.dK (kT ht))) D2 = some (.lst []) := by rw [upd_ne (lock_ne hD2)]; exact h4
    have h5D : (upd H4 D (.dK (kT ht))) D = some (.dK (kT ht)) := upd_same
    refine ⟨s4 _ _ upd_same, ?_⟩
    generalize upd H4 D (.dK (kT ht)) = H5 at s5 h5 h5D
    refine ⟨.ref D2, rfl, false, .inl ⟨[], SqL.of h5, rfl⟩, iteF ?_⟩
    refine ⟨.ref e, rfl, .ref D, rfl, .str x, rfl, D, _, rfl, .inl ⟨kT ht, .inr x, h5D, rfl, small_lt (by rw [len_kT]; omega), rfl⟩, ?_⟩
    rw [putK_kT]
    have s05 := s3.trans s5
    have nDR : R ≠ D := fun z => by rw [z, fD] at hR; cases hR
    have hR6 : (upd H5 D (.dK (kT (putK ht x (.ref e))))) R = some (.ins CR dx (rf lk tb hd lg)) := by rw [upd_ne nDR]; exact s05 _ _ hR
    refine ⟨.ref D, rfl, .ref R, rfl, R, CR, dx, _, rfl, hR6, T.cR, T.nR_locks, (by show 4 < 1000; decide), ?_⟩
    have s06 : Same H (upd H5 D (.dK (kT (putK ht x (.ref e))))) := fun b o eb => by
      rw [upd_ne (ne_of_none eb fD)]
      exact s05 _ _ eb
    have ktk : TupKeep (upd H5 D (.dK (kT (putK ht x (.ref e))))) (upd (upd H5 D (.dK (kT (putK ht x (.ref e))))) R (.ins CR dx (rf D tb hd lg))) := TupKeep.at fun xs z => by rw [hR6] at z; cases z
    refine q D _ fD ((FrL.same s06).trans (FrL.at (List.mem_singleton_self R))) ((TupKeep.of s06).trans ktk) upd_same ⟨putK ht x (.ref e), by rw [upd_ne nDR.symm, upd_same], nd_put ndh _ _, by have := len_put ht x (.ref e); omega, Nat.le_trans (List.length_filter_le _ _) (by have := len_put ht x (.ref e); omega), fun p hp => .inl ?_⟩
    rcases mem_putK hp with hp | hp
    · exact aht p hp
    · exact hp
end

end Fk

set_option maxHeartbeats 4000000
namespace Fk
open PySem PySem.Spec PyProof.Rows L2
section
variable {P : Program} {w : World} {K : PySem.W.Frag} {mg : Str → Option Value} {base : Heap} {CE CR cS cB iS iB ns r0 h0 l0 : Addr}
/-- a value that a reference may have had -/
def HadOk (v : V) : Prop := v = .non ∨ v = .str "" ∨ ∃ y, v = .str y ∧ isIdF y = true ∧ y.length ≤ 1000 ∧ OkS y
def spCall (CE CR : Addr) : Sp := fun vs H Q _ => ∃ (E ex R nt cl dx lk tb hd lg : Addr) (nh : V) (x : Str) (v o : V) (cs : List (Str × V × V)) (n : Nat), vs = [.ref E, .str x, v, o] ∧ H E = some (.ins CE ex (ef R nt cl nh false)) ∧ H R = some (.ins CR dx (rf lk tb hd lg)) ∧ LocksAt H CE lk E n ∧ n < 64 ∧ CallsAt H cl cs ∧ cs.length < 64 ∧ HadOk o ∧
  ∀ lk' H', FrL [R, cl] H H' → TupKeep H H' → H' R = some (.ins CR dx (rf lk' tb hd lg)) → LocksAt H' CE lk' E (n + 1) → CallsAt H' cl (callPut cs x v o) → Q .non H'
theorem m_Editcall (T : TopR K mg CE CR cS cB iS iB ns r0 h0 l0) : C8.Met P w K mg base 4 CE "_call" (spCall CE CR) [] := by
  refine met_of T.cE T.m_Editcall sc_Editcall (fun _ _ _ _ _ _ us hl => match us, hl with | [_, _, _, _], _ => rfl) (fun vs H Q E h => ?_) (fun f cdv A outer s H vs Q E hr h => ?_)
  · obtain ⟨E, ex, R, nt, cl, dx, lk, tb, hd, lg, nh, x, v, o, cs, n, rfl, _⟩ := h
    rfl
  · obtain ⟨e, ex, R, nt, cl, dx, lk, tb, hd, lg, nh, x, v, o, cs, n, rfl, he, hR, hk, hn, ⟨zs, ez, hc, hz⟩, hl, ho, q⟩ := h
    refine ⟨_, (C8.pss_cut (ps_if (PW.pt (pw_and (pt_cmpR op_notN (pv 3) pe_non (nomark _)) (pw_and (pt_cmpR op_ne (pv 3) pe_str (nomark _)) (pw_and1 (pt_not (pt_val (C8.pe_c (c_is_id T.toTop) hr (by decide) (by rfl) (pa_cons (pv 3) pa_nil))))))))
      (pss_one ps_never)
      pss_nil)
      (pss_cons (ps_expr (C8.pe_mt (m_Refs_lock T) hr (by decide) (pe_fld (pv 0) rfl) (pa_cons (pv 1) (pa_cons (pv 0) pa_nil))))
      (pss_cons (ps_expr (pe_dpop2 (pe_fld (pv 0) rfl) (pv 1) pe_non ⟨rfl, rfl, rfl, rfl⟩))
      (pss_one (ps_dput (hu_of hr) (pe_fld (pv 0) rfl) (pv 1) (pe_tup (pa_cons (pv 2) (pa_cons (pv 3) pa_nil))) rfl))))), ?_⟩
    have nRe : e ≠ R := at_ne he hR fun z => by injection z with z; exact T.ne z
    have ncR : cl ≠ R := at_ne hc hR fun z => nomatch z
    have nce : cl ≠ e := at_ne hc he fun z => nomatch z
    refine ⟨fun σ H' => Same H H' ∧ σ = [some (.ref e), some (.str x), some v, some o], ?_, ?_⟩
    · rcases ho with rfl | rfl | ⟨y, rfl, hy, hyl, hyo⟩
      · exact ⟨.non, rfl, rfl, _, rfl, iteF (iteF ⟨Same.refl H, rfl⟩)⟩
      · exact ⟨.str "", rfl, rfl, _, rfl, iteT ⟨.str "", rfl, rfl, _, rfl, iteF (iteF ⟨Same.refl H, rfl⟩)⟩⟩
      · refine ⟨.str y, rfl, rfl, _, rfl, iteT ⟨.str y, rfl, rfl, _, rfl, ?_⟩⟩
        have ny : (!decide (V.str y = V.str "")) = true := by
          rw [decide_eq_false]
          · rfl
          · intro z
            rw [V.str.inj z] at hy
            exact absurd hy (by decide +kernel)
        rw [ny]
        refine iteT ⟨.str y, rfl, .str y, rfl, .str y (by omega) hyo, fun H1 s1 => ⟨_, rfl, ?_⟩⟩
        rw [show evalV isIdF (.str y) = true from hy]
        exact iteF ⟨s1, rfl⟩
    · rintro σ H1 ⟨s1, rfl⟩
      refine ⟨.ref e, rfl, e, CE, ex, _, _, rfl, s1 _ _ he, T.cE, T.nE_refs, rfl, R, dx, _, rfl, s1 _ _ hR, rfl, .str x, rfl, .ref e, rfl, R, e, dx, ex, lk, tb, hd, lg, _, x, n, rfl, s1 _ _ hR, s1 _ _ he, rfl, hk.same s1, hn, fun lk' H2 nlk f2 k2 hR2 hk2 => ?_⟩
      have he2 := f2.out (s1 _ _ he) (not1 nRe)
      have hc2 := f2.out (s1 _ _ hc) (not1 ncR)
      have k02 := (TupKeep.of s1).trans k2
      have f02 : FrL [R, cl] H H2 := (FrL.same s1).trans (f2.mono fun a ha => by rw [List.mem_singleton.mp ha]; exact List.mem_cons_self)
      have rest : ∀ H3, FrL [cl] H2 H3 → TupKeep H2 H3 → H3 cl = some (.dK (kT (dropK (zs.map fun z => (z.2.1, V.ref z.1)) x))) →
          sDPut (tFld K (tVar 0) "_calls") (tVar 1) (tTup (tCons (tVar 2) (tCons (tVar 3) tNil))) { nx := fun x H' => Q V.non H', rt := Q } [some (.ref e), some (.str x), some v, some o] H3 := fun H3 f3 k3 hc3 => by
        have he3 := f3.out he2 (not1 nce.symm)
        have hR3 := f3.out hR2 (not1 ncR.symm)
        refine ⟨v, rfl, o, rfl, (by show 2 ≤ sizeLine; decide), fun p hp => ?_⟩
        have s4 := same_new (o := .tup [v, o]) hp
        refine ⟨.ref e, rfl, e, CE, ex, _, _, rfl, s4 _ _ he3, T.cE, T.nE_calls, rfl, .str x, rfl, cl, _, rfl, .inl ⟨_, .inr x, s4 _ _ hc3, rfl, small_lt ?_, rfl⟩, ?_⟩
        · rw [len_kT]
          have := dropK_le (zs.map fun z => (z.2.1, V.ref z.1)) x
          rw [List.length_map] at this
          have : zs.length = cs.length := by rw [← ez, List.length_map]
          omega
        rw [putK_kT]
        have hc4 := s4 _ _ hc3
        have ph : (upd H3 p (.tup [v, o])) p = some (.tup [v, o]) := upd_same
        generalize upd H3 p (.tup [v, o]) = H4 at s4 hc4 ph
        have k5 : TupKeep H4 (upd H4 cl (.dK (kT (putK (dropK (zs.map fun z => (z.2.1, V.ref z.1)) x) x (.ref p))))) := TupKeep.at fun xs z => by rw [hc4] at z; cases z
        have f25 : FrL [cl] H2 (upd H4 cl (.dK (kT (putK (dropK (zs.map fun z => (z.2.1, V.ref z.1)) x) x (.ref p))))) := (f3.trans (FrL.same s4)).trans (FrL.at (List.mem_singleton_self cl))
        have k05 := ((k02.trans k3).trans (TupKeep.of s4)).trans k5
        refine q lk' _ (f02.trans (f25.mono fun a ha => by rw [List.mem_singleton.mp ha]; exact List.mem_cons_of_mem _ List.mem_cons_self)) k05 (f25.out hR2 (not1 ncR.symm)) ?_ ?_
        · refine hk2.keep (fun o' eo => f25.out eo (not1 (fun z => by rw [z, s1 _ _ hc] at nlk; cases nlk))) fun a da fa ea _ => f25.out ea (not1 (at_ne ea hc2 fun z => nomatch z))
        · rw [← ez]
          exact calls_put upd_same (fun z h => k05 _ _ (hz z h)) (k5 _ _ ph)
      refine ⟨.ref e, rfl, e, CE, ex, _, _, rfl, he2, T.cE, T.nE_calls, rfl, cl, rfl, .inl ⟨_, .inl hc2⟩, .str x, rfl, _, .inr x, hc2, rfl, fun v' _ => ?_, fun hv => ?_⟩
      · rw [dropK_kT]
        exact rest _ (FrL.at (List.mem_singleton_self cl)) (TupKeep.at fun xs z => by rw [hc2] at z; cases z) upd_same
      · refine rest H2 (FrL.refl _ _) (TupKeep.refl _) ?_
        rw [valV_kT] at hv
        rw [dropK_no (valV_not hv)]
        exact hc2
def spDrop (CE : Addr) : Sp := fun vs H Q _ => ∃ (E ex R nt cl : Addr) (nh : V), vs = [.ref E] ∧ H E = some (.ins CE ex (ef R nt cl nh false)) ∧ Q .non (upd H E (.ins CE ex (ef R nt cl nh true)))
theorem m_Edit_drop (T : TopR K mg CE CR cS cB iS iB ns r0 h0 l0) : C8.Met P w K mg base 2 CE "drop" (spDrop CE) [] := by
  refine met_of T.cE T.m_Edit_drop sc_Edit_drop (fun _ _ _ _ _ _ us hl => match us, hl with | [_], _ => rfl) (fun vs H Q E h => ?_) (fun f cdv A outer s H vs Q E hr h => ?_)
  · obtain ⟨E, ex, R, nt, cl, nh, rfl, _⟩ := h
    rfl
  · obtain ⟨e, ex, R, nt, cl, nh, rfl, he, q⟩ := h
    refine ⟨_, (pss_cons (ps_expr (C8.pe_mt0 (m_Editcheck_open T) hr (by decide) (pv 0)))
      (pss_one (ps_fld (pv 0) pe_bl rfl))), ?_⟩
    exact ⟨.ref e, rfl, e, ex, _, rfl, he, rfl, e, ex, R, nt, cl, nh, rfl, he, .ref e, rfl, e, CE, ex, _, rfl, he, T.cE, T.nEclosed, (by show 5 < 1000; decide), q⟩
def spStand (CE CR : Addr) : Sp := fun vs H Q _ => ∃ (E ex R nt cl dx lk tb hd lg : Addr) (nh : V) (x y : Str) (n : Nat), vs = [.ref E, .str x, .str y] ∧ H E = some (.ins CE ex (ef R nt cl nh false)) ∧ H R = some (.ins CR dx (rf lk tb hd lg)) ∧ LocksAt H CE lk E n ∧ n < 64 ∧ HeadOk x y ∧
  ∀ lk' h H', FrL [R, E] H H' → TupKeep H H' → H' R = some (.ins CR dx (rf lk' tb hd lg)) → H' E = some (.ins CE ex (ef R nt cl (.ref h) false)) → H' h = some (.tup [.str x, .str y]) → LocksAt H' CE lk' E (n + 1) → Q .non H'
theorem m_Edit_stand (T : TopR K mg CE CR cS cB iS iB ns r0 h0 l0) : C8.Met P w K mg base 5 CE "stand" (spStand CE CR) [] := by
  refine met_of T.cE T.m_Edit_stand sc_Edit_stand (fun _ _ _ _ _ _ us hl => match us, hl with | [_, _, _], _ => rfl) (fun vs H Q E h => ?_) (fun f cdv A outer s H vs Q E hr h => ?_)
  · obtain ⟨E, ex, R, nt, cl, dx, lk, tb, hd, lg, nh, x, y, n, rfl, _⟩ := h
    rfl
  · obtain ⟨e, ex, R, nt, cl, dx, lk, tb, hd, lg, nh, x, y, n, rfl, he, hR, hk, hn, hh, q⟩ := h
    refine ⟨_, (pss_cons (ps_expr (C8.pe_mt0 (m_Editcheck_open T) hr (by decide) (pv 0)))
      (pss_cons (ps_if (PW.pt (pw_and (pt_cmpR op_eq (pv 1) pe_str (nomark _)) (pw_and1 (pt_not (pt_val (C8.pe_c (c_is_ref T.toTop) hr (by decide) (by rfl) (pa_cons (pv 2) pa_nil)))))))
      (pss_one ps_never)
      pss_nil)
      (pss_cons (ps_if (pt_not (pt_val (C8.pe_c (c_is_head T.toTop) hr (by decide) (by rfl) (pa_cons (pe_tup (pa_cons (pv 1) (pa_cons (pv 2) pa_nil))) pa_nil))))
      (pss_one ps_never)
      pss_nil)
      (pss_cons (ps_expr (C8.pe_mt (m_Refs_lock T) hr (by decide) (pe_fld (pv 0) rfl) (pa_cons pe_str (pa_cons (pv 0) pa_nil))))
      (pss_one (ps_fld (pv 0) (pe_tup (pa_cons (pv 1) (pa_cons (pv 2) pa_nil))) rfl)))))), ?_⟩
    have nRe : e ≠ R := at_ne he hR fun z => by injection z with z; exact T.ne z
    obtain ⟨hv, hyl, hyo⟩ := id hh
    refine ⟨.ref e, rfl, e, ex, _, rfl, he, rfl, e, ex, R, nt, cl, nh, rfl, he, ?_⟩
    have rest : ∀ H1, Same H H1 → (tSeq
        (tIfS (tNot (tB (tCall spIsHead [] C8.E0 (tCons (tTup (tCons (tVar 1) (tCons (tVar 2) tNil))) tNil))))
          (fun x x_1 x_2 => False) tNext)
        (tSeq
          (tDrop
            (tMeth CR (Str.ofString "lock") (spLock CE CR) [] C8.E0
              (tFld K (tVar 0) (Str.ofString "_refs"))
              (tCons (tC (V.str (Str.ofString "HEAD"))) (tCons (tVar 0) tNil))))
          (sFld K (tVar 0) (tTup (tCons (tVar 1) (tCons (tVar 2) tNil))) (Str.ofString "_new_head")))) { nx := fun x H' => Q V.non H', rt := Q } [some (.ref e), some (.str x), some (.str y)] H1 := fun H1 s1 => by
      refine ⟨.str x, rfl, .str y, rfl, (by show 2 ≤ sizeLine; decide), fun p hp => ⟨p, x, y, rfl, upd_same, hh, fun H2 s2 => ⟨_, rfl, iteF ?_⟩⟩⟩
      have s3 := (s1.trans (same_new hp)).trans s2
      refine ⟨.ref e, rfl, e, CE, ex, _, _, rfl, s3 _ _ he, T.cE, T.nE_refs, rfl, R, dx, _, rfl, s3 _ _ hR, rfl, .ref e, rfl, R, e, dx, ex, lk, tb, hd, lg, _, "HEAD", n, rfl, s3 _ _ hR, s3 _ _ he, rfl, hk.same s3, hn, fun lk' H4 nlk f4 k4 hR4 hk4 => ?_⟩
      have he4 := f4.out (s3 _ _ he) (not1 nRe)
      refine ⟨.str x, rfl, .str y, rfl, (by show 2 ≤ sizeLine; decide), fun h hh' => ?_⟩
      have s5 := same_new (o := .tup [.str x, .str y]) hh'
      refine ⟨.ref e, rfl, e, CE, ex, _, rfl, s5 _ _ he4, T.cE, T.nE_new_head, (by show 5 < 1000; decide), ?_⟩
      have k5 : TupKeep (upd H4 h (.tup [.str x, .str y])) (upd (upd H4 h (.tup [.str x, .str y])) e (.ins CE ex (ef R nt cl (.ref h) false))) := TupKeep.at fun xs z => by rw [s5 _ _ he4] at z; cases z
      have f5 : FrL [e] H4 (upd (upd H4 h (.tup [.str x, .str y])) e (.ins CE ex (ef R nt cl (.ref h) false))) := (FrL.same s5).trans (FrL.at (List.mem_singleton_self e))
      refine q lk' h _ ((FrL.same s3).trans ((f4.mono fun a ha => by rw [List.mem_singleton.mp ha]; exact List.mem_cons_self).trans (f5.mono fun a ha => by rw [List.mem_singleton.mp ha]; exact List.mem_cons_of_mem _ List.mem_cons_self)))
        (((TupKeep.of s3).trans k4).trans ((TupKeep.of s5).trans k5)) (f5.out hR4 (not1 nRe.symm)) upd_same (k5 _ _ upd_same) ?_
      refine hk4.keep (fun o' eo => f5.out eo (not1 ?_)) fun a da fa ea ca => f5.out ea (not1 fun z => ?_)
      · obtain ⟨kt, hkt, _⟩ := hk4
        exact at_ne hkt he4 fun z => nomatch z
      · rw [z, he4] at ea
        cases ea
        cases ca
    by_cases c : x = "ref"
    · subst c
      rcases hv with ⟨_, hv⟩ | ⟨z, _⟩
      · refine ⟨.str "ref", rfl, rfl, _, rfl, iteT ⟨.str y, rfl, .str y, rfl, .str y (by omega) hyo, fun H1 s1 => ⟨_, rfl, ?_⟩⟩⟩
        rw [show evalV isRefF (.str y) = true from hv]
        exact iteF (rest H1 s1)
      · exact absurd z (by decide +kernel)
    · refine ⟨.str x, rfl, rfl, _, rfl, ?_⟩
      rw [decide_eq_false (fun z => c (V.str.inj z))]
      exact iteF (iteF (rest H (Same.refl H)))
def spNames (CR : Addr) : Sp := fun vs H Q _ => ∃ (R dx lk tb hd lg : Addr) (t : Tab), vs = [.ref R] ∧ H R = some (.ins CR dx (rf lk tb hd lg)) ∧ H tb = some (.dK (kT t)) ∧ t.length < 64 ∧
  ∀ ys p H', ys.Perm (t.map (·.1)) → sortedS ys = true → H p = none → Same H H' → H' p = some (.tup (ys.map V.str)) → Q (.ref p) H'
theorem m_Refs_names (T : TopR K mg CE CR cS cB iS iB ns r0 h0 l0) : C8.Met P w K mg base 2 CR "names" (spNames CR) [] := by
  refine met_of T.cR T.m_Refs_names sc_Refs_names (fun _ _ _ _ _ _ us hl => match us, hl with | [_], _ => rfl) (fun vs H Q E h => ?_) (fun f cdv A outer s H vs Q E hr h => ?_)
  · obtain ⟨R, dx, lk, tb, hd, lg, t, rfl, _⟩ := h
    rfl
  · obtain ⟨R, dx, lk, tb, hd, lg, t, rfl, hR, ht, hl, q⟩ := h
    refine ⟨_, (pss_one (ps_ret (C8.pe_c (c_ascending T.toTop) hr (by decide) (by rfl) (pa_cons (pe_fld (pv 0) rfl) pa_nil)))), ?_⟩
    exact ⟨.ref R, rfl, R, CR, dx, _, _, rfl, hR, T.cR, T.nR_table, rfl, tb, t, rfl, ht, hl, q⟩
def spHead (CR : Addr) : Sp := fun vs H Q _ => ∃ (R dx lk tb hd lg : Addr), vs = [.ref R] ∧ H R = some (.ins CR dx (rf lk tb hd lg)) ∧ Q (.ref hd) H
theorem m_Refs_head (T : TopR K mg CE CR cS cB iS iB ns r0 h0 l0) : C8.Met P w K mg base 1 CR "head" (spHead CR) [] := by
  refine met_of T.cR T.m_Refs_head sc_Refs_head (fun _ _ _ _ _ _ us hl => match us, hl with | [_], _ => rfl) (fun vs H Q E h => ?_) (fun f cdv A outer s H vs Q E hr h => ?_)
  · obtain ⟨R, dx, lk, tb, hd, lg, rfl, _⟩ := h
    rfl
  · obtain ⟨R, dx, lk, tb, hd, lg, rfl, hR, q⟩ := h
    refine ⟨_, (pss_one (ps_ret (pe_fld (pv 0) rfl))), ?_⟩
    exact ⟨.ref R, rfl, R, CR, dx, _, _, rfl, hR, T.cR, T.nR_head, rfl, q⟩
def spAtHead (K : PySem.W.Frag) (CR : Addr) : Sp := fun vs H Q _ => ∃ (R dx lk tb hd lg : Addr) (t : Tab) (x n : Str), vs = [.ref R] ∧ H R = some (.ins CR dx (rf lk tb hd lg)) ∧ H tb = some (.dK (kT t)) ∧ TupK K H hd [.str x, .str n] ∧ Q (ledF t x n) H
theorem m_Refs_at_head (T : TopR K mg CE CR cS cB iS iB ns r0 h0 l0) : C8.Met P w K mg base 2 CR "at_head" (spAtHead K CR) [] := by
  refine met_of T.cR T.m_Refs_at_head sc_Refs_at_head (fun _ _ _ _ _ _ us hl => match us, hl with | [_], _ => rfl) (fun vs H Q E h => ?_) (fun f cdv A outer s H vs Q E hr h => ?_)
  · obtain ⟨R, dx, lk, tb, hd, lg, t, x, n, rfl, _⟩ := h
    rfl
  · obtain ⟨R, dx, lk, tb, hd, lg, t, x, n, rfl, hR, ht, hh, q⟩ := h
    refine ⟨_, (pss_one (ps_ret (C8.pe_c (c_led_to T.toTop) hr (by decide) (by rfl) (pa_cons (pe_fld (pv 0) rfl) (pa_cons (pe_fld (pv 0) rfl) pa_nil))))), ?_⟩
    exact ⟨.ref R, rfl, R, CR, dx, _, _, rfl, hR, T.cR, T.nR_table, rfl, .ref R, rfl, R, CR, dx, _, _, rfl, hR, T.cR, T.nR_head, rfl, tb, hd, t, x, n, rfl, ht, hh, q⟩
def spLog (CR : Addr) : Sp := fun vs H Q _ => ∃ (R dx lk tb hd lg : Addr) (lt : Tab) (L : Str → List (List V)) (x : Str), vs = [.ref R, .str x] ∧ H R = some (.ins CR dx (rf lk tb hd lg)) ∧ H lg = some (.dK (kT lt)) ∧ LogsOk H lt L ∧ (isRefF x = true ∨ x = "HEAD") ∧ x.length ≤ 1000 ∧ OkS x ∧
  ∀ D as H', H D = none → Same H H' → H' D = some (.lst (as.map V.ref)) → Tups H' as (L x) → Q (.ref D) H'
theorem m_Refs_log (T : TopR K mg CE CR cS cB iS iB ns r0 h0 l0) : C8.Met P w K mg base 5 CR "log" (spLog CR) [] := by
  refine met_of T.cR T.m_Refs_log sc_Refs_log (fun _ _ _ _ _ _ us hl => match us, hl with | [_, _], _ => rfl) (fun vs H Q E h => ?_) (fun f cdv A outer s H vs Q E hr h => ?_)
  · obtain ⟨R, dx, lk, tb, hd, lg, lt, L, x, rfl, _⟩ := h
    rfl
  · obtain ⟨R, dx, lk, tb, hd, lg, lt, L, x, rfl, hR, hlg, hL, hx, hl, ho, q⟩ := h
    refine ⟨_, (pss_cons (ps_if (pt_not (pt_val (C8.pe_c (c_is_log_name T.toTop) hr (by decide) (by rfl) (pa_cons (pv 1) pa_nil))))
      (pss_one ps_never)
      pss_nil)
      (pss_one (ps_ret (pe_callTy call_list_of (by rfl) T.z_list (by decide +kernel) (pa_cons (pe_dget2 (hu_of hr) (pe_fld (pv 0) rfl) (pv 1) (pe_tup pa_nil) ⟨rfl, rfl, rfl, rfl⟩) pa_nil))))), ?_⟩
    refine ⟨.str x, rfl, x, rfl, hx, hl, ho, fun H1 s1 => ⟨_, rfl, iteF ?_⟩⟩
    refine ⟨.ref R, rfl, R, CR, dx, _, _, rfl, s1 _ _ hR, T.cR, T.nR_logs, rfl, lg, rfl, .inl ⟨_, .inl (s1 _ _ hlg)⟩, .str x, rfl, Nat.zero_le _, fun pe hpe => ⟨valV lt x, ?_, ?_⟩⟩
    · exact dget_kT (.inl (by rw [upd_ne (ne_of_none (s1 _ _ hlg) hpe)]; exact s1 _ _ hlg)) x
    · have s0 : Same H1 (upd H1 pe (.tup [])) := same_new hpe
      have p0 : (upd H1 pe (.tup [])) pe = some (.tup []) := upd_same
      have f0 : H pe = none := s1.free hpe
      generalize upd H1 pe (.tup []) = H0 at s0 p0
      have s01 := s1.trans s0
      obtain ⟨a, as, ea, ha, ta⟩ : ∃ (a : Addr) (as : List Addr), (valV lt x).getD (.ref pe) = .ref a ∧ H0 a = some (.tup (as.map V.ref)) ∧ Tups H0 as (L x) := by
        rcases hL x with ⟨e, l⟩ | ⟨p, ⟨_, e⟩, as, h, t⟩
        · exact ⟨pe, [], by rw [e]; rfl, p0, by rw [l]; exact Tups.nil⟩
        · exact ⟨p, as, by rw [e]; rfl, s01 _ _ h, t.keep (TupKeep.of s01)⟩
      rw [ea]
      exact ⟨a, _, rfl, .inr (SqT.of ha), fun D hD => q D as _ (s01.free hD) (s01.trans (same_new hD)) upd_same (ta.keep (TupKeep.of (same_new hD)))⟩
def spHas (CR : Addr) : Sp := fun vs H Q _ => ∃ (R dx lk tb hd lg : Addr) (t : Tab) (x : Str), vs = [.ref R, .str x] ∧ H R = some (.ins CR dx (rf lk tb hd lg)) ∧ H tb = some (.dK (kT t)) ∧ x.length ≤ 1000 ∧ OkS x ∧ Q (.bl (valV t x).isSome) H
theorem m_Refs_contains (T : TopR K mg CE CR cS cB iS iB ns r0 h0 l0) : C8.Met P w K mg base 1 CR "__contains__" (spHas CR) [] := by
  refine met_of T.cR T.m_Refs_contains sc_Refs_contains (fun _ _ _ _ _ _ us hl => match us, hl with | [_, _], _ => rfl) (fun vs H Q E h => ?_) (fun f cdv A outer s H vs Q E hr h => ?_)
  · obtain ⟨R, dx, lk, tb, hd, lg, t, x, rfl, _⟩ := h
    rfl
  · obtain ⟨R, dx, lk, tb, hd, lg, t, x, rfl, hR, ht, hx, ho, q⟩ := h
    refine ⟨_, (pss_one (ps_ret (pe_and (pe_callB call_isi (by rfl) T.z_isinstance (by decide +kernel) (pa_cons (pv 1) (pa_cons (pe_bltn (v := .ty "str") (by rfl) T.z_str (by decide +kernel) rfl) pa_nil))) (pe_one (pe_cmp (pc_din (hu_of hr) (pv 1) (pe_fld (pv 0) rfl))))))), ?_⟩
    refine ⟨.str x, rfl, ?_⟩
    dsimp only [tCons, tC, tNil]
    refine (Thing.str x (by omega) ho).isi ⟨_, rfl, iteT ?_⟩
    exact ⟨.str x, rfl, .ref R, rfl, R, CR, dx, _, _, rfl, hR, T.cR, T.nR_table, rfl, tb, _, rfl, dget_kT (.inl ht) x, q⟩
def spGet (CR : Addr) : Sp := fun vs H Q _ => ∃ (R dx lk tb hd lg : Addr) (t : Tab) (x : Str) (v : V), vs = [.ref R, .str x] ∧ H R = some (.ins CR dx (rf lk tb hd lg)) ∧ H tb = some (.dK (kT t)) ∧ x.length ≤ 1000 ∧ OkS x ∧ valV t x = some v ∧ Q v H
theorem m_Refs_getitem (T : TopR K mg CE CR cS cB iS iB ns r0 h0 l0) : GetM P w K mg base 2 CR (spGet CR) := by
  refine getM_of T.m_Refs_getitem sc_Refs_getitem (fun _ _ _ _ _ _ us hl => match us, hl with | [_, _], _ => rfl) (fun vs H Q E h => ?_) (fun f cdv A outer s H vs Q E hr h => ?_)
  · obtain ⟨R, dx, lk, tb, hd, lg, t, x, v, rfl, _⟩ := h
    rfl
  · obtain ⟨R, dx, lk, tb, hd, lg, t, x, v, rfl, hR, ht, hx, ho, hv, q⟩ := h
    refine ⟨_, (pss_cons (ps_if (pt_cmpR (op_ownNotIn (ownM_of (m_Refs_contains T)) (hr.mono (by decide)) noEx0) (pv 1) (pv 0) rfl)
      (pss_one ps_never)
      pss_nil)
      (pss_one (ps_ret (pe_dget (hu_of hr) (pe_fld (pv 0) rfl) (pv 1) (fun _ _ => rfl))))), ?_⟩
    refine ⟨.str x, rfl, .ref R, rfl, R, dx, _, rfl, hR, R, dx, lk, tb, hd, lg, t, x, rfl, hR, ht, hx, ho, _, rfl, _, rfl, ?_⟩
    rw [hv]
    refine iteF ⟨.ref R, rfl, R, CR, dx, _, _, rfl, hR, T.cR, T.nR_table, rfl, .str x, rfl, tb, v, rfl, ?_, q⟩
    have d := dget_kT (.inl ht) x
    rw [hv] at d
    exact d
def spLen (CR : Addr) : Sp := fun vs H Q _ => ∃ (R dx lk tb hd lg : Addr) (t : Tab), vs = [.ref R] ∧ H R = some (.ins CR dx (rf lk tb hd lg)) ∧ H tb = some (.dK (kT t)) ∧ Q (.int t.length) H
theorem m_Refs_len (T : TopR K mg CE CR cS cB iS iB ns r0 h0 l0) : C8.Met P w K mg base 1 CR "__len__" (spLen CR) [] := by
  refine met_of T.cR T.m_Refs_len sc_Refs_len (fun _ _ _ _ _ _ us hl => match us, hl with | [_], _ => rfl) (fun vs H Q E h => ?_) (fun f cdv A outer s H vs Q E hr h => ?_)
  · obtain ⟨R, dx, lk, tb, hd, lg, t, rfl, _⟩ := h
    rfl
  · obtain ⟨R, dx, lk, tb, hd, lg, t, rfl, hR, ht, q⟩ := h
    refine ⟨_, (pss_one (ps_ret (pe_callB call_lenD (by rfl) T.z_len (by decide +kernel) (pa_cons (pe_fld (pv 0) rfl) pa_nil)))), ?_⟩
    refine ⟨.ref R, rfl, R, CR, dx, _, _, rfl, hR, T.cR, T.nR_table, rfl, tb, _, rfl, ht, ?_⟩
    rw [len_kT]
    exact q
end

end Fk

set_option maxHeartbeats 4000000
namespace Fk
open PySem PySem.Spec PyProof.Rows L2
section
variable {P : Program} {w : World} {K : PySem.W.Frag} {mg : Str → Option Value} {base : Heap} {CE CR cS cB iS iB ns r0 h0 l0 : Addr}
def spEditInit (CE : Addr) : Sp := fun vs H Q _ => ∃ (E dx R nt : Addr), vs = [.ref E, .ref R, .ref nt] ∧ H E = some (.ins CE dx []) ∧
  ∀ cl H', H cl = none → FrL [E] H H' → TupKeep H H' → H' E = some (.ins CE dx (ef R nt cl .non false)) → H' cl = some (.dK []) → Q .non H'
theorem k_Edit (T : TopR K mg CE CR cS cB iS iB ns r0 h0 l0) : C8.Mak P w K mg base 1 "Edit" CE (spEditInit CE) [] := by
  obtain ⟨f, fd, M, F, df⟩ := T.iE
  refine C8.mak0 M T.mE F (F.binds (ps := ["self", "refs", "note"]) df fun _ _ _ _ _ _ us hl => match us, hl with | [_, _, _], _ => rfl) .nil sc_Edit_init (fun vs H Q E h => ?_) (fun cdv A outer s H vs Q E hr h => ?_)
  · obtain ⟨E, dx, R, nt, rfl, _⟩ := h
    rfl
  · obtain ⟨e, dx, R, nt, rfl, he, q⟩ := h
    refine ⟨_, (pss_cons (ps_fld (pv 0) (pv 1) rfl)
      (pss_cons (ps_fld (pv 0) (pv 2) rfl)
      (pss_cons (ps_fld (pv 0) pe_dnewK rfl)
      (pss_cons (ps_fld (pv 0) pe_non rfl)
      (pss_one (ps_fld (pv 0) pe_bl rfl)))))), ?_⟩
    refine ⟨.ref R, rfl, .ref e, rfl, e, CE, dx, _, rfl, he, T.cE, T.nE_refs, (by decide), ?_⟩
    refine ⟨.ref nt, rfl, .ref e, rfl, e, CE, dx, _, rfl, upd_same, T.cE, T.nE_note, (by show 1 < 1000; decide), ?_⟩
    intro cl hcl
    have ncl : e ≠ cl := fun z => by rw [z, upd_same] at hcl; cases hcl
    have fcl : H cl = none := by rw [upd_ne ncl.symm, upd_ne ncl.symm] at hcl; exact hcl
    have hE3 : (upd (upd (upd H e (.ins CE dx (putF "_refs" (.ref R) []))) e (.ins CE dx (putF "_note" (.ref nt) (putF "_refs" (.ref R) [])))) cl (.dK [])) e = some (.ins CE dx (putF "_note" (.ref nt) (putF "_refs" (.ref R) []))) := by rw [upd_ne ncl, upd_same]
    have hC3 : (upd (upd (upd H e (.ins CE dx (putF "_refs" (.ref R) []))) e (.ins CE dx (putF "_note" (.ref nt) (putF "_refs" (.ref R) [])))) cl (.dK [])) cl = some (.dK []) := upd_same
    have f3 : FrL [e] H (upd (upd (upd H e (.ins CE dx (putF "_refs" (.ref R) []))) e (.ins CE dx (putF "_note" (.ref nt) (putF "_refs" (.ref R) [])))) cl (.dK [])) :=
      ((FrL.at (List.mem_singleton_self e)).trans (FrL.at (List.mem_singleton_self e))).trans (FrL.new hcl)
    have k3 : TupKeep H (upd (upd (upd H e (.ins CE dx (putF "_refs" (.ref R) []))) e (.ins CE dx (putF "_note" (.ref nt) (putF "_refs" (.ref R) [])))) cl (.dK [])) :=
      ((TupKeep.at fun xs z => by rw [he] at z; cases z).trans (TupKeep.at fun xs z => by rw [upd_same] at z; cases z)).trans (TupKeep.of (same_new hcl))
    generalize upd (upd (upd H e (.ins CE dx (putF "_refs" (.ref R) []))) e (.ins CE dx (putF "_note" (.ref nt) (putF "_refs" (.ref R) [])))) cl (.dK []) = H3 at hE3 hC3 f3 k3
    refine ⟨.ref e, rfl, e, CE, dx, _, rfl, hE3, T.cE, T.nE_calls, (by show 2 < 1000; decide), ?_⟩
    refine ⟨.ref e, rfl, e, CE, dx, _, rfl, upd_same, T.cE, T.nE_new_head, (by show 3 < 1000; decide), ?_⟩
    refine ⟨.ref e, rfl, e, CE, dx, _, rfl, upd_same, T.cE, T.nEclosed, (by show 4 < 1000; decide), ?_⟩
    refine q cl _ fcl (((f3.trans (FrL.at (List.mem_singleton_self e))).trans (FrL.at (List.mem_singleton_self e))).trans (FrL.at (List.mem_singleton_self e)))
      (((k3.trans (TupKeep.at fun xs z => by rw [hE3] at z; cases z)).trans (TupKeep.at fun xs z => by rw [upd_same] at z; cases z)).trans (TupKeep.at fun xs z => by rw [upd_same] at z; cases z)) upd_same ?_
    rw [upd_ne ncl.symm, upd_ne ncl.symm, upd_ne ncl.symm]
    exact hC3
def spEdit (CE CR : Addr) : Sp := fun vs H Q _ => ∃ (R dx lk tb hd lg : Addr) (who msg : Str) (tm : Int), vs = [.ref R, .str who, .int tm, .str msg] ∧ H R = some (.ins CR dx (rf lk tb hd lg)) ∧ isWordF RSG who = true ∧ who.length ≤ 1000 ∧ OkS who ∧ 0 ≤ tm ∧ tm ≤ 1000 ∧ isTextF msg = true ∧ msg.length ≤ 200 ∧
  ∀ E ex nt cl H', H E = none → H cl = none → Same H H' → H' E = some (.ins CE ex (ef R nt cl .non false)) → H' nt = some (.tup [.str who, .int tm, .str msg]) → H' cl = some (.dK []) → Q (.ref E) H'
theorem m_Refs_edit (T : TopR K mg CE CR cS cB iS iB ns r0 h0 l0) : C8.Met P w K mg base 4 CR "edit" (spEdit CE CR) [] := by
  refine met_of T.cR T.m_Refs_edit sc_Refs_edit (fun _ _ _ _ _ _ us hl => match us, hl with | [_, _, _, _], _ => rfl) (fun vs H Q E h => ?_) (fun f cdv A outer s H vs Q E hr h => ?_)
  · obtain ⟨R, dx, lk, tb, hd, lg, who, msg, tm, rfl, _⟩ := h
    rfl
  · obtain ⟨R, dx, lk, tb, hd, lg, who, msg, tm, rfl, hR, w1, w2, w3, t1, t2, m1, m2, q⟩ := h
    refine ⟨_, (pss_cons (ps_if (PW.pt (pw_or (pt_not (pt_val (C8.pe_c (c_is_short_ref T.toTop) hr (by decide) (by rfl) (pa_cons (pv 1) pa_nil)))) (pw_or (pt_not (pt_val (C8.pe_c (c_is_time T.toTop) hr (by decide) (by rfl) (pa_cons (pv 2) pa_nil)))) (pw_or1 (pt_not (pt_val (C8.pe_c (c_is_message T.toTop) hr (by decide) (by rfl) (pa_cons (pv 3) pa_nil))))))))
      (pss_one ps_never)
      pss_nil)
      (pss_one (ps_ret (C8.pe_mk (k_Edit T) hr (by decide) (by rfl) (pa_cons (pv 0) (pa_cons (pe_tup (pa_cons (pv 1) (pa_cons (pv 2) (pa_cons (pv 3) pa_nil)))) pa_nil)))))), ?_⟩
    refine ⟨.str who, rfl, .str who, rfl, .str who (by omega) w3, fun H1 s1 => ⟨_, rfl, ?_⟩⟩
    rw [show evalV (isWordF RSG) (.str who) = true from w1]
    refine iteF ⟨.int tm, rfl, tm, rfl, t1, t2, fun H2 s2 => ⟨_, rfl, iteF ⟨.str msg, rfl, msg, rfl, m1, m2, fun H3 s3 => ⟨_, rfl, iteF ?_⟩⟩⟩⟩
    have s03 := (s1.trans s2).trans s3
    refine ⟨.ref R, rfl, .str who, rfl, .int tm, rfl, .str msg, rfl, (by show 3 ≤ sizeLine; decide), fun nt hnt => ?_⟩
    have s4 := same_new (o := .tup [.str who, .int tm, .str msg]) hnt
    have ht : (upd H3 nt (.tup [.str who, .int tm, .str msg])) nt = some (.tup [.str who, .int tm, .str msg]) := upd_same
    generalize upd H3 nt (.tup [.str who, .int tm, .str msg]) = H4 at s4 ht
    intro x ex hx hex nex
    have s5 : Same H4 (upd (upd H4 ex (.own x)) x (.ins CE ex [])) := fun b o e => by
      rw [upd_ne (ne_of_none e hx), upd_ne (ne_of_none e hex)]
      exact e
    refine ⟨x, ex, R, nt, rfl, upd_same, fun cl H5 hcl f5 k5 he5 hc5 => ⟨rfl, ?_⟩⟩
    have s05 := s03.trans s4
    have sF : Same H H5 := fun b o e => f5.out (s5 _ _ (s05 _ _ e)) (not1 (ne_of_none (s05 _ _ e) hx))
    exact q x ex nt cl H5 (s05.free hx) (s05.free (s5.free hcl)) sF he5 (k5 _ _ (s5 _ _ ht)) hc5
/-- references, made new -/
def spRefsInit (K : PySem.W.Frag) (CR h0 : Addr) : Sp := fun vs H Q _ => ∃ (R dx : Addr), vs = [.ref R, .non] ∧ H R = some (.ins CR dx []) ∧
  ∀ lk tb lg H', H lk = none → H tb = none → H lg = none → FrL [R] H H' → TupKeep H H' → H' R = some (.ins CR dx (rf lk tb h0 lg)) → H' lk = some (.dK []) → H' tb = some (.dK []) → H' lg = some (.dK []) → Q .non H'
theorem k_Refs (T : TopR K mg CE CR cS cB iS iB ns r0 h0 l0) : C8.Mak P w K mg base 2 "Refs" CR (spRefsInit K CR h0) [V.non] := by
  obtain ⟨f, fd, ds, M, F, d, b⟩ := T.iR
  refine C8.mak0 M T.mR F b d sc_Refs_init (fun vs H Q E h => ?_) (fun cdv A outer s H vs Q E hr h => ?_)
  · obtain ⟨R, dx, rfl, _⟩ := h
    rfl
  · obtain ⟨R, dx, rfl, hR, q⟩ := h
    refine ⟨_, (pss_cons (ps_if (PW.pt (pw_and (pt_cmpR op_notN (pv 1) pe_non (nomark _)) (pw_and1 (pt_not (pt_val pe_never)))))
      (pss_one ps_never)
      pss_nil)
      (pss_cons (ps_fld (pv 0) pe_dnewK rfl)
      (pss_one (ps_expr (C8.pe_mt (m_Refstake_over T) hr (by decide) (pv 0) (pa_cons (pe_ifExp (pt_cmpR op_isN (pv 1) pe_non (nomark _)) (C8.pe_gc (by rfl) T.g_NEW_STATE) (pv 1)) pa_nil)))))), ?_⟩
    refine ⟨.non, rfl, rfl, _, rfl, iteF (iteF ?_)⟩
    intro lk hlk
    have nlk : R ≠ lk := ne_of_none hR hlk
    have hR1 : (upd H lk (.dK [])) R = some (.ins CR dx []) := by rw [upd_ne nlk]; exact hR
    refine ⟨.ref R, rfl, R, CR, dx, _, rfl, hR1, T.cR, T.nR_locks, (by decide), ?_⟩
    refine ⟨.ref R, rfl, R, dx, _, rfl, upd_same, rfl, .non, rfl, rfl, _, rfl, iteT ?_⟩
    have k1 : TupKeep H (upd (upd H lk (.dK [])) R (.ins CR dx (putF "_locks" (.ref lk) []))) := (TupKeep.of (same_new hlk)).trans (TupKeep.at fun xs z => by rw [hR1] at z; cases z)
    have f1 : FrL [R] H (upd (upd H lk (.dK [])) R (.ins CR dx (putF "_locks" (.ref lk) []))) := (FrL.new hlk).trans (FrL.at (List.mem_singleton_self R))
    have hl1 : (upd (upd H lk (.dK [])) R (.ins CR dx (putF "_locks" (.ref lk) []))) lk = some (.dK []) := by rw [upd_ne nlk.symm, upd_same]
    have hR2 : (upd (upd H lk (.dK [])) R (.ins CR dx (putF "_locks" (.ref lk) []))) R = some (.ins CR dx (putF "_locks" (.ref lk) [])) := upd_same
    generalize upd (upd H lk (.dK [])) R (.ins CR dx (putF "_locks" (.ref lk) [])) = H2 at k1 f1 hl1 hR2
    refine ⟨R, ns, r0, h0, l0, lk, dx, _, [], [], rfl, hR2, .inl rfl, .inr T.kS, ⟨[], .inr T.kr, Tups.nil⟩, List.nodup_nil, (by decide), ⟨[], .inr T.kl, Tups.nil⟩, List.nodup_nil, (by decide), fun tb lg H3 f3 k3 hR3 ht3 hl3 ntb nlg => ?_⟩
    have fr : ∀ b, H2 b = none → H b = none := fun b e => by
      cases c : H b with
      | none => rfl
      | some o =>
        have nb : b ≠ R := fun z => by rw [z, hR2] at e; cases e
        rw [f1.out c (not1 nb)] at e
        cases e
    exact q lk tb lg H3 hlk (fr _ ntb) (fr _ nlg) (f1.trans f3) (k1.trans k3) hR3 (f3.out hl1 (not1 nlk.symm)) ht3 hl3
/-! ### point and delete -/
def kwG (n : Nat) {α : Type} (us ws : List α) : List α := if us.length = n ∧ ws.length = 1 then us ++ ws else []
theorem kwG_rel {n : Nat} {vs : List V} {us : List Value} {zs : List V} {ws : List Value} (r : Vals vs us) (k : Vals zs ws) : Vals (kwG n vs zs) (kwG n us ws) := by
  unfold kwG
  rw [r.length, k.length]
  split
  · exact r.append k
  · exact .nil
def spPoint (CE CR : Addr) : Sp := fun vs H Q _ => ∃ (E ex R nt cl dx lk tb hd lg : Addr) (nh : V) (x y : Str) (o : V) (cs : List (Str × V × V)) (n : Nat), vs = [.ref E, .str x, .str y, o] ∧ H E = some (.ins CE ex (ef R nt cl nh false)) ∧ H R = some (.ins CR dx (rf lk tb hd lg)) ∧ LocksAt H CE lk E n ∧ n < 64 ∧ CallsAt H cl cs ∧ cs.length < 64 ∧ HadOk o ∧
  isRefF x = true ∧ x.length ≤ 1000 ∧ OkS x ∧ isIdF y = true ∧ y.length ≤ 1000 ∧ OkS y ∧
  ∀ lk' H', FrL [R, cl] H H' → TupKeep H H' → H' R = some (.ins CR dx (rf lk' tb hd lg)) → LocksAt H' CE lk' E (n + 1) → CallsAt H' cl (callPut cs x (.str y) o) → Q .non H'
theorem m_Edit_point (T : TopR K mg CE CR cS cB iS iB ns r0 h0 l0) : MetK P w K mg base 5 CE "point" (spPoint CE CR) ["old"] (kwG 3) := by
  obtain ⟨f, fd, M, F, df⟩ := T.kP
  refine ⟨f, fd, ["self", "ref", "new", "old"], kwG 3, T.cE, M, C8.fn0 F sc_Edit_point (fun vs H Q E h => ?_) (fun cdv A outer s H vs Q E hr h => ?_), ⟨fun s us ws Xs hl => ?_, kwG_rel⟩⟩
  · obtain ⟨E, ex, R, nt, cl, dx, lk, tb, hd, lg, nh, x, y, o, cs, n, rfl, _⟩ := h
    rfl
  · obtain ⟨e, ex, R, nt, cl, dx, lk, tb, hd, lg, nh, x, y, o, cs, n, rfl, he, hR, hk, hn, hc, hl, ho, x1, x2, x3, y1, y2, y3, q⟩ := h
    refine ⟨_, (pss_cons (ps_expr (C8.pe_mt0 (m_Editcheck_open T) hr (by decide) (pv 0)))
      (pss_cons (ps_if (pt_not (pt_val (C8.pe_c (c_is_ref T.toTop) hr (by decide) (by rfl) (pa_cons (pv 1) pa_nil))))
      (pss_one ps_never)
      pss_nil)
      (pss_cons (ps_if (pt_not (pt_val (C8.pe_c (c_is_id T.toTop) hr (by decide) (by rfl) (pa_cons (pv 2) pa_nil))))
      (pss_one ps_never)
      pss_nil)
      (pss_one (ps_expr (C8.pe_mt (m_Editcall T) hr (by decide) (pv 0) (pa_cons (pv 1) (pa_cons (pv 2) (pa_cons (pv 3) pa_nil))))))))), ?_⟩
    refine ⟨.ref e, rfl, e, ex, _, rfl, he, rfl, e, ex, R, nt, cl, nh, rfl, he, ?_⟩
    refine ⟨.str x, rfl, .str x, rfl, .str x (by omega) x3, fun H1 s1 => ⟨_, rfl, ?_⟩⟩
    rw [show evalV isRefF (.str x) = true from x1]
    refine iteF ⟨.str y, rfl, .str y, rfl, .str y (by omega) y3, fun H2 s2 => ⟨_, rfl, ?_⟩⟩
    rw [show evalV isIdF (.str y) = true from y1]
    have s12 := s1.trans s2
    refine iteF ⟨.ref e, rfl, e, ex, _, rfl, s12 _ _ he, rfl, .str x, rfl, .str y, rfl, o, rfl, e, ex, R, nt, cl, dx, lk, tb, hd, lg, nh, x, .str y, o, cs, n, rfl, s12 _ _ he, s12 _ _ hR, hk.same s12, hn, hc.keep (TupKeep.of s12) (fun o eo => s12 _ _ eo), hl, ho, fun lk' H3 f3 k3 hR3 hk3 hc3 => ?_⟩
    exact q lk' H3 ((FrL.same s12).trans f3) ((TupKeep.of s12).trans k3) hR3 hk3 hc3
  · obtain ⟨oc, od, dV, kV, doc, pm, an, cdv, ct, osl, rfl, lk, hcd⟩ := F.ex
    have e : dV = .none := df
    subst e
    by_cases c : us.length = 3 ∧ ws.length = 1
    · match us, ws, c with
      | [a, b, d], [g], _ => exact .of_eq rfl
    · unfold kwG at hl
      rw [if_neg c] at hl
      exact absurd hl (by decide)
def spDelete (CE CR : Addr) : Sp := fun vs H Q _ => ∃ (E ex R nt cl dx lk tb hd lg : Addr) (nh : V) (x : Str) (o : V) (cs : List (Str × V × V)) (n : Nat), vs = [.ref E, .str x, o] ∧ H E = some (.ins CE ex (ef R nt cl nh false)) ∧ H R = some (.ins CR dx (rf lk tb hd lg)) ∧ LocksAt H CE lk E n ∧ n < 64 ∧ CallsAt H cl cs ∧ cs.length < 64 ∧ HadOk o ∧
  isRefF x = true ∧ x.length ≤ 1000 ∧ OkS x ∧
  ∀ lk' H', FrL [R, cl] H H' → TupKeep H H' → H' R = some (.ins CR dx (rf lk' tb hd lg)) → LocksAt H' CE lk' E (n + 1) → CallsAt H' cl (callPut cs x .non o) → Q .non H'
theorem m_Edit_delete (T : TopR K mg CE CR cS cB iS iB ns r0 h0 l0) : MetK P w K mg base 5 CE "delete" (spDelete CE CR) ["old"] (kwG 2) := by
  obtain ⟨f, fd, M, F, df⟩ := T.kD
  refine ⟨f, fd, ["self", "ref", "old"], kwG 2, T.cE, M, C8.fn0 F sc_Edit_delete (fun vs H Q E h => ?_) (fun cdv A outer s H vs Q E hr h => ?_), ⟨fun s us ws Xs hl => ?_, kwG_rel⟩⟩
  · obtain ⟨E, ex, R, nt, cl, dx, lk, tb, hd, lg, nh, x, o, cs, n, rfl, _⟩ := h
    rfl
  · obtain ⟨e, ex, R, nt, cl, dx, lk, tb, hd, lg, nh, x, o, cs, n, rfl, he, hR, hk, hn, hc, hl, ho, x1, x2, x3, q⟩ := h
    refine ⟨_, (pss_cons (ps_expr (C8.pe_mt0 (m_Editcheck_open T) hr (by decide) (pv 0)))
      (pss_cons (ps_if (pt_not (pt_val (C8.pe_c (c_is_ref T.toTop) hr (by decide) (by rfl) (pa_cons (pv 1) pa_nil))))
      (pss_one ps_never)
      pss_nil)
      (pss_one (ps_expr (C8.pe_mt (m_Editcall T) hr (by decide) (pv 0) (pa_cons (pv 1) (pa_cons pe_non (pa_cons (pv 2) pa_nil)))))))), ?_⟩
    refine ⟨.ref e, rfl, e, ex, _, rfl, he, rfl, e, ex, R, nt, cl, nh, rfl, he, ?_⟩
    refine ⟨.str x, rfl, .str x, rfl, .str x (by omega) x3, fun H1 s12 => ⟨_, rfl, ?_⟩⟩
    rw [show evalV isRefF (.str x) = true from x1]
    refine iteF ⟨.ref e, rfl, e, ex, _, rfl, s12 _ _ he, rfl, .str x, rfl, o, rfl, e, ex, R, nt, cl, dx, lk, tb, hd, lg, nh, x, .non, o, cs, n, rfl, s12 _ _ he, s12 _ _ hR, hk.same s12, hn, hc.keep (TupKeep.of s12) (fun o eo => s12 _ _ eo), hl, ho, fun lk' H3 f3 k3 hR3 hk3 hc3 => ?_⟩
    exact q lk' H3 ((FrL.same s12).trans f3) ((TupKeep.of s12).trans k3) hR3 hk3 hc3
  · obtain ⟨oc, od, dV, kV, doc, pm, an, cdv, ct, osl, rfl, lk, hcd⟩ := F.ex
    have e : dV = .none := df
    subst e
    by_cases c : us.length = 2 ∧ ws.length = 1
    · match us, ws, c with
      | [a, b], [g], _ => exact .of_eq rfl
    · unfold kwG at hl
      rw [if_neg c] at hl
      exact absurd hl (by decide)
end

end Fk

set_option maxHeartbeats 4000000
namespace Fk
open PySem PySem.Spec PyProof.Rows L2
section
variable {P : Program} {w : World} {K : PySem.W.Frag} {mg : Str → Option Value} {base : Heap} {CE CR cS cB iS iB ns r0 h0 l0 : Addr}
/-- an edit with calls, over references -/
def Ready (CE CR : Addr) (H : Hp) (e ex R nt cl dx lk tb hd lg : Addr) (nh : V) (t lt : Tab) (cs : List (Str × V × V)) : Prop :=
  H e = some (.ins CE ex (ef R nt cl nh false)) ∧ H R = some (.ins CR dx (rf lk tb hd lg)) ∧ H tb = some (.dK (kT t)) ∧ Nd t ∧ H lg = some (.dK (kT lt)) ∧ Nd lt ∧ t.length + cs.length < 64 ∧ lt.length + cs.length + 1 < 64 ∧
  CallsAt H cl cs ∧ (cs.map (·.1)).Nodup ∧ (∀ e ∈ t, flatN e.2) ∧ (∀ c ∈ cs, flatN c.2.1 ∧ flatN c.2.2) ∧ (∀ x ∈ t.map (·.1), x.length ≤ 1000 ∧ OkS x) ∧ (∀ x ∈ cs.map (·.1), x.length ≤ 1000 ∧ OkS x)
def spMoves (CE CR cS cB : Addr) : Sp := fun vs H Q E => ∃ (e ex R nt cl dx lk tb hd lg : Addr) (nh : V) (t lt : Tab) (cs : List (Str × V × V)), vs = [.ref e] ∧ Ready CE CR H e ex R nt cl dx lk tb hd lg nh t lt cs ∧
  (∀ x, staleF t cs = some x → ∀ d H', Same H H' → H' d = some (.xd [("ref", .str x)]) → E (.ref cS) (some d) H') ∧
  (staleF t cs = none → ∀ ys, ys.Perm (cs.map (·.1)) → sortedS ys = true → haveF ((afterT t (movesF t cs ys)).map (·.1)) = true → ∀ d H', Same H H' → E (.ref cB) (some d) H') ∧
  (staleF t cs = none → ∀ ys, ys.Perm (cs.map (·.1)) → sortedS ys = true → haveF ((afterT t (movesF t cs ys)).map (·.1)) = false → ∀ p H', Same H H' → TupsAt H' p ((movesF t cs ys).map moveL) → Q (.ref p) H')
theorem m_Edit_moves (T : TopR K mg CE CR cS cB iS iB ns r0 h0 l0) : MetX P w K mg base (L2.CX P w) 5 CE "moves" (spMoves CE CR cS cB) [] := by
  refine metX_of T.cE T.m_Edit_moves sc_Edit_moves (fun _ _ _ _ _ _ us hl => match us, hl with | [_], _ => rfl) (fun vs H Q E h => ?_) (fun f cdv A outer s H vs Q E hr h => ?_)
  · obtain ⟨e, ex, R, nt, cl, dx, lk, tb, hd, lg, nh, t, lt, cs, rfl, _⟩ := h
    rfl
  · obtain ⟨e, ex, R, nt, cl, dx, lk, tb, hd, lg, nh, t, lt, cs, rfl, ⟨he, hR, ht, nd, hl, nl, b1, b2, ⟨zs, ez, hc, hz⟩, nc, ft, fc, kt, kc⟩, q1, q2, q3⟩ := h
    refine ⟨_, (pss_cons (ps_expr (C8.pe_mt0 (m_Editcheck_open T) hr (by decide) (pv 0)))
      (pss_cons (ps_set (i := 1) sc_Edit_moves.nd rfl (Or.inr rfl) (C8.pe_mt0 (m_Editids T) hr (by decide) (pv 0)))
      (pss_cons (ps_lock (ps_for (passes_of rfl) rfl (pi_keys (pe_fld (pv 0) rfl)) (pg_name (i := 2) sc_Edit_moves.nd rfl (Or.inl rfl))
      (pss_cons (ps_set (i := 3) sc_Edit_moves.nd rfl (Or.inl rfl) (pe_ix ix_tup (pe_dget (hu_of hr) (pe_fld (pv 0) rfl) (pv 2) (fun _ _ => rfl)) pe_int (fun _ _ => rfl)))
      (pss_one (ps_if (PW.pt (pw_and (pt_cmpR op_ne (pv 3) pe_str (nomark _)) (pw_and1 (pt_cmpR op_ne (pv 3) (pe_dget1 (hu_of hr) (pv 1) (pv 2) ⟨rfl, rfl, rfl, rfl⟩) (nomark _)))))
      (pss_one (ps_raise rfl (takes_lock (takes_of rfl rfl rfl rfl)) (rs_of T.eS (hr.mono (by decide)) (by rfl) (pa_cons (pv 2) pa_nil))))
      pss_nil)))))
      (pss_cons (ps_setLc (i := 4) (own := [("ref", 2)]) (g := gName 2) (by rfl) sc_Edit_moves.nd rfl rfl (sw_true rfl rfl rfl (by decide +kernel)) (pi_tup (C8.pe_c (c_ascending T.toTop) hr (by decide) (by rfl) (pa_cons (pe_fld (pv 0) rfl) pa_nil))) (blkOk_by (own := [("ref", 2)]) (N := ["self", "ids", "ref", "old", "rows", "moves", "new"]) (sc := C8.fnScope s_Edit_moves) (by decide +kernel)) (fun _ _ _ _ _ => (pg_name (i := 2) sc_Edit_moves.nd rfl (Or.inl rfl))) (fun _ _ _ _ _ => pts_nil) (fun _ _ _ _ _ => (pe_tup (pa_cons (pv 2) (pa_cons (pe_dget1 (hu_of hr) (pv 1) (pv 2) ⟨rfl, rfl, rfl, rfl⟩) (pa_cons (pe_ix (ixK_tup (K := K) rfl) (pe_dget (hu_of hr) (pe_fldK (K := K) rfl (pv 0) rfl) (pv 2) (fun _ _ => rfl)) pe_int (fun _ _ => rfl)) pa_nil))))))
      (pss_cons (ps_set (i := 5) sc_Edit_moves.nd rfl (Or.inl rfl) (pe_callTy call_tuple_of (by rfl) T.z_tuple (by decide +kernel) (pa_cons (pe_lc (own := [("ref", 2), ("old", 3), ("new", 6)]) (g := _) (by rfl) sc_Edit_moves.nd (pi_list (pv 4)) (blkOk_by (own := [("ref", 2), ("old", 3), ("new", 6)]) (N := ["self", "ids", "ref", "old", "rows", "moves", "new"]) (sc := C8.fnScope s_Edit_moves) (by decide +kernel)) (fun _ _ _ _ _ => (pg_tupK (K := K) (n := 3) rfl rfl (pgs_cons (pg_name (i := 2) sc_Edit_moves.nd rfl (Or.inl rfl)) (pgs_cons (pg_name (i := 3) sc_Edit_moves.nd rfl (Or.inl rfl)) (pgs_cons (pg_name (i := 6) sc_Edit_moves.nd rfl (Or.inl rfl)) pgs_nil))))) (fun _ _ _ _ _ => pts_one (pt_cmpR op_ne (pv 3) (pv 6) (nomark _))) (fun _ _ _ _ _ => (pe_tup (pa_cons (pv 2) (pa_cons (pv 3) (pa_cons (pv 6) pa_nil)))))) pa_nil)))
      (pss_cons (ps_if (pt_val (C8.pe_c (c_have_prefixes T.toTop) hr (by decide) (by rfl) (pa_cons (C8.pe_c (c_after_moves T.toTop) hr (by decide) (by rfl) (pa_cons (pv 1) (pa_cons (pv 5) pa_nil))) pa_nil)))
      (pss_one (ps_raise rfl (takes_of rfl rfl rfl rfl) (rs_of T.eB (hr.mono (by decide)) (by rfl) (pa_cons pe_str pa_nil))))
      pss_nil)
      (pss_one (ps_ret (pv 5))))))))), ?_⟩
    have lz : zs.length = cs.length := by rw [← ez, List.length_map]
    refine ⟨.ref e, rfl, e, ex, _, rfl, he, rfl, e, ex, R, nt, cl, nh, rfl, he, ?_⟩
    refine ⟨.ref e, rfl, e, ex, _, rfl, he, rfl, e, ex, R, nt, cl, dx, lk, tb, hd, lg, nh, false, t, lt, rfl, he, hR, ht, nd, by omega, hl, nl, by omega, fun D u H1 hD s1 h1 so => ?_⟩
    have hct : ∃ ct : Tab, ct = zs.map fun z => (z.2.1, V.ref z.1) := ⟨_, rfl⟩
    obtain ⟨ct, ect⟩ := hct
    rw [← ect] at hc
    have lct : ct.length = cs.length := by rw [ect, List.length_map, lz]
    have kct : ct.map (·.1) = cs.map (·.1) := by rw [ect, ← ez, List.map_map, List.map_map]; rfl
    have ndc : Nd ct := by unfold Nd; rw [kct]; exact nc
    have get : ∀ z ∈ zs, valV ct z.2.1 = some (.ref z.1) := fun z hz => val_nodup ndc (z.2.1, V.ref z.1) (by rw [ect]; exact List.mem_map_of_mem hz)
    have nec : e ≠ cl := at_ne he hc fun z => nomatch z
    have nDc : D ≠ cl := ne_of_none' hD hc
    refine ⟨cl, _, s1 _ _ hc, trivial, fun od => ?_⟩
    have he1 : (upd H1 cl (.frz od (.dK (kT ct)))) e = some (.ins CE ex (ef R nt cl nh false)) := by rw [upd_ne nec]; exact s1 _ _ he
    have hD1 : (upd H1 cl (.frz od (.dK (kT ct)))) D = some (.dK (kT u)) := by rw [upd_ne nDc]; exact h1
    have hcf : (upd H1 cl (.frz od (.dK (kT ct)))) cl = some (.frz od (.dK (kT ct))) := upd_same
    have ncl0 : ∀ o' u', H cl ≠ some (.frz o' u') := fun o' u' z => by rw [hc] at z; cases z
    have sun : ∀ {H2}, Same (upd H1 cl (.frz od (.dK (kT ct)))) H2 → Same H1 (upd H2 cl (.dK (kT ct))) := fun s => same_unlock s (s1 _ _ hc)
    have hz1 : ∀ z ∈ zs, (upd H1 cl (.frz od (.dK (kT ct)))) z.1 = some (.tup [z.2.2.1, z.2.2.2]) := fun z h => by
      rw [upd_ne (at_ne (hz z h) hc fun z => nomatch z)]
      exact s1 _ _ (hz z h)
    generalize upd H1 cl (.frz od (.dK (kT ct))) = HL at he1 hD1 hcf sun hz1
    refine ⟨.ref e, rfl, e, CE, ex, _, .ref cl, rfl, he1, T.cE, T.nE_calls, rfl, cl, od, rfl, .inl ⟨kT ct, hcf, ?_⟩⟩
    refine forG (items := ct.map fun e => V.str e.1) yields_tab (fun i σ H' => Same HL H' ∧ (∀ d ∈ cs.take i, bad t d = false) ∧ ∃ x2 x3, σ = [some (.ref e), some (.ref D), x2, x3, none, none, none]) ⟨Same.refl _, fun d hd => (List.not_mem_nil hd).elim, none, none, rfl⟩ (fun i σ H' ⟨s, _⟩ => s _ _ hcf) ?_ ?_
    · rintro i x σ H2 hx ⟨s2, g, x2, x3, rfl⟩
      rw [ect, List.map_map, List.getElem?_map] at hx
      cases hzi : zs[i]? with
      | none => rw [hzi] at hx; cases hx
      | some z =>
        rw [hzi] at hx
        cases hx
        have hm : z ∈ zs := List.mem_of_getElem? hzi
        have hci : cs[i]? = some z.2 := by rw [← ez, List.getElem?_map, hzi]; rfl
        have hcm : z.2 ∈ cs := List.mem_of_getElem? hci
        have hzL := hz1 z hm
        have d1 := dget_kT (.inr ⟨od, s2 _ _ hcf⟩) z.2.1
        rw [get z hm] at d1
        have fo := (fc z.2 hcm).2
        refine ⟨.ref e, rfl, e, CE, ex, _, .ref cl, rfl, s2 _ _ he1, T.cE, T.nE_calls, rfl, .str z.2.1, rfl, cl, .ref z.1, rfl, d1, z.1, _, 1, z.2.2.2, rfl, rfl, SqT.of (s2 _ _ hzL), rfl, ?_⟩
        have etk : cs.take (i + 1) = cs.take i ++ [z.2] := by rw [List.take_add_one, hci]; rfl
        have next : bad t z.2 = false → ∀ d ∈ cs.take (i + 1), bad t d = false := fun b d hd => by
          rw [etk] at hd
          rcases List.mem_append.mp hd with hd | hd
          · exact g d hd
          · rw [List.mem_singleton.mp hd]
            exact b
        have fu : flatN ((valV u z.2.1).getD .non) := by rw [so.2.2]; exact flat_val ft z.2.1
        refine ⟨z.2.2.2, rfl, scal_flat fo True.intro, _, rfl, ?_⟩
        by_cases c1 : z.2.2.2 = .str ""
        · rw [decide_eq_true c1]
          refine iteF (iteF ⟨s2, next ?_, _, _, rfl⟩)
          unfold bad
          rw [decide_eq_true c1]
          rfl
        · rw [decide_eq_false c1]
          refine iteT ⟨z.2.2.2, rfl, .ref D, rfl, D, rfl, .inl ⟨_, .inl (s2 _ _ hD1)⟩, .str z.2.1, rfl, valV u z.2.1, dget_kT (.inl (s2 _ _ hD1)) z.2.1, scal_flat fo fu, _, rfl, ?_⟩
          by_cases c2 : z.2.2.2 = (valV u z.2.1).getD .non
          · rw [decide_eq_true c2]
            refine iteF ⟨s2, next ?_, _, _, rfl⟩
            unfold bad
            rw [so.2.2] at c2
            rw [decide_eq_true c2]
            simp
          · rw [decide_eq_false c2]
            have hb : bad t z.2 = true := by
              unfold bad
              rw [so.2.2] at c2
              rw [decide_eq_false c1, decide_eq_false c2]
              rfl
            refine iteT ⟨.str z.2.1, rfl, (by show 1 ≤ 1000; decide), ?_⟩
            refine do_raise (Hc := H2) (y := .str z.2.1) (Q := fun cls d H' => wLock (cxOf (L2.CX P w) P w K mg base _ _ _ f cdv A outer s H E) (fun cls d _ H => E cls d H) cls d ([some (.ref e), some (.ref D), some (.str z.2.1), some z.2.2.2, none, none, none]) H') T.eS ?_
            intro d H3 s3 hd h3
            have ndc' : d ≠ cl := fun z => by rw [z, s2 _ _ hcf] at hd; cases hd
            refine ⟨cl, od, _, s3 _ _ (s2 _ _ hcf), ncl0, q1 _ (stale_at hci g hb) d _ (s1.trans (sun (s2.trans s3))) ?_⟩
            rw [upd_ne ndc']
            exact h3
    · rintro σ H2 ⟨s2, g, x2, x3, rfl⟩
      rw [List.length_map, lct, List.take_length] at g
      have sn := stale_none g
      have s12 := sun s2
      have s02 := s1.trans s12
      refine ⟨s2 _ _ hcf, ?_⟩
      have hD2 : (upd H2 cl (.dK (kT ct))) D = some (.dK (kT u)) := s12 _ _ h1
      generalize upd H2 cl (.dK (kT ct)) = H3 at s12 s02 hD2
      have hc3 := s02 _ _ hc
      have he3 := s02 _ _ he
      refine ⟨.ref e, rfl, e, CE, ex, _, .ref cl, rfl, he3, T.cE, T.nE_calls, rfl, cl, ct, rfl, hc3, by omega, fun ys p H4 hp hs hn s4 h4 => ?_⟩
      rw [kct] at hp
      have nys : ys.Nodup := hp.nodup_iff.mpr nc
      have lys : ys.length = cs.length := by have := hp.length_eq; rw [List.length_map] at this; exact this
      refine ⟨p, rfl, ⟨_, SqT.of h4⟩, fun D2 hD2' => ?_⟩
      have s04 := s02.trans s4
      have hcn : ∀ x ∈ ys, ∃ z ∈ zs, z.2.1 = x := fun x hx => by
        have := hp.mem_iff.mp hx
        rw [← ez, List.map_map] at this
        exact List.mem_map.mp this
      have newv : ∀ z ∈ zs, valV (newT cs) z.2.1 = some z.2.2.1 := fun z hz => by
        have nn : Nd (newT cs) := by
          unfold Nd newT
          rw [List.map_map]
          exact nc
        exact val_nodup nn (z.2.1, z.2.2.1) (by rw [← ez]; exact List.mem_map_of_mem (List.mem_map_of_mem hz))
      refine lc_new (us := ys) (val := V.str) yields_tup (fun x => [.str x, (valV t x).getD .non, (valV (newT cs) x).getD .non]) (fun _ => true) (fun x => [some (.ref e), some (.ref D), some (.str x), x3, none, none, none]) hD2' (fun H s => SqT.of (s _ _ h4)) (fun _ _ => rfl) (fun H u _ _ R r => r) (fun H u _ _ R r => r H (Same.refl H))
        (fun H5 x s5 hx _ R' r => ?_) (by omega) (fun as H5 s5 h5 tp => ?_)
      · obtain ⟨z, hzm, ezx⟩ := hcn x hx
        subst ezx
        have s05 := s04.trans s5
        have d1 := dget_kT (.inl (s05 _ _ hc)) z.2.1
        rw [get z hzm] at d1
        have hD5 := s5 _ _ (s4 _ _ hD2)
        refine ⟨.str z.2.1, rfl, .ref D, rfl, D, rfl, .inl ⟨_, .inl hD5⟩, .str z.2.1, rfl, valV u z.2.1, dget_kT (.inl hD5) z.2.1, ?_⟩
        refine ⟨.ref e, rfl, e, CE, ex, _, .ref cl, rfl, s05 _ _ he, T.cE, T.nE_calls, rfl, .str z.2.1, rfl, cl, .ref z.1, rfl, d1, z.1, _, 0, z.2.2.1, rfl, rfl, SqT.of (s05 _ _ (hz z hzm)), rfl, (by show 3 ≤ sizeLine; decide), fun pt hpt => ?_⟩
        refine r pt _ (same_new hpt) ?_
        rw [upd_same, so.2.2, newv z hzm]
        rfl
      · have s05 := s04.trans s5
        rw [filt_all, show (fun x : Str => [V.str x, (valV t x).getD .non, (valV (newT cs) x).getD .non]) = moveL ∘ (fun x : Str => (x, (valV t x).getD .non, (valV (newT cs) x).getD .non)) from rfl, ← List.map_map] at tp
        have tp : Tups H5 as ((rowsF t cs ys).map moveL) := tp
        have el : as.length = (rowsF t cs ys).length := by have := tp.1; rw [List.length_map] at this; exact this
        have lr : (rowsF t cs ys).length = ys.length := by unfold rowsF; rw [List.length_map]
        refine ⟨.ref D2, rfl, D2, rfl, ⟨_, .inl (.inl h5)⟩, fun D3 hD3 => ?_⟩
        have fr := flat_moves (ys := ys) ft fun c h => (fc c h).1
        refine lc_new (us := as.zip (rowsF t cs ys)) (val := fun u => V.ref u.1) (yields_zipL el) (fun u => moveL u.2) (fun u => !decide (u.2.2.1 = u.2.2.2)) (fun u => [some (.ref e), some (.ref D), some (.str u.2.1), some u.2.2.1, some (.ref D2), none, some u.2.2.2]) hD3 (fun H s => .inl (.inl (s _ _ h5))) (fun _ _ => rfl)
          (fun H6 u s6 hu R k => ⟨u.1, _, rfl, SqT.of (s6 _ _ (tups_get tp hu)), rfl, _, _, rfl, _, _, rfl, _, _, rfl, rfl, k⟩) (fun H6 u s6 hu R k => ?_) (fun H6 u s6 hu _ R k => ?_) (by rw [List.length_zip]; omega) (fun bs H6 s6 h6 tq => ?_)
        · have hm : u.2 ∈ rowsF t cs ys := (List.of_mem_zip hu).2
          exact ⟨_, rfl, _, rfl, scal_flat (fr _ hm).1 (fr _ hm).2, _, rfl, k H6 (Same.refl H6)⟩
        · exact ⟨_, rfl, _, rfl, _, rfl, (by show 3 ≤ sizeLine; decide), fun pt hpt => k pt _ (same_new hpt) upd_same⟩
        · have eqm : ((as.zip (rowsF t cs ys)).filter fun u => !decide (u.2.2.1 = u.2.2.2)).map (fun u => moveL u.2) = (movesF t cs ys).map moveL := by
            unfold movesF
            rw [show (fun u : Addr × (Str × V × V) => moveL u.2) = moveL ∘ Prod.snd from rfl, ← List.map_map]
            congr 1
            have := List.filter_map (f := (Prod.snd : Addr × (Str × V × V) → Str × V × V)) (p := fun m => !decide (m.2.1 = m.2.2)) (l := as.zip (rowsF t cs ys))
            rw [List.map_snd_zip (by omega)] at this
            exact this.symm
          rw [eqm] at tq
          refine ⟨D3, _, rfl, .inl ⟨.inl (.inl h6), fun pm hpm => ?_⟩⟩
          have s06 := s05.trans s6
          have s7 := same_new (o := .tup (bs.map V.ref)) hpm
          have tm : TupsAt (upd H6 pm (.tup (bs.map V.ref))) pm ((movesF t cs ys).map moveL) := ⟨bs, upd_same, tq.keep (TupKeep.of s7)⟩
          have hD7 := s7 _ _ (s6 _ _ (s5 _ _ (s4 _ _ hD2)))
          generalize upd H6 pm (.tup (bs.map V.ref)) = H7 at s7 tm hD7
          have s07 := s06.trans s7
          have nm : ((movesF t cs ys).map (·.1)).Nodup := movesF_nd nys
          have lm := movesF_len t cs ys
          have lu := so.len
          refine ⟨.ref D, rfl, .ref pm, rfl, D, pm, u, movesF t cs ys, rfl, hD7, so.nd nd, by omega, tm, nm, by omega, fun D4 H8 hD4 s8 h8 => ?_⟩
          refine ⟨D4, afterT u (movesF t cs ys), rfl, h8, by have := len_after (t := u) (ms := movesF t cs ys); omega, fun x hx => ?_, fun H9 s9 => ⟨_, rfl, ?_⟩⟩
          · have hv := mem_val.mp hx
            rw [val_after (so.nd nd) nm] at hv
            cases c : valV (newsT (movesF t cs ys)) x with
            | none =>
              rw [c, so.2.2] at hv
              exact kt x (mem_val.mpr hv)
            | some v =>
              have hm := valV_in c
              obtain ⟨q, hq, eq⟩ := List.mem_map.mp hm
              obtain ⟨m, hm2, rfl⟩ := List.mem_map.mp hq
              obtain ⟨y, hy, rfl⟩ := List.mem_map.mp (List.mem_filter.mp hm2).1
              rw [← eq]
              exact kc y (hp.mem_iff.mp hy)
          · have s09 := (s07.trans s8).trans s9
            rw [have_after nd so nm]
            refine ite2 (fun hv => ?_) (fun hv => ?_)
            · exact ⟨(by show 1 ≤ 1000; decide), do_raise T.eB fun d H10 s10 _ _ => q2 sn ys hp hs hv d H10 (s09.trans s10)⟩
            · exact ⟨.ref pm, rfl, q3 sn ys hp hs (Bool.eq_false_iff.mpr hv) pm H9 s09 (tm.keep (TupKeep.of (s8.trans s9)))⟩
end

end Fk

set_option maxHeartbeats 4000000
namespace Fk
open PySem PySem.Spec PyProof.Rows L2
section
variable {P : Program} {w : World} {K : PySem.W.Frag} {mg : Str → Option Value} {base : Heap} {CE CR cS cB iS iB ns r0 h0 l0 : Addr}
/-- where HEAD shall stand -/
def Stand (K : PySem.W.Frag) (H : Hp) (nh : V) (hd hd2 : Addr) (ox on hx hn : Str) : Prop := TupK K H hd [.str ox, .str on] ∧ OkS ox ∧ OkS on ∧ ((nh = .non ∧ hd2 = hd ∧ hx = ox ∧ hn = on) ∨ (nh = .ref hd2 ∧ TupK K H hd2 [.str hx, .str hn] ∧ OkS hx ∧ OkS hn))
theorem Stand.both {H : Hp} {nh : V} {hd hd2 : Addr} {ox on hx hn : Str} (h : Stand K H nh hd hd2 ox on hx hn) : TupK K H hd2 [.str hx, .str hn] ∧ OkS hx ∧ OkS hn := by
  obtain ⟨a, b, c, d⟩ := h
  rcases d with ⟨_, rfl, rfl, rfl⟩ | ⟨_, d⟩
  · exact ⟨a, b, c⟩
  · exact d
def logsNew (t : Tab) (L : Str → List (List V)) (note : List V) (ms : List (Str × V × V)) (ox on hx hn : Str) : Str → List (List V) :=
  logsBehind L note ms (decide ((ox, on) ≠ (hx, hn)) || decide (ledF t ox on ≠ ledF (afterT t ms) hx hn)) (ledF t ox on) (ledF (afterT t ms) hx hn)
theorem led_of {t u : Tab} (h : ∀ x, valV u x = valV t x) (x n : Str) : ledF u x n = ledF t x n := by
  unfold ledF
  rw [h]
theorem sort_after {t u v : Tab} {ms : List (Str × V × V)} (nt : Nd t) (so : SortOf t u) (nm : (ms.map (·.1)).Nodup) (h : SortOf (afterT u ms) v) : SortOf (afterT t ms) v := by
  have e : ∀ x, valV (afterT u ms) x = valV (afterT t ms) x := fun x => by rw [val_after (so.nd nt) nm, val_after nt nm, so.2.2]
  exact ⟨h.1, h.2.1.trans (keys_perm (nd_after (so.nd nt) nm) (nd_after nt nm) fun x => by rw [e]), fun x => by rw [h.2.2, e]⟩
def spBehind (K : PySem.W.Frag) (CE CR cS cB : Addr) : Sp := fun vs H Q E => ∃ (e ex R nt cl dx lk tb hd lg hd2 : Addr) (nh : V) (t lt : Tab) (cs : List (Str × V × V)) (L : Str → List (List V)) (ox on hx hn : Str) (n1 n2 n3 : V), vs = [.ref e] ∧ Ready CE CR H e ex R nt cl dx lk tb hd lg nh t lt cs ∧ Stand K H nh hd hd2 ox on hx hn ∧ LogsOk H lt L ∧ H nt = some (.tup [n1, n2, n3]) ∧ (∀ x, (L x).length ≤ 1000) ∧
  (∀ x, staleF t cs = some x → ∀ d H', Same H H' → H' d = some (.xd [("ref", .str x)]) → E (.ref cS) (some d) H') ∧
  (staleF t cs = none → ∀ ys, ys.Perm (cs.map (·.1)) → sortedS ys = true → haveF ((afterT t (movesF t cs ys)).map (·.1)) = true → ∀ d H', Same H H' → E (.ref cB) (some d) H') ∧
  (staleF t cs = none → ∀ ys, ys.Perm (cs.map (·.1)) → sortedS ys = true → haveF ((afterT t (movesF t cs ys)).map (·.1)) = false → ∀ p r' l' u' lu' H', Same H H' → H' p = some (.tup [.ref r', .ref hd2, .ref l']) → TupsAt H' r' (u'.map rowL) → SortOf (afterT t (movesF t cs ys)) u' →
    TupsAt H' l' (lu'.map rowL) → Nd lu' → lu'.length ≤ lt.length + cs.length + 1 → LogsOk H' lu' (logsNew t L [n1, n2, n3] (movesF t cs ys) ox on hx hn) → Q (.ref p) H')
theorem m_Edit_behind (T : TopR K mg CE CR cS cB iS iB ns r0 h0 l0) : MetX P w K mg base (L2.CX P w) 6 CE "behind" (spBehind K CE CR cS cB) [] := by
  refine metX_of T.cE T.m_Edit_behind sc_Edit_behind (fun _ _ _ _ _ _ us hl => match us, hl with | [_], _ => rfl) (fun vs H Q E h => ?_) (fun f cdv A outer s H vs Q E hr h => ?_)
  · obtain ⟨e, ex, R, nt, cl, dx, lk, tb, hd, lg, hd2, nh, t, lt, cs, L, ox, on, hx, hn, n1, n2, n3, rfl, _⟩ := h
    rfl
  · obtain ⟨e, ex, R, nt, cl, dx, lk, tb, hd, lg, hd2, nh, t, lt, cs, L, ox, on, hx, hn, n1, n2, n3, rfl, rd, hst, hL, hnt, b3, q1, q2, q3⟩ := h
    obtain ⟨he, hR, ht, nd, hl, nl, b1, b2, hc, nc, ft, fc, kt, kc⟩ := id rd
    refine ⟨_, (pss_cons (ps_set (i := 1) sc_Edit_behind.nd rfl (Or.inl rfl) (pe_mx0 (m_Edit_moves T) hr (by decide) (fun _ => passAt (takes_of rfl rfl rfl rfl) _) (pv 0)))
      (pss_cons (ps_set (i := 2) sc_Edit_behind.nd rfl (Or.inl rfl) (C8.pe_mt0 (m_Refs_state T) hr (by decide) (pe_fld (pv 0) rfl)))
      (pss_cons (ps_set (i := 3) sc_Edit_behind.nd rfl (Or.inl rfl) (pe_ifExp (pt_cmpR op_isN (pe_fld (pv 0) rfl) pe_non (nomark _)) (pe_ix ix_tup (pv 2) pe_int (fun _ _ => rfl)) (pe_fld (pv 0) rfl)))
      (pss_one (ps_ret (C8.pe_c (c_moved T.toTop) hr (by decide) (by rfl) (pa_cons (pv 2) (pa_cons (pv 1) (pa_cons (pv 3) (pa_cons (pe_fld (pv 0) rfl) pa_nil)))))))))), ?_⟩
    refine ⟨.ref e, rfl, e, ex, _, rfl, he, rfl, e, ex, R, nt, cl, dx, lk, tb, hd, lg, nh, t, lt, cs, rfl, rd, q1, q2, fun sn ys hp hs hv p H1 s1 t1 => ?_⟩
    have nys : ys.Nodup := hp.nodup_iff.mpr nc
    have lys : ys.length = cs.length := by have := hp.length_eq; rw [List.length_map] at this; exact this
    have lm := movesF_len t cs ys
    have nm : ((movesF t cs ys).map (·.1)).Nodup := movesF_nd nys
    refine ⟨.ref e, rfl, e, CE, ex, _, .ref R, rfl, s1 _ _ he, T.cE, T.nE_refs, rfl, R, dx, _, rfl, s1 _ _ hR, rfl, R, dx, lk, tb, hd, lg, t, lt, rfl, s1 _ _ hR, s1 _ _ ht, nd, by omega, s1 _ _ hl, nl, by omega, fun st r l u lu H2 hst' s2 h2 tr so tl sol => ?_⟩
    have s12 := s1.trans s2
    have done : ∀ {σ : L2.St}, σ[0]? = some (some (.ref e)) → σ[1]? = some (some (.ref p)) → σ[2]? = some (some (.ref st)) → σ[3]? = some (some (.ref hd2)) →
        (tRet (tCall (spMoved K) [] C8.E0 (tCons (tVar 2) (tCons (tVar 1) (tCons (tVar 3) (tCons (tFld K (tVar 0) "_note") tNil)))))) { nx := fun x H' => Q V.non H', rt := Q } σ H2 := fun a0 a1 a2 a3 => by
      obtain ⟨h1, ko3, ko4⟩ := hst.both
      have lu1 := so.len
      have lu2 := sol.len
      have eqL : ∀ x n, ledF u x n = ledF t x n := led_of so.2.2
      have eqA : ∀ x n, ledF (afterT u (movesF t cs ys)) x n = ledF (afterT t (movesF t cs ys)) x n := led_of fun x => by rw [val_after (so.nd nd) nm, val_after nd nm, so.2.2]
      refine ⟨.ref st, a2, .ref p, a1, .ref hd2, a3, .ref e, a0, e, CE, ex, _, .ref nt, rfl, s12 _ _ he, T.cE, T.nE_note, rfl, st, p, hd2, nt, r, hd, l, u, lu, L, movesF t cs ys, ox, on, hx, hn, n1, n2, n3, rfl, h2, tr, so.nd nd, tl, sol.nd nl, ?_, ?_⟩
      · exact (hL.keep (TupKeep.of s12)).of sol.2.2
      refine ⟨hst.1.keep (TupKeep.of s12), h1.keep (TupKeep.of s12), hst.2.1, hst.2.2.1, ko3, ko4, s12 _ _ hnt, t1.keep (TupKeep.of s2), nm, ?_, ?_, by omega, by omega, b3, ?_⟩
      · intro z hz
        have hv := val_nodup (so.nd nd) z hz
        rw [so.2.2] at hv
        have := flat_val ft z.1
        rw [hv] at this
        exact this
      · intro m hm
        exact flat_moves (ys := ys) ft (fun c h => (fc c h).1) m (List.mem_filter.mp hm).1
      · intro p' r' lg' H' u' lu' hp' s3 h3 tr' so' tl' nd' len' lk'
        refine q3 sn ys hp hs hv p' r' lg' u' lu' H' (s12.trans s3) h3 tr' (sort_after nd so nm so') tl' nd' (by omega) ?_
        unfold logsNew
        rw [eqL, eqA] at lk'
        exact lk'
    rcases hst.2.2.2 with ⟨hn0, e2, _, _⟩ | ⟨hn0, _⟩
    · refine ⟨.ref e, rfl, e, CE, ex, _, nh, rfl, s12 _ _ he, T.cE, T.nE_new_head, rfl, rfl, _, rfl, ?_⟩
      rw [hn0, decide_eq_true rfl]
      refine iteT ⟨.ref st, rfl, st, _, 1, .ref hd, rfl, rfl, SqT.of h2, rfl, ?_⟩
      rw [← e2]
      exact done rfl rfl rfl rfl
    · refine ⟨.ref e, rfl, e, CE, ex, _, nh, rfl, s12 _ _ he, T.cE, T.nE_new_head, rfl, rfl, _, rfl, ?_⟩
      rw [decide_eq_false (by rw [hn0]; exact fun z => nomatch z)]
      refine iteF ⟨.ref e, rfl, e, CE, ex, _, nh, rfl, s12 _ _ he, T.cE, T.nE_new_head, rfl, ?_⟩
      rw [hn0]
      exact done rfl rfl rfl rfl
def spFinish (K : PySem.W.Frag) (CE CR cS cB : Addr) : Sp := fun vs H Q E => ∃ (e ex R nt cl dx lk tb hd lg hd2 : Addr) (nh : V) (t lt : Tab) (cs : List (Str × V × V)) (L : Str → List (List V)) (ox on hx hn : Str) (n1 n2 n3 : V), vs = [.ref e] ∧ Ready CE CR H e ex R nt cl dx lk tb hd lg nh t lt cs ∧ Stand K H nh hd hd2 ox on hx hn ∧ LogsOk H lt L ∧ H nt = some (.tup [n1, n2, n3]) ∧ (∀ x, (L x).length ≤ 1000) ∧
  (∀ x, staleF t cs = some x → ∀ d H', Same H H' → H' d = some (.xd [("ref", .str x)]) → E (.ref cS) (some d) H') ∧
  (staleF t cs = none → ∀ ys, ys.Perm (cs.map (·.1)) → sortedS ys = true → haveF ((afterT t (movesF t cs ys)).map (·.1)) = true → ∀ d H', Same H H' → E (.ref cB) (some d) H') ∧
  (staleF t cs = none → ∀ ys, ys.Perm (cs.map (·.1)) → sortedS ys = true → haveF ((afterT t (movesF t cs ys)).map (·.1)) = false → ∀ tb' lg' u' lu' H', FrL [R, e] H H' → TupKeep H H' → H' R = some (.ins CR dx (rf lk tb' hd2 lg')) → H' e = some (.ins CE ex (ef R nt cl nh true)) → H' tb' = some (.dK (kT u')) → SortOf (afterT t (movesF t cs ys)) u' →
    H' lg' = some (.dK (kT lu')) → Nd lu' → lu'.length ≤ lt.length + cs.length + 1 → LogsOk H' lu' (logsNew t L [n1, n2, n3] (movesF t cs ys) ox on hx hn) → H tb' = none → H lg' = none → Q .non H')
theorem m_Edit_finish (T : TopR K mg CE CR cS cB iS iB ns r0 h0 l0) : MetX P w K mg base (L2.CX P w) 7 CE "finish" (spFinish K CE CR cS cB) [] := by
  refine metX_of T.cE T.m_Edit_finish sc_Edit_finish (fun _ _ _ _ _ _ us hl => match us, hl with | [_], _ => rfl) (fun vs H Q E h => ?_) (fun f cdv A outer s H vs Q E hr h => ?_)
  · obtain ⟨e, ex, R, nt, cl, dx, lk, tb, hd, lg, hd2, nh, t, lt, cs, L, ox, on, hx, hn, n1, n2, n3, rfl, _⟩ := h
    rfl
  · obtain ⟨e, ex, R, nt, cl, dx, lk, tb, hd, lg, hd2, nh, t, lt, cs, L, ox, on, hx, hn, n1, n2, n3, rfl, rd, hst, hL, hnt, b3, q1, q2, q3⟩ := h
    obtain ⟨he, hR, ht, nd, hl, nl, b1, b2, hc, nc, ft, fc, kt, kc⟩ := id rd
    refine ⟨_, (pss_cons (ps_expr (C8.pe_mt (m_Refs_become T) hr (by decide) (pe_fld (pv 0) rfl) (pa_cons (pe_mx0 (m_Edit_behind T) hr (by decide) (fun _ => passAt (takes_of rfl rfl rfl rfl) _) (pv 0)) pa_nil)))
      (pss_one (ps_fld (pv 0) pe_bl rfl))), ?_⟩
    refine ⟨.ref e, rfl, e, CE, ex, _, .ref R, rfl, he, T.cE, T.nE_refs, rfl, R, dx, _, rfl, hR, rfl, .ref e, rfl, e, ex, _, rfl, he, rfl, e, ex, R, nt, cl, dx, lk, tb, hd, lg, hd2, nh, t, lt, cs, L, ox, on, hx, hn, n1, n2, n3, rfl, rd, hst, hL, hnt, b3, q1, q2, fun sn ys hp hs hv p r' l' u' lu' H1 s1 h1 tr so tl ndl len lk1 => ?_⟩
    have nys : ys.Nodup := hp.nodup_iff.mpr nc
    have lys : ys.length = cs.length := by have := hp.length_eq; rw [List.length_map] at this; exact this
    have lm := movesF_len t cs ys
    have nm : ((movesF t cs ys).map (·.1)).Nodup := movesF_nd nys
    have la := len_after (t := t) (ms := movesF t cs ys)
    have nRe : e ≠ R := at_ne he hR fun z => by injection z with z; exact T.ne z
    refine ⟨R, p, r', hd2, l', lk, dx, _, u', lu', rfl, s1 _ _ hR, .inr ⟨_, _, _, rfl⟩, .inl h1, .of tr, so.nd (nd_after nd nm), by rw [so.len]; omega, .of tl, ndl, by omega, fun tb' lg' H2 f2 k2 hR2 ht2 hl2 nt2 nl2 => ?_⟩
    have he2 := f2.out (s1 _ _ he) (not1 nRe)
    refine ⟨.ref e, rfl, e, CE, ex, _, rfl, he2, T.cE, T.nEclosed, (by show 5 < 1000; decide), ?_⟩
    have k3 : TupKeep H2 (upd H2 e (.ins CE ex (ef R nt cl nh true))) := TupKeep.at fun xs z => by rw [he2] at z; cases z
    have f3 : FrL [e] H2 (upd H2 e (.ins CE ex (ef R nt cl nh true))) := FrL.at (List.mem_singleton_self e)
    refine q3 sn ys hp hs hv tb' lg' u' lu' _ ((FrL.same s1).trans ((f2.mono fun a ha => by rw [List.mem_singleton.mp ha]; exact List.mem_cons_self).trans (f3.mono fun a ha => by rw [List.mem_singleton.mp ha]; exact List.mem_cons_of_mem _ List.mem_cons_self)))
      (((TupKeep.of s1).trans k2).trans k3) (f3.out hR2 (not1 nRe.symm)) upd_same (f3.out ht2 (not1 (at_ne ht2 he2 fun z => nomatch z))) so (f3.out hl2 (not1 (at_ne hl2 he2 fun z => nomatch z))) ndl len ((lk1.keep k2).keep k3) (s1.free nt2) (s1.free nl2)
end

end Fk

set_option maxHeartbeats 4000000
/-! What calls make of a table, one by one and by moves. -/
namespace Fk
open PySem PySem.Spec PyProof.Rows L2
def stepT (u : Tab) (c : Str × V × V) : Tab := if notNon c.2.1 = true then putK (dropK u c.1) c.1 c.2.1 else dropK u c.1
def lawT (t : Tab) (cs : List (Str × V × V)) : Tab := cs.foldl stepT t
theorem nd_step {t : Tab} (h : Nd t) (c : Str × V × V) : Nd (stepT t c) := by
  unfold stepT
  split
  · exact nd_put (nd_drop h c.1) _ _
  · exact nd_drop h c.1
theorem nd_lawT {t : Tab} (h : Nd t) : ∀ cs, Nd (lawT t cs) := fun cs => by
  unfold lawT
  induction cs generalizing t with
  | nil => exact h
  | cons c r ih => exact ih (nd_step h c)
theorem len_step (t : Tab) (c : Str × V × V) : (stepT t c).length ≤ t.length + 1 := by
  unfold stepT
  have h := dropK_le t c.1
  split
  · have := len_put (dropK t c.1) c.1 c.2.1
    omega
  · omega
theorem len_lawT (t : Tab) (cs : List (Str × V × V)) : (lawT t cs).length ≤ t.length + cs.length := by
  unfold lawT
  induction cs generalizing t with
  | nil => exact Nat.le_refl _
  | cons c r ih =>
    have := ih (stepT t c)
    have := len_step t c
    rw [List.foldl_cons, List.length_cons]
    omega
theorem val_step (t : Tab) (c : Str × V × V) (x : Str) : valV (stepT t c) x = if x = c.1 then (if notNon c.2.1 = true then some c.2.1 else none) else valV t x := by
  unfold stepT
  by_cases h : notNon c.2.1 = true
  · rw [if_pos h, valV_put, valV_drop]
    by_cases e : x = c.1
    · rw [if_pos e, if_pos e, if_pos h]
    · rw [if_neg e, if_neg e, if_neg e]
  · rw [if_neg h, valV_drop]
    by_cases e : x = c.1
    · rw [if_pos e, if_pos e, if_neg h]
    · rw [if_neg e, if_neg e]
theorem val_lawT (x : Str) : ∀ (cs : List (Str × V × V)) (t : Tab), (cs.map (·.1)).Nodup → valV (lawT t cs) x = match valV (newT cs) x with
    | none => valV t x
    | some v => if notNon v = true then some v else none
  | [], t, _ => rfl
  | c :: r, t, h => by
    obtain ⟨h1, h2⟩ := List.nodup_cons.mp (show (c.1 :: r.map (·.1)).Nodup from h)
    show valV (lawT (stepT t c) r) x = match valV ((c.1, c.2.1) :: newT r) x with
      | none => valV t x
      | some v => if notNon v = true then some v else none
    rw [val_lawT x r (stepT t c) h2]
    by_cases e : c.1 = x
    · have n : valV (newT r) x = none := by
        cases q : valV (newT r) x with
        | none => rfl
        | some v =>
          have m := valV_in q
          unfold newT at m
          rw [List.map_map] at m
          exact absurd (show c.1 ∈ r.map (·.1) by rw [e]; exact m) h1
      rw [n, valV_pos e]
      show valV (stepT t c) x = if notNon c.2.1 = true then some c.2.1 else none
      rw [val_step, if_pos e.symm]
    · rw [valV_neg e]
      cases q : valV (newT r) x with
      | none =>
        show valV (stepT t c) x = valV t x
        rw [val_step, if_neg (fun z => e z.symm)]
      | some v => rfl
theorem news_moves (t : Tab) (cs : List (Str × V × V)) {ys : List Str} (h : ys.Nodup) (x : Str) : valV (newsT (movesF t cs ys)) x = if x ∈ ys ∧ ¬ (valV t x).getD .non = (valV (newT cs) x).getD .non then some ((valV (newT cs) x).getD .non) else none := by
  have e : newsT (movesF t cs ys) = (ys.map fun x => (x, (valV (newT cs) x).getD .non)).filter fun p => !decide ((valV t p.1).getD .non = p.2) := by
    unfold newsT movesF rowsF
    rw [List.filter_map, List.filter_map, List.map_map]
    rfl
  have nd : Nd (ys.map fun x => (x, (valV (newT cs) x).getD .non)) := by
    unfold Nd
    rw [List.map_map]
    have : ((fun x : Str × V => x.1) ∘ fun x : Str => (x, (valV (newT cs) x).getD V.non)) = id := rfl
    rw [this, List.map_id]
    exact h
  rw [e, val_filter nd, val_keys (fun x => (valV (newT cs) x).getD .non)]
  by_cases m : x ∈ ys
  · rw [if_pos m]
    by_cases d : (valV t x).getD .non = (valV (newT cs) x).getD .non
    · rw [if_neg (fun z => z.2 d)]
      simp [d]
    · rw [if_pos ⟨m, d⟩]
      simp [d]
  · rw [if_neg m, if_neg (fun z => m z.1)]
    rfl
theorem notNon_some {v : V} (h : notNon v = true) : v ≠ .non := fun z => by rw [z] at h; cases h
theorem nn_of {v : V} (h : ¬ notNon v = true) : v = .non := by
  cases v <;> first | rfl | exact absurd rfl h
/-- moves and calls make the same -/
theorem after_law {t : Tab} {cs : List (Str × V × V)} {ys : List Str} (nt : Nd t) (vs : ∀ e ∈ t, notNon e.2 = true) (nc : (cs.map (·.1)).Nodup) (hp : ys.Perm (cs.map (·.1))) (x : Str) : valV (afterT t (movesF t cs ys)) x = valV (lawT t cs) x := by
  have ny : ys.Nodup := hp.nodup_iff.mpr nc
  rw [val_after nt (movesF_nd ny), news_moves t cs ny, val_lawT x cs t nc]
  have mk : x ∈ ys ↔ (valV (newT cs) x).isSome = true := by
    rw [hp.mem_iff, ← mem_val]
    unfold newT
    rw [List.map_map]
    rfl
  cases q : valV (newT cs) x with
  | none =>
    have nx : ¬ x ∈ ys := fun z => by have := mk.mp z; rw [q] at this; cases this
    rw [if_neg (fun z => nx z.1)]
  | some v =>
    have yx : x ∈ ys := mk.mpr (by rw [q]; rfl)
    by_cases d : (valV t x).getD .non = v
    · rw [if_neg (fun z => z.2 d)]
      show valV t x = if notNon v = true then some v else none
      cases c : valV t x with
      | none =>
        rw [c] at d
        rw [← d]
        rfl
      | some w =>
        rw [c] at d
        have d : w = v := d
        obtain ⟨p, hp2, ep⟩ := List.mem_map.mp (valV_in c)
        have v1 := val_nodup nt p hp2
        rw [ep, c] at v1
        have := vs p hp2
        rw [← Option.some.inj v1, d] at this
        rw [if_pos this, d]
    · rw [if_pos ⟨yx, d⟩]
      rfl
/-- moves, name by name -/
theorem movesF_snoc (t : Tab) (cs : List (Str × V × V)) (ys : List Str) (y : Str) : movesF t cs (ys ++ [y]) = movesF t cs ys ++ (if (valV t y).getD .non = (valV (newT cs) y).getD .non then [] else [(y, (valV t y).getD .non, (valV (newT cs) y).getD .non)]) := by
  unfold movesF rowsF
  rw [List.map_append, List.filter_append]
  congr 1
  by_cases d : (valV t y).getD .non = (valV (newT cs) y).getD .non
  · rw [if_pos d]
    simp [d]
  · rw [if_neg d]
    simp [d]
theorem logMoves_app (L : Str → List (List V)) (note : List V) (ms : List (Str × V × V)) (m : Str × V × V) : logMoves L note (ms ++ [m]) = logPut (logMoves L note ms) m.1 ([m.2.1, m.2.2] ++ note) := by
  unfold logMoves
  rw [List.foldl_append]
  rfl
/-- lists stay -/
def LstKeep (H H' : Hp) : Prop := ∀ b xs, H b = some (.lst xs) → H' b = some (.lst xs)
theorem LstKeep.of {H H' : Hp} (s : Same H H') : LstKeep H H' := fun b xs e => s b _ e
theorem LstKeep.trans {H H1 H2 : Hp} (a : LstKeep H H1) (b : LstKeep H1 H2) : LstKeep H H2 := fun c xs e => b c xs (a c xs e)
theorem LstKeep.at {a : Addr} {H : Hp} {o : HO} (n : ∀ xs, H a ≠ some (.lst xs)) : LstKeep H (upd H a o) := fun b xs e => by
  have z : b ≠ a := fun z => n xs (by rw [← z]; exact e)
  rw [upd_ne z]
  exact e
/-! ### the model -/
def modelT (mt mh ml : Addr) : Tab := [("table", .ref mt), ("head", .ref mh), ("logs", .ref ml)]
/-- the model's logs: lists of entries -/
def LogsL (H : Hp) (t : Tab) (L : Str → List (List V)) : Prop := ∀ x, (valV t x = none ∧ L x = []) ∨ ∃ (p : Addr) (as : List Addr), (L x ≠ [] ∧ valV t x = some (.ref p)) ∧ H p = some (.lst (as.map V.ref)) ∧ Tups H as (L x)
def ModAt (K : PySem.W.Frag) (H : Hp) (m mt mh ml : Addr) (t lt : Tab) (x n : Str) : Prop := H m = some (.dK (kT (modelT mt mh ml))) ∧ H mt = some (.dK (kT t)) ∧ TupK K H mh [.str x, .str n] ∧ H ml = some (.dK (kT lt))
theorem mod_get {H : Hp} {m mt mh ml : Addr} (h : H m = some (.dK (kT (modelT mt mh ml)))) : DGet H m (.str "table") (some (.ref mt)) ∧ DGet H m (.str "head") (some (.ref mh)) ∧ DGet H m (.str "logs") (some (.ref ml)) := ⟨dget_kT (.inl h) "table", dget_kT (.inl h) "head", dget_kT (.inl h) "logs"⟩
theorem ModAt.same {K : PySem.W.Frag} {H H' : Hp} {m mt mh ml : Addr} {t lt : Tab} {x n : Str} (h : ModAt K H m mt mh ml t lt x n) (s : Same H H') : ModAt K H' m mt mh ml t lt x n := ⟨s _ _ h.1, s _ _ h.2.1, h.2.2.1.keep (TupKeep.of s), s _ _ h.2.2.2⟩
theorem LogsL.same {H H' : Hp} {t : Tab} {L : Str → List (List V)} (h : LogsL H t L) (s : Same H H') : LogsL H' t L := fun x => (h x).imp id fun ⟨p, as, a, b, c⟩ => ⟨p, as, a, s _ _ b, c.keep (TupKeep.of s)⟩
theorem LogsL.keep {H H' : Hp} {t : Tab} {L : Str → List (List V)} (h : LogsL H t L) (k : TupKeep H H') (l : LstKeep H H') : LogsL H' t L := fun x => (h x).imp id fun ⟨p, as, a, b, c⟩ => ⟨p, as, a, l _ _ b, c.keep k⟩
theorem LogsL.put {H : Hp} {t : Tab} {L : Str → List (List V)} (h : LogsL H t L) {x : Str} {p : Addr} {e : List V} {as : List Addr} (hp : H p = some (.lst (as.map V.ref))) (tp : Tups H as (L x ++ [e])) : LogsL H (putK t x (.ref p)) (logPut L x e) := fun y => by
  unfold logPut
  rw [valV_put]
  by_cases c : y = x
  · rw [if_pos c, if_pos c, c]
    exact .inr ⟨p, as, ⟨by simp, rfl⟩, hp, tp⟩
  · rw [if_neg c, if_neg c]
    exact h y
theorem log_stepL {H : Hp} {ml en : Addr} {lt : Tab} {L : Str → List (List V)} {x : Str} {ent : List V} {tk td te : TE} {D : Ends} {σ : L2.St} (hD : H ml = some (.dK (kT lt))) (ll : LogsL H lt L) (he : H en = some (.tup ent))
    (b : (L x).length ≤ 100000) (hl : lt.length ≤ 1000) (ek : ∀ H' Q, Q (.str x) H' → tk σ H' Q) (ed : ∀ H' Q, Same H H' → Q (.ref ml) H' → td σ H' Q) (ee : ∀ H' Q, Q (.ref en) H' → te σ H' Q)
    (q : ∀ H' p, FrL [ml] H H' → TupKeep H H' → LstKeep H H' → H' ml = some (.dK (kT (putK lt x (.ref p)))) → LogsL H' (putK lt x (.ref p)) (logPut L x ent) → D.nx σ H') :
    sDPut td tk (tOp rCat (tDGet2 td tk (tLst tNil)) (tLst (tCons te tNil))) D σ H := by
  refine ed _ _ (Same.refl H) ⟨ml, rfl, .inl ⟨_, .inl hD⟩, ek _ _ ⟨Nat.zero_le _, fun pe hpe => ⟨valV lt x, ?_, ?_⟩⟩⟩
  · exact dget_kT (.inl (by rw [upd_ne (ne_of_none hD hpe)]; exact hD)) x
  · have s0 : Same H (upd H pe (.lst [])) := same_new hpe
    have p0 : (upd H pe (.lst [])) pe = some (.lst []) := upd_same
    generalize upd H pe (.lst []) = H0 at s0 p0
    obtain ⟨a, as, ea, ha, ta⟩ : ∃ (a : Addr) (as : List Addr), (valV lt x).getD (.ref pe) = .ref a ∧ H0 a = some (.lst (as.map V.ref)) ∧ Tups H0 as (L x) := by
      rcases ll x with ⟨e, l⟩ | ⟨p, as, e, h, t⟩
      · exact ⟨pe, [], by rw [e]; rfl, p0, by rw [l]; exact Tups.nil⟩
      · exact ⟨p, as, by rw [e.2]; rfl, s0 _ _ h, t.keep (TupKeep.of s0)⟩
    rw [ea]
    have la : as.length ≤ 100000 := by rw [ta.1]; exact b
    refine ee _ _ ⟨(by show 1 ≤ sizeLine; decide), fun p2 hp2 => ⟨a, p2, _, _, rfl, rfl, (same_new hp2) _ _ ha, upd_same, small_line (by rw [List.length_map]; show _ + 1 ≤ _; omega), fun p3 hp3 => ?_⟩⟩
    have s03 : Same H0 (upd (upd H0 p2 (.lst [V.ref en])) p3 (.lst (as.map V.ref ++ [V.ref en]))) := (same_new hp2).trans (same_new hp3)
    have h3 : (upd (upd H0 p2 (.lst [V.ref en])) p3 (.lst (as.map V.ref ++ [V.ref en]))) p3 = some (.lst ((as ++ [en]).map V.ref)) := by
      rw [upd_same, List.map_append]
      rfl
    generalize upd (upd H0 p2 (.lst [V.ref en])) p3 (.lst (as.map V.ref ++ [V.ref en])) = H5 at s03 h3
    have s05 := s0.trans s03
    have hD5 := s05 _ _ hD
    refine ed _ _ s05 (ek _ _ ⟨ml, _, rfl, .inl ⟨kT lt, .inr x, hD5, rfl, small_lt (by rw [len_kT]; omega), rfl⟩, ?_⟩)
    rw [putK_kT]
    have kp : TupKeep H5 (upd H5 ml (.dK (kT (putK lt x (.ref p3))))) := TupKeep.at fun xs z => by rw [hD5] at z; cases z
    have kl : LstKeep H5 (upd H5 ml (.dK (kT (putK lt x (.ref p3))))) := LstKeep.at fun xs z => by rw [hD5] at z; cases z
    have kp2 := (TupKeep.of s05).trans kp
    have kl2 := (LstKeep.of s05).trans kl
    refine q _ p3 ((FrL.same s05).trans (FrL.at (List.mem_singleton_self ml))) kp2 kl2 upd_same ?_
    exact (ll.keep kp2 kl2).put (kl _ _ h3) (((ta.keep (TupKeep.of s03)).snoc (s05 _ _ he)).keep kp)
def callL (c : Str × V × V) : List V := [.str c.1, c.2.1, c.2.2]
/-- the law's own list of the calls -/
def CallsL (H : Hp) (lc : Addr) (cs : List (Str × V × V)) : Prop := ∃ as : List Addr, H lc = some (.lst (as.map V.ref)) ∧ Tups H as (cs.map callL)
theorem ok_prefixes {x : Str} (h : OkS x) : ∀ y ∈ prefixesF x, OkS y := fun y hy => by
  obtain ⟨k, _, rfl⟩ := List.mem_map.mp hy
  exact ok_join ok_slash fun p hp => segs_ok x h p (List.mem_of_mem_take hp)
theorem have_any {ks : List Str} (h : haveF ks = false) : ∀ x ∈ ks, ((prefixesF x).any fun y => decide (y ∈ ks)) = false := fun x hx => by
  unfold haveF at h
  exact Bool.eq_false_iff.mpr fun z => by
    rw [List.any_eq_true.mpr ⟨x, hx, z⟩] at h
    cases h
theorem law_new_at {t : Tab} {cs : List (Str × V × V)} {y : Str} (nc : (cs.map (·.1)).Nodup) (h : y ∈ cs.map (·.1)) : (valV (lawT t cs) y).getD .non = (valV (newT cs) y).getD .non := by
  rw [val_lawT y cs t nc]
  have m : (valV (newT cs) y).isSome = true := by
    rw [← mem_val]
    unfold newT
    rw [List.map_map]
    exact h
  cases c : valV (newT cs) y with
  | none => rw [c] at m; cases m
  | some v =>
    show (if notNon v = true then some v else none).getD .non = v
    by_cases d : notNon v = true
    · rw [if_pos d]
      rfl
    · rw [if_neg d, nn_of d]
      rfl
theorem mem_keys_put {t : Tab} {x y : Str} {v : V} (h : y ∈ (putK t x v).map (·.1)) : y ∈ t.map (·.1) ∨ y = x := by
  have := mem_val.mp h
  rw [valV_put] at this
  by_cases c : y = x
  · exact .inr c
  · rw [if_neg c] at this
    exact .inl (mem_val.mpr this)
theorem flat_lawT {t : Tab} {cs : List (Str × V × V)} (ht : ∀ e ∈ t, flatN e.2) (hc : ∀ c ∈ cs, flatN c.2.1) : ∀ e ∈ lawT t cs, flatN e.2 := by
  unfold lawT
  induction cs generalizing t with
  | nil => exact ht
  | cons c r ih =>
    refine ih (fun e he => ?_) fun d hd => hc d (List.mem_cons_of_mem _ hd)
    unfold stepT at he
    have dr : ∀ e ∈ dropK t c.1, flatN e.2 := fun e he => ht e (dropK_mem he)
    split at he
    · rcases mem_putK he with h | h
      · exact dr e h
      · rw [h]
        exact hc c List.mem_cons_self
    · exact dr e he
end Fk

set_option maxHeartbeats 4000000
/-! A try with several except clauses, of which any may have a name. -/
namespace Fk
open PySem PySem.Spec PyProof.Rows L2
/-- a clause with a name: slot i is the error's within the suite, and nothing's behind it -/
def asTS (i : Nat) (ts : Addr → Value → Option Addr → TS) : Addr → Value → Option Addr → TS := fun a cls d D σ H =>
  ts a cls d { nx := fun σ' H' => D.nx (σ'.set i none) H', rt := D.rt, bk := fun σ' H' => D.bk (σ'.set i none) H', ct := fun σ' H' => D.ct (σ'.set i none) H' } (σ.set i (some (.ref a))) H
inductive HdA (X : Cx) : List ExceptHandler → List (Value × (Addr → Value → Option Addr → TS)) → Prop
  | nil : HdA X [] []
  | cons {x : Str} {c : Value} {ts : Addr → Value → Option Addr → TS} {b₀ : Stmt} {suite : List Stmt} {np pos' : Pos} {hds : List ExceptHandler} {l : List (Value × (Addr → Value → Option Addr → TS))} (hc : Names X x c)
      (hsu : ∀ (a : Addr) (oe : Obj) (cls : Value) (d : Option Addr) (pn : List (Addr × Obj)), Zc cls d oe → (∃ vs, oe.data = .fields vs) → PSs (X.suite a ((a, oe) :: pn)) (b₀ :: suite) (ts a cls d)) (r : HdA X hds l) :
      HdA X (.ExceptHandler (some (.Name x np)) none (b₀ :: suite) pos' :: hds) ((c, ts) :: l)
  | as {x n : Str} {i : Nat} {c : Value} {ts : Addr → Value → Option Addr → TS} {b₀ : Stmt} {suite : List Stmt} {np pos' : Pos} {hds : List ExceptHandler} {l : List (Value × (Addr → Value → Option Addr → TS))} (hN : X.N.Nodup) (hi : X.N[i]? = some n) (hln : X.env.kindOf n = some .local) (hc : Names X x c)
      (hsu : ∀ (a : Addr) (oe : Obj) (cls : Value) (d : Option Addr) (pn : List (Addr × Obj)), Zc cls d oe → (∃ vs, oe.data = .fields vs) → PSs (X.suite a ((a, oe) :: pn)) (b₀ :: suite) (ts a cls d)) (r : HdA X hds l) :
      HdA X (.ExceptHandler (some (.Name x np)) (some n) (b₀ :: suite) pos' :: hds) ((c, asTS i ts) :: l)
section
variable {X : Cx} {body : List Stmt} {h₀ : ExceptHandler} {hds : List ExceptHandler} {l : List (Value × (Addr → Value → Option Addr → TS))} {pos : Pos} {tb : WX → TS} {Wout : WX}
theorem ps_tryA (hs : X.stack = X.env :: X.outer) (hf : X.env.frame = some X.env.locals) (tk : Takes X Wout)
    (hb : ∀ (W : WX) (pn : List (Addr × Obj)) (xe : Value → Shared → Prop), Takes (X.tr pn xe) W → PassesOwn (model X.prog X.w) X.A X.env xe → PSs (X.tr pn xe) body (tb W))
    (hh : HdA X (h₀ :: hds) l) : PS X (.Try body (h₀ :: hds) [] [] pos) (fun D σ H => tb (wMany X.K Wout D l) D σ H) := by
  refine ⟨fun pins s σ H D I h => ?_⟩
  have ok := I.ok
  have hfr : X.A.frames = some (X.env :: X.outer) := by rw [ok.frames, hs]
  refine wpAny_Try_except ?_
  refine wpAny_mono ((hb (wMany X.K Wout D l) (X.pn ++ pins) (fun e s₁ => wpAny (model X.prog X.w) X.A (noteFrame e X.env) (fun _ s₂ => wpAny (model X.prog X.w) X.A (setFlight e none) (fun _ s₃ =>
    wpAny (model X.prog X.w) X.A (handleBy e X.env (h₀ :: hds)) (SP X pins D) X.xe s₃) X.xe s₂) X.xe s₁) (fun u s' xx => ?_) PassesOwn.looking).run [] s σ H D (I.toTry _) h) (fun f s1 hsp => ?_) (fun e s1 he => he)
  · obtain ⟨a, B, sI, pins', σ', H', cls, d, rfl, J', nb, up, sky, na, os, ag, w⟩ := xx
    have J : Inv X pins σ' H' sI := J'.ofTry ok
    have sky' : Sky B (X.env :: X.outer) a (Zc cls d) X.env.locals s'.heap := by rw [← hs]; exact sky
    show wpAny (model X.prog X.w) X.A (noteFrame (.ref a) X.env) _ _ _
    refine Sky.land Zc.steady hfr hf sky' fun h3 fl3 up3 => ?_
    have J3 : Inv X pins σ' H' { s' with heap := h3 } := J.landed nb fl3.1 (up.trans up3) os ag
    obtain ⟨oe3, vs3, he3, hz3, hd3⟩ := fl3.there
    have notFr : ∀ {h : Heap} {o : Obj} {vs : Array Value}, h.FunFrames B (X.env :: X.outer) → h.get? a = some o → o.data = .fields vs → a ∉ frs (X.env :: X.outer) := fun {h o vs} ff e dd hm => by
      obtain ⟨_, o', e', hnf⟩ := ff.mem hm
      rw [e] at e'; cases e'
      exact hnf _ dd
    have nfr := notFr fl3.2.2.1 he3 hd3
    have nL : a ≠ X.env.locals := fun z => nfr (List.mem_filterMap.mpr ⟨X.env, List.mem_cons_self, by rw [hf, z]⟩)
    have nF : a ∉ X.fs := fun hm => by
      obtain ⟨e, he, q⟩ := List.mem_filterMap.mp hm
      exact nfr (List.mem_filterMap.mpr ⟨e, List.mem_cons_of_mem _ he, q⟩)
    have S3 := J3.suite he3 hd3 na nL nF
    have go : ∀ {hds' : List ExceptHandler} {l' : List (Value × (Addr → Value → Option Addr → TS))}, HdA X hds' l' → wMany X.K Wout D l' cls d σ' H' →
        wpAny (model X.prog X.w) X.A (handleBy (.ref a) X.env hds') (SP X pins D) X.xe { s' with heap := h3 } := by
      intro hds' l' hk
      induction hk with
      | nil =>
        intro w
        refine wpAny_handleBy_nil ?_
        obtain ⟨k1, k2, k3, oe, vs, T, oT, ts', he, hz, hd, h1, hr⟩ := id fl3
        unfold PySem.passOn
        refine wpAny_bind (wpAny_field he hd h1 ?_)
        rw [if_neg (show ¬ ((Value.ref T == Value.none) = true) from by simp)]
        have fin : wpAny (model X.prog X.w) X.A (setFlight (.ref a) X.env.frame) (fun _ s4 => wpAny (model X.prog X.w) X.A (throw (.ref a) : Sem Flow) (SP X pins D) X.xe s4) X.xe { s' with heap := h3 } := by
          rw [hf]
          refine HandSPX.setFlight_upZ fl3 fun h4 hh4 up4 => wpAny_throw (tk _ _ ?_)
          exact ⟨a, B, sI, pins, σ', H', cls, d, rfl, J, nb, (up.trans up3).trans up4, .inr (.inr (by rw [hs]; exact hh4)), na, os, ag, w⟩
        first
          | exact wpAny_bind (wpAny_pure (wpAny_bind fin))
          | exact wpAny_bind fin
      | @cons x c ts b₀ suite np pos' hds2 l2 hc hsu r ih =>
        intro w
        obtain ⟨b, hb1, hyes, hno⟩ := w
        refine wpAny_handleBy_cons (codeAny_handlers_test ?_) (by intro q; cases q)
        have LT : PySem.W.Looks (model X.prog X.w) h3 (typeOf (.ref a)) cls := fun A Q E s k q => wpAny_typeOf_ref (k _ _ he3) (by rw [hz3.1]; exact q)
        have LM := PySem.W.exm_one (M := model X.prog X.w) (J3.kIn) LT hb1
        have test : ∀ {Q : Value → Shared → Prop} {E : Value → Shared → Prop}, Q c { s' with heap := h3 } → wpAny (model X.prog X.w) (X.A.mark (some (.ref a))) (eval (.Name x np) X.env) Q E { s' with heap := h3 } := fun {Q E} q => by
          obtain ⟨hg, hdbg, hm | ⟨hm, hv, hnn⟩⟩ := hc
          · exact ld_glob (X := X.suite a ((a, oe3) :: (X.pn ++ pins))) S3 hg hm q hdbg
          · exact ld_blt (X := X.suite a ((a, oe3) :: (X.pn ++ pins))) S3 hg hm hv q hnn hdbg
        refine test (LM.here ?_)
        cases b with
        | true =>
          refine codeAny_handlers_suite ?_
          refine HandSPX.lands_againZ fl3 fun h4 fl4 up4 => ?_
          have J4 : Inv X pins σ' H' { s' with heap := h4 } := J.landed nb fl4.1 ((up.trans up3).trans up4) os ag
          obtain ⟨oe4, vs4, he4, hz4, hd4⟩ := fl4.there
          have S4 := J4.suite he4 hd4 na nL nF
          refine wpAny_mono ((hsu a oe4 cls d (X.pn ++ pins) hz4 ⟨_, hd4⟩).run [] _ _ H' _ S4 (hyes rfl a na)) (fun f s6 hsp => ?_) (fun _ _ z => False.elim z)
          cases f with
          | next =>
            obtain ⟨σ6, H6, S6, q6⟩ := hsp
            exact ⟨_, _, S6.unsuite ok, q6⟩
          | brk =>
            obtain ⟨σ6, H6, S6, q6⟩ := hsp
            exact ⟨_, _, S6.unsuite ok, q6⟩
          | cont =>
            obtain ⟨σ6, H6, S6, q6⟩ := hsp
            exact ⟨_, _, S6.unsuite ok, q6⟩
          | ret u =>
            obtain ⟨v6, σ6, H6, S6, r6, q6⟩ := hsp
            exact ⟨_, _, _, S6.unsuite ok, r6, q6⟩
        | false =>
          show wpAny _ X.A (handleBy (.ref a) X.env hds2) _ _ _
          exact ih (hno rfl)
      | @as x n i c ts b₀ suite np pos' hds2 l2 hN hi hln hc hsu r ih =>
        intro w
        have hloc : Loc X.env.scope n := .inl hln
        obtain ⟨b, hb1, hyes, hno⟩ := w
        refine wpAny_handleBy_cons (codeAny_handlers_test ?_) (by intro q; cases q)
        have LT : PySem.W.Looks (model X.prog X.w) h3 (typeOf (.ref a)) cls := fun A Q E s k q => wpAny_typeOf_ref (k _ _ he3) (by rw [hz3.1]; exact q)
        have LM := PySem.W.exm_one (M := model X.prog X.w) (J3.kIn) LT hb1
        have test : ∀ {Q : Value → Shared → Prop} {E : Value → Shared → Prop}, Q c { s' with heap := h3 } → wpAny (model X.prog X.w) (X.A.mark (some (.ref a))) (eval (.Name x np) X.env) Q E { s' with heap := h3 } := fun {Q E} q => by
          obtain ⟨hg, hdbg, hm | ⟨hm, hv, hnn⟩⟩ := hc
          · exact ld_glob (X := X.suite a ((a, oe3) :: (X.pn ++ pins))) S3 hg hm q hdbg
          · exact ld_blt (X := X.suite a ((a, oe3) :: (X.pn ++ pins))) S3 hg hm hv q hnn hdbg
        refine test (LM.here ?_)
        cases b with
        | true =>
          refine codeAny_handlers_suite_as ?_
          refine HandSPX.lands_againZ fl3 fun h4 fl4 up4 => ?_
          have J4 : Inv X pins σ' H' { s' with heap := h4 } := J.landed nb fl4.1 ((up.trans up3).trans up4) os ag
          obtain ⟨oe4, vs4, he4, hz4, hd4⟩ := fl4.there
          have S4 := J4.suite he4 hd4 na nL nF
          refine store_ok (X := X.suite a ((a, oe4) :: (X.pn ++ pins))) (v := .ref a) S4 hN hi hloc rfl (fun s5 S5 => ?_) (.inr hln)
          refine wpAny_mono ((hsu a oe4 cls d (X.pn ++ pins) hz4 ⟨_, hd4⟩).run [] s5 _ H' _ S5 (hyes rfl a na)) (fun f s6 hsp => ?_) (fun _ _ z => False.elim z)
          have end_ : ∀ {σ6 : L2.St} {H6 : Hp} {Q : Shared → Prop}, Inv (X.suite a ((a, oe4) :: (X.pn ++ pins))) [] σ6 H6 s6 → (∀ s7, Inv X pins (σ6.set i none) H6 s7 → Q s7) →
              wpAny (model X.prog X.w) X.A (do bindName X.env n .none; unbindBehindTheSuite X.env n pos') (fun _ s7 => Q s7) X.xe s6 := fun {σ6 H6 Q} S6 hq => gone_ok (S6.unsuite ok) hN hi hln hq
          cases f with
          | next =>
            obtain ⟨σ6, H6, S6, q6⟩ := hsp
            exact end_ S6 fun s7 J7 => ⟨_, _, J7, q6⟩
          | brk =>
            obtain ⟨σ6, H6, S6, q6⟩ := hsp
            exact end_ S6 fun s7 J7 => ⟨_, _, J7, q6⟩
          | cont =>
            obtain ⟨σ6, H6, S6, q6⟩ := hsp
            exact end_ S6 fun s7 J7 => ⟨_, _, J7, q6⟩
          | ret u =>
            obtain ⟨v6, σ6, H6, S6, r6, q6⟩ := hsp
            exact end_ S6 fun s7 J7 => ⟨_, _, _, J7, r6, q6⟩
        | false =>
          show wpAny _ X.A (handleBy (.ref a) X.env hds2) _ _ _
          exact ih (hno rfl)
    exact go hh w
  · cases f with
    | next =>
      obtain ⟨σ', H', J', q⟩ := hsp
      exact wpAny_execs_nil ⟨σ', H', J'.ofTry ok, q⟩
    | brk =>
      obtain ⟨σ', H', J', q⟩ := hsp
      exact ⟨σ', H', J'.ofTry ok, q⟩
    | cont =>
      obtain ⟨σ', H', J', q⟩ := hsp
      exact ⟨σ', H', J'.ofTry ok, q⟩
    | ret u =>
      obtain ⟨v, σ', H', J', r, q⟩ := hsp
      exact ⟨v, σ', H', J'.ofTry ok, r, q⟩
end
end Fk

set_option maxHeartbeats 4000000
namespace Fk
open PySem PySem.Spec PyProof.Rows L2
/-! ### the draws -/
/-- a source, drawn from at most so often -/
def Wm (H : Hp) (a : Addr) (c : Int) : Prop := 0 ≤ c ∧ ∃ x y : Int, 0 ≤ y ∧ y < 2147483647 ∧ H a = some (.lst [.int x, .int y, .int c])
theorem Wm.same {H H' : Hp} {a : Addr} {c : Int} (h : Wm H a c) (f : Same H H') : Wm H' a c := let ⟨h0, x, y, b1, b2, e⟩ := h; ⟨h0, x, y, b1, b2, f _ _ e⟩
theorem Wm.out {L : List Addr} {H H' : Hp} {a : Addr} {c : Int} (h : Wm H a c) (f : FrL L H H') (n : ∀ b ∈ L, a ≠ b) : Wm H' a c := let ⟨h0, x, y, b1, b2, e⟩ := h; ⟨h0, x, y, b1, b2, f.out e n⟩
def After (a : Addr) (c d : Int) (H : Hp) (R : Hp → Prop) : Prop := ∀ H' c', FrL [a] H H' → TupKeep H H' → Wm H' a c' → c ≤ c' → c' ≤ c + d → R H'
theorem kit_sq {K : PySem.W.Frag} {H H' : Hp} {a b : Addr} {xs : List V} (h : H b = some (.lst xs)) (f : FrL [a] H H') (n : b ≠ a) : H' b = some (.lst xs) := f.out h (not1 n)
section
variable {P : Program} {w : World} {K : PySem.W.Frag} {mg : Str → Option Value} {base : Heap}
def spCellAt (K : PySem.W.Frag) : Sp := fun vs H Q _ => ∃ (a : Addr) (ns : List Int) (k : Nat), vs = [.ref a, .int k] ∧ SqL K H a (ns.map V.int) ∧ ∀ v : Int, Q (.int v) H
theorem c_l_cell_at (T : Top K mg) : C8.Cal P w K mg base 1 "_law_cell_at" (spCellAt K) [] := by
  refine cal_of T.d_l_cell_at sc_l_cell_at (fun _ _ _ _ _ _ us hl => match us, hl with | [_, _], _ => rfl) (fun vs H Q E h => ?_) (fun f cdv A outer s H vs Q E hr h => ?_)
  · obtain ⟨a, ns, k, rfl, _⟩ := h
    rfl
  · obtain ⟨a, ns, k, rfl, hS, q⟩ := h
    refine ⟨_, (pss_cons (ps_if (pt_cmpR op_lt (pv 1) (pe_callB call_len_seq (by rfl) T.z_len (by decide +kernel) (pa_cons (pv 0) pa_nil)) (nomark _))
      (pss_one (ps_ret (pe_ix ix_list (pv 0) (pv 1) (fun _ _ => rfl))))
      pss_nil)
      (pss_one (ps_ret pe_int))), ?_⟩
    refine ⟨.int k, rfl, .ref a, rfl, a, _, rfl, .inl hS, _, _, rfl, rfl, _, rfl, ite2 (fun h1 => ?_) (fun h1 => ?_)⟩
    · have h1 := of_decide_eq_true h1
      rw [List.length_map] at h1
      have h2 : k < ns.length := by omega
      exact ⟨.ref a, rfl, .int k, rfl, a, _, k, .int ns[k], rfl, rfl, hS, atI_nat (by rw [List.getElem?_map, List.getElem?_eq_getElem h2]; rfl), q _⟩
    · exact q _
def spSource : Sp := fun vs H Q _ => ∃ (x : Int), vs = [.int x] ∧ ∀ H' a, H a = none → Same H H' → Wm H' a 0 → Q (.ref a) H'
theorem c_l_source (T : Top K mg) : C8.Cal P w K mg base 1 "_law_source" spSource [] := by
  refine cal_of T.d_l_source sc_l_source (fun _ _ _ _ _ _ us hl => match us, hl with | [_], _ => rfl) (fun vs H Q E h => ?_) (fun f cdv A outer s H vs Q E hr h => ?_)
  · obtain ⟨x, rfl, _⟩ := h
    rfl
  · obtain ⟨x, rfl, q⟩ := h
    refine ⟨_, (pss_one (ps_ret (pe_lst (pa_cons (pe_op op_mul (pv 0) (pe_callTy call_int1 (by rfl) T.z_int (by decide +kernel) (pa_cons (pe_cmpR op_ge (pv 0) (pe_op op_pow pe_int pe_int) (nomark _)) pa_nil))) (pa_cons (pe_op op_mod (pe_callTy call_int1 (by rfl) T.z_int (by decide +kernel) (pa_cons (pv 0) pa_nil)) pe_int) (pa_cons pe_int pa_nil)))))), ?_⟩
    refine ⟨.int x, rfl, .int x, rfl, 10, 18, rfl, rfl, ⟨by decide, by decide, by decide⟩, _, _, rfl, rfl, .inr ⟨_, rfl, _, _, rfl, rfl, .inr ?_, .int x, rfl, .inl ⟨_, rfl, _, _, rfl, rfl, (by show (0 : Int) < _; decide), (by show 3 ≤ sizeLine; decide), fun p hp => ?_⟩⟩⟩
    · split <;> exact ⟨by decide, by decide⟩
    · exact q _ p hp (same_new hp) ⟨Int.le_refl _, _, _, Int.emod_nonneg _ (by decide), Int.emod_lt_of_pos _ (by decide), upd_same⟩
def spDraw : Sp := fun vs H Q _ => ∃ (a : Addr) (n c : Int), vs = [.ref a, .int n] ∧ Wm H a c ∧ 0 < n ∧ n < 1000000 ∧ c < 2 ^ 40 ∧ ∀ r : Int, 0 ≤ r → r < n → After a c 1 H (Q (.int r))
theorem pow_small {i : Int} (h0 : 0 ≤ i) (h : i < 2 ^ 62) : i.natAbs < 2 ^ 64 := by omega
theorem c_l_draw (T : Top K mg) : C8.Cal P w K mg base 1 "_law_draw" spDraw [] := by
  refine cal_of T.d_l_draw sc_l_draw (fun _ _ _ _ _ _ us hl => match us, hl with | [_, _], _ => rfl) (fun vs H Q E h => ?_) (fun f cdv A outer s H vs Q E hr h => ?_)
  · obtain ⟨a, n, c, rfl, _⟩ := h
    rfl
  · obtain ⟨a, n, c, rfl, ⟨hc0, x, y, y0, y1, hw⟩, hn0, hn1, hc, q⟩ := h
    have fin : ∀ r x' y' c' : Int, 0 ≤ r → r < n → 0 ≤ y' → y' < 2147483647 → c ≤ c' → c' ≤ c + 1 → Q (.int r) (upd H a (.lst [.int x', .int y', .int c'])) := fun r x' y' c' h1 h2 h3 h4 h5 h6 =>
      q r h1 h2 _ c' (FrL.at (List.mem_singleton_self a)) (TupKeep.at fun xs z => by rw [hw] at z; cases z) ⟨by omega, x', y', h3, h4, upd_same⟩ h5 h6
    refine ⟨_, (pss_cons (ps_if (pt_cmpR op_gt (pe_ix ix_list (pv 0) pe_int (fun _ _ => rfl)) pe_int (nomark _))
      (pss_cons (ps_set (i := 2) sc_l_draw.nd rfl (Or.inl rfl) (pe_op op_mod (pe_callTy call_int1 (by rfl) T.z_int (by decide +kernel) (pa_cons (pe_ix ix_list (pv 0) pe_int (fun _ _ => rfl)) pa_nil)) (pv 1)))
      (pss_cons (ps_asg (pe_op op_fdivW (pe_ix ix_list (pv 0) pe_int (fun _ _ => rfl)) (pv 1)) (pg_sub (pv 0) pe_int set_list))
      (pss_one (ps_ret (pv 2)))))
      pss_nil)
      (pss_cons (ps_asg (pe_op op_add (pe_ix ix_list (pv 0) pe_int (fun _ _ => rfl)) pe_int) (pg_sub (pv 0) pe_int set_list))
      (pss_cons (ps_set (i := 3) sc_l_draw.nd rfl (Or.inl rfl) (pe_op op_mod (pe_callTy call_int1 (by rfl) T.z_int (by decide +kernel) (pa_cons (pe_op op_pow (pe_op op_add (pe_op op_add (pe_ix ix_list (pv 0) pe_int (fun _ _ => rfl)) (pe_op op_mul pe_int (pe_ix ix_list (pv 0) pe_int (fun _ _ => rfl)))) pe_int) pe_int) pa_nil)) pe_int))
      (pss_cons (ps_set (i := 3) sc_l_draw.nd rfl (Or.inl rfl) (pe_op op_mod (pe_callTy call_int1 (by rfl) T.z_int (by decide +kernel) (pa_cons (pe_op op_mul (pv 3) (pe_op op_add (pe_op op_add (pe_op op_fdivW (pv 3) pe_int) pe_int) (pe_ix ix_list (pv 0) pe_int (fun _ _ => rfl)))) pa_nil)) pe_int))
      (pss_one (ps_ret (pe_op op_mod (pe_callTy call_int1 (by rfl) T.z_int (by decide +kernel) (pa_cons (pe_op op_fdivW (pe_op op_mod (pe_callTy call_int1 (by rfl) T.z_int (by decide +kernel) (pa_cons (pe_op op_mul (pv 3) (pe_op op_add (pe_op op_fdivW (pv 3) pe_int) pe_int)) pa_nil)) pe_int) pe_int) pa_nil)) (pv 1)))))))), ?_⟩
    refine ⟨.ref a, rfl, a, _, 0, _, rfl, rfl, SqL.of hw, rfl, _, _, rfl, rfl, _, rfl, ite2 (fun h1 => ?_) (fun h1 => ?_)⟩
    · refine ⟨.ref a, rfl, a, _, 0, _, rfl, rfl, SqL.of hw, rfl, .inl ⟨_, rfl, .int n, rfl, _, _, rfl, rfl, hn0, ?_⟩⟩
      refine ⟨.ref a, rfl, a, _, 0, _, rfl, rfl, SqL.of hw, rfl, .int n, rfl, _, _, rfl, rfl, wide_div (b := 20) hn0 (by omega) (by decide) (by decide), .ref a, rfl, a, _, 0, 0, rfl, rfl, hw, rfl, .int (x % n), rfl, ?_⟩
      exact fin _ _ _ _ (Int.emod_nonneg _ (by omega)) (Int.emod_lt_of_pos _ hn0) y0 y1 (Int.le_refl _) (by omega)
    · refine ⟨.ref a, rfl, a, _, 2, _, rfl, rfl, SqL.of hw, rfl, _, _, rfl, rfl, .ref a, rfl, a, _, 2, 2, rfl, rfl, hw, rfl, ?_⟩
      have hw2 : (upd H a (.lst [V.int x, .int y, .int (c + 1)])) a = some (.lst [V.int x, .int y, .int (c + 1)]) := upd_same
      have b1 : ∀ z m : Int, 0 < m → 0 ≤ z % m ∧ z % m < m := fun z m h => ⟨Int.emod_nonneg _ (by omega), Int.emod_lt_of_pos _ h⟩
      refine ⟨.ref a, rfl, a, _, 1, _, rfl, rfl, SqL.of hw2, rfl, .ref a, rfl, a, _, 2, _, rfl, rfl, SqL.of hw2, rfl, _, _, rfl, rfl, .inl (by decide), _, _, rfl, rfl, _, _, rfl, rfl, _, _, rfl, rfl, ⟨by decide, by decide, pow_small (by omega) (by omega)⟩, .inl ⟨_, rfl, _, _, rfl, rfl, (by show (0 : Int) < _; decide), ?_⟩⟩
      generalize ((y + 7919 * (c + 1) + 1) ^ Int.toNat 5) = big
      have m1 := b1 big 2147483629 (by decide)
      refine ⟨_, rfl, _, rfl, _, _, rfl, rfl, wide_div (b := 40) (by decide) (by decide) (by decide) (by decide), _, _, rfl, rfl, .ref a, rfl, a, _, 2, _, rfl, rfl, SqL.of hw2, rfl, _, _, rfl, rfl, _, _, rfl, rfl, .inl (by omega), .inl ⟨_, rfl, _, _, rfl, rfl, (by show (0 : Int) < _; decide), ?_⟩⟩
      generalize (big % 2147483629 * (big % 2147483629 / 1009 + 69621 + (c + 1))) = big2
      have m2 := b1 big2 2147483587 (by decide)
      refine ⟨_, rfl, _, rfl, _, _, rfl, rfl, wide_div (b := 40) (by decide) (by decide) (by decide) (by decide), _, _, rfl, rfl, _, _, rfl, rfl, .inl (by omega), .inl ⟨_, rfl, _, _, rfl, rfl, (by show (0 : Int) < _; decide), _, _, rfl, rfl, wide_div (b := 40) (by decide) (by decide) (by decide) (by decide), .inl ⟨_, rfl, .int n, rfl, _, _, rfl, rfl, hn0, ?_⟩⟩⟩
      exact fin _ _ _ _ (Int.emod_nonneg _ (by omega)) (Int.emod_lt_of_pos _ hn0) y0 y1 (by omega) (Int.le_refl _)
def spPick (K : PySem.W.Frag) : Sp := fun vs H Q _ => ∃ (a b : Addr) (xs : List V) (c : Int), vs = [.ref a, .ref b] ∧ Wm H a c ∧ H b = some (.lst xs) ∧ b ≠ a ∧ 0 < xs.length ∧ xs.length < 1000000 ∧ c < 2 ^ 40 ∧ ∀ v ∈ xs, After a c 1 H (Q v)
theorem c_l_pick (T : Top K mg) : C8.Cal P w K mg base 2 "_law_pick" (spPick K) [] := by
  refine cal_of T.d_l_pick sc_l_pick (fun _ _ _ _ _ _ us hl => match us, hl with | [_, _], _ => rfl) (fun vs H Q E h => ?_) (fun f cdv A outer s H vs Q E hr h => ?_)
  · obtain ⟨a, b, xs, c, rfl, _⟩ := h
    rfl
  · obtain ⟨a, b, xs, c, rfl, hw, hS, nb, h0, h1, hc, q⟩ := h
    refine ⟨_, (pss_one (ps_ret (pe_ix ix_list (pv 1) (C8.pe_c (c_l_draw T) hr (by decide) (by rfl) (pa_cons (pv 0) (pa_cons (pe_callB call_len_seq (by rfl) T.z_len (by decide +kernel) (pa_cons (pv 1) pa_nil)) pa_nil))) (fun _ _ => rfl)))), ?_⟩
    refine ⟨.ref b, rfl, .ref a, rfl, .ref b, rfl, b, xs, rfl, .inl (SqL.of hS), a, xs.length, c, rfl, hw, by omega, by omega, hc, fun r hr0 hr1 H' c' f k w' hc1 hc2 => ?_⟩
    obtain ⟨v, hv, _, e⟩ := atI_int hr0 hr1
    exact ⟨b, xs, r, v, rfl, rfl, SqL.of (f.out hS (not1 nb)), e, q v hv H' c' f k w' hc1 hc2⟩
/-- the references and the ids that are drawn -/
def REFS : List Str := ["main", "a", "a/b", "a/b/c", "ab", "a/bc", "x-1/0", "main/sub", "a-", "a-b", "a0", "main-2"]
def IDS : List Str := [repS "0" 16, repS "f" 16, "0123456789abcdef", "00000000000000aa"]
theorem refs_ok : ∀ x ∈ REFS, isRefF x = true ∧ x.length ≤ 1000 ∧ OkS x := fun x hx => by
  have h : REFS.all (fun x => isRefF x && (decide (x.length ≤ 1000) && (TL.tl x).all fun u => decide (u < 1114112))) = true := by decide +kernel
  have := List.all_eq_true.mp h x hx
  simp only [Bool.and_eq_true, decide_eq_true_eq] at this
  exact ⟨this.1, this.2.1, ok_by this.2.2⟩
theorem ids_ok : ∀ x ∈ IDS, isIdF x = true ∧ x.length ≤ 1000 ∧ OkS x := fun x hx => by
  have h : IDS.all (fun x => isIdF x && (decide (x.length ≤ 1000) && (TL.tl x).all fun u => decide (u < 1114112))) = true := by decide +kernel
  have := List.all_eq_true.mp h x hx
  simp only [Bool.and_eq_true, decide_eq_true_eq] at this
  exact ⟨this.1, this.2.1, ok_by this.2.2⟩
def spRefD : Sp := fun vs H Q _ => ∃ (a : Addr) (c : Int), vs = [.ref a] ∧ Wm H a c ∧ c < 2 ^ 40 ∧ ∀ x ∈ REFS, After a c 1 H (Q (.str x))
theorem c_l_ref (T : Top K mg) : C8.Cal P w K mg base 3 "_law_ref" spRefD [] := by
  refine cal_of T.d_l_ref sc_l_ref (fun _ _ _ _ _ _ us hl => match us, hl with | [_], _ => rfl) (fun vs H Q E h => ?_) (fun f cdv A outer s H vs Q E hr h => ?_)
  · obtain ⟨a, c, rfl, _⟩ := h
    rfl
  · obtain ⟨a, c, rfl, hw, hc, q⟩ := h
    refine ⟨_, (pss_cons (ps_set (i := 1) sc_l_ref.nd rfl (Or.inl rfl) (pe_lst (pa_cons pe_str (pa_cons pe_str (pa_cons pe_str (pa_cons pe_str (pa_cons pe_str (pa_cons pe_str (pa_cons pe_str (pa_cons pe_str (pa_cons pe_str (pa_cons pe_str (pa_cons pe_str (pa_cons pe_str pa_nil))))))))))))))
      (pss_one (ps_ret (C8.pe_c (c_l_pick T) hr (by decide) (by rfl) (pa_cons (pv 0) (pa_cons (pv 1) pa_nil)))))), ?_⟩
    refine ⟨(by show 12 ≤ sizeLine; decide), fun p hp => ?_⟩
    have hpa : p ≠ a := fun z => by
      obtain ⟨_, _, _, _, _, e⟩ := hw
      rw [z, e] at hp
      cases hp
    have s1 := same_new (o := .lst (REFS.map V.str)) hp
    refine ⟨.ref a, rfl, .ref p, rfl, a, p, REFS.map V.str, c, rfl, hw.same s1, upd_same, hpa, by decide, by decide, hc, fun v hv H' c' f k w' h1 h2 => ?_⟩
    obtain ⟨x, hx, rfl⟩ := List.mem_map.mp hv
    exact q x hx H' c' ((FrL.same s1).trans f) ((TupKeep.of s1).trans k) w' h1 h2
def spIdD : Sp := fun vs H Q _ => ∃ (a : Addr) (c : Int), vs = [.ref a] ∧ Wm H a c ∧ c < 2 ^ 40 ∧ ∀ x ∈ IDS, After a c 1 H (Q (.str x))
theorem c_l_id (T : Top K mg) : C8.Cal P w K mg base 3 "_law_id" spIdD [] := by
  refine cal_of T.d_l_id sc_l_id (fun _ _ _ _ _ _ us hl => match us, hl with | [_], _ => rfl) (fun vs H Q E h => ?_) (fun f cdv A outer s H vs Q E hr h => ?_)
  · obtain ⟨a, c, rfl, _⟩ := h
    rfl
  · obtain ⟨a, c, rfl, hw, hc, q⟩ := h
    refine ⟨_, (pss_one (ps_ret (C8.pe_c (c_l_pick T) hr (by decide) (by rfl) (pa_cons (pv 0) (pa_cons (pe_lst (pa_cons (pe_op op_mul_si pe_str pe_int) (pa_cons (pe_op op_mul_si pe_str pe_int) (pa_cons pe_str (pa_cons pe_str pa_nil))))) pa_nil))))), ?_⟩
    refine ⟨.ref a, rfl, "0", 16, rfl, rfl, by decide, by decide, by decide +kernel, "f", 16, rfl, rfl, by decide, by decide, by decide +kernel, (by show 4 ≤ sizeLine; decide), fun p hp => ?_⟩
    have hpa : p ≠ a := fun z => by
      obtain ⟨_, _, _, _, _, e⟩ := hw
      rw [z, e] at hp
      cases hp
    have s1 := same_new (o := .lst (IDS.map V.str)) hp
    refine ⟨a, p, IDS.map V.str, c, rfl, hw.same s1, upd_same, hpa, by decide, by decide, hc, fun v hv H' c' f k w' h1 h2 => ?_⟩
    obtain ⟨x, hx, rfl⟩ := List.mem_map.mp hv
    exact q x hx H' c' ((FrL.same s1).trans f) ((TupKeep.of s1).trans k) w' h1 h2
end

end Fk

set_option maxHeartbeats 4000000
namespace Fk
open PySem PySem.Spec PyProof.Rows L2
section
variable {P : Program} {w : World} {K : PySem.W.Frag} {mg : Str → Option Value} {base : Heap} {CE CR cS cB iS iB ns r0 h0 l0 : Addr}
theorem c_l_above (T : Top K mg) : C8.Cal P w K mg base 1 "_law_above" spPre [] := by
  refine cal_of T.d_l_above sc_l_above (fun _ _ _ _ _ _ us hl => match us, hl with | [_], _ => rfl) (fun vs H Q E h => ?_) (fun f cdv A outer s H vs Q E hr h => ?_)
  · obtain ⟨x, rfl, _⟩ := h
    rfl
  · obtain ⟨x, rfl, hx, ho, q⟩ := h
    refine ⟨_, (pss_cons (ps_set (i := 1) sc_l_above.nd rfl (Or.inr rfl) (pe_split (pv 0) pe_str))
      (pss_one (ps_ret (pe_lc (own := [("_law_k", 2)]) (g := gName 2) (by rfl) sc_l_above.nd (pi_range2 (by rfl) T.z_range (pa_cons pe_int (pa_cons (pe_callB call_len_seq (by rfl) T.z_len (by decide +kernel) (pa_cons (pv 1) pa_nil)) pa_nil))) (blkOk_by (own := [("_law_k", 2)]) (N := ["_law_ref_here", "_law_parts", "_law_k"]) (sc := C8.fnScope s_l_above) (by decide +kernel)) (fun _ _ _ _ _ => (pg_name (i := 2) sc_l_above.nd rfl (Or.inl rfl))) (fun _ _ _ _ _ => pts_nil) (fun _ _ _ _ _ => (pe_joinK (K := K) rfl pe_str (pe_slice (slK_list (K := K) rfl) (pv 1) po_none (po_some (pv 2))))))))), ?_⟩
    obtain ⟨hl1, hl2⟩ := segs_len x (by omega)
    refine ⟨.str x, rfl, ⟨x, rfl⟩, x, _, rfl, rfl, rfl, small_line (by omega), fun p hp => ?_⟩
    have sm := same_new (o := .lst ((segs x).map V.str)) hp
    refine ⟨.ref p, rfl, p, (segs x).map V.str, rfl, .inl (.inl (.inl upd_same)), ?_⟩
    refine ⟨1, ((segs x).length : Nat), by rw [List.length_map], ⟨by decide, by decide, by omega, by omega⟩, fun D hD => ?_⟩
    have en : (((segs x).length : Nat) - (1 : Int)).toNat = (segs x).length - 1 := by omega
    rw [en]
    refine lc_pure (i := 2) (us := List.range ((segs x).length - 1)) (g := fun (k : Nat) => V.int (1 + (k : Int))) yields_range (fun k => V.str (Txt.join "/" ((segs x).take (k + 1)))) (fun _ => true) hD (fun H _ => trivial) (fun H u _ hu R r => r H (Same.refl H))
      (fun H2 k s2 hk _ R r => ?_) (by rw [List.length_range]; omega) (fun H2 s2 h2 => ?_)
    · have hk : k < (segs x).length - 1 := List.mem_range.mp hk
      have cut : cutV ((segs x).map V.str) none (some (1 + (k : Int))) = ((segs x).take (k + 1)).map V.str := cut_front _ _ _
      refine ⟨⟨_, rfl⟩, .ref p, rfl, .int (1 + k), rfl, 1 + k, rfl, p, _, rfl, .inl (.inl (s2 _ _ upd_same)), fun p2 hp2 => ?_⟩
      have cut2 : cutV ((Txt.split x "/").map V.str) none (some (1 + (k : Int))) = ((segs x).take (k + 1)).map V.str := cut
      rw [cut2]
      refine ⟨_, p2, (segs x).take (k + 1), rfl, rfl, .inl (.inl (.inl upd_same)), ?_, r _ (same_new hp2)⟩
      obtain ⟨m1, m2⟩ := segs_lens x
      have s1 := sum_most 1000 ((segs x).take (k + 1)) fun y hy => Nat.le_trans (m2 y (List.mem_of_mem_take hy)) hx
      have l1 : ((segs x).take (k + 1)).length ≤ 1001 := by rw [List.length_take]; omega
      have e1 : (Str.ofString "/").length = 1 := by decide +kernel
      rw [e1]
      omega
    · refine q D H2 (sm.free hD) (sm.trans s2) ?_
      rw [h2, filt_all]
      unfold prefixesF
      rw [List.map_map]
      rfl
def spNew : Sp := fun vs H Q _ => vs = [] ∧ ∀ m mt mh ml H', H m = none → H mt = none → Same H H' → H' m = some (.dK (kT (modelT mt mh ml))) → H' mt = some (.dK []) → H' mh = some (.tup [.str "ref", .str "main"]) → H' ml = some (.dK []) → Q (.ref m) H'
theorem c_l_new (T : Top K mg) : C8.Cal P w K mg base 1 "_law_new" spNew [] := by
  refine cal_of T.d_l_new sc_l_new (fun _ _ _ _ _ _ us hl => match us, hl with | [], _ => rfl) (fun vs H Q E h => ?_) (fun f cdv A outer s H vs Q E hr h => ?_)
  · obtain ⟨rfl, _⟩ := h
    rfl
  · obtain ⟨rfl, q⟩ := h
    refine ⟨_, (pss_one (ps_ret (pe_disp (pps_cons pe_str pe_dnewK (pps_cons pe_str (pe_tup (pa_cons pe_str (pa_cons pe_str pa_nil))) (pps_cons pe_str pe_dnewK pps_nil))) (by rfl) (by rfl) (fun z => by cases z) (by decide)))), ?_⟩
    intro m hm mt hmt
    refine ⟨(by show 2 ≤ sizeLine; decide), fun mh hmh => fun ml hml => ?_⟩
    have n1 : m ≠ mt := fun z => by rw [z, upd_same] at hmt; cases hmt
    have n2 : mt ≠ mh := fun z => by rw [z, upd_same] at hmh; cases hmh
    have n3 : m ≠ mh := fun z => by rw [z, upd_ne n2.symm, ← z, upd_same] at hmh; cases hmh
    have n4 : mh ≠ ml := fun z => by rw [z, upd_same] at hml; cases hml
    have n5 : mt ≠ ml := fun z => by rw [z, upd_ne n4.symm, ← z, upd_same] at hml; cases hml
    have n6 : m ≠ ml := fun z => by rw [z, upd_ne n4.symm, upd_ne n5.symm, ← z, upd_same] at hml; cases hml
    have f1 : H mt = none := by rw [upd_ne n1.symm] at hmt; exact hmt
    have f2 : H mh = none := by rw [upd_ne n2.symm, upd_ne n3.symm] at hmh; exact hmh
    have f3 : H ml = none := by rw [upd_ne n4.symm, upd_ne n5.symm, upd_ne n6.symm] at hml; exact hml
    refine ⟨?_, [(.inr "table", .ref mt), (.inr "head", .ref mh), (.inr "logs", .ref ml)], rfl, (by show 3 ≤ 15; decide), ?_⟩
    · rw [upd_ne n6, upd_ne n3, upd_ne n1, upd_same]
    · refine q m mt mh ml _ hm f1 (fun b o e => ?_) upd_same ?_ ?_ ?_
      · rw [upd_ne (ne_of_none e hm), upd_ne (ne_of_none e f3), upd_ne (ne_of_none e f2), upd_ne (ne_of_none e f1), upd_ne (ne_of_none e hm)]
        exact e
      · rw [upd_ne n1.symm, upd_ne n5, upd_ne n2, upd_same]
      · rw [upd_ne n3.symm, upd_ne n4, upd_same]
      · rw [upd_ne n6.symm, upd_same]
def spAtHd (K : PySem.W.Frag) : Sp := fun vs H Q _ => ∃ (m mt mh ml : Addr) (t lt : Tab) (x n : Str), vs = [.ref m] ∧ ModAt K H m mt mh ml t lt x n ∧ Q (ledF t x n) H
theorem c_l_at_head (T : Top K mg) : C8.Cal P w K mg base 1 "_law_at_head" (spAtHd K) [] := by
  refine cal_of T.d_l_at_head sc_l_at_head (fun _ _ _ _ _ _ us hl => match us, hl with | [_], _ => rfl) (fun vs H Q E h => ?_) (fun f cdv A outer s H vs Q E hr h => ?_)
  · obtain ⟨m, mt, mh, ml, t, lt, x, n, rfl, _⟩ := h
    rfl
  · obtain ⟨m, mt, mh, ml, t, lt, x, n, rfl, ⟨hm, ht, hh, _⟩, q⟩ := h
    obtain ⟨g1, g2, g3⟩ := mod_get hm
    refine ⟨_, (pss_one (ps_ret (pe_ifExp (pt_cmpR op_eq (pe_ix ix_tup (pe_dget (hu_of hr) (pv 0) pe_str (fun _ _ => rfl)) pe_int (fun _ _ => rfl)) pe_str (nomark _)) (pe_ix ix_tup (pe_dget (hu_of hr) (pv 0) pe_str (fun _ _ => rfl)) pe_int (fun _ _ => rfl)) (pe_dget1 (hu_of hr) (pe_dget (hu_of hr) (pv 0) pe_str (fun _ _ => rfl)) (pe_ix ix_tup (pe_dget (hu_of hr) (pv 0) pe_str (fun _ _ => rfl)) pe_int (fun _ _ => rfl)) ⟨rfl, rfl, rfl, rfl⟩)))), ?_⟩
    refine ⟨.ref m, rfl, m, .ref mh, rfl, g2, mh, _, 0, .str x, rfl, rfl, hh.sq, rfl, rfl, _, rfl, ite2 (fun h1 => ?_) (fun h1 => ?_)⟩
    · refine ⟨.ref m, rfl, m, .ref mh, rfl, g2, mh, _, 1, .str n, rfl, rfl, hh.sq, rfl, ?_⟩
      unfold ledF at q
      rw [if_pos (V.str.inj (of_decide_eq_true h1))] at q
      exact q
    · refine ⟨.ref m, rfl, m, .ref mt, rfl, g1, mt, rfl, .inl ⟨_, .inl ht⟩, .ref m, rfl, m, .ref mh, rfl, g2, mh, _, 1, .str n, rfl, rfl, hh.sq, rfl, valV t n, dget_kT (.inl ht) n, ?_⟩
      unfold ledF at q
      rw [if_neg (fun z => h1 (decide_eq_true (by rw [z])))] at q
      exact q
end

end Fk

set_option maxHeartbeats 4000000
namespace Fk
open PySem PySem.Spec PyProof.Rows L2
/-! ### values as data -/
def toD : V → PyData
  | .str x => .str x
  | .int i => .int i
  | _ => .none
def FlatOk (v : V) : Prop := v = .non ∨ ∃ y, v = .str y ∧ OkS y
theorem FlatOk.flat {v : V} (h : FlatOk v) : flatN v := by
  rcases h with rfl | ⟨y, rfl, _⟩ <;> exact True.intro
def EntOk (l : List V) : Prop := ∃ (a b : V) (x y : Str) (i : Int), l = [a, b, .str x, .int i, .str y] ∧ FlatOk a ∧ FlatOk b ∧ OkS x ∧ OkS y
def entD (l : List V) : PyData := .tuple (l.map toD)
theorem dp_flat {K : PySem.W.Frag} {H : Hp} {v : V} (h : FlatOk v) : Dp K H v (toD v) := by
  rcases h with rfl | ⟨y, rfl, _⟩
  · exact .non
  · exact .str y
theorem dp_ent {K : PySem.W.Frag} {H : Hp} {a : Addr} {l : List V} (h : EntOk l) (e : H a = some (.tup l)) : Dp K H (.ref a) (entD l) := by
  obtain ⟨p, q, x, y, i, rfl, h1, h2, _, _⟩ := h
  exact .tup (SqT.of e) (.cons (dp_flat h1) (.cons (dp_flat h2) (.cons (.str x) (.cons (.int i) (.cons (.str y) .nil)))))
theorem dp_ents {K : PySem.W.Frag} {H : Hp} : ∀ {as : List Addr} {ls : List (List V)}, Tups H as ls → (∀ l ∈ ls, EntOk l) → DpAll K H (as.map V.ref) (ls.map entD)
  | [], [], _, _ => .nil
  | [], l :: r, t, _ => absurd t.1 (by simp)
  | a :: r, [], t, _ => absurd t.1 (by simp)
  | a :: r, l :: s, t, h => .cons (dp_ent (h l List.mem_cons_self) (t.2 0 a l rfl rfl)) (dp_ents ⟨by have := t.1; simpa using this, fun i b m h1 h2 => t.2 (i + 1) b m h1 h2⟩ fun m hm => h m (List.mem_cons_of_mem _ hm))
theorem eqv_flat {v : V} (h : FlatOk v) : PyData.eqv (toD v) (toD v) = true := by
  rcases h with rfl | ⟨y, rfl, _⟩ <;> simp [toD, PyData.eqv]
theorem eqv_ent {l : List V} (h : EntOk l) : PyData.eqv (entD l) (entD l) = true := by
  obtain ⟨p, q, x, y, i, rfl, h1, h2, _, _⟩ := h
  show PyData.eqv (.tuple [toD p, toD q, .str x, .int i, .str y]) (.tuple [toD p, toD q, .str x, .int i, .str y]) = true
  simp [PyData.eqv, PyData.eqvAll, eqv_flat h1, eqv_flat h2]
theorem eqv_ents : ∀ {ls : List (List V)}, (∀ l ∈ ls, EntOk l) → PyData.eqvAll (ls.map entD) (ls.map entD) = true
  | [], _ => by simp [PyData.eqvAll]
  | l :: r, h => by simp [PyData.eqvAll, eqv_ent (h l List.mem_cons_self), eqv_ents fun m hm => h m (List.mem_cons_of_mem _ hm)]
theorem lay_flat {v : V} (h : FlatOk v) : PyData.canLay0 (toD v) = true ∧ PyData.depth (toD v) = 0 := by
  rcases h with rfl | ⟨y, rfl, hy⟩
  · simp [toD, PyData.canLay0, PyData.depth]
  · simp [toD, PyData.canLay0, PyData.depth, strOk_of hy]
theorem lay_ent {l : List V} (h : EntOk l) : PyData.canLay0 (entD l) = true ∧ PyData.depth (entD l) ≤ 1 := by
  obtain ⟨p, q, x, y, i, rfl, h1, h2, h3, h4⟩ := h
  obtain ⟨a1, a2⟩ := lay_flat h1
  obtain ⟨b1, b2⟩ := lay_flat h2
  show PyData.canLay0 (.tuple [toD p, toD q, .str x, .int i, .str y]) = true ∧ PyData.depth (.tuple [toD p, toD q, .str x, .int i, .str y]) ≤ 1
  simp [PyData.canLay0, PyData.canLayAll0, PyData.depth, PyData.depthAll, a1, a2, b1, b2, strOk_of h3, strOk_of h4]
theorem lay_ents : ∀ {ls : List (List V)}, (∀ l ∈ ls, EntOk l) → PyData.canLayAll0 (ls.map entD) = true ∧ PyData.depthAll (ls.map entD) ≤ 1
  | [], _ => by simp [PyData.canLayAll0, PyData.depthAll]
  | l :: r, h => by
    obtain ⟨a1, a2⟩ := lay_ent (h l List.mem_cons_self)
    obtain ⟨b1, b2⟩ := lay_ents fun m hm => h m (List.mem_cons_of_mem _ hm)
    refine ⟨by simp [PyData.canLayAll0, a1, b1], ?_⟩
    simp [PyData.depthAll]
    omega
theorem shaped_ents {ls : List (List V)} (h : ∀ l ∈ ls, EntOk l) : SeqAt.shaped (.list (ls.map entD)) = true := by
  obtain ⟨a, b⟩ := lay_ents h
  simp [SeqAt.shaped, PyData.canLay0, PyData.depth, a]
  omega
theorem shaped_tstrs (ys : List Str) (h : ∀ y ∈ ys, OkS y) : SeqAt.shaped (.tuple (ys.map PyData.str)) = true := by
  simp [SeqAt.shaped, PyData.canLay0, PyData.depth, lay_strs ys h, depth_strs]
theorem eqv_strs : ∀ ys : List Str, PyData.eqvAll (ys.map PyData.str) (ys.map PyData.str) = true
  | [] => by simp [PyData.eqvAll]
  | y :: r => by simp [PyData.eqvAll, PyData.eqv, eqv_strs r]
section
variable {P : Program} {w : World} {K : PySem.W.Frag} {mg : Str → Option Value} {base : Heap} {CE CR cS cB iS iB ns r0 h0 l0 : Addr}
def NameOk (x : Str) : Prop := (isRefF x = true ∨ x = "HEAD") ∧ x.length ≤ 1000 ∧ OkS x
/-- references and the model tell the same -/
structure Agree (K : PySem.W.Frag) (CR : Addr) (H : Hp) (R dx lk tb hd lg m mt mh ml : Addr) (t lt t' lt' : Tab) (x n : Str) (L : Str → List (List V)) : Prop where
  hR : H R = some (.ins CR dx (rf lk tb hd lg))
  hT : H tb = some (.dK (kT t))
  nt : Nd t
  hH : TupK K H hd [.str x, .str n]
  hL : H lg = some (.dK (kT lt))
  nl : Nd lt
  lo : LogsOk H lt L
  hM : ModAt K H m mt mh ml t' lt' x n
  nt' : Nd t'
  nl' : Nd lt'
  ll : LogsL H lt' L
  eq : ∀ x, valV t' x = valV t x
  ne : tb ≠ mt
  vs : ∀ e ∈ t, ∃ y, e.2 = .str y ∧ OkS y
  ks : ∀ x ∈ t.map (·.1), isRefF x = true ∧ x.length ≤ 1000 ∧ OkS x
  ls : ∀ x ∈ lt'.map (·.1), NameOk x
  es : ∀ x, ∀ l ∈ L x, EntOk l
  ox : OkS x
  on : OkS n
def spStands (K : PySem.W.Frag) (CR : Addr) : Sp := fun vs H Q _ => ∃ (R dx lk tb hd lg m mt mh ml : Addr) (t lt t' lt' : Tab) (x n : Str) (L : Str → List (List V)), vs = [.ref R, .ref m] ∧ Agree K CR H R dx lk tb hd lg m mt mh ml t lt t' lt' x n L ∧ t.length < 64 ∧ lt'.length < 62 ∧ ∀ H', Same H H' → Q (.bl true) H'
theorem c_l_stands (T : TopR K mg CE CR cS cB iS iB ns r0 h0 l0) : C8.Cal P w K mg base 6 "_law_stands" (spStands K CR) [] := by
  refine cal_of T.d_l_stands sc_l_stands (fun _ _ _ _ _ _ us hl => match us, hl with | [_, _], _ => rfl) (fun vs H Q E h => ?_) (fun f cdv A outer s H vs Q E hr h => ?_)
  · obtain ⟨R, dx, lk, tb, hd, lg, m, mt, mh, ml, t, lt, t', lt', x, n, L, rfl, _⟩ := h
    rfl
  · obtain ⟨R, dx, lk, tb, hd, lg, m, mt, mh, ml, t, lt, t', lt', x, n, L, rfl, ag, b1, b2, q⟩ := h
    obtain ⟨hm, ht', hh', hl'⟩ := id ag.hM
    have kp : (t'.map (·.1)).Perm (t.map (·.1)) := keys_perm ag.nt' ag.nt fun x => by rw [ag.eq]
    have lt1 : t'.length = t.length := by have := kp.length_eq; rw [List.length_map, List.length_map] at this; exact this
    refine ⟨_, (pss_cons (ps_if (PW.pt (pw_or (pt_cmpR (op_neD hr.units) (C8.pe_mt0 (m_Refs_names T) hr (by decide) (pv 0)) (pe_callTy call_tuple_of (by rfl) T.z_tuple (by decide +kernel) (pa_cons (pe_callB (call_sortedD (by rfl)) (by rfl) T.z_sorted (by decide +kernel) (pa_cons (pe_dget (hu_of hr) (pv 1) pe_str (fun _ _ => rfl)) pa_nil)) pa_nil)) (nomark _)) (pw_or1 (pt_cmpR op_ne (pe_callB (call_ownLen (ownM_of (m_Refs_len T)) (hr.mono (by decide)) noEx0) (by rfl) T.z_len (by decide +kernel) (pa_cons (pv 0) pa_nil)) (pe_callB call_lenD (by rfl) T.z_len (by decide +kernel) (pa_cons (pe_dget (hu_of hr) (pv 1) pe_str (fun _ _ => rfl)) pa_nil)) (nomark _)))))
      (pss_one (ps_ret pe_bl))
      pss_nil)
      (pss_cons (ps_lock (ps_for PassesOwn.never rfl (pi_keys (pe_dget (hu_of hr) (pv 1) pe_str (fun _ _ => rfl))) (pg_name (i := 2) sc_l_stands.nd rfl (Or.inl rfl))
      (pss_one (ps_if (PW.pt (pw_or (pt_cmpR op_ne (pe_ownGet (m_Refs_getitem T) (hr.mono (by decide)) (pv 0) (pv 2)) (pe_dget (hu_of hr) (pe_dget (hu_of hr) (pv 1) pe_str (fun _ _ => rfl)) (pv 2) (fun _ _ => rfl)) (nomark _)) (pw_or1 (pt_cmpR (op_ownNotIn (ownM_of (m_Refs_contains T)) (hr.mono (by decide)) noEx0) (pv 2) (pv 0) rfl))))
      (pss_one (ps_ret pe_bl))
      pss_nil))))
      (pss_cons (ps_if (PW.pt (pw_or (pt_cmpR (op_neD hr.units) (C8.pe_mt0 (m_Refs_head T) hr (by decide) (pv 0)) (pe_dget (hu_of hr) (pv 1) pe_str (fun _ _ => rfl)) (nomark _)) (pw_or1 (pt_cmpR op_ne (C8.pe_mt0 (m_Refs_at_head T) hr (by decide) (pv 0)) (C8.pe_c (c_l_at_head T.toTop) hr (by decide) (by rfl) (pa_cons (pv 1) pa_nil)) (nomark _)))))
      (pss_one (ps_ret pe_bl))
      pss_nil)
      (pss_cons (ps_for PassesOwn.never rfl (pi_list (pe_op op_cat (pe_callB (call_sortedD (by rfl)) (by rfl) T.z_sorted (by decide +kernel) (pa_cons (pe_dget (hu_of hr) (pv 1) pe_str (fun _ _ => rfl)) pa_nil)) (pe_lst (pa_cons pe_str (pa_cons pe_str pa_nil))))) (pg_name (i := 3) sc_l_stands.nd rfl (Or.inl rfl))
      (pss_one (ps_if (pt_cmpR (op_neD hr.units) (C8.pe_mt (m_Refs_log T) hr (by decide) (pv 0) (pa_cons (pv 3) pa_nil)) (pe_dget2 (hu_of hr) (pe_dget (hu_of hr) (pv 1) pe_str (fun _ _ => rfl)) (pv 3) (pe_lst pa_nil) ⟨rfl, rfl, rfl, rfl⟩) (nomark _))
      (pss_one (ps_ret pe_bl))
      pss_nil)))
      (pss_one (ps_ret pe_bl)))))), ?_⟩
    refine ⟨.ref R, rfl, R, dx, _, rfl, ag.hR, rfl, R, dx, lk, tb, hd, lg, t, rfl, ag.hR, ag.hT, b1, fun ys p1 H1 hp hs hn s1 h1 => ?_⟩
    refine ⟨.ref m, rfl, m, .ref mt, rfl, (mod_get (s1 _ _ hm)).1, mt, kT t', t'.map (·.1), rfl, .inl (s1 _ _ ht'), keys_kT t', by rw [List.length_map]; omega, fun zs p2 hp2 hs2 hn2 => ?_⟩
    have e12 : ys = zs := sort_uniq hs hs2 (hp.trans (kp.symm.trans hp2.symm))
    subst e12
    refine ⟨p2, _, rfl, .inl ⟨.inl (.inl upd_same), fun p3 hp3 => ?_⟩⟩
    have s3 := (same_new (o := .lst (ys.map V.str)) hn2).trans (same_new (o := .tup (ys.map V.str)) hp3)
    have h3 : (upd (upd H1 p2 (.lst (ys.map V.str))) p3 (.tup (ys.map V.str))) p3 = some (.tup (ys.map V.str)) := upd_same
    generalize upd (upd H1 p2 (.lst (ys.map V.str))) p3 (.tup (ys.map V.str)) = H3 at s3 h3
    have s03 := s1.trans s3
    have oky : ∀ y ∈ ys, OkS y := fun y hy => (ag.ks y (hp.mem_iff.mp hy)).2.2
    refine ⟨.tuple (ys.map PyData.str), .tuple (ys.map PyData.str), .tup (SqT.of (s3 _ _ h1)) (dp_strs ys), .tup (SqT.of h3) (dp_strs ys), shaped_tstrs ys oky, shaped_tstrs ys oky, _, rfl, ?_⟩
    have e1 : PyData.eqv (.tuple (ys.map PyData.str)) (.tuple (ys.map PyData.str)) = true := by
      simp only [PyData.eqv]
      exact eqv_strs ys
    rw [e1]
    refine iteF ?_
    refine ⟨.ref R, rfl, R, dx, _, rfl, s03 _ _ ag.hR, R, dx, lk, tb, hd, lg, t, rfl, s03 _ _ ag.hR, s03 _ _ ag.hT, t.length, rfl, by omega, ?_⟩
    refine ⟨.ref m, rfl, m, .ref mt, rfl, (mod_get (s03 _ _ hm)).1, mt, kT t', rfl, s03 _ _ ht', rfl, _, rfl, ?_⟩
    rw [len_kT, lt1, decide_eq_true rfl]
    refine iteF ?_
    -- the table, name by name
    refine ⟨mt, _, s03 _ _ ht', trivial, fun od => ?_⟩
    have nm : m ≠ mt := fun z => by
      rw [z, ht'] at hm
      have e : kT t' = kT (modelT mt mh ml) := by
        injection hm with hm
        injection hm
      have e2 : valV t' "table" = some (.ref mt) := by rw [← valV_kT, e, valV_kT]; rfl
      rw [ag.eq] at e2
      have mm := valV_in e2
      obtain ⟨p, hp, ep⟩ := List.mem_map.mp mm
      have v1 := val_nodup ag.nt p hp
      rw [ep, e2] at v1
      obtain ⟨y, ey, _⟩ := ag.vs p hp
      rw [ey] at v1
      cases v1
    have nRt : R ≠ mt := at_ne ag.hR ht' fun z => nomatch z
    have g : ∀ {o : HO} {b : Addr} {u : HO}, H b = some u → b ≠ mt → (upd H3 mt o) b = some u := fun e n => by
      rw [upd_ne n]
      exact s03 _ _ e
    have gR := g (o := .frz od (.dK (kT t'))) ag.hR nRt
    have gT := g (o := .frz od (.dK (kT t'))) ag.hT ag.ne
    have gM := g (o := .frz od (.dK (kT t'))) hm nm
    have gt : (upd H3 mt (.frz od (.dK (kT t')))) mt = some (.frz od (.dK (kT t'))) := upd_same
    have un : ∀ {H2}, Same (upd H3 mt (.frz od (.dK (kT t')))) H2 → Same H3 (upd H2 mt (.dK (kT t'))) := fun s => same_unlock s (s03 _ _ ht')
    generalize upd H3 mt (.frz od (.dK (kT t'))) = HL at gR gT gM gt un
    refine ⟨.ref m, rfl, m, .ref mt, rfl, (mod_get gM).1, mt, od, rfl, .inl ⟨kT t', gt, ?_⟩⟩
    refine forG (items := t'.map fun e => V.str e.1) yields_tab (fun i σ H' => Same HL H' ∧ ∃ z2, σ = [some (.ref R), some (.ref m), z2, none]) ⟨Same.refl _, none, rfl⟩ (fun i σ H' ⟨s, _⟩ => s _ _ gt) ?_ ?_
    · rintro i v σ H4 hv ⟨s4, z2, rfl⟩
      rw [List.getElem?_map] at hv
      cases hz : t'[i]? with
      | none => rw [hz] at hv; cases hv
      | some z =>
        rw [hz] at hv
        cases hv
        have hzm := List.mem_of_getElem? hz
        have v1 := val_nodup ag.nt' z hzm
        have v2 : valV t z.1 = some z.2 := by rw [← ag.eq, v1]
        obtain ⟨k1, k2, k3⟩ := ag.ks z.1 (mem_val.mpr (by rw [v2]; rfl))
        have d1 := dget_kT (.inr ⟨od, s4 _ _ gt⟩) z.1
        rw [v1] at d1
        have fz : flatN z.2 := by
          obtain ⟨p, hp, ep⟩ := List.mem_map.mp (valV_in v2)
          have v3 := val_nodup ag.nt p hp
          rw [ep, v2] at v3
          obtain ⟨y, ey, _⟩ := ag.vs p hp
          rw [Option.some.inj v3, ey]
          exact True.intro
        refine ⟨.ref R, rfl, .str z.1, rfl, R, dx, _, rfl, s4 _ _ gR, R, dx, lk, tb, hd, lg, t, z.1, z.2, rfl, s4 _ _ gR, s4 _ _ gT, k2, k3, v2, .ref m, rfl, m, .ref mt, rfl, (mod_get (s4 _ _ gM)).1, .str z.1, rfl, mt, z.2, rfl, d1, scal_flat fz fz, _, rfl, ?_⟩
        rw [decide_eq_true rfl]
        refine iteF ⟨.str z.1, rfl, .ref R, rfl, R, dx, _, rfl, s4 _ _ gR, R, dx, lk, tb, hd, lg, t, z.1, rfl, s4 _ _ gR, s4 _ _ gT, k2, k3, _, rfl, _, rfl, ?_⟩
        rw [v2]
        exact iteF ⟨s4, _, rfl⟩
    · rintro σ H4 ⟨s4, z2, rfl⟩
      refine ⟨s4 _ _ gt, ?_⟩
      have s5 := s03.trans (un s4)
      generalize upd H4 mt (.dK (kT t')) = H5 at s5
      refine ⟨.ref R, rfl, R, dx, _, rfl, s5 _ _ ag.hR, rfl, R, dx, lk, tb, hd, lg, rfl, s5 _ _ ag.hR, .ref m, rfl, m, .ref mh, rfl, (mod_get (s5 _ _ hm)).2.1, _, _, dp_head (ag.hH.keep (TupKeep.of s5)), dp_head (hh'.keep (TupKeep.of s5)), shaped_head ag.ox ag.on, shaped_head ag.ox ag.on, _, rfl, ?_⟩
      rw [eqv_head, decide_eq_true rfl]
      have fl : flatN (ledF t x n) := flat_led (fun e he => by obtain ⟨y, ey, _⟩ := ag.vs e he; rw [ey]; exact True.intro) x n
      have el : ledF t' x n = ledF t x n := led_of ag.eq x n
      refine iteF ⟨.ref R, rfl, R, dx, _, rfl, s5 _ _ ag.hR, rfl, R, dx, lk, tb, hd, lg, t, x, n, rfl, s5 _ _ ag.hR, s5 _ _ ag.hT, ag.hH.keep (TupKeep.of s5), .ref m, rfl, m, mt, mh, ml, t', lt', x, n, rfl, ag.hM.same s5, ?_⟩
      rw [el]
      refine ⟨scal_flat fl fl, _, rfl, ?_⟩
      rw [decide_eq_true rfl]
      refine iteF ?_
      refine ⟨.ref m, rfl, m, .ref ml, rfl, (mod_get (s5 _ _ hm)).2.2, ml, kT lt', lt'.map (·.1), rfl, .inl (s5 _ _ hl'), keys_kT lt', by rw [List.length_map]; omega, fun zs p4 hp4 hs4 hn4 => ⟨(by show 2 ≤ sizeLine; decide), fun p5 hp5 => ?_⟩⟩
      have lz : zs.length = lt'.length := by have := hp4.length_eq; rw [List.length_map] at this; exact this
      refine ⟨p4, p5, _, _, rfl, rfl, (same_new hp5) _ _ upd_same, upd_same, small_line (by rw [List.length_map]; show _ + 2 ≤ _; omega), fun p6 hp6 => ?_⟩
      have s6 := ((same_new (o := .lst (zs.map V.str)) hn4).trans (same_new (o := .lst [V.str "HEAD", .str "never"]) hp5)).trans (same_new (o := .lst (zs.map V.str ++ [V.str "HEAD", .str "never"])) hp6)
      have h6 : (upd (upd (upd H5 p4 (.lst (zs.map V.str))) p5 (.lst [V.str "HEAD", .str "never"])) p6 (.lst (zs.map V.str ++ [V.str "HEAD", .str "never"]))) p6 = some (.lst ((zs ++ ([("HEAD" : Str), ("never" : Str)] : List Str)).map V.str)) := by
        rw [upd_same, List.map_append]
        rfl
      generalize upd (upd (upd H5 p4 (.lst (zs.map V.str))) p5 (.lst [V.str "HEAD", .str "never"])) p6 (.lst (zs.map V.str ++ [V.str "HEAD", .str "never"])) = H6 at s6 h6
      have s06 := s5.trans s6
      refine ⟨p6, rfl, ⟨_, .inl (.inl h6)⟩, ?_⟩
      refine forG (items := (zs ++ ([("HEAD" : Str), ("never" : Str)] : List Str)).map V.str) yields_list (fun i σ H' => Same H6 H' ∧ ∃ z3, σ = [some (.ref R), some (.ref m), z2, z3]) ⟨Same.refl _, none, rfl⟩ (fun i σ H' ⟨s, _⟩ => .inl (.inl (s _ _ h6))) ?_ ?_
      · rintro i v σ H7 hv ⟨s7, z3, rfl⟩
        rw [List.getElem?_map] at hv
        cases hz : (zs ++ ([("HEAD" : Str), ("never" : Str)] : List Str))[i]? with
        | none => rw [hz] at hv; cases hv
        | some y =>
          rw [hz] at hv
          cases hv
          have hy := List.mem_of_getElem? hz
          have ok : NameOk y := by
            rcases List.mem_append.mp hy with hy | hy
            · exact ag.ls y (hp4.mem_iff.mp hy)
            · rcases List.mem_cons.mp hy with rfl | hy
              · exact ⟨.inr rfl, by decide +kernel, ok_by (by decide +kernel)⟩
              · rw [List.mem_singleton.mp hy]
                exact ⟨.inl (by decide +kernel), by decide +kernel, ok_by (by decide +kernel)⟩
          have s07 := s06.trans s7
          refine ⟨.ref R, rfl, R, dx, _, rfl, s07 _ _ ag.hR, rfl, .str y, rfl, R, dx, lk, tb, hd, lg, lt, L, y, rfl, s07 _ _ ag.hR, s07 _ _ ag.hL, ag.lo.keep (TupKeep.of s07), ok.1, ok.2.1, ok.2.2, fun D as H8 hD s8 h8 t8 => ?_⟩
          have s08 := s07.trans s8
          refine ⟨.ref m, rfl, m, .ref ml, rfl, (mod_get (s08 _ _ hm)).2.2, ml, rfl, .inl ⟨_, .inl (s08 _ _ hl')⟩, .str y, rfl, Nat.zero_le _, fun p9 hp9 => ?_⟩
          have s9 := same_new (o := .lst []) hp9
          refine ⟨valV lt' y, dget_kT (.inl (s9 _ _ (s08 _ _ hl'))) y, ?_⟩
          have h9 : (upd H8 p9 (.lst [])) p9 = some (.lst []) := upd_same
          generalize upd H8 p9 (.lst []) = H9 at s9 h9
          have s09 := s08.trans s9
          have dl : Dp K H9 ((valV lt' y).getD (.ref p9)) (.list ((L y).map entD)) := by
            rcases ag.ll y with ⟨e, l⟩ | ⟨p, bs, e, hb, tbs⟩
            · rw [e, l]
              exact dp_nil h9
            · rw [show valV lt' y = some (V.ref p) from by first | exact e | exact e.2]
              exact .lst (SqL.of (s09 _ _ hb)) (dp_ents (tbs.keep (TupKeep.of s09)) (ag.es y))
          refine ⟨_, _, .lst (SqL.of (s9 _ _ h8)) (dp_ents (t8.keep (TupKeep.of s9)) (ag.es y)), dl, shaped_ents (ag.es y), shaped_ents (ag.es y), _, rfl, ?_⟩
          have ee : PyData.eqv (.list ((L y).map entD)) (.list ((L y).map entD)) = true := by
            simp only [PyData.eqv]
            exact eqv_ents (ag.es y)
          rw [ee]
          exact iteF ⟨(s7.trans s8).trans s9, _, rfl⟩
      · rintro σ H7 ⟨s7, z3, rfl⟩
        exact q H7 (s06.trans s7)
end

end Fk

set_option maxHeartbeats 4000000
namespace Fk
open PySem PySem.Spec PyProof.Rows L2
section
variable {P : Program} {w : World} {K : PySem.W.Frag} {mg : Str → Option Value} {base : Heap} {CE CR cS cB iS iB ns r0 h0 l0 : Addr}
/-- a table whose values are texts -/
def Txts (t : Tab) : Prop := ∀ e ∈ t, ∃ y, e.2 = .str y ∧ OkS y
theorem Txts.flat {t : Tab} (h : Txts t) : ∀ e ∈ t, flatN e.2 := fun e he => by
  obtain ⟨y, ey, _⟩ := h e he
  rw [ey]
  exact True.intro
theorem Txts.nn {t : Tab} (h : Txts t) : ∀ e ∈ t, notNon e.2 = true := fun e he => by
  obtain ⟨y, ey, _⟩ := h e he
  rw [ey]
  rfl
def spBehL (K : PySem.W.Frag) : Sp := fun vs H Q _ => ∃ (m lc sg mt mh ml mh2 : Addr) (st : V) (t lt : Tab) (cs : List (Str × V × V)) (x n hx hn : Str) (L : Str → List (List V)) (n1 n2 n3 : V),
  vs = [.ref m, .ref lc, st, .ref sg] ∧ ModAt K H m mt mh ml t lt x n ∧ CallsL H lc cs ∧ H sg = some (.tup [n1, n2, n3]) ∧ Nd t ∧ Nd lt ∧ LogsL H lt L ∧ Txts t ∧ (cs.map (·.1)).Nodup ∧ (∀ c ∈ cs, flatN c.2.1 ∧ flatN c.2.2) ∧
  (∀ y ∈ t.map (·.1), y.length ≤ 1000 ∧ OkS y) ∧ (∀ y ∈ cs.map (·.1), y.length ≤ 1000 ∧ OkS y) ∧ t.length + cs.length < 64 ∧ lt.length + cs.length + 1 < 64 ∧ (∀ y, (L y).length ≤ 1000) ∧ OkS x ∧ OkS n ∧ OkS hx ∧ OkS hn ∧
  ((st = .non ∧ mh2 = mh ∧ hx = x ∧ hn = n) ∨ (st = .ref mh2 ∧ TupK K H mh2 [.str hx, .str hn])) ∧
  (∀ r, staleF t cs = some r → ∀ p H', Same H H' → H' p = some (.tup [.str "stale", .str r]) → Q (.ref p) H') ∧
  (staleF t cs = none → haveF ((lawT t cs).map (·.1)) = true → ∀ p H', Same H H' → H' p = some (.tup [.str "ref", .non]) → Q (.ref p) H') ∧
  (staleF t cs = none → haveF ((lawT t cs).map (·.1)) = false → ∀ ys, ys.Perm (cs.map (·.1)) → sortedS ys = true → ∀ m2 mt2 ml2 lt2 H', Same H H' → H m2 = none → H mt2 = none → H ml2 = none → ModAt K H' m2 mt2 mh2 ml2 (lawT t cs) lt2 hx hn → Nd lt2 → lt2.length ≤ lt.length + cs.length + 1 →
    (∀ y : Str, y ∈ lt2.map (·.1) → y ∈ lt.map (·.1) ∨ y ∈ cs.map (·.1) ∨ y = ("HEAD" : Str)) →
    LogsL H' lt2 (logsBehind L [n1, n2, n3] (movesF t cs ys) (decide ((x, n) ≠ (hx, hn)) || decide (ledF t x n ≠ ledF (lawT t cs) hx hn)) (ledF t x n) (ledF (lawT t cs) hx hn)) → Q (.ref m2) H')
theorem c_l_behind (T : Top K mg) : C8.Cal P w K mg base 2 "_law_behind" (spBehL K) [] := by
  refine cal_of T.d_l_behind sc_l_behind (fun _ _ _ _ _ _ us hl => match us, hl with | [_, _, _, _], _ => rfl) (fun vs H Q E h => ?_) (fun f cdv A outer s H vs Q E hr h => ?_)
  · obtain ⟨m, lc, sg, mt, mh, ml, mh2, st, t, lt, cs, x, n, hx, hn, L, n1, n2, n3, rfl, _⟩ := h
    rfl
  · obtain ⟨m, lc, sg, mt, mh, ml, mh2, st, t, lt, cs, x, n, hx, hn, L, n1, n2, n3, rfl, hM, ⟨as, hlc, tp⟩, hsg, nd, ndl, ll, tx, nc, fc, kt, kc, b1, b2, b3, ox, on, ohx, ohn, hst, q1, q2, q3⟩ := h
    obtain ⟨hm, ht, hh, hl⟩ := id hM
    have el : as.length = cs.length := by have := tp.1; rw [List.length_map] at this; exact this
    refine' ⟨_, (pss_cons ?q0 (pss_cons ?q1 (pss_cons ?q2 (pss_cons ?q3 (C8.pss_cut ?q4 (pss_cons ?q5 (C8.pss_cut ?q6 (pss_one ?q7)))))))), ?main⟩
    case q0 => exact (ps_for PassesOwn.never rfl (pi_list (pv 1)) (pg_tup rfl (pgs_cons (pg_name (i := 4) sc_l_behind.nd rfl (Or.inl rfl)) (pgs_cons (pg_name (i := 5) sc_l_behind.nd rfl (Or.inl rfl)) (pgs_cons (pg_name (i := 6) sc_l_behind.nd rfl (Or.inl rfl)) pgs_nil))))
      (pss_one (ps_if (PW.pt (pw_and (pt_cmpR op_ne (pv 6) pe_str (nomark _)) (pw_and1 (pt_cmpR op_ne (pe_dget1 (hu_of hr) (pe_dget (hu_of hr) (pv 0) pe_str (fun _ _ => rfl)) (pv 4) ⟨rfl, rfl, rfl, rfl⟩) (pv 6) (nomark _)))))
      (pss_one (ps_ret (pe_tup (pa_cons pe_str (pa_cons (pv 4) pa_nil)))))
      pss_nil)))
    case q1 => exact (ps_set (i := 7) sc_l_behind.nd rfl (Or.inr rfl) (pe_disp (pps_cons pe_str (pe_callTy call_dictD (by rfl) T.z_dict (by decide +kernel) (pa_cons (pe_dget (hu_of hr) (pv 0) pe_str (fun _ _ => rfl)) pa_nil)) (pps_cons pe_str (pe_dget (hu_of hr) (pv 0) pe_str (fun _ _ => rfl)) (pps_cons pe_str (pe_callTy call_dictD (by rfl) T.z_dict (by decide +kernel) (pa_cons (pe_dget (hu_of hr) (pv 0) pe_str (fun _ _ => rfl)) pa_nil)) pps_nil))) (by rfl) (by rfl) (fun z => by cases z) (by decide)))
    case q2 => exact (ps_for PassesOwn.never rfl (pi_list (pv 1)) (pg_tup rfl (pgs_cons (pg_name (i := 4) sc_l_behind.nd rfl (Or.inl rfl)) (pgs_cons (pg_name (i := 5) sc_l_behind.nd rfl (Or.inl rfl)) (pgs_cons (pg_name (i := 6) sc_l_behind.nd rfl (Or.inl rfl)) pgs_nil))))
      (pss_cons (ps_expr (pe_dpop2 (pe_dget (hu_of hr) (pv 7) pe_str (fun _ _ => rfl)) (pv 4) pe_non ⟨rfl, rfl, rfl, rfl⟩))
      (pss_one (ps_if (pt_cmpR op_notN (pv 5) pe_non (nomark _))
      (pss_one (ps_dput (hu_of hr) (pe_dget (hu_of hr) (pv 7) pe_str (fun _ _ => rfl)) (pv 4) (pv 5) rfl))
      pss_nil))))
    case q3 => exact (ps_lock (ps_for PassesOwn.never rfl (pi_keys (pe_dget (hu_of hr) (pv 7) pe_str (fun _ _ => rfl))) (pg_name (i := 4) sc_l_behind.nd rfl (Or.inl rfl))
      (pss_one (ps_if (pt_cmpR (op_neD hr.units) (pe_lc (own := [("_law_prefix", 8)]) (g := gName 8) (by rfl) sc_l_behind.nd (pi_list (C8.pe_c (c_l_above T) hr (by decide) (by rfl) (pa_cons (pv 4) pa_nil))) (blkOk_by (own := [("_law_prefix", 8)]) (N := ["_law_m", "_law_calls", "_law_stands_here", "_law_signed", "_law_ref_here", "_law_value", "_law_had", "_law_new_here", "_law_prefix", "_law_call", "_law_entry"]) (sc := C8.fnScope s_l_behind) (by decide +kernel)) (fun _ _ _ _ _ => (pg_name (i := 8) sc_l_behind.nd rfl (Or.inl rfl))) (fun _ _ _ _ _ => pts_one (pt_cmp (pc_din (hu_of hr) (pv 8) (pe_dget (hu_of hr) (pv 7) pe_str (fun _ _ => rfl))))) (fun _ _ _ _ _ => (pv 8))) (pe_lst pa_nil) (nomark _))
      (pss_one (ps_ret (pe_tup (pa_cons pe_str (pa_cons pe_non pa_nil)))))
      pss_nil))))
    case q4 => exact (ps_if (pt_cmpR op_notN (pv 2) pe_non (nomark _))
      (pss_one (ps_dput (hu_of hr) (pv 7) pe_str (pv 2) rfl))
      pss_nil)
    case q5 => exact (ps_for PassesOwn.never rfl (pi_list (pe_callB (cr_sortedS) (by rfl) T.z_sorted (by decide +kernel) (pa_cons (pe_lc (own := [("_law_call", 9)]) (g := gName 9) (by rfl) sc_l_behind.nd (pi_list (pv 1)) (blkOk_by (own := [("_law_call", 9)]) (N := ["_law_m", "_law_calls", "_law_stands_here", "_law_signed", "_law_ref_here", "_law_value", "_law_had", "_law_new_here", "_law_prefix", "_law_call", "_law_entry"]) (sc := C8.fnScope s_l_behind) (by decide +kernel)) (fun _ _ _ _ _ => (pg_name (i := 9) sc_l_behind.nd rfl (Or.inl rfl))) (fun _ _ _ _ _ => pts_nil) (fun _ _ _ _ _ => (pe_ix (ixK_tup (K := K) rfl) (pv 9) pe_int (fun _ _ => rfl)))) pa_nil))) (pg_name (i := 4) sc_l_behind.nd rfl (Or.inl rfl))
      (pss_one (ps_if (pt_cmpR op_ne (pe_dget1 (hu_of hr) (pe_dget (hu_of hr) (pv 0) pe_str (fun _ _ => rfl)) (pv 4) ⟨rfl, rfl, rfl, rfl⟩) (pe_dget1 (hu_of hr) (pe_dget (hu_of hr) (pv 7) pe_str (fun _ _ => rfl)) (pv 4) ⟨rfl, rfl, rfl, rfl⟩) (nomark _))
      (pss_cons (ps_set (i := 10) sc_l_behind.nd rfl (Or.inl rfl) (pe_op op_catA (pe_tup (pa_cons (pe_dget1 (hu_of hr) (pe_dget (hu_of hr) (pv 0) pe_str (fun _ _ => rfl)) (pv 4) ⟨rfl, rfl, rfl, rfl⟩) (pa_cons (pe_dget1 (hu_of hr) (pe_dget (hu_of hr) (pv 7) pe_str (fun _ _ => rfl)) (pv 4) ⟨rfl, rfl, rfl, rfl⟩) pa_nil))) (pv 3)))
      (pss_one (ps_dput (hu_of hr) (pe_dget (hu_of hr) (pv 7) pe_str (fun _ _ => rfl)) (pv 4) (pe_op op_cat (pe_dget2 (hu_of hr) (pe_dget (hu_of hr) (pv 7) pe_str (fun _ _ => rfl)) (pv 4) (pe_lst pa_nil) ⟨rfl, rfl, rfl, rfl⟩) (pe_lst (pa_cons (pv 10) pa_nil))) rfl)))
      pss_nil)))
    case q6 => exact (ps_if (PW.pt (pw_or (pt_cmpR (op_neD hr.units) (pe_dget (hu_of hr) (pv 7) pe_str (fun _ _ => rfl)) (pe_dget (hu_of hr) (pv 0) pe_str (fun _ _ => rfl)) (nomark _)) (pw_or1 (pt_cmpR op_ne (C8.pe_c (c_l_at_head T) hr (by decide) (by rfl) (pa_cons (pv 7) pa_nil)) (C8.pe_c (c_l_at_head T) hr (by decide) (by rfl) (pa_cons (pv 0) pa_nil)) (nomark _)))))
      (pss_cons (ps_set (i := 10) sc_l_behind.nd rfl (Or.inl rfl) (pe_op op_catA (pe_tup (pa_cons (C8.pe_c (c_l_at_head T) hr (by decide) (by rfl) (pa_cons (pv 0) pa_nil)) (pa_cons (C8.pe_c (c_l_at_head T) hr (by decide) (by rfl) (pa_cons (pv 7) pa_nil)) pa_nil))) (pv 3)))
      (pss_one (ps_dput (hu_of hr) (pe_dget (hu_of hr) (pv 7) pe_str (fun _ _ => rfl)) pe_str (pe_op op_cat (pe_dget2 (hu_of hr) (pe_dget (hu_of hr) (pv 7) pe_str (fun _ _ => rfl)) pe_str (pe_lst pa_nil) ⟨rfl, rfl, rfl, rfl⟩) (pe_lst (pa_cons (pv 10) pa_nil))) rfl)))
      pss_nil)
    case q7 => exact (ps_ret (pv 7))
    refine ⟨.ref lc, rfl, lc, rfl, ⟨_, .inl (.inl hlc)⟩, ?_⟩
    refine forG (items := (as.zip cs).map fun z => V.ref z.1) (yields_zipL el) (fun i σ H' => Same H H' ∧ (∀ d ∈ cs.take i, bad t d = false) ∧ ∃ x4 x5 x6, σ = [some (.ref m), some (.ref lc), some st, some (.ref sg), x4, x5, x6, none, none, none, none]) ⟨Same.refl H, fun d hd => (List.not_mem_nil hd).elim, none, none, none, rfl⟩ (fun i σ H' ⟨s, _⟩ => .inl (.inl (s _ _ hlc))) ?_ ?_
    · rintro i v σ H1 hv ⟨s1, g, x4, x5, x6, rfl⟩
      rw [List.getElem?_map] at hv
      cases hz : (as.zip cs)[i]? with
      | none => rw [hz] at hv; cases hv
      | some z =>
        rw [hz] at hv
        cases hv
        have hci : cs[i]? = some z.2 := (List.getElem?_zip_eq_some.mp hz).2
        have hzt : H1 z.1 = some (.tup (callL z.2)) := s1 _ _ (tups_get tp (List.mem_of_getElem? hz))
        have hcm : z.2 ∈ cs := List.mem_of_getElem? hci
        have fo := (fc z.2 hcm).2
        have fg := flat_val tx.flat z.2.1
        refine ⟨z.1, _, rfl, SqT.of hzt, rfl, _, _, rfl, _, _, rfl, _, _, rfl, rfl, ?_⟩
        have etk : cs.take (i + 1) = cs.take i ++ [z.2] := by rw [List.take_add_one, hci]; rfl
        have next : bad t z.2 = false → ∀ d ∈ cs.take (i + 1), bad t d = false := fun b d hd => by
          rw [etk] at hd
          rcases List.mem_append.mp hd with hd | hd
          · exact g d hd
          · rw [List.mem_singleton.mp hd]
            exact b
        refine ⟨z.2.2.2, rfl, scal_flat fo True.intro, _, rfl, ?_⟩
        by_cases c1 : z.2.2.2 = .str ""
        · rw [decide_eq_true c1]
          refine iteF (iteF ⟨s1, next ?_, _, _, _, rfl⟩)
          unfold bad
          rw [decide_eq_true c1]
          rfl
        · rw [decide_eq_false c1]
          refine iteT ⟨.ref m, rfl, m, .ref mt, rfl, (mod_get (s1 _ _ hm)).1, mt, rfl, .inl ⟨_, .inl (s1 _ _ ht)⟩, .str z.2.1, rfl, valV t z.2.1, dget_kT (.inl (s1 _ _ ht)) z.2.1, z.2.2.2, rfl, scal_flat fg fo, _, rfl, ?_⟩
          by_cases c2 : (valV t z.2.1).getD .non = z.2.2.2
          · rw [decide_eq_true c2]
            refine iteF ⟨s1, next ?_, _, _, _, rfl⟩
            unfold bad
            rw [decide_eq_true c2.symm]
            simp
          · rw [decide_eq_false c2]
            have hb : bad t z.2 = true := by
              unfold bad
              rw [decide_eq_false c1, decide_eq_false (fun z => c2 z.symm)]
              rfl
            exact iteT ⟨.str z.2.1, rfl, (by show 2 ≤ sizeLine; decide), fun p hp => q1 _ (stale_at hci g hb) p _ (s1.trans (same_new hp)) upd_same⟩
    · rintro σ H1 ⟨s1, g, x4, x5, x6, rfl⟩
      rw [List.length_map, List.length_zip, el, Nat.min_self, List.take_length] at g
      have sn := stale_none g
      have m1 := s1 _ _ hm
      intro m2 hm2
      have n2m : m2 ≠ m := ne_of_none' hm2 m1
      have n2t : m2 ≠ mt := ne_of_none' hm2 (s1 _ _ ht)
      have n2l : m2 ≠ ml := ne_of_none' hm2 (s1 _ _ hl)
      have sA : Same H (upd H1 m2 (.dK [])) := s1.trans (same_new hm2)
      have hA2 : (upd H1 m2 (.dK [])) m2 = some (.dK []) := upd_same
      have fm2 : H m2 = none := s1.free hm2
      generalize upd H1 m2 (.dK []) = HA at sA hA2
      refine ⟨.ref m, rfl, m, .ref mt, rfl, (mod_get (sA _ _ hm)).1, mt, kT t, rfl, .inl (sA _ _ ht), fun mt2 hmt2 => ?_⟩
      have sB := sA.trans (same_new (o := .dK (kT t)) hmt2)
      have fmt2 : H mt2 = none := sA.free hmt2
      have nt2 : mt2 ≠ m2 := ne_of_none' hmt2 hA2
      have hB2 : (upd HA mt2 (.dK (kT t))) m2 = some (.dK []) := by rw [upd_ne nt2.symm]; exact hA2
      have hBt : (upd HA mt2 (.dK (kT t))) mt2 = some (.dK (kT t)) := upd_same
      generalize upd HA mt2 (.dK (kT t)) = HB at sB hB2 hBt
      refine ⟨.ref m, rfl, m, .ref mh, rfl, (mod_get (sB _ _ hm)).2.1, .ref m, rfl, m, .ref ml, rfl, (mod_get (sB _ _ hm)).2.2, ml, kT lt, rfl, .inl (sB _ _ hl), fun ml2 hml2 => ?_⟩
      have sC := sB.trans (same_new (o := .dK (kT lt)) hml2)
      have fml2 : H ml2 = none := sB.free hml2
      have nl2 : ml2 ≠ m2 := ne_of_none' hml2 hB2
      have nlt : ml2 ≠ mt2 := ne_of_none' hml2 hBt
      have hC2 : (upd HB ml2 (.dK (kT lt))) m2 = some (.dK []) := by rw [upd_ne nl2.symm]; exact hB2
      have hCt : (upd HB ml2 (.dK (kT lt))) mt2 = some (.dK (kT t)) := by rw [upd_ne nlt.symm]; exact hBt
      have hCl : (upd HB ml2 (.dK (kT lt))) ml2 = some (.dK (kT lt)) := upd_same
      generalize upd HB ml2 (.dK (kT lt)) = HC at sC hC2 hCt hCl
      refine ⟨hC2, [(.inr "table", .ref mt2), (.inr "head", .ref mh), (.inr "logs", .ref ml2)], rfl, (by show 3 ≤ 15; decide), ?_⟩
      have em : mergeK [] [((Sum.inr "table" : Key), V.ref mt2), (.inr "head", .ref mh), (.inr "logs", .ref ml2)] = kT (modelT mt2 mh ml2) := rfl
      rw [em]
      have sD : Same H (upd HC m2 (.dK (kT (modelT mt2 mh ml2)))) := same_mut sC fm2
      have hD2 : (upd HC m2 (.dK (kT (modelT mt2 mh ml2)))) m2 = some (.dK (kT (modelT mt2 mh ml2))) := upd_same
      have hDt : (upd HC m2 (.dK (kT (modelT mt2 mh ml2)))) mt2 = some (.dK (kT t)) := by rw [upd_ne nt2]; exact hCt
      have hDl : (upd HC m2 (.dK (kT (modelT mt2 mh ml2)))) ml2 = some (.dK (kT lt)) := by rw [upd_ne nl2]; exact hCl
      generalize upd HC m2 (.dK (kT (modelT mt2 mh ml2))) = HD at sD hD2 hDt hDl
      -- the calls, one by one
      refine ⟨.ref lc, rfl, lc, rfl, ⟨_, .inl (.inl (sD _ _ hlc))⟩, ?_⟩
      refine forG (items := (as.zip cs).map fun z => V.ref z.1) (yields_zipL el) (fun i σ H' => Same H H' ∧ H' m2 = some (.dK (kT (modelT mt2 mh ml2))) ∧ H' mt2 = some (.dK (kT (lawT t (cs.take i)))) ∧ H' ml2 = some (.dK (kT lt)) ∧
        ∃ x4 x5 x6, σ = [some (.ref m), some (.ref lc), some st, some (.ref sg), x4, x5, x6, some (.ref m2), none, none, none]) ⟨sD, hD2, hDt, hDl, x4, x5, x6, rfl⟩ (fun i σ H' ⟨s, _⟩ => .inl (.inl (s _ _ hlc))) ?_ ?_
      · rintro i v σ H5 hv ⟨s5, h52, h5t, h5l, y4, y5, y6, rfl⟩
        rw [List.getElem?_map] at hv
        cases hz : (as.zip cs)[i]? with
        | none => rw [hz] at hv; cases hv
        | some z =>
          rw [hz] at hv
          cases hv
          have hci : cs[i]? = some z.2 := (List.getElem?_zip_eq_some.mp hz).2
          have hi : i < cs.length := (List.getElem?_eq_some_iff.mp hci).1
          have hzt : H5 z.1 = some (.tup (callL z.2)) := s5 _ _ (tups_get tp (List.mem_of_getElem? hz))
          have etk : lawT t (cs.take (i + 1)) = stepT (lawT t (cs.take i)) z.2 := by
            unfold lawT
            rw [List.take_add_one, hci, List.foldl_append]
            rfl
          have lu : (lawT t (cs.take i)).length ≤ 64 := by
            have := len_lawT t (cs.take i)
            rw [List.length_take] at this
            omega
          refine ⟨z.1, _, rfl, SqT.of hzt, rfl, _, _, rfl, _, _, rfl, _, _, rfl, rfl, ?_⟩
          have rest : ∀ H6, Same H H6 → H6 m2 = some (.dK (kT (modelT mt2 mh ml2))) → H6 mt2 = some (.dK (kT (dropK (lawT t (cs.take i)) z.2.1))) → H6 ml2 = some (.dK (kT lt)) →
              tIfS (tTest (tOp (fun x y H Q => y = V.non ∧ Q (V.bl !decide (x = V.non)) H) (tVar 5) (tC V.non))) (sDPut (tDGet (tVar 7) (tC (.str "table"))) (tVar 4) (tVar 5)) tNext
                { nx := fun σ H' => Same H H' ∧ H' m2 = some (.dK (kT (modelT mt2 mh ml2))) ∧ H' mt2 = some (.dK (kT (lawT t (cs.take (i + 1))))) ∧ H' ml2 = some (.dK (kT lt)) ∧ ∃ x4 x5 x6, σ = [some (.ref m), some (.ref lc), some st, some (.ref sg), x4, x5, x6, some (.ref m2), none, none, none], rt := Q }
                [some (.ref m), some (.ref lc), some st, some (.ref sg), some (.str z.2.1), some z.2.2.1, some z.2.2.2, some (.ref m2), none, none, none] H6 := fun H6 s6 h62 h6t h6l => by
            refine ⟨z.2.2.1, rfl, rfl, _, rfl, ?_⟩
            have en : (!decide (z.2.2.1 = V.non)) = notNon z.2.2.1 := by cases z.2.2.1 <;> rfl
            rw [en]
            by_cases c : notNon z.2.2.1 = true
            · rw [c]
              refine iteT ⟨z.2.2.1, rfl, .ref m2, rfl, m2, .ref mt2, rfl, (mod_get h62).1, .str z.2.1, rfl, mt2, _, rfl, .inl ⟨_, .inr z.2.1, h6t, rfl, small_lt ?_, rfl⟩, ?_⟩
              · rw [len_kT]
                have := dropK_le (lawT t (cs.take i)) z.2.1
                omega
              · rw [putK_kT]
                refine ⟨same_mut s6 fmt2, by rw [upd_ne nt2.symm]; exact h62, ?_, by rw [upd_ne nlt]; exact h6l, _, _, _, rfl⟩
                rw [upd_same, etk]
                unfold stepT
                rw [if_pos c]
            · rw [Bool.eq_false_iff.mpr c]
              refine iteF ⟨s6, h62, ?_, h6l, _, _, _, rfl⟩
              rw [h6t, etk]
              unfold stepT
              rw [if_neg c]
          refine ⟨.ref m2, rfl, m2, .ref mt2, rfl, (mod_get h52).1, mt2, rfl, .inl ⟨_, .inl h5t⟩, .str z.2.1, rfl, _, .inr z.2.1, h5t, rfl, fun v' _ => ?_, fun hv => ?_⟩
          · rw [dropK_kT]
            exact rest _ (same_mut s5 fmt2) (by rw [upd_ne nt2.symm]; exact h52) upd_same (by rw [upd_ne nlt]; exact h5l)
          · refine rest H5 s5 h52 ?_ h5l
            rw [valV_kT] at hv
            rw [dropK_no (valV_not hv)]
            exact h5t
      · rintro σ H5 ⟨s5, h52, h5t, h5l, y4, y5, y6, rfl⟩
        rw [List.length_map, List.length_zip, el, Nat.min_self, List.take_length] at h5t
        have ndn := nd_lawT nd cs
        have lun := len_lawT t cs
        have kn : ∀ y ∈ (lawT t cs).map (·.1), y.length ≤ 1000 ∧ OkS y := fun y hy => by
          have hv := mem_val.mp hy
          rw [val_lawT y cs t nc] at hv
          cases c : valV (newT cs) y with
          | none =>
            rw [c] at hv
            exact kt y (mem_val.mpr hv)
          | some v =>
            have mm := valV_in c
            unfold newT at mm
            rw [List.map_map] at mm
            exact kc y mm
        -- no name below another one
        refine ⟨mt2, _, h5t, trivial, fun od => ?_⟩
        have g2 : (upd H5 mt2 (.frz od (.dK (kT (lawT t cs))))) m2 = some (.dK (kT (modelT mt2 mh ml2))) := by rw [upd_ne nt2.symm]; exact h52
        have gt : (upd H5 mt2 (.frz od (.dK (kT (lawT t cs))))) mt2 = some (.frz od (.dK (kT (lawT t cs)))) := upd_same
        have un : ∀ {H2}, Same (upd H5 mt2 (.frz od (.dK (kT (lawT t cs))))) H2 → Same H5 (upd H2 mt2 (.dK (kT (lawT t cs)))) := fun s => same_unlock s h5t
        generalize upd H5 mt2 (.frz od (.dK (kT (lawT t cs)))) = HL at g2 gt un
        refine ⟨.ref m2, rfl, m2, .ref mt2, rfl, (mod_get g2).1, mt2, od, rfl, .inl ⟨kT (lawT t cs), gt, ?_⟩⟩
        refine forG (items := (lawT t cs).map fun e => V.str e.1) yields_tab (fun i σ H' => Same HL H' ∧ (∀ y ∈ ((lawT t cs).map (·.1)).take i, ((prefixesF y).any fun z => decide (z ∈ (lawT t cs).map (·.1))) = false) ∧ ∃ x4 x8, σ = [some (.ref m), some (.ref lc), some st, some (.ref sg), x4, y5, y6, some (.ref m2), x8, none, none])
          ⟨Same.refl _, fun y hy => (List.not_mem_nil hy).elim, y4, none, rfl⟩ (fun i σ H' ⟨s, _⟩ => s _ _ gt) ?_ ?_
        · rintro i v σ H6 hv ⟨s6, gg, z4, z8, rfl⟩
          rw [List.getElem?_map] at hv
          cases hz : (lawT t cs)[i]? with
          | none => rw [hz] at hv; cases hv
          | some e =>
            rw [hz] at hv
            cases hv
            have hek : e.1 ∈ (lawT t cs).map (·.1) := List.mem_map_of_mem (List.mem_of_getElem? hz)
            have hki : ((lawT t cs).map (·.1))[i]? = some e.1 := by rw [List.getElem?_map, hz]; rfl
            obtain ⟨k1, k2⟩ := kn e.1 hek
            refine ⟨.str e.1, rfl, e.1, rfl, k1, k2, fun PP H7 hPP s7 hP7 => ⟨PP, rfl, ⟨_, .inl (.inl hP7)⟩, fun D hD => ?_⟩⟩
            refine lc_pure (i := 8) (us := prefixesF e.1) (g := V.str) yields_list V.str (fun y => decide (y ∈ (lawT t cs).map (·.1))) hD (fun H s => .inl (.inl (s _ _ hP7))) (fun H8 y s8 hy R' r => ?_) (fun H8 y s8 hy _ R' r => ⟨_, rfl, r H8 (Same.refl H8)⟩) ?_ (fun H8 s8 h8 => ?_)
            · have s68 := (s6.trans s7).trans s8
              refine ⟨.str y, rfl, .ref m2, rfl, m2, .ref mt2, rfl, (mod_get (s68 _ _ g2)).1, mt2, _, rfl, dget_kT (.inr ⟨od, s68 _ _ gt⟩) y, _, rfl, ?_⟩
              have ed : (valV (lawT t cs) y).isSome = decide (y ∈ (lawT t cs).map (·.1)) := by
                cases c : (valV (lawT t cs) y).isSome with
                | true => rw [decide_eq_true (mem_val.mpr c)]
                | false => rw [decide_eq_false (fun z => by rw [mem_val.mp z] at c; cases c)]
              rw [ed]
              exact r H8 (Same.refl H8)
            · have := pre_len e.1 (by omega)
              omega
            · have s68 := (s6.trans s7).trans s8
              refine ⟨Nat.zero_le _, fun pe hpe => ?_⟩
              have s9 := same_new (o := .lst []) hpe
              have h9 : (upd H8 pe (.lst [])) pe = some (.lst []) := upd_same
              have hD9 := s9 _ _ h8
              generalize upd H8 pe (.lst []) = H9 at s9 h9 hD9
              have okp : ∀ y ∈ (prefixesF e.1).filter (fun y => decide (y ∈ (lawT t cs).map (·.1))), OkS y := fun y hy => ok_prefixes k2 y (List.mem_filter.mp hy).1
              refine ⟨_, _, .lst (SqL.of hD9) (dp_strs _), dp_nil h9, shaped_strs _ okp, shaped_nil, _, rfl, ?_⟩
              rw [eqv_nil]
              by_cases c : ((prefixesF e.1).any fun z => decide (z ∈ (lawT t cs).map (·.1))) = true
              · have ne : ((prefixesF e.1).filter fun y => decide (y ∈ (lawT t cs).map (·.1))).isEmpty = false := by
                  obtain ⟨y, hy, hd⟩ := List.any_eq_true.mp c
                  cases q : (prefixesF e.1).filter fun y => decide (y ∈ (lawT t cs).map (·.1)) with
                  | nil =>
                    have := (List.mem_filter (p := fun y => decide (y ∈ (lawT t cs).map (·.1)))).mpr ⟨hy, hd⟩
                    rw [q] at this
                    exact absurd this List.not_mem_nil
                  | cons a b => rfl
                rw [ne]
                refine iteT ⟨(by show 2 ≤ sizeLine; decide), fun p hp => ⟨(same_new hp) _ _ (s9 _ _ (s68 _ _ gt)), ?_⟩⟩
                have hpn : p ≠ mt2 := ne_of_none' hp (s9 _ _ (s68 _ _ gt))
                refine q2 sn ?_ p _ (s5.trans (un ((s68.trans s9).trans (same_new hp)))) (by rw [upd_ne hpn, upd_same])
                unfold haveF
                exact List.any_eq_true.mpr ⟨e.1, hek, c⟩
              · have ee : ((prefixesF e.1).filter fun y => decide (y ∈ (lawT t cs).map (·.1))) = [] := List.filter_eq_nil_iff.mpr fun y hy hd => c (List.any_eq_true.mpr ⟨y, hy, hd⟩)
                rw [ee]
                refine iteF ⟨s68.trans s9, fun y hy => ?_, _, _, rfl⟩
                rw [List.take_add_one, hki] at hy
                rcases List.mem_append.mp hy with hy | hy
                · exact gg y hy
                · rw [List.mem_singleton.mp hy]
                  exact Bool.eq_false_iff.mpr c
        · rintro σ H6 ⟨s6, gg, z4, z8, rfl⟩
          have hlen : ((lawT t cs).map fun e => V.str e.1).length = ((lawT t cs).map (·.1)).length := by rw [List.length_map, List.length_map]
          rw [hlen, List.take_length] at gg
          have hf : haveF ((lawT t cs).map (·.1)) = false := by
            unfold haveF
            exact Bool.eq_false_iff.mpr fun z => by
              obtain ⟨y, hy, hd⟩ := List.any_eq_true.mp z
              rw [gg y hy] at hd
              cases hd
          refine ⟨s6 _ _ gt, ?_⟩
          have s57 := un s6
          have h7t : (upd H6 mt2 (.dK (kT (lawT t cs)))) mt2 = some (.dK (kT (lawT t cs))) := upd_same
          generalize upd H6 mt2 (.dK (kT (lawT t cs))) = H7 at s57 h7t
          have s7 := s5.trans s57
          have h72 := s57 _ _ h52
          have h7l := s57 _ _ h5l
          have fn : ∀ e ∈ lawT t cs, flatN e.2 := flat_lawT tx.flat fun c h => (fc c h).1
          have hh2 : TupK K H mh2 [.str hx, .str hn] := by
            rcases hst with ⟨_, rfl, rfl, rfl⟩ | ⟨_, h⟩
            · exact hh
            · exact h
          refine ⟨fun σ H' => Same H H' ∧ H' m2 = some (.dK (kT (modelT mt2 mh2 ml2))) ∧ H' mt2 = some (.dK (kT (lawT t cs))) ∧ H' ml2 = some (.dK (kT lt)) ∧ σ = [some (.ref m), some (.ref lc), some st, some (.ref sg), z4, y5, y6, some (.ref m2), z8, none, none], ?_, ?_⟩
          · rcases hst with ⟨e1, e2, _, _⟩ | ⟨e1, _⟩
            · refine ⟨st, rfl, rfl, _, rfl, ?_⟩
              rw [e1, decide_eq_true rfl]
              refine iteF ⟨s7, ?_, h7t, h7l, rfl⟩
              rw [e2]
              exact h72
            · refine ⟨st, rfl, rfl, _, rfl, ?_⟩
              rw [e1, decide_eq_false (fun z => nomatch z)]
              refine iteT ⟨.ref mh2, rfl, .ref m2, rfl, m2, _, rfl, .inl ⟨_, .inr "head", h72, rfl, small_lt (by show 3 ≤ 1000000; decide), rfl⟩, ?_⟩
              rw [putK_kT]
              exact ⟨same_mut s7 fm2, upd_same, by rw [upd_ne nt2]; exact h7t, by rw [upd_ne nl2]; exact h7l, rfl⟩
          · rintro σ H8 ⟨s8, h82, h8t, h8l, rfl⟩
            refine ⟨.ref lc, rfl, lc, rfl, ⟨_, .inl (.inl (s8 _ _ hlc))⟩, fun D hD => ?_⟩
            refine lc_pure (i := 9) (us := as.zip cs) (g := fun z => V.ref z.1) (yields_zipL el) (fun z => V.str z.2.1) (fun _ => true) hD (fun H s => .inl (.inl (s _ _ (s8 _ _ hlc)))) (fun H u _ hu R r => r H (Same.refl H))
              (fun H9 u s9 hu _ R r => ⟨.ref u.1, rfl, u.1, _, 0, .str u.2.1, rfl, rfl, SqT.of (s9 _ _ (s8 _ _ (tups_get tp hu))), rfl, r H9 (Same.refl H9)⟩) (by rw [List.length_zip]; omega) (fun H9 s9 h9 => ?_)
            have ed : ((as.zip cs).filter fun _ => true).map (fun z => V.str z.2.1) = (cs.map (·.1)).map V.str := by
              rw [filt_all, show (fun z : Addr × (Str × V × V) => V.str z.2.1) = (fun c : Str × V × V => V.str c.1) ∘ Prod.snd from rfl, ← List.map_map, List.map_snd_zip (by omega), List.map_map]
              rfl
            rw [ed] at h9
            refine ⟨D, cs.map (·.1), rfl, .inl (.inl h9), by rw [List.length_map]; omega, fun ys p hp hs hnp => ?_⟩
            have nys : ys.Nodup := hp.nodup_iff.mpr nc
            have lys : ys.length = cs.length := by have := hp.length_eq; rw [List.length_map] at this; exact this
            have sA9 := s9.trans (same_new (o := .lst (ys.map V.str)) hnp)
            have hp9 : (upd H9 p (.lst (ys.map V.str))) p = some (.lst (ys.map V.str)) := upd_same
            generalize upd H9 p (.lst (ys.map V.str)) = HP at sA9 hp9
            have s0P := s8.trans sA9
            refine ⟨p, rfl, ⟨_, .inl (.inl hp9)⟩, ?_⟩
            refine forG (items := ys.map V.str) yields_list (fun i σ H' => Same H H' ∧ H' p = some (.lst (ys.map V.str)) ∧ H' m2 = some (.dK (kT (modelT mt2 mh2 ml2))) ∧ H' mt2 = some (.dK (kT (lawT t cs))) ∧ ∃ (li : Tab) (w4 w10 : Option V), H' ml2 = some (.dK (kT li)) ∧ Nd li ∧ li.length ≤ lt.length + i ∧
              (∀ y : Str, y ∈ li.map (·.1) → y ∈ lt.map (·.1) ∨ y ∈ cs.map (·.1) ∨ y = ("HEAD" : Str)) ∧ LogsL H' li (logMoves L [n1, n2, n3] (movesF t cs (ys.take i))) ∧ σ = [some (.ref m), some (.ref lc), some st, some (.ref sg), w4, y5, y6, some (.ref m2), z8, none, w10])
              ⟨s0P, hp9, sA9 _ _ h82, sA9 _ _ h8t, lt, z4, none, sA9 _ _ h8l, ndl, Nat.le_refl _, fun y h => .inl h, ll.same s0P, rfl⟩ (fun i σ H' ⟨_, h, _⟩ => .inl (.inl h)) ?_ ?_
            · rintro i v σ H5 hv ⟨s5, h5p, h52, h5t, li, w4, w10, h5l, ndi, leni, keysi, li5, rfl⟩
              rw [List.getElem?_map] at hv
              cases hz : ys[i]? with
              | none => rw [hz] at hv; cases hv
              | some y =>
                rw [hz] at hv
                cases hv
                have hi : i < ys.length := (List.getElem?_eq_some_iff.mp hz).1
                have hyc : y ∈ cs.map (·.1) := hp.mem_iff.mp (List.mem_of_getElem? hz)
                have etk : ys.take (i + 1) = ys.take i ++ [y] := by rw [List.take_add_one, hz]; rfl
                have eln := law_new_at (t := t) nc hyc
                have f1 := flat_val tx.flat y
                have f2 := flat_val fn y
                refine ⟨.ref m, rfl, m, .ref mt, rfl, (mod_get (s5 _ _ hm)).1, mt, rfl, .inl ⟨_, .inl (s5 _ _ ht)⟩, .str y, rfl, valV t y, dget_kT (.inl (s5 _ _ ht)) y, .ref m2, rfl, m2, .ref mt2, rfl, (mod_get h52).1, mt2, rfl, .inl ⟨_, .inl h5t⟩, .str y, rfl, valV (lawT t cs) y, dget_kT (.inl h5t) y, scal_flat f1 f2, _, rfl, ?_⟩
                by_cases c : (valV t y).getD .non = (valV (lawT t cs) y).getD .non
                · rw [decide_eq_true c]
                  refine iteF ⟨s5, h5p, h52, h5t, li, _, _, h5l, ndi, by omega, keysi, ?_, rfl⟩
                  rw [etk, movesF_snoc, if_pos (by rw [← eln]; exact c), List.append_nil]
                  exact li5
                · rw [decide_eq_false c]
                  refine iteT ⟨.ref m, rfl, m, .ref mt, rfl, (mod_get (s5 _ _ hm)).1, mt, rfl, .inl ⟨_, .inl (s5 _ _ ht)⟩, .str y, rfl, valV t y, dget_kT (.inl (s5 _ _ ht)) y, .ref m2, rfl, m2, .ref mt2, rfl, (mod_get h52).1, mt2, rfl, .inl ⟨_, .inl h5t⟩, .str y, rfl, valV (lawT t cs) y, dget_kT (.inl h5t) y, (by show 2 ≤ sizeLine; decide), fun p2 hp2 => ⟨.ref sg, rfl, ?_⟩⟩
                  have s6 := same_new (o := .tup [(valV t y).getD .non, (valV (lawT t cs) y).getD .non]) hp2
                  refine catA (SqT.of upd_same) (s6 _ _ (s5 _ _ hsg)) (fun z => nomatch z) (by show 2 + 3 ≤ _; decide) fun en H6 s7' h6 => ?_
                  have s56 := s6.trans s7'
                  refine log_stepL (x := y) (tk := tVar 4) (td := tDGet (tVar 7) (tC (.str "logs"))) (te := tVar 10) (s56 _ _ h5l) (li5.same s56) h6 ?_ (by omega) (fun H' Q q => ⟨_, rfl, q⟩) (fun H' Q sm q => ⟨.ref m2, rfl, m2, .ref ml2, rfl, (mod_get (sm _ _ (s56 _ _ h52))).2.2, q⟩) (fun H' Q q => ⟨_, rfl, q⟩) (fun H' pl f k l h9' ll9 => ?_)
                  · have := logMoves_len L [n1, n2, n3] y (movesF t cs (ys.take i))
                    have := movesF_len t cs (ys.take i)
                    have := b3 y
                    rw [List.length_take] at *
                    omega
                  · refine ⟨same_frl fml2 (s5.trans s56) f, l _ _ (s56 _ _ h5p), f.out (s56 _ _ h52) (not1 nl2.symm), f.out (s56 _ _ h5t) (not1 nlt.symm), _, _, _, h9', nd_put ndi _ _, ?_, ?_, ?_, rfl⟩
                    · have := len_put li y (.ref pl)
                      omega
                    · intro z hz'
                      rcases mem_keys_put hz' with h | h
                      · exact keysi z h
                      · exact .inr (.inl (by rw [h]; exact hyc))
                    · rw [etk, movesF_snoc, if_neg (by rw [← eln]; exact c), logMoves_app, ← eln]
                      exact ll9
            · rintro σ H5 ⟨s5, h5p, h52, h5t, li, w4, w10, h5l, ndi, leni, keysi, li5, rfl⟩
              rw [List.length_map, List.take_length] at li5
              rw [List.length_map] at leni
              refine ⟨fun σ H' => Same H H' ∧ H' m2 = some (.dK (kT (modelT mt2 mh2 ml2))) ∧ H' mt2 = some (.dK (kT (lawT t cs))) ∧ ∃ lt2 : Tab, H' ml2 = some (.dK (kT lt2)) ∧ Nd lt2 ∧ lt2.length ≤ lt.length + cs.length + 1 ∧ (∀ y : Str, y ∈ lt2.map (·.1) → y ∈ lt.map (·.1) ∨ y ∈ cs.map (·.1) ∨ y = ("HEAD" : Str)) ∧
                LogsL H' lt2 (logsBehind L [n1, n2, n3] (movesF t cs ys) (decide ((x, n) ≠ (hx, hn)) || decide (ledF t x n ≠ ledF (lawT t cs) hx hn)) (ledF t x n) (ledF (lawT t cs) hx hn)) ∧ σ[7]? = some (some (.ref m2)), ?_, ?_⟩
              · have modO := hM.same s5
                have modN : ModAt K H5 m2 mt2 mh2 ml2 (lawT t cs) li hx hn := ⟨h52, h5t, hh2.keep (TupKeep.of s5), h5l⟩
                have flO : flatN (ledF t x n) := flat_led tx.flat x n
                have flN : flatN (ledF (lawT t cs) hx hn) := flat_led fn hx hn
                have body : ∀ {D : Ends}, (∀ H' pl, FrL [ml2] H5 H' → TupKeep H5 H' → LstKeep H5 H' → H' ml2 = some (.dK (kT (putK li "HEAD" (.ref pl)))) → LogsL H' (putK li "HEAD" (.ref pl)) (logPut (logMoves L [n1, n2, n3] (movesF t cs ys)) "HEAD" ([ledF t x n, ledF (lawT t cs) hx hn] ++ [n1, n2, n3])) → ∀ en, D.nx [some (.ref m), some (.ref lc), some st, some (.ref sg), w4, y5, y6, some (.ref m2), z8, none, some (.ref en)] H') →
                    tSeq (tAsg (tOp (rCatA K) (tTup (tCons (tCall (spAtHd K) [] C8.E0 (tCons (tVar 0) tNil)) (tCons (tCall (spAtHd K) [] C8.E0 (tCons (tVar 7) tNil)) tNil))) (tVar 3)) (gName 10))
                      (sDPut (tDGet (tVar 7) (tC (.str "logs"))) (tC (.str "HEAD")) (tOp rCat (tDGet2 (tDGet (tVar 7) (tC (.str "logs"))) (tC (.str "HEAD")) (tLst tNil)) (tLst (tCons (tVar 10) tNil)))) D
                      [some (.ref m), some (.ref lc), some st, some (.ref sg), w4, y5, y6, some (.ref m2), z8, none, w10] H5 := fun {D} k => by
                  refine ⟨.ref m, rfl, m, mt, mh, ml, t, lt, x, n, rfl, modO, .ref m2, rfl, m2, mt2, mh2, ml2, lawT t cs, li, hx, hn, rfl, modN, (by show 2 ≤ sizeLine; decide), fun p2 hp2 => ⟨.ref sg, rfl, ?_⟩⟩
                  have s6 := same_new (o := .tup [ledF t x n, ledF (lawT t cs) hx hn]) hp2
                  refine catA (SqT.of upd_same) (s6 _ _ (s5 _ _ hsg)) (fun z => nomatch z) (by show 2 + 3 ≤ _; decide) fun en H6 s7' h6 => ?_
                  have s56 := s6.trans s7'
                  refine log_stepL (x := "HEAD") (tk := tC (.str "HEAD")) (td := tDGet (tVar 7) (tC (.str "logs"))) (te := tVar 10) (s56 _ _ h5l) (li5.same s56) h6 ?_ (by omega) (fun H' Q q => q) (fun H' Q sm q => ⟨.ref m2, rfl, m2, .ref ml2, rfl, (mod_get (sm _ _ (s56 _ _ h52))).2.2, q⟩) (fun H' Q q => ⟨_, rfl, q⟩) (fun H' pl f' k' l' h9' ll9 => k H' pl ((FrL.same s56).trans f') ((TupKeep.of s56).trans k') ((LstKeep.of s56).trans l') h9' ll9 en)
                  have := logMoves_len L [n1, n2, n3] "HEAD" (movesF t cs ys)
                  have := movesF_len t cs ys
                  have := b3 "HEAD"
                  omega
                have mid : ∀ H' pl, FrL [ml2] H5 H' → H' ml2 = some (.dK (kT (putK li "HEAD" (.ref pl)))) → Same H H' ∧ H' m2 = some (.dK (kT (modelT mt2 mh2 ml2))) ∧ H' mt2 = some (.dK (kT (lawT t cs))) ∧ (putK li "HEAD" (.ref pl)).length ≤ lt.length + cs.length + 1 ∧ (∀ y : Str, y ∈ (putK li "HEAD" (.ref pl)).map (·.1) → y ∈ lt.map (·.1) ∨ y ∈ cs.map (·.1) ∨ y = ("HEAD" : Str)) := fun H' pl f h => by
                  refine ⟨same_frl fml2 s5 f, f.out h52 (not1 nl2.symm), f.out h5t (not1 nlt.symm), ?_, fun y hy => ?_⟩
                  · have := len_put li "HEAD" (.ref pl)
                    omega
                  · rcases mem_keys_put hy with h | h
                    · exact keysi y h
                    · exact .inr (.inr h)
                refine ⟨.ref m2, rfl, m2, .ref mh2, rfl, (mod_get h52).2.1, .ref m, rfl, m, .ref mh, rfl, (mod_get (s5 _ _ hm)).2.1, _, _, dp_head (hh2.keep (TupKeep.of s5)), dp_head (hh.keep (TupKeep.of s5)), shaped_head ohx ohn, shaped_head ox on, _, rfl, ?_⟩
                rw [eqv_head, ← decide_not]
                by_cases c1 : ¬ (x, n) = (hx, hn)
                · rw [decide_eq_true c1]
                  refine iteT (body fun H' pl f k l h ll9 en => ?_)
                  obtain ⟨a1, a2, a3, a4, a5⟩ := mid H' pl f h
                  exact ⟨a1, a2, a3, _, h, nd_put ndi _ _, a4, a5, ll9, rfl⟩
                · rw [decide_eq_false c1]
                  refine iteF ⟨.ref m2, rfl, m2, mt2, mh2, ml2, lawT t cs, li, hx, hn, rfl, modN, .ref m, rfl, m, mt, mh, ml, t, lt, x, n, rfl, modO, scal_flat flN flO, _, rfl, ?_⟩
                  by_cases c2 : ¬ ledF t x n = ledF (lawT t cs) hx hn
                  · rw [decide_eq_false (fun z : ledF (lawT t cs) hx hn = ledF t x n => c2 z.symm), decide_eq_true (show ledF t x n ≠ ledF (lawT t cs) hx hn from c2)]
                    refine iteT (body fun H' pl f k l h ll9 en => ?_)
                    obtain ⟨a1, a2, a3, a4, a5⟩ := mid H' pl f h
                    exact ⟨a1, a2, a3, _, h, nd_put ndi _ _, a4, a5, ll9, rfl⟩
                  · rw [decide_eq_true (Decidable.not_not.mp c2).symm, decide_eq_false (show ¬ ledF t x n ≠ ledF (lawT t cs) hx hn from c2)]
                    exact iteF ⟨s5, h52, h5t, li, h5l, ndi, by omega, keysi, li5, rfl⟩
              · rintro σ H6 ⟨s6, h62, h6t, lt2, h6l, nd2, len2, keys2, ll6, a7⟩
                exact ⟨.ref m2, a7, q3 sn hf ys hp hs m2 mt2 ml2 lt2 H6 s6 fm2 fmt2 fml2 ⟨h62, h6t, hh2.keep (TupKeep.of s6), h6l⟩ nd2 len2 keys2 ll6⟩
end

end Fk

set_option maxHeartbeats 4000000
namespace Fk
open PySem PySem.Spec PyProof.Rows L2
section
variable {P : Program} {w : World} {K : PySem.W.Frag} {mg : Str → Option Value} {base : Heap} {CE CR cS cB iS iB ns r0 h0 l0 : Addr}
theorem xf_of {C fI : Addr} (T : XC K C fI) : XfC K C := ⟨T.ga, T.gg, T.su, T.hd⟩
def spFinished (K : PySem.W.Frag) (CE CR : Addr) : Sp := fun vs H Q _ => ∃ (e ex R nt cl dx lk tb hd lg hd2 : Addr) (nh : V) (t lt : Tab) (cs : List (Str × V × V)) (L : Str → List (List V)) (ox on hx hn : Str) (n1 n2 n3 : V), vs = [.ref e] ∧ Ready CE CR H e ex R nt cl dx lk tb hd lg nh t lt cs ∧ Stand K H nh hd hd2 ox on hx hn ∧ LogsOk H lt L ∧ H nt = some (.tup [n1, n2, n3]) ∧ (∀ x, (L x).length ≤ 1000) ∧
  (∀ x, staleF t cs = some x → ∀ p H', Same H H' → H' p = some (.tup [.str "stale", .str x]) → Q (.ref p) H') ∧
  (staleF t cs = none → ∀ ys, ys.Perm (cs.map (·.1)) → sortedS ys = true → haveF ((afterT t (movesF t cs ys)).map (·.1)) = true → ∀ p H', Same H H' → H' p = some (.tup [.str "ref", .non]) → Q (.ref p) H') ∧
  (staleF t cs = none → ∀ ys, ys.Perm (cs.map (·.1)) → sortedS ys = true → haveF ((afterT t (movesF t cs ys)).map (·.1)) = false → ∀ tb' lg' u' lu' H', FrL [R, e] H H' → TupKeep H H' → H' R = some (.ins CR dx (rf lk tb' hd2 lg')) → H' e = some (.ins CE ex (ef R nt cl nh true)) → H' tb' = some (.dK (kT u')) → SortOf (afterT t (movesF t cs ys)) u' →
    H' lg' = some (.dK (kT lu')) → Nd lu' → lu'.length ≤ lt.length + cs.length + 1 → LogsOk H' lu' (logsNew t L [n1, n2, n3] (movesF t cs ys) ox on hx hn) → H tb' = none → H lg' = none → Q .non H')
theorem c_l_finished (T : TopR K mg CE CR cS cB iS iB ns r0 h0 l0) : C8.Cal P w K mg base 8 "_law_finished" (spFinished K CE CR) [] := by
  refine cal_of T.d_l_finished sc_l_finished (fun _ _ _ _ _ _ us hl => match us, hl with | [_], _ => rfl) (fun vs H Q E h => ?_) (fun f cdv A outer s H vs Q E hr h => ?_)
  · obtain ⟨e, ex, R, nt, cl, dx, lk, tb, hd, lg, hd2, nh, t, lt, cs, L, ox, on, hx, hn, n1, n2, n3, rfl, _⟩ := h
    rfl
  · obtain ⟨e, ex, R, nt, cl, dx, lk, tb, hd, lg, hd2, nh, t, lt, cs, L, ox, on, hx, hn, n1, n2, n3, rfl, rd, hst, hL, hnt, b3, q1, q2, q3⟩ := h
    refine' ⟨_, (pss_cons (ps_tryA rfl rfl takes_none5 (fun W pn xe tk _ => ?B) (HdA.as (i := 1) sc_l_finished.nd rfl rfl ⟨rfl, by decide, .inl T.eS.mgc⟩ (fun a oe cls d pn hz hf => ?S) (HdA.cons ⟨rfl, by decide, .inl T.eB.mgc⟩ (fun a oe cls d pn hz hf => ?S2) HdA.nil))) (pss_one (ps_ret pe_non))), ?_⟩
    case B => exact (pss_one (ps_expr (pe_mx0 (m_Edit_finish T) hr (by decide) (fun _ => passAt tk _) (pv 0))))
    case S => exact (pss_one (ps_ret (pe_tup (pa_cons pe_str (pa_cons (pe_xf (xf_of T.eS.xc) T.eS.nf hz hf (pv 1)) pa_nil)))))
    case S2 => exact (pss_one (ps_ret (pe_tup (pa_cons pe_str (pa_cons pe_non pa_nil)))))
    obtain ⟨he, hR, ht, nd, hl, nl, b1, b2, hc, nc, ft, fc, kt, kc⟩ := id rd
    refine ⟨.ref e, rfl, e, ex, _, rfl, he, rfl, e, ex, R, nt, cl, dx, lk, tb, hd, lg, hd2, nh, t, lt, cs, L, ox, on, hx, hn, n1, n2, n3, rfl, rd, hst, hL, hnt, b3, fun x hx d H' s hd => ?_, fun sn ys hp hs hv d H' s => ?_, fun sn ys hp hs hv tb' lg' u' lu' H' f k h1 h2 h3 so h4 nd' len lk' n1' n2' => ?_⟩
    · exact ⟨true, T.exSS, fun _ a na => ⟨.ref a, rfl, rfl, rfl, d, _, _, rfl, hd, rfl, (by show 2 ≤ sizeLine; decide), fun p hp => q1 x hx p _ (s.trans (same_new hp)) upd_same⟩, fun z => Bool.noConfusion z⟩
    · exact ⟨false, T.exBS, fun z => Bool.noConfusion z, fun _ => ⟨true, T.exBB, fun _ a na => ⟨(by show 2 ≤ sizeLine; decide), fun p hp2 => q2 sn ys hp hs hv p _ (s.trans (same_new hp2)) upd_same⟩, fun z => Bool.noConfusion z⟩⟩
    · exact q3 sn ys hp hs hv tb' lg' u' lu' H' f k h1 h2 h3 so h4 nd' len lk' n1' n2'
end

end Fk

set_option maxHeartbeats 4000000
/-! sum(lists, list); d.update(e). -/
namespace Fk
open PySem PySem.Spec PyProof.Rows L2
theorem mt_update {X : Cx} : MtR X "dict.update" (fun x xs H Q => ∃ (a b : Addr) (kvs more : List (Key × V)), x = .ref a ∧ xs = [.ref b] ∧ a ≠ b ∧ H a = some (.dK kvs) ∧ H b = some (.dK more) ∧ kvs.length + more.length ≤ sizeLine ∧ Q .non (upd H a (.dK (mergeK kvs more)))) := by
  intro pins s σ H x xs v us Q I rx rxs h
  obtain ⟨a, b, kvs, more, rfl, rfl, ne, ha, hb, hl, q⟩ := h
  cases rx
  cases Vals.ref1 rxs
  obtain ⟨z1, hd1, vs1, r1, d1⟩ := dk_of I.hok ha
  obtain ⟨z2, hd2, vs2, r2, d2⟩ := dk_of I.hok hb
  refine call_meetsIn PySem.F.slot_dict_update d1.typeIs PySem.F.entry_dict_update (PySem.F.args_dict_update_2 _ _) (meets_dict_update (mixKind X.prog X.w) a b ne hd2) ⟨vs1, vs2, d1, d2, by rw [← r1.length, ← r2.length]; exact hl, fun h' e1 e2 sb => ?_⟩
  have he : ∃ q, h'.get? a = some q := let ⟨q, _, _, hq, _⟩ := e1; ⟨q, hq⟩
  refine ⟨.non, _, d_write I (by rw [ha]; exact True.intro) sb he (dk_new ?_ hd1 (r2.merge r1) e1), rfl, q⟩
  have := length_mergeK more kvs
  omega
def lstO (its : List Value) (n : Nat) : Obj := { cls := .type "list", data := .seq its.toArray n }
section
variable {prog : Program} {w : World} {A : Around} {R : Result → Shared → Prop} {I : Addr} {fp wr : List Addr} {G : Array GenState → Array GenState → Prop} {P : Nat → Value → Prop} {St : Nat → Shared → Prop}
theorem sum_loopL {ls : List (List Value)} {x0 : List Value} (H0 : Heap) (W : WalksS prog w A.in1 I fp wr G ls.length P St) (S : Addr) (hSf : S ∉ fp) (hwS : ∀ b ∈ wr, b < S) (h0S : H0.objs.size ≤ S) (hw : ∀ b o, H0.get? b = some o → b ∉ wr)
    (hval : ∀ i v, P i v → ∃ (l : Addr) (its : List Value) (n : Nat), v = .ref l ∧ ls[i]? = some its ∧ H0.get? l = some (lstO its n)) (q0 : Addr) (hz : (x0 ++ ls.flatten).length ≤ sizeLine) :
    ∀ (k i : Nat) (s : Shared) (q : Addr) (n c : Nat), ls.length - i = k → i ≤ ls.length → St i s → (∀ b o, H0.get? b = some o → s.heap.get? b = some o) → s.heap.get? S = some { cls := .type "list", dict := none, data := .seq #[.ref q] c, slots := #[] } →
    s.heap.get? q = some (lstO (x0 ++ (ls.take i).flatten) n) → q ≠ S → q ∉ wr → (q = q0 ∨ H0.objs.size ≤ q) →
    (∀ s' q' n', s'.heap.get? q' = some (lstO (x0 ++ ls.flatten) n') → (q' = q0 ∨ H0.objs.size ≤ q') → Moved (S :: wr) G s s' → R (.ok (.ret (.ref q'))) s') → codeAny (model prog w) A (.builtin "sum.loop" ⟨[.ref I, .ref S, rawInt 2, rawInt 0], []⟩) R s := by
  have hSw : S ∉ wr := fun h => hSf (W.sub _ h)
  have hsub : ∀ b ∈ wr, b ∈ S :: wr := fun b hb => List.mem_cons_of_mem _ hb
  intro k
  induction k with
  | zero =>
    intro i s q n c hk hi hst hH hS hq nq nw ho hR
    have hin : i = ls.length := by omega
    subst hin
    rw [List.take_length] at hq
    refine codeAny_builtin F.entry_sum_loop ?_
    rw [Around.under_plainId F.plain_sum_loop _]
    show wpAny _ A.in1 (seqItems? (.ref S) >>= _) _ _ s
    refine wpAny_bind (wpAny_seqItems hS rfl ?_)
    show wpAny _ A.in1 (tryCatch (pyNext (.ref I)) _ >>= _) _ _ s
    refine wpAny_bind (wpAny_tryCatch (W.done s _ _ hst fun s' hm => ?_))
    exact wpAny_pure (hR s' q n (hm.heap q _ nw hq) ho (hm.mono hsub))
  | succ k ih =>
    intro i s q n c hk hi hst hH hS hq nq nw ho hR
    have hlt : i < ls.length := by omega
    refine codeAny_builtin F.entry_sum_loop ?_
    rw [Around.under_plainId F.plain_sum_loop _]
    show wpAny _ A.in1 (seqItems? (.ref S) >>= _) _ _ s
    refine wpAny_bind (wpAny_seqItems hS rfl ?_)
    show wpAny _ A.in1 (tryCatch (pyNext (.ref I)) _ >>= _) _ _ s
    refine wpAny_bind (wpAny_tryCatch (W.item i s _ _ hlt hst fun v s' hP hst' hm => ?_))
    obtain ⟨l, its, m, rfl, hi2, hl⟩ := hval i v hP
    have hS' := hm.heap S _ hSw hS
    have hq' := hm.heap q _ nw hq
    have hl' := hm.heap l _ (hw l _ hl) (hH l _ hl)
    have etk : (ls.take (i + 1)).flatten = (ls.take i).flatten ++ its := by
      rw [List.take_add_one, hi2, List.flatten_append]
      simp
    have hz2 : (x0 ++ (ls.take i).flatten).length + its.length ≤ sizeLine := by
      have e : ls.flatten = (ls.take (i + 1)).flatten ++ (ls.drop (i + 1)).flatten := by rw [← List.flatten_append, List.take_append_drop]
      rw [e, etk] at hz
      simp only [List.length_append] at hz ⊢
      omega
    refine wpAny_bind (wpAny_attempt (wpAny_holding (PySem.P.add_list hq' hl' ?_ (by simpa using hz2))))
    have ea : (x0 ++ (ls.take i).flatten).toArray ++ its.toArray = (x0 ++ (ls.take (i + 1)).flatten).toArray := by rw [etk]; simp
    rw [ea]
    have hlt2 : S < s'.heap.objs.size := Heap.lt_size hS'
    have hSp := Heap.get?_push_of_some { cls := .type "list", data := .seq (x0 ++ (ls.take (i + 1)).flatten).toArray } hS'
    have hqp : (s'.heap.push { cls := .type "list", data := .seq (x0 ++ (ls.take (i + 1)).flatten).toArray }).get? s'.heap.objs.size = some (lstO (x0 ++ (ls.take (i + 1)).flatten) 0) := Heap.get?_push_size _ rfl
    have hop : ∀ b o, s'.heap.get? b = some o → (s'.heap.push { cls := .type "list", data := .seq (x0 ++ (ls.take (i + 1)).flatten).toArray }).get? b = some o := fun b o e => Heap.get?_push_of_some _ e
    show wpAny _ A.in1 (updateSeq S (fun _ => #[Value.ref s'.heap.objs.size]) >>= _) _ _ _
    generalize (s'.heap.push { cls := .type "list", data := .seq (x0 ++ (ls.take (i + 1)).flatten).toArray }) = hp at hSp hqp hop
    refine wpAny_bind (wpAny_updateSeq hSp rfl ?_)
    have hS₂ := Heap.get?_update_self (Obj.mapSeq fun _ => #[Value.ref s'.heap.objs.size]) hSp rfl
    refine wpAny_bind (wpAny_letGo ?_)
    have up : ∀ b o, S ≠ b → hp.get? b = some o → ((hp.update S (Obj.mapSeq fun _ => #[Value.ref s'.heap.objs.size])).update S (Obj.mapSeq fun _ => #[Value.ref s'.heap.objs.size])).get? b = some o := fun b o n e => (Heap.get?_update_other _ _ n).trans ((Heap.get?_update_other _ _ n).trans e)
    refine wpAny_bind (wpAny_updateSeq hS₂ rfl (wpAny_pure ⟨plainId_quiet F.plain_sum_loop _, ih (i + 1) _ s'.heap.objs.size 0 _ (by omega) hlt (W.frame _ s' _ _ hst' (Nat.le_refl _) fun b hb o e => ?_) (fun b o e => ?_) (Heap.get?_update_self _ hS₂ rfl) (up _ _ (Nat.ne_of_lt hlt2) hqp) (Nat.ne_of_gt hlt2) (fun z => absurd (hwS _ z) (Nat.not_lt_of_lt hlt2)) (.inr (Nat.le_trans h0S (Nat.le_of_lt hlt2))) fun s'' q'' n'' e1 e2 hm'' => hR s'' q'' n'' e1 e2 (Moved.trans W.gtrans ((hm.mono hsub).then_heap (Nat.le_refl _) fun b o hb e => ?_) hm'')⟩))
    · exact up _ _ (fun h => hSf (by rw [h]; exact hb)) (hop _ _ e)
    · have hb : b < H0.objs.size := Heap.lt_size e
      exact up _ _ (Nat.ne_of_gt (Nat.lt_of_lt_of_le hb h0S)) (hop _ _ (hm.heap b _ (hw b _ e) (hH b _ e)))
    · exact up _ _ (fun h => hb (by rw [h]; exact List.mem_cons_self)) (hop _ _ e)
end
theorem args_sum2 (a b : Value) : argsOk "sum" ⟨[a, b], []⟩ := by unfold argsOk; kernel_rfl
section
variable {prog : Program} {w : World} {A : Around} {E : Value → Shared → Prop} {s : Shared} {Q : Value → Shared → Prop}
theorem call_sumL {l b : Addr} {its : List Value} {ls : List (List Value)} {x0 : List Value} {n0 : Nat} (hh : A.handled = none) (hl : s.heap.IsList l its.toArray) (hb : s.heap.get? b = some (lstO x0 n0)) (hlen : its.length = ls.length)
    (hv : ∀ (i : Nat) (v : Value), its[i]? = some v → ∃ (l : Addr) (is : List Value) (n : Nat), v = Value.ref l ∧ ls[i]? = some is ∧ s.heap.get? l = some (lstO is n)) (hz : (x0 ++ ls.flatten).length ≤ sizeLine)
    (h : ∀ h' tk q n, (∀ b o, s.heap.get? b = some o → h'.get? b = some o) → h'.get? q = some (lstO (x0 ++ ls.flatten) n) → (q = b ∨ s.heap.objs.size ≤ q) → Q (.ref q) { s with heap := h', toks := tk }) :
    wpAny (model prog w) A (call (.builtin "sum") [.ref l, .ref b]) Q E s := by
  refine call_function_tree F.kind_sum F.plain_sum F.entry_sum (args_sum2 _ _) ?_
  unfold Builtin.«sum»
  simp only [List.length_cons, List.length_nil]
  rw [if_neg (by decide)]
  refine wpAny_bind (wpAny_of_eq (show Builtin.Builtins.bindParams "sum" ["start"] 0 ⟨[.ref b], []⟩ = pure [some (.ref b)] from rfl) ?_)
  refine wpAny_bind (Flt.iter_list_ hl fun s₂ e st hfp hlI => ?_)
  subst e
  have hb2 : (s.heap.push { cls := .type "list_iterator", data := .fields #[.ref l, .int 0 0] }).get? b = some (lstO x0 n0) := Heap.get?_push_of_some _ hb
  have tb : ∀ {tk : Nat}, ({ s with heap := s.heap.push { cls := .type "list_iterator", data := .fields #[.ref l, .int 0 0] } } : Shared).TypeIs (.ref b) "list" := fun {_} => ⟨_, hb2, rfl⟩
  refine wpAny_bind (wpAny_pure ?_)
  simp only [List.forIn_cons, List.forIn_nil]
  refine wpAny_bind (wpAny_bind (wpAny_bind (wpAny_isInstance (T := "list") (b := false) (tb (tk := 0)) sub_list_str ?_)))
  simp only [Bool.false_eq_true, if_false]
  refine wpAny_pure (wpAny_bind (wpAny_bind (wpAny_isInstance (T := "list") (b := false) (tb (tk := 0)) F.sub_list_bytes ?_)))
  simp only [Bool.false_eq_true, if_false]
  refine wpAny_pure (wpAny_bind (wpAny_bind (wpAny_isInstance (T := "list") (b := false) (tb (tk := 0)) F.sub_list_bytearray ?_)))
  simp only [Bool.false_eq_true, if_false]
  refine wpAny_pure (wpAny_pure ?_)
  refine wpAny_bind (wpAny_newObj_type ?_)
  have W := (Walks.list (prog := prog) (w := w) (A := A.in1) hh _ l hlI its.toArray).toS
  have hlen : its.toArray.size = ls.length := by simpa using hlen
  rw [hlen] at W
  have sz : (s.heap.push { cls := .type "list_iterator", data := .fields #[.ref l, .int 0 0] }).objs.size = s.heap.objs.size + 1 := Heap.size_push _ _
  have bs := Heap.lt_size hb
  refine wpAny_pure ⟨plainId_quiet F.plain_sum_loop _, sum_loopL s.heap W (s.heap.push { cls := .type "list_iterator", data := .fields #[.ref l, .int 0 0] }).objs.size (fun hm => Nat.lt_irrefl _ (hfp _ hm)) (fun b hb => ?_) (by rw [sz]; exact Nat.le_succ _) (fun b o e hb => ?_) (fun i v hP => hv i v (by simpa using hP)) b hz ls.length 0 _ b n0 _ rfl (Nat.zero_le _)
    (W.frame 0 { s with heap := s.heap.push { cls := .type "list_iterator", data := .fields #[.ref l, .int 0 0] } } _ _ st (by first | exact Nat.le_refl _ | exact Nat.le_succ _ | omega) fun b _ o e => Heap.get?_push_of_some _ e) (fun c o e => Heap.get?_push_of_some _ (Heap.get?_push_of_some _ e)) (Heap.get?_push_size _ rfl) ?_ (by rw [sz]; exact Nat.ne_of_lt (Nat.lt_succ_of_lt bs)) (fun hb => ?_) (.inl rfl) fun s' q n e1 e2 hm => ?_⟩
  · rw [List.mem_singleton.mp hb, sz]
    exact Nat.lt_succ_self _
  · rw [List.mem_singleton.mp hb] at e
    exact Nat.lt_irrefl _ (Heap.lt_size e)
  · rw [List.take_zero, List.flatten_nil, List.append_nil]
    exact Heap.get?_push_of_some _ hb2
  · rw [List.mem_singleton.mp hb] at bs
    exact Nat.lt_irrefl _ bs
  · obtain ⟨hp, g, d, tk, os⟩ := s'
    have a1 : g = s.gens := hm.gens
    have a2 : d = s.drawn := hm.drawn
    have a3 : os = s.os := hm.os
    subst a1 a2 a3
    refine h hp tk q n (fun c o e => ?_) e1 e2
    have hc := Heap.lt_size e
    refine hm.heap c o (fun z => ?_) (Heap.get?_push_of_some _ (Heap.get?_push_of_some _ e))
    simp only [List.mem_cons, List.not_mem_nil, or_false] at z
    rcases z with z | z
    · rw [z, sz] at hc
      exact absurd hc (Nat.not_lt_of_le (Nat.le_succ _))
    · rw [z] at hc
      exact Nat.lt_irrefl _ hc
end
/-- the values of some lists -/
theorem lists_at {X : Cx} {pins : List (Addr × Obj)} {σ : L2.St} {H : Hp} {s : Shared} (I : Inv X pins σ H s) : ∀ (as : List Addr) (ls : List (List V)), as.length = ls.length → (∀ (i : Nat) (l : Addr) (xs : List V), as[i]? = some l → ls[i]? = some xs → H l = some (.lst xs)) →
    ∃ vs : List (List Value), vs.length = ls.length ∧ Vals ls.flatten vs.flatten ∧ ∀ (i : Nat) (l : Addr), as[i]? = some l → ∃ (is : List Value) (n : Nat), vs[i]? = some is ∧ s.heap.get? l = some (lstO is n)
  | [], [], _, _ => ⟨[], rfl, .nil, fun i l h => by simp at h⟩
  | [], _ :: _, h, _ => by simp at h
  | _ :: _, [], h, _ => by simp at h
  | a :: as, xs :: ls, h, g => by
    obtain ⟨vs, h1, h2, h3⟩ := lists_at I as ls (by simpa using h) fun i l ys h1 h2 => g (i + 1) l ys (by simpa using h1) (by simpa using h2)
    obtain ⟨z, its, n, r, _, e⟩ := I.lstM (g 0 a xs rfl rfl)
    refine ⟨its :: vs, by simp [h1], by rw [List.flatten_cons, List.flatten_cons]; exact r.append h2, fun i l hi => ?_⟩
    cases i with
    | zero =>
      simp only [List.getElem?_cons_zero, Option.some.injEq] at hi
      subst hi
      exact ⟨its, n, rfl, e⟩
    | succ i =>
      obtain ⟨is, m, e1, e2⟩ := h3 i l (by simpa using hi)
      exact ⟨is, m, by simpa using e1, e2⟩
def rSumL (K : PySem.W.Frag) : List V → Hp → VK → Prop := fun vs H Q => ∃ (a b : Addr) (as : List Addr) (x0 : List V) (ls : List (List V)), vs = [.ref a, .ref b] ∧ SqL K H a (as.map V.ref) ∧ H b = some (.lst x0) ∧ as.length = ls.length ∧
  (∀ (i : Nat) (l : Addr) (xs : List V), as[i]? = some l → ls[i]? = some xs → H l = some (.lst xs)) ∧ (x0 ++ ls.flatten).length ≤ sizeLine ∧ ∀ p H', Same H H' → H' p = some (.lst (x0 ++ ls.flatten)) → (p = b ∨ H p = none) → Q (.ref p) H'
theorem vals_get {vs : List V} {us : List Value} (h : Vals vs us) : ∀ (i : Nat) (u : Value), us[i]? = some u → ∃ v, vs[i]? = some v ∧ RelV v u := by
  induction h with
  | nil => intro i u e; simp at e
  | cons r _ ih =>
    intro i u e
    cases i with
    | zero =>
      simp only [List.getElem?_cons_zero, Option.some.injEq] at e
      subst e
      exact ⟨_, rfl, r⟩
    | succ i => simpa using ih i u (by simpa using e)
theorem cr_sumL {X : Cx} (hc : X.calm = true) : CallR X (.builtin "sum") (rSumL X.K) := by
  intro pins s σ H vs us Q I r h
  obtain ⟨a, b, as, x0, ls, rfl, hs, hb, el, hls, hz, q⟩ := h
  obtain ⟨its, rv, hl, _⟩ := I.list hs
  obtain ⟨z0, its0, n0, r0, _, e0⟩ := I.lstM hb
  obtain ⟨ws, w1, w2, w3⟩ := lists_at I as ls el hls
  obtain ⟨u1, u2, rfl, ru1, ru2⟩ : ∃ u1 u2, us = [u1, u2] ∧ RelV (.ref a) u1 ∧ RelV (.ref b) u2 := by
    cases r with
    | cons r1 r2 =>
      cases r2 with
      | cons r2 r3 =>
        cases r3
        exact ⟨_, _, rfl, r1, r2⟩
  cases (show u1 = Value.ref a from ru1)
  cases (show u2 = Value.ref b from ru2)
  have lw := rv.length
  rw [List.length_map] at lw
  have rall := r0.append w2
  refine call_sumL (ls := ws) (I.ok.hd hc) hl.isList e0 (by omega) (fun i v hv => ?_) (by rw [← rall.length]; exact hz) fun h' tk p n hk hp ho => ?_
  · obtain ⟨y, hy, ry⟩ := vals_get rv i v hv
    rw [List.getElem?_map] at hy
    cases ha : as[i]? with
    | none => rw [ha] at hy; cases hy
    | some l =>
      rw [ha] at hy
      cases hy
      obtain ⟨is, n, e1, e2⟩ := w3 i l ha
      exact ⟨l, is, n, ry, e1, e2⟩
  · rcases ho with rfl | ho
    · have e := hk _ _ e0
      rw [hp] at e
      have ez : ls.flatten = [] := by
        unfold lstO at e
        simp only [Option.some.injEq, Obj.mk.injEq, Data.seq.injEq, true_and, and_true] at e
        have e1 := congrArg Array.size e.1
        simp only [List.size_toArray, List.length_append] at e1
        have := w2.length
        exact List.eq_nil_of_length_eq_zero (by omega)
      exact ⟨.ref p, H, I.kept hk, rfl, q p H (Same.refl H) (by rw [ez, List.append_nil]; exact hb) (.inl rfl)⟩
    · exact ⟨.ref p, _, I.laid (a := p) (o := .lst (x0 ++ ls.flatten)) (t' := tk) (fun b u e => hk b u e) ho ⟨hz, _, n, rall, hp⟩, rfl, q p _ (same_new (I.hok.fresh ho)) upd_same (.inr (I.hok.fresh ho))⟩
end Fk

set_option maxHeartbeats 4000000
namespace Fk
open PySem PySem.Spec PyProof.Rows L2
/-! ### locks of several open edits -/
structure TopL (K : PySem.W.Frag) (mg : Str → Option Value) (CE CR cS cB iS iB ns r0 h0 l0 cL iL : Addr) : Prop extends TopR K mg CE CR cS cB iS iB ns r0 h0 l0 where
  eL : ErrC K mg "Locked" "ref" cL iL
  exLL : PySem.W.exmOne K (.ref cL) (.ref cL) = some true
  kD0 : ∃ f fd ds, Meth K CE "delete" f ∧ C8.Fun K "delete" "Edit.delete" s_Edit_delete f fd ∧ Vals [V.str ""] ds ∧ Binds K fd ["self", "ref", "old"] ds
  kP0 : ∃ f fd ds, Meth K CE "point" f ∧ C8.Fun K "point" "Edit.point" s_Edit_point f fd ∧ Vals [V.str ""] ds ∧ Binds K fd ["self", "ref", "new", "old"] ds
section
variable {P : Program} {w : World} {K : PySem.W.Frag} {mg : Str → Option Value} {base : Heap}
/-- a method with defaults that may let errors out -/
theorem metX_dv {m qual : Str} {C f : Addr} {fd : FuncData} {st : Stmt} {N ps : List Str} {k : Nat} {sp : Sp} {ds : List Value} {dvs : List V} (c : Cls K C) (M : Meth K C m f) (F : C8.Fun K m qual st f fd) (d : Vals dvs ds) (b : Binds K fd ps ds) (S : FnScope N ps (C8.fnScope st))
    (len : ∀ vs H Q E, sp vs H Q E → vs.length = ps.length)
    (hbody : ∀ (cdv : Value) (A : Around) (outer : List Env) (s : Shared) (H : Hp) (vs : List V) (Q : VK) (E : XK), Room k (A.deeper (envOfC qual (C8.fnScope st) s.heap.objs.size f cdv)) → sp vs H Q E →
      ∃ t, PSs (cxOf (L2.CX P w) P w K mg base N qual (C8.fnScope st) f cdv A outer s H E) (C8.fnBody st) t ∧ t { nx := fun _ H' => Q .non H', rt := Q } (start N vs) H) : MetX P w K mg base (L2.CX P w) (k + 1) C m sp dvs := by
  obtain ⟨oc, od, dV, kV, doc, pm, an, cdv, ct, osl, rfl, lk, hcd⟩ := F.ex
  exact ⟨f, _, ps, ds, c, M, fn_of lk hcd S len fun A outer s H vs Q E hr hsp => hbody cdv A outer s H vs Q E hr hsp, b, d⟩
def touchF (x y : Str) : Bool := decide (x = y) || (Txt.startswith x (y ++ ("/" : Str)) || Txt.startswith y (x ++ ("/" : Str)))
def spTouch : Sp := fun vs H Q _ => ∃ x y : Str, vs = [.str x, .str y] ∧ x.length ≤ 1000 ∧ y.length ≤ 1000 ∧ Q (.bl (touchF x y)) H
theorem c_touch (T : Top K mg) : C8.Cal P w K mg base 1 "touch" spTouch [] := by
  refine cal_of T.d_touch sc_touch (fun _ _ _ _ _ _ us hl => match us, hl with | [_, _], _ => rfl) (fun vs H Q E h => ?_) (fun f cdv A outer s H vs Q E hr h => ?_)
  · obtain ⟨x, y, rfl, _⟩ := h
    rfl
  · obtain ⟨x, y, rfl, hx, hy, q⟩ := h
    refine ⟨_, (pss_one (ps_ret (pe_or (pe_cmpR op_eq (pv 0) (pv 1) (nomark _)) (pe_or (pe_bm PySem.F.plainAttrs_str PySem.F.slot_str_startswith PySem.F.type_str_startswith mt_startswith (pv 0) (pa_cons (pe_op op_add_str (pv 1) pe_str) pa_nil)) (pe_one (pe_bm PySem.F.plainAttrs_str PySem.F.slot_str_startswith PySem.F.type_str_startswith mt_startswith (pv 1) (pa_cons (pe_op op_add_str (pv 0) pe_str) pa_nil))))))), ?_⟩
    have l1 : (Str.ofString "/").length = 1 := by decide +kernel
    refine ⟨.str x, rfl, .str y, rfl, rfl, _, rfl, ?_⟩
    unfold touchF at q
    by_cases c : x = y
    · rw [decide_eq_true c] at q
      rw [decide_eq_true (by rw [c])]
      exact iteT q
    · rw [decide_eq_false c] at q
      rw [decide_eq_false (fun z => c (V.str.inj z))]
      refine iteF ⟨.str x, rfl, rfl, .str y, rfl, y, "/", rfl, rfl, small_line (by rw [l1]; omega), x, y ++ ("/" : Str), rfl, rfl, _, rfl, ?_⟩
      cases c1 : Txt.startswith x (y ++ ("/" : Str)) with
      | true =>
        rw [c1] at q
        exact iteT q
      | false =>
        rw [c1] at q
        exact iteF ⟨.str y, rfl, rfl, .str x, rfl, x, "/", rfl, rfl, small_line (by rw [l1]; omega), y, x ++ ("/" : Str), rfl, rfl, q⟩
def spAscL : Sp := fun vs H Q _ => ∃ (a : Addr) (xs : List Str), vs = [.ref a] ∧ H a = some (.lst (xs.map V.str)) ∧ xs.length < 64 ∧ ∀ (ys : List Str) (p : Addr) (H' : Hp), ys.Perm xs → sortedS ys = true → H p = none → Same H H' → H' p = some (.tup (ys.map V.str)) → Q (.ref p) H'
theorem c_ascendingL (T : Top K mg) : C8.Cal P w K mg base 1 "ascending" spAscL [] := by
  refine cal_of T.d_ascending sc_ascending (fun _ _ _ _ _ _ us hl => match us, hl with | [_], _ => rfl) (fun vs H Q E h => ?_) (fun f cdv A outer s H vs Q E hr h => ?_)
  · obtain ⟨a, t, rfl, _⟩ := h
    rfl
  · obtain ⟨a, xs, rfl, ha, hl, q⟩ := h
    refine ⟨_, (pss_one (ps_ret (pe_callTy call_tuple_of (by rfl) T.z_tuple (by decide +kernel) (pa_cons (pe_callB (cr_sortedS) (by rfl) T.z_sorted (by decide +kernel) (pa_cons (pe_lc (own := [("name", 1)]) (g := gName 1) (by rfl) sc_ascending.nd (pi_list (pv 0)) (blkOk_by (own := [("name", 1)]) (N := ["names", "name"]) (sc := C8.fnScope s_ascending) (by decide +kernel)) (fun _ _ _ _ _ => (pg_name (i := 1) sc_ascending.nd rfl (Or.inl rfl))) (fun _ _ _ _ _ => pts_nil) (fun _ _ _ _ _ => (pe_callTy SkE.call_str_str (by rfl) T.z_str (by decide +kernel) (pa_cons (pv 1) pa_nil)))) pa_nil)) pa_nil)))), ?_⟩
    refine ⟨.ref a, rfl, a, rfl, ⟨_, .inl (.inl ha)⟩, fun D hD => ?_⟩
    refine lc_pure (i := 1) (us := xs) (g := V.str) yields_list V.str (fun _ => true) hD (fun H s => .inl (.inl (s _ _ ha))) (fun H u _ hu R r => r H (Same.refl H))
      (fun H u _ hu _ R r => ⟨_, rfl, u, rfl, r H (Same.refl H)⟩) (by omega) (fun H2 s2 h2 => ?_)
    rw [filt_all] at h2
    refine ⟨D, xs, rfl, .inl (.inl h2), hl, fun ys p hp hs hn => ?_⟩
    refine ⟨p, _, rfl, .inl ⟨.inl (.inl upd_same), fun l hl => ?_⟩⟩
    have nl : H l = none := (s2.trans (same_new hn)).free hl
    exact q ys l _ hp hs nl ((s2.trans (same_new hn)).trans (same_new hl)) upd_same
end
section
variable {P : Program} {w : World} {K : PySem.W.Frag} {mg : Str → Option Value} {base : Heap} {CE CR cS cB iS iB ns r0 h0 l0 cL iL : Addr}
/-- the locks: those of open edits and those of closed ones -/
def LockT (H : Hp) (CE lk : Addr) (kt : Tab) (opn : V → Bool) : Prop := H lk = some (.dK (kT kt)) ∧ Nd kt ∧ kt.length < 63 ∧ ∀ z ∈ kt, z.1.length ≤ 1000 ∧ ∃ (e dx : Addr) (fs : List (Str × V)), z.2 = .ref e ∧ H e = some (.ins CE dx fs) ∧ fs.lookup ("closed" : Str) = some (.bl (!opn z.2))
def openT (kt : Tab) (opn : V → Bool) : Tab := kt.filter fun z => opn z.2
def barF (kt : Tab) (opn : V → Bool) (e : Addr) (x : Str) : List Str := ((openT kt opn).filter fun z => !decide (z.2 = .ref e) && touchF z.1 x).map (·.1)
def spLockX (CE CR cL : Addr) : Sp := fun vs H Q E => ∃ (R e dx ex lk tb hd lg : Addr) (fs : List (Str × V)) (x : Str) (kt : Tab) (opn : V → Bool), vs = [.ref R, .str x, .ref e] ∧ H R = some (.ins CR dx (rf lk tb hd lg)) ∧ H e = some (.ins CE ex fs) ∧ LockT H CE lk kt opn ∧ x.length ≤ 1000 ∧
  (∀ y r, (y :: r).Perm (barF kt opn e x) → sortedS (y :: r) = true → ∀ d H', Same H H' → H' d = some (.xd [("ref", .str y)]) → E (.ref cL) (some d) H') ∧
  (barF kt opn e x = [] → ∀ lk' H', H lk' = none → FrL [R] H H' → TupKeep H H' → H' R = some (.ins CR dx (rf lk' tb hd lg)) → H' lk' = some (.dK (kT (putK (openT kt opn) x (.ref e)))) → Q .non H')
theorem m_Refs_lockX (S : TopL K mg CE CR cS cB iS iB ns r0 h0 l0 cL iL) : MetX P w K mg base (L2.CX P w) 3 CR "lock" (spLockX CE CR cL) [] := by
  have T := S.toTopR
  refine metX_of T.cR T.m_Refs_lock sc_Refs_lock (fun _ _ _ _ _ _ us hl => match us, hl with | [_, _, _], _ => rfl) (fun vs H Q E h => ?_) (fun f cdv A outer s H vs Q E hr h => ?_)
  · obtain ⟨R, E, dx, ex, lk, tb, hd, lg, fs, x, kt, opn, rfl, _⟩ := h
    rfl
  · obtain ⟨R, e, dx, ex, lk, tb, hd, lg, fs, x, kt, opn, rfl, hR, he, ⟨hk, nd, hl, al⟩, hx, q1, q2⟩ := h
    refine ⟨_, (pss_cons (ps_set (i := 3) sc_Refs_lock.nd rfl (Or.inr rfl) (pe_lock (pe_dc (own := [("name", 4)]) (g := gName 4) (by rfl) sc_Refs_lock.nd (pi_keys (pe_fld (pv 0) rfl)) (blkOk_by (own := [("name", 4)]) (N := ["self", "ref", "edit", "held", "name", "barring"]) (sc := C8.fnScope s_Refs_lock) (by decide +kernel)) (fun _ _ _ _ _ => (pg_name (i := 4) sc_Refs_lock.nd rfl (Or.inl rfl))) (fun _ _ _ _ _ => pts_one (pt_not (pt_val (pe_fldK (K := K) rfl (pe_dget (hu_of hr) (pe_fldK (K := K) rfl (pv 0) rfl) (pv 4) (fun _ _ => rfl)) rfl)))) (fun _ _ _ _ _ => (pv 4)) (fun _ _ _ _ _ => (pe_dget (hu_of hr) (pe_fldK (K := K) rfl (pv 0) rfl) (pv 4) (fun _ _ => rfl))))))
      (pss_cons (ps_lock (ps_setLc (i := 5) (own := [("name", 4)]) (g := gName 4) (by rfl) sc_Refs_lock.nd rfl rfl (sw_true rfl rfl rfl (by decide +kernel)) (pi_keys (pv 3)) (blkOk_by (own := [("name", 4)]) (N := ["self", "ref", "edit", "held", "name", "barring"]) (sc := C8.fnScope s_Refs_lock) (by decide +kernel)) (fun _ _ _ _ _ => (pg_name (i := 4) sc_Refs_lock.nd rfl (Or.inl rfl))) (fun _ _ _ _ _ => pts_one (PW.pt (pw_and (pt_cmpR (op_idNe T.pEdit (hu_of hr)) (pe_dget (hu_of hr) (pv 3) (pv 4) (fun _ _ => rfl)) (pv 2) (nomark _)) (pw_and1 (pt_val (C8.pe_c (c_touch T.toTop) hr (by decide) (by rfl) (pa_cons (pv 4) (pa_cons (pv 1) pa_nil)))))))) (fun _ _ _ _ _ => (pv 4))))
      (pss_cons (ps_if (pt_truth (pv 5) (by intro _; rfl))
      (pss_one (ps_raise rfl (takes_of rfl rfl rfl rfl) (rs_of S.eL (hr.mono (by decide)) (by rfl) (pa_cons (pe_ix ix_tup (C8.pe_c (c_ascendingL T.toTop) hr (by decide) (by rfl) (pa_cons (pv 5) pa_nil)) pe_int (fun _ _ => rfl)) pa_nil))))
      pss_nil)
      (pss_cons (ps_dput (hu_of hr) (pv 3) (pv 1) (pv 2) rfl)
      (pss_one (ps_fld (pv 0) (pv 3) rfl)))))), ?_⟩
    have nkR : lk ≠ R := fun z => by rw [z, hR] at hk; cases hk
    have hR1 : ∀ {o : HO}, (upd H lk o) R = some (.ins CR dx (rf lk tb hd lg)) := fun {o} => by rw [upd_ne nkR.symm]; exact hR
    have nke : lk ≠ e := fun z => by rw [z, he] at hk; cases hk
    refine ⟨lk, _, hk, trivial, fun od => ⟨.ref R, rfl, R, CR, dx, _, .ref lk, rfl, hR1, T.cR, T.nR_locks, rfl, lk, od, rfl, .inl ⟨kT kt, upd_same, fun D hD => ?_⟩⟩⟩
    refine dc_tab (us := kt) (val := fun z => V.str z.1) yields_tab (fun z => z.1) (fun z => z.2) (fun z => opn z.2) (fun z => [some (.ref R), some (.str x), some (.ref e), none, some (.str z.1), none]) hD (fun H s => s _ _ upd_same) (fun _ _ => rfl)
      (fun H2 z s2 hz R k => k) (fun H2 z s2 hz R' k => ?_) (fun H u _ _ _ R k => ⟨_, rfl, k H (Same.refl H)⟩) (fun H2 z s2 hz _ R' k => ?_) (by omega) (nd_filter nd _) (fun H2 s2 h2 => ?_)
    · have d := dget_kT (.inr ⟨od, s2 _ _ upd_same⟩) z.1
      rw [val_nodup nd z hz] at d
      obtain ⟨_, e', dx', fs', e1, e2, e3⟩ := al z hz
      have nk' : e' ≠ lk := fun z => by rw [z, hk] at e2; cases e2
      have e2' := s2 _ _ (show (upd H lk (.frz od (.dK (kT kt)))) e' = some (.ins CE dx' fs') by rw [upd_ne nk']; exact e2)
      refine ⟨.ref R, rfl, R, CR, dx, _, .ref lk, rfl, s2 _ _ hR1, T.cR, T.nR_locks, rfl, .str z.1, rfl, lk, z.2, rfl, d, e', CE, dx', fs', _, e1, e2', T.cE, T.nEclosed, e3, _, rfl, ?_⟩
      show R' (!!opn z.2) H2
      rw [Bool.not_not]
      exact k H2 (Same.refl H2)
    · have d := dget_kT (.inr ⟨od, s2 _ _ upd_same⟩) z.1
      rw [val_nodup nd z hz] at d
      exact ⟨.ref R, rfl, R, CR, dx, _, .ref lk, rfl, s2 _ _ hR1, T.cR, T.nR_locks, rfl, .str z.1, rfl, lk, z.2, rfl, d, k H2 (Same.refl H2)⟩
    have hf : ∃ ht : Tab, ht = openT kt opn := ⟨_, rfl⟩
    obtain ⟨ht, eht⟩ := hf
    have h2' : H2 D = some (.dK (kT ht)) := by
      rw [h2, eht]
      congr 3
      exact List.map_id' _
    have s3 : Same H (upd H2 lk (.dK (kT kt))) := same_unlock s2 hk
    have h3 : (upd H2 lk (.dK (kT kt))) D = some (.dK (kT ht)) := by rw [upd_ne (lock_ne hD)]; exact h2'
    have fD : H D = none := lock_free hD
    refine ⟨s2 _ _ upd_same, ?_⟩
    generalize upd H2 lk (.dK (kT kt)) = H3 at s3 h3
    have sub : ∀ z ∈ ht, z ∈ kt := fun z hz => by
      rw [eht] at hz
      exact (List.mem_filter.mp hz).1
    have ndh : Nd ht := by rw [eht]; exact nd_filter nd _
    have lht : ht.length ≤ kt.length := by rw [eht]; exact List.length_filter_le _ _
    refine ⟨D, _, h3, trivial, fun od2 => ⟨.ref D, rfl, D, od2, rfl, .inl ⟨kT ht, upd_same, fun D2 hD2 => ?_⟩⟩⟩
    have nDe : e ≠ D := fun z => by rw [z, fD] at he; cases he
    refine lc_pure (i := 4) (us := ht) (g := fun z => V.str z.1) yields_tab (fun z => V.str z.1) (fun z => !decide (z.2 = .ref e) && touchF z.1 x) hD2 (fun H s => s _ _ upd_same) (fun H4 z s4 hz R' k => ?_) (fun H4 z s4 hz hp R' k => ⟨_, rfl, k H4 (Same.refl H4)⟩) (by omega) (fun H4 s4 h4 => ?_)
    · have d := dget_kT (.inr ⟨od2, s4 _ _ upd_same⟩) z.1
      rw [val_nodup ndh z hz] at d
      have he4 := s4 _ _ (show (upd H3 D (.frz od2 (.dK (kT ht)))) e = some (.ins CE ex fs) by rw [upd_ne nDe]; exact s3 _ _ he)
      obtain ⟨lz, e', dx', fs', e1, e2, e3⟩ := al z (sub z hz)
      have nD' : e' ≠ D := fun y => by rw [y, fD] at e2; cases e2
      have he5 := s4 _ _ (show (upd H3 D (.frz od2 (.dK (kT ht)))) e' = some (.ins CE dx' fs') by rw [upd_ne nD']; exact s3 _ _ e2)
      refine ⟨.ref D, rfl, .str z.1, rfl, D, z.2, rfl, d, .ref e, rfl, e', e, dx', ex, fs', fs, e1, rfl, he5, he4, _, rfl, ?_⟩
      have k := k H4 (Same.refl H4)
      by_cases c : e' = e
      · rw [decide_eq_true (show z.2 = .ref e by rw [e1, c]), Bool.not_true, Bool.false_and] at k
        rw [decide_eq_true c]
        exact iteF k
      · rw [decide_eq_false (show ¬ z.2 = .ref e by rw [e1]; exact fun y => c (V.ref.inj y)), Bool.not_false, Bool.true_and] at k
        rw [decide_eq_false c]
        exact iteT ⟨.str z.1, rfl, .str x, rfl, z.1, x, rfl, lz, hx, _, rfl, k⟩
    have s5 : Same H3 (upd H4 D (.dK (kT ht))) := same_unlock s4 h3
    have h5 : (upd H4 D (.dK (kT ht))) D2 = some (.lst ((barF kt opn e x).map V.str)) := by
      rw [upd_ne (lock_ne hD2), h4, eht]
      unfold barF
      rw [List.map_map]
      rfl
    have h5D : (upd H4 D (.dK (kT ht))) D = some (.dK (kT ht)) := upd_same
    refine ⟨s4 _ _ upd_same, ?_⟩
    generalize upd H4 D (.dK (kT ht)) = H5 at s5 h5 h5D
    have s05 := s3.trans s5
    refine ⟨.ref D2, rfl, !((barF kt opn e x).map V.str).isEmpty, .inl ⟨_, SqL.of h5, rfl⟩, ?_⟩
    have lb : (barF kt opn e x).length ≤ kt.length := by
      unfold barF
      rw [List.length_map]
      refine Nat.le_trans (List.length_filter_le _ _) ?_
      rw [← eht]
      exact lht
    cases hb : barF kt opn e x with
    | cons y r =>
      rw [hb] at h5 lb
      refine iteT ?_
      refine ⟨.ref D2, rfl, D2, y :: r, rfl, h5, by omega, fun ys p H6 hp hs hn s6 h6 => ?_⟩
      obtain ⟨y1, r1, rfl⟩ : ∃ y1 r1, ys = y1 :: r1 := by
        cases ys with
        | nil => exact absurd hp.length_eq (by simp)
        | cons a b => exact ⟨a, b, rfl⟩
      rw [hb] at q1
      exact ⟨p, _, 0, .str y1, rfl, rfl, SqT.of h6, (atI_nat (j := 0) rfl), (by show 1 ≤ 1000; decide), do_raise S.eL fun d H7 s7 _ h7 => q1 y1 r1 hp hs d H7 ((s05.trans s6).trans s7) h7⟩
    | nil =>
      rw [hb] at h5
      refine iteF ?_
      refine ⟨.ref e, rfl, .ref D, rfl, .str x, rfl, D, _, rfl, .inl ⟨kT ht, .inr x, h5D, rfl, small_lt (by rw [len_kT]; omega), rfl⟩, ?_⟩
      rw [putK_kT]
      have nDR : R ≠ D := fun z => by rw [z, fD] at hR; cases hR
      have hR6 : (upd H5 D (.dK (kT (putK ht x (.ref e))))) R = some (.ins CR dx (rf lk tb hd lg)) := by rw [upd_ne nDR]; exact s05 _ _ hR
      refine ⟨.ref D, rfl, .ref R, rfl, R, CR, dx, _, rfl, hR6, T.cR, T.nR_locks, (by show 4 < 1000; decide), ?_⟩
      have s06 : Same H (upd H5 D (.dK (kT (putK ht x (.ref e))))) := fun b o eb => by
        rw [upd_ne (ne_of_none eb fD)]
        exact s05 _ _ eb
      have ktk : TupKeep (upd H5 D (.dK (kT (putK ht x (.ref e))))) (upd (upd H5 D (.dK (kT (putK ht x (.ref e))))) R (.ins CR dx (rf D tb hd lg))) := TupKeep.at fun xs z => by rw [hR6] at z; cases z
      exact q2 hb D _ fD ((FrL.same s06).trans (FrL.at (List.mem_singleton_self R))) ((TupKeep.of s06).trans ktk) upd_same (by rw [upd_ne nDR.symm, upd_same, eht])
end

end Fk

set_option maxHeartbeats 4000000
namespace Fk
open PySem PySem.Spec PyProof.Rows L2
/-! ### calls that may be refused -/
section
variable {P : Program} {w : World} {K : PySem.W.Frag} {mg : Str → Option Value} {base : Heap} {CE CR cS cB iS iB ns r0 h0 l0 cL iL : Addr}
theorem LockT.same {H H' : Hp} {lk : Addr} {kt : Tab} {opn : V → Bool} (h : LockT H CE lk kt opn) (s : Same H H') : LockT H' CE lk kt opn :=
  ⟨s _ _ h.1, h.2.1, h.2.2.1, fun z hz => let ⟨a, e, dx, fs, b, c, d⟩ := h.2.2.2 z hz; ⟨a, e, dx, fs, b, s _ _ c, d⟩⟩
/-- what all calls that lock have in common: refused, or the locks behind -/
def Refuse (cL : Addr) (H : Hp) (kt : Tab) (opn : V → Bool) (e : Addr) (x : Str) (E : XK) : Prop := ∀ y r, (y :: r).Perm (barF kt opn e x) → sortedS (y :: r) = true → ∀ d H', Same H H' → H' d = some (.xd [("ref", .str y)]) → E (.ref cL) (some d) H'
theorem Refuse.same {H H1 : Hp} {kt : Tab} {opn : V → Bool} {e : Addr} {x : Str} {E : XK} (h : Refuse cL H kt opn e x E) (s : Same H H1) : Refuse cL H1 kt opn e x E := fun y r a b d H' s' c => h y r a b d H' (s.trans s') c
def spCallX (CE CR cL : Addr) : Sp := fun vs H Q E => ∃ (e ex R nt cl dx lk tb hd lg : Addr) (nh : V) (x : Str) (v : V) (cs : List (Str × V × V)) (kt : Tab) (opn : V → Bool), vs = [.ref e, .str x, v, .str ""] ∧ H e = some (.ins CE ex (ef R nt cl nh false)) ∧ H R = some (.ins CR dx (rf lk tb hd lg)) ∧ LockT H CE lk kt opn ∧ x.length ≤ 1000 ∧ CallsAt H cl cs ∧ cs.length < 64 ∧ Refuse cL H kt opn e x E ∧
  (barF kt opn e x = [] → ∀ lk' H', H lk' = none → FrL [R, cl] H H' → TupKeep H H' → H' R = some (.ins CR dx (rf lk' tb hd lg)) → H' lk' = some (.dK (kT (putK (openT kt opn) x (.ref e)))) → CallsAt H' cl (callPut cs x v (.str "")) → Q .non H')
theorem m_EditcallX (S : TopL K mg CE CR cS cB iS iB ns r0 h0 l0 cL iL) : MetX P w K mg base (L2.CX P w) 4 CE "_call" (spCallX CE CR cL) [] := by
  have T := S.toTopR
  refine metX_of T.cE T.m_Editcall sc_Editcall (fun _ _ _ _ _ _ us hl => match us, hl with | [_, _, _, _], _ => rfl) (fun vs H Q E h => ?_) (fun f cdv A outer s H vs Q E hr h => ?_)
  · obtain ⟨E, ex, R, nt, cl, dx, lk, tb, hd, lg, nh, x, v, cs, kt, opn, rfl, _⟩ := h
    rfl
  · obtain ⟨e, ex, R, nt, cl, dx, lk, tb, hd, lg, nh, x, v, cs, kt, opn, rfl, he, hR, hk, hx, ⟨zs, ez, hc, hz⟩, hl, qr, q⟩ := h
    refine ⟨_, (pss_cons (ps_if (PW.pt (pw_and (pt_cmpR op_notN (pv 3) pe_non (nomark _)) (pw_and (pt_cmpR op_ne (pv 3) pe_str (nomark _)) (pw_and1 (pt_not (pt_val (C8.pe_c (c_is_id T.toTop) hr (by decide) (by rfl) (pa_cons (pv 3) pa_nil))))))))
      (pss_one ps_never)
      pss_nil)
      (pss_cons (ps_expr (pe_mx (m_Refs_lockX S) hr (by decide) (fun _ => passAt (takes_of rfl rfl rfl rfl) _) (pe_fld (pv 0) rfl) (pa_cons (pv 1) (pa_cons (pv 0) pa_nil))))
      (pss_cons (ps_expr (pe_dpop2 (pe_fld (pv 0) rfl) (pv 1) pe_non ⟨rfl, rfl, rfl, rfl⟩))
      (pss_one (ps_dput (hu_of hr) (pe_fld (pv 0) rfl) (pv 1) (pe_tup (pa_cons (pv 2) (pa_cons (pv 3) pa_nil))) rfl))))), ?_⟩
    have nRe : e ≠ R := at_ne he hR fun z => by injection z with z; exact T.ne z
    have ncR : cl ≠ R := at_ne hc hR fun z => nomatch z
    have nce : cl ≠ e := at_ne hc he fun z => nomatch z
    refine ⟨.str "", rfl, rfl, _, rfl, iteT ⟨.str "", rfl, rfl, _, rfl, iteF (iteF ?_)⟩⟩
    refine ⟨.ref e, rfl, e, CE, ex, _, _, rfl, he, T.cE, T.nE_refs, rfl, R, dx, _, rfl, hR, rfl, .str x, rfl, .ref e, rfl, R, e, dx, ex, lk, tb, hd, lg, _, x, kt, opn, rfl, hR, he, hk, hx, qr, fun hb lk' H2 nlk f2 k2 hR2 hk2 => ?_⟩
    have he2 := f2.out he (not1 nRe)
    have hc2 := f2.out hc (not1 ncR)
    have nkc : lk' ≠ cl := fun z => by rw [z, hc] at nlk; cases nlk
    have rest : ∀ H3, FrL [cl] H2 H3 → TupKeep H2 H3 → H3 cl = some (.dK (kT (dropK (zs.map fun z => (z.2.1, V.ref z.1)) x))) →
        sDPut (tFld K (tVar 0) "_calls") (tVar 1) (tTup (tCons (tVar 2) (tCons (tVar 3) tNil))) { nx := fun x H' => Q V.non H', rt := Q } [some (.ref e), some (.str x), some v, some (.str "")] H3 := fun H3 f3 k3 hc3 => by
      have he3 := f3.out he2 (not1 nce.symm)
      have hR3 := f3.out hR2 (not1 ncR.symm)
      refine ⟨v, rfl, .str "", rfl, (by show 2 ≤ sizeLine; decide), fun p hp => ?_⟩
      have s4 := same_new (o := .tup [v, .str ""]) hp
      refine ⟨.ref e, rfl, e, CE, ex, _, _, rfl, s4 _ _ he3, T.cE, T.nE_calls, rfl, .str x, rfl, cl, _, rfl, .inl ⟨_, .inr x, s4 _ _ hc3, rfl, small_lt ?_, rfl⟩, ?_⟩
      · rw [len_kT]
        have := dropK_le (zs.map fun z => (z.2.1, V.ref z.1)) x
        rw [List.length_map] at this
        have : zs.length = cs.length := by rw [← ez, List.length_map]
        omega
      rw [putK_kT]
      have hc4 := s4 _ _ hc3
      have ph : (upd H3 p (.tup [v, .str ""])) p = some (.tup [v, .str ""]) := upd_same
      generalize upd H3 p (.tup [v, .str ""]) = H4 at s4 hc4 ph
      have k5 : TupKeep H4 (upd H4 cl (.dK (kT (putK (dropK (zs.map fun z => (z.2.1, V.ref z.1)) x) x (.ref p))))) := TupKeep.at fun xs z => by rw [hc4] at z; cases z
      have f25 : FrL [cl] H2 (upd H4 cl (.dK (kT (putK (dropK (zs.map fun z => (z.2.1, V.ref z.1)) x) x (.ref p))))) := (f3.trans (FrL.same s4)).trans (FrL.at (List.mem_singleton_self cl))
      have k05 := ((k2.trans k3).trans (TupKeep.of s4)).trans k5
      refine q hb lk' _ nlk ((f2.mono fun a ha => by rw [List.mem_singleton.mp ha]; exact List.mem_cons_self).trans (f25.mono fun a ha => by rw [List.mem_singleton.mp ha]; exact List.mem_cons_of_mem _ List.mem_cons_self)) k05 (f25.out hR2 (not1 ncR.symm)) (f25.out hk2 (not1 nkc)) ?_
      rw [← ez]
      exact calls_put upd_same (fun z h => k05 _ _ (hz z h)) (k5 _ _ ph)
    refine ⟨.ref e, rfl, e, CE, ex, _, _, rfl, he2, T.cE, T.nE_calls, rfl, cl, rfl, .inl ⟨_, .inl hc2⟩, .str x, rfl, _, .inr x, hc2, rfl, fun v' _ => ?_, fun hv => ?_⟩
    · rw [dropK_kT]
      exact rest _ (FrL.at (List.mem_singleton_self cl)) (TupKeep.at fun xs z => by rw [hc2] at z; cases z) upd_same
    · refine rest H2 (FrL.refl _ _) (TupKeep.refl _) ?_
      rw [valV_kT] at hv
      rw [dropK_no (valV_not hv)]
      exact hc2
def spPointX (CE CR cL : Addr) : Sp := fun vs H Q E => ∃ (e ex R nt cl dx lk tb hd lg : Addr) (nh : V) (x y : Str) (cs : List (Str × V × V)) (kt : Tab) (opn : V → Bool), vs = [.ref e, .str x, .str y, .str ""] ∧ H e = some (.ins CE ex (ef R nt cl nh false)) ∧ H R = some (.ins CR dx (rf lk tb hd lg)) ∧ LockT H CE lk kt opn ∧ CallsAt H cl cs ∧ cs.length < 64 ∧
  isRefF x = true ∧ x.length ≤ 1000 ∧ OkS x ∧ isIdF y = true ∧ y.length ≤ 1000 ∧ OkS y ∧ Refuse cL H kt opn e x E ∧
  (barF kt opn e x = [] → ∀ lk' H', H lk' = none → FrL [R, cl] H H' → TupKeep H H' → H' R = some (.ins CR dx (rf lk' tb hd lg)) → H' lk' = some (.dK (kT (putK (openT kt opn) x (.ref e)))) → CallsAt H' cl (callPut cs x (.str y) (.str "")) → Q .non H')
theorem m_Edit_pointX (S : TopL K mg CE CR cS cB iS iB ns r0 h0 l0 cL iL) : MetX P w K mg base (L2.CX P w) 5 CE "point" (spPointX CE CR cL) [V.str ""] := by
  have T := S.toTopR
  obtain ⟨f, fd, ds, M, F, d, b⟩ := S.kP0
  refine metX_dv T.cE M F d b sc_Edit_point (fun vs H Q E h => ?_) (fun cdv A outer s H vs Q E hr h => ?_)
  · obtain ⟨E, ex, R, nt, cl, dx, lk, tb, hd, lg, nh, x, y, cs, kt, opn, rfl, _⟩ := h
    rfl
  · obtain ⟨e, ex, R, nt, cl, dx, lk, tb, hd, lg, nh, x, y, cs, kt, opn, rfl, he, hR, hk, hc, hl, x1, x2, x3, y1, y2, y3, qr, q⟩ := h
    refine ⟨_, (pss_cons (ps_expr (C8.pe_mt0 (m_Editcheck_open T) hr (by decide) (pv 0)))
      (pss_cons (ps_if (pt_not (pt_val (C8.pe_c (c_is_ref T.toTop) hr (by decide) (by rfl) (pa_cons (pv 1) pa_nil))))
      (pss_one (ps_raise rfl (takes_of rfl rfl rfl rfl) (rs_of T.eB (hr.mono (by decide)) (by rfl) (pa_cons pe_str pa_nil))))
      pss_nil)
      (pss_cons (ps_if (pt_not (pt_val (C8.pe_c (c_is_id T.toTop) hr (by decide) (by rfl) (pa_cons (pv 2) pa_nil))))
      (pss_one ps_never)
      pss_nil)
      (pss_one (ps_expr (pe_mx (m_EditcallX S) hr (by decide) (fun _ => passAt (takes_of rfl rfl rfl rfl) _) (pv 0) (pa_cons (pv 1) (pa_cons (pv 2) (pa_cons (pv 3) pa_nil))))))))), ?_⟩
    refine ⟨.ref e, rfl, e, ex, _, rfl, he, rfl, e, ex, R, nt, cl, nh, rfl, he, ?_⟩
    refine ⟨.str x, rfl, .str x, rfl, .str x (by omega) x3, fun H1 s1 => ⟨_, rfl, ?_⟩⟩
    rw [show evalV isRefF (.str x) = true from x1]
    refine iteF ⟨.str y, rfl, .str y, rfl, .str y (by omega) y3, fun H2 s2 => ⟨_, rfl, ?_⟩⟩
    rw [show evalV isIdF (.str y) = true from y1]
    have s12 := s1.trans s2
    refine iteF ⟨.ref e, rfl, e, ex, _, rfl, s12 _ _ he, rfl, .str x, rfl, .str y, rfl, .str "", rfl, e, ex, R, nt, cl, dx, lk, tb, hd, lg, nh, x, .str y, cs, kt, opn, rfl, s12 _ _ he, s12 _ _ hR, hk.same s12, x2, hc.keep (TupKeep.of s12) (fun o eo => s12 _ _ eo), hl, qr.same s12, fun hb lk' H3 nlk f3 k3 hR3 hk3 hc3 => ?_⟩
    exact q hb lk' H3 (s12.free nlk) ((FrL.same s12).trans f3) ((TupKeep.of s12).trans k3) hR3 hk3 hc3
def spDeleteX (CE CR cL : Addr) : Sp := fun vs H Q E => ∃ (e ex R nt cl dx lk tb hd lg : Addr) (nh : V) (x : Str) (cs : List (Str × V × V)) (kt : Tab) (opn : V → Bool), vs = [.ref e, .str x, .str ""] ∧ H e = some (.ins CE ex (ef R nt cl nh false)) ∧ H R = some (.ins CR dx (rf lk tb hd lg)) ∧ LockT H CE lk kt opn ∧ CallsAt H cl cs ∧ cs.length < 64 ∧
  isRefF x = true ∧ x.length ≤ 1000 ∧ OkS x ∧ Refuse cL H kt opn e x E ∧
  (barF kt opn e x = [] → ∀ lk' H', H lk' = none → FrL [R, cl] H H' → TupKeep H H' → H' R = some (.ins CR dx (rf lk' tb hd lg)) → H' lk' = some (.dK (kT (putK (openT kt opn) x (.ref e)))) → CallsAt H' cl (callPut cs x .non (.str "")) → Q .non H')
theorem m_Edit_deleteX (S : TopL K mg CE CR cS cB iS iB ns r0 h0 l0 cL iL) : MetX P w K mg base (L2.CX P w) 5 CE "delete" (spDeleteX CE CR cL) [V.str ""] := by
  have T := S.toTopR
  obtain ⟨f, fd, ds, M, F, d, b⟩ := S.kD0
  refine metX_dv T.cE M F d b sc_Edit_delete (fun vs H Q E h => ?_) (fun cdv A outer s H vs Q E hr h => ?_)
  · obtain ⟨E, ex, R, nt, cl, dx, lk, tb, hd, lg, nh, x, cs, kt, opn, rfl, _⟩ := h
    rfl
  · obtain ⟨e, ex, R, nt, cl, dx, lk, tb, hd, lg, nh, x, cs, kt, opn, rfl, he, hR, hk, hc, hl, x1, x2, x3, qr, q⟩ := h
    refine ⟨_, (pss_cons (ps_expr (C8.pe_mt0 (m_Editcheck_open T) hr (by decide) (pv 0)))
      (pss_cons (ps_if (pt_not (pt_val (C8.pe_c (c_is_ref T.toTop) hr (by decide) (by rfl) (pa_cons (pv 1) pa_nil))))
      (pss_one (ps_raise rfl (takes_of rfl rfl rfl rfl) (rs_of T.eB (hr.mono (by decide)) (by rfl) (pa_cons pe_str pa_nil))))
      pss_nil)
      (pss_one (ps_expr (pe_mx (m_EditcallX S) hr (by decide) (fun _ => passAt (takes_of rfl rfl rfl rfl) _) (pv 0) (pa_cons (pv 1) (pa_cons pe_non (pa_cons (pv 2) pa_nil)))))))), ?_⟩
    refine ⟨.ref e, rfl, e, ex, _, rfl, he, rfl, e, ex, R, nt, cl, nh, rfl, he, ?_⟩
    refine ⟨.str x, rfl, .str x, rfl, .str x (by omega) x3, fun H1 s12 => ⟨_, rfl, ?_⟩⟩
    rw [show evalV isRefF (.str x) = true from x1]
    refine iteF ⟨.ref e, rfl, e, ex, _, rfl, s12 _ _ he, rfl, .str x, rfl, .str "", rfl, e, ex, R, nt, cl, dx, lk, tb, hd, lg, nh, x, .non, cs, kt, opn, rfl, s12 _ _ he, s12 _ _ hR, hk.same s12, x2, hc.keep (TupKeep.of s12) (fun o eo => s12 _ _ eo), hl, qr.same s12, fun hb lk' H3 nlk f3 k3 hR3 hk3 hc3 => ?_⟩
    exact q hb lk' H3 (s12.free nlk) ((FrL.same s12).trans f3) ((TupKeep.of s12).trans k3) hR3 hk3 hc3
def spStandX (CE CR cL : Addr) : Sp := fun vs H Q E => ∃ (e ex R nt cl dx lk tb hd lg : Addr) (nh : V) (y : Str) (kt : Tab) (opn : V → Bool), vs = [.ref e, .str "ref", .str y] ∧ H e = some (.ins CE ex (ef R nt cl nh false)) ∧ H R = some (.ins CR dx (rf lk tb hd lg)) ∧ LockT H CE lk kt opn ∧ isRefF y = true ∧ y.length ≤ 1000 ∧ OkS y ∧ Refuse cL H kt opn e "HEAD" E ∧
  (barF kt opn e "HEAD" = [] → ∀ lk' h H', H lk' = none → FrL [R, e] H H' → TupKeep H H' → H' R = some (.ins CR dx (rf lk' tb hd lg)) → H' e = some (.ins CE ex (ef R nt cl (.ref h) false)) → H' h = some (.tup [.str "ref", .str y]) → H' lk' = some (.dK (kT (putK (openT kt opn) "HEAD" (.ref e)))) → Q .non H')
theorem m_Edit_standX (S : TopL K mg CE CR cS cB iS iB ns r0 h0 l0 cL iL) : MetX P w K mg base (L2.CX P w) 5 CE "stand" (spStandX CE CR cL) [] := by
  have T := S.toTopR
  refine metX_of T.cE T.m_Edit_stand sc_Edit_stand (fun _ _ _ _ _ _ us hl => match us, hl with | [_, _, _], _ => rfl) (fun vs H Q E h => ?_) (fun f cdv A outer s H vs Q E hr h => ?_)
  · obtain ⟨E, ex, R, nt, cl, dx, lk, tb, hd, lg, nh, y, kt, opn, rfl, _⟩ := h
    rfl
  · obtain ⟨e, ex, R, nt, cl, dx, lk, tb, hd, lg, nh, y, kt, opn, rfl, he, hR, hk, y1, y2, y3, qr, q⟩ := h
    refine ⟨_, (pss_cons (ps_expr (C8.pe_mt0 (m_Editcheck_open T) hr (by decide) (pv 0)))
      (pss_cons (ps_if (PW.pt (pw_and (pt_cmpR op_eq (pv 1) pe_str (nomark _)) (pw_and1 (pt_not (pt_val (C8.pe_c (c_is_ref T.toTop) hr (by decide) (by rfl) (pa_cons (pv 2) pa_nil)))))))
      (pss_one (ps_raise rfl (takes_of rfl rfl rfl rfl) (rs_of T.eB (hr.mono (by decide)) (by rfl) (pa_cons pe_str pa_nil))))
      pss_nil)
      (pss_cons (ps_if (pt_not (pt_val (C8.pe_c (c_is_head T.toTop) hr (by decide) (by rfl) (pa_cons (pe_tup (pa_cons (pv 1) (pa_cons (pv 2) pa_nil))) pa_nil))))
      (pss_one ps_never)
      pss_nil)
      (pss_cons (ps_expr (pe_mx (m_Refs_lockX S) hr (by decide) (fun _ => passAt (takes_of rfl rfl rfl rfl) _) (pe_fld (pv 0) rfl) (pa_cons pe_str (pa_cons (pv 0) pa_nil))))
      (pss_one (ps_fld (pv 0) (pe_tup (pa_cons (pv 1) (pa_cons (pv 2) pa_nil))) rfl)))))), ?_⟩
    have nRe : e ≠ R := at_ne he hR fun z => by injection z with z; exact T.ne z
    refine ⟨.ref e, rfl, e, ex, _, rfl, he, rfl, e, ex, R, nt, cl, nh, rfl, he, ?_⟩
    refine ⟨.str "ref", rfl, rfl, _, rfl, iteT ⟨.str y, rfl, .str y, rfl, .str y (by omega) y3, fun H1 s1 => ⟨_, rfl, ?_⟩⟩⟩
    rw [show evalV isRefF (.str y) = true from y1]
    refine iteF ⟨.str "ref", rfl, .str y, rfl, (by show 2 ≤ sizeLine; decide), fun p hp => ⟨p, "ref", y, rfl, upd_same, ⟨.inl ⟨rfl, y1⟩, y2, y3⟩, fun H2 s2 => ⟨_, rfl, iteF ?_⟩⟩⟩
    have s3 := (s1.trans (same_new hp)).trans s2
    refine ⟨.ref e, rfl, e, CE, ex, _, _, rfl, s3 _ _ he, T.cE, T.nE_refs, rfl, R, dx, _, rfl, s3 _ _ hR, rfl, .ref e, rfl, R, e, dx, ex, lk, tb, hd, lg, _, "HEAD", kt, opn, rfl, s3 _ _ hR, s3 _ _ he, hk.same s3, (by decide +kernel), qr.same s3, fun hb lk' H4 nlk f4 k4 hR4 hk4 => ?_⟩
    have he4 := f4.out (s3 _ _ he) (not1 nRe)
    refine ⟨.str "ref", rfl, .str y, rfl, (by show 2 ≤ sizeLine; decide), fun h hh' => ?_⟩
    have s5 := same_new (o := .tup [.str "ref", .str y]) hh'
    refine ⟨.ref e, rfl, e, CE, ex, _, rfl, s5 _ _ he4, T.cE, T.nE_new_head, (by show 5 < 1000; decide), ?_⟩
    have k5 : TupKeep (upd H4 h (.tup [.str "ref", .str y])) (upd (upd H4 h (.tup [.str "ref", .str y])) e (.ins CE ex (ef R nt cl (.ref h) false))) := TupKeep.at fun xs z => by rw [s5 _ _ he4] at z; cases z
    have f5 : FrL [e] H4 (upd (upd H4 h (.tup [.str "ref", .str y])) e (.ins CE ex (ef R nt cl (.ref h) false))) := (FrL.same s5).trans (FrL.at (List.mem_singleton_self e))
    exact q hb lk' h _ (s3.free nlk) ((FrL.same s3).trans ((f4.mono fun a ha => by rw [List.mem_singleton.mp ha]; exact List.mem_cons_self).trans (f5.mono fun a ha => by rw [List.mem_singleton.mp ha]; exact List.mem_cons_of_mem _ List.mem_cons_self)))
      (((TupKeep.of s3).trans k4).trans ((TupKeep.of s5).trans k5)) (f5.out hR4 (not1 nRe.symm)) upd_same (k5 _ _ upd_same) (f5.out hk4 (not1 (at_ne hk4 he4 fun z => nomatch z)))
end

end Fk

set_option maxHeartbeats 4000000
/-! Frames one after the other; logs that stay; references and a model that agree, moved to another heap. -/
namespace Fk
open PySem PySem.Spec PyProof.Rows L2
theorem FrL.then {L M : List Addr} {H H1 H2 : Hp} (f : FrL L H H1) (g : FrL M H1 H2) (h : ∀ b ∈ M, b ∈ L ∨ H b = none) : FrL L H H2 := fun b o n e =>
  g b o (fun hm => (h b hm).elim n (fun z => by rw [e] at z; cases z)) (f b o n e)
theorem FrL.then1 {L : List Addr} {a : Addr} {H H1 H2 : Hp} (f : FrL L H H1) (g : FrL [a] H1 H2) (h : a ∈ L ∨ H a = none) : FrL L H H2 := f.then g fun b hb => by rw [List.mem_singleton.mp hb]; exact h
theorem FrL.free {L : List Addr} {H H1 : Hp} (f : FrL L H H1) {b : Addr} (n : b ∉ L) (e : H1 b = none) : H b = none := by
  cases c : H b with
  | none => rfl
  | some o => rw [f b o n c] at e; cases e
theorem val_mem {t : Tab} {x : Str} {v : V} (h : valV t x = some v) : (x, v) ∈ t := by
  unfold valV at h
  cases c : t.find? fun kv => decide (kv.1 = x) with
  | none => rw [c] at h; cases h
  | some p =>
    rw [c] at h
    have m := List.mem_of_find?_eq_some c
    have e : p.1 = x := by have := List.find?_some (p := fun kv : Str × V => decide (kv.1 = x)) c; exact of_decide_eq_true this
    obtain ⟨a, b⟩ := p
    cases h
    cases e
    exact m
theorem Tups.cons {H : Hp} {a : Addr} {as : List Addr} {l : List V} {ls : List (List V)} (h : H a = some (.tup l)) (t : Tups H as ls) : Tups H (a :: as) (l :: ls) := by
  refine ⟨by rw [List.length_cons, List.length_cons, t.1], fun i b m h1 h2 => ?_⟩
  cases i with
  | zero => cases h1; cases h2; exact h
  | succ j => exact t.2 j b m h1 h2
theorem Tups.head {H : Hp} {a : Addr} {as : List Addr} {l : List V} {ls : List (List V)} (t : Tups H (a :: as) (l :: ls)) : H a = some (.tup l) := t.2 0 a l rfl rfl
theorem Tups.tail {H : Hp} {a : Addr} {as : List Addr} {l : List V} {ls : List (List V)} (t : Tups H (a :: as) (l :: ls)) : Tups H as ls := ⟨by have := t.1; rw [List.length_cons, List.length_cons] at this; omega, fun i b m h1 h2 => t.2 (i + 1) b m h1 h2⟩
theorem tups_filter {α : Type} {H : Hp} (f : α → List V) (p : α → Bool) : ∀ (cs : List α) (as : List Addr), Tups H as (cs.map f) → ∃ bs : List Addr, ((as.zip cs).filter fun z => p z.2).map (fun z => V.ref z.1) = bs.map V.ref ∧ Tups H bs ((cs.filter p).map f)
  | [], as, _ => ⟨[], by rw [List.zip_nil_right]; rfl, Tups.nil⟩
  | c :: cs, [], t => absurd t.1 (by simp)
  | c :: cs, a :: as, t => by
    obtain ⟨bs, e, tb⟩ := tups_filter f p cs as t.tail
    rw [List.zip_cons_cons, List.filter_cons, List.filter_cons]
    by_cases h : p c = true
    · refine ⟨a :: bs, ?_, ?_⟩
      · rw [if_pos h, List.map_cons, List.map_cons, e]
      · rw [if_pos h, List.map_cons]
        exact Tups.cons t.head tb
    · refine ⟨bs, ?_, ?_⟩
      · rw [if_neg h, e]
      · rw [if_neg h]
        exact tb
theorem int_refs {x y z : Int} {as : List Addr} : ([V.int x, .int y, .int z] : List V) ≠ as.map V.ref := fun h => by
  cases as with
  | nil => cases h
  | cons b r => injection h with h _; cases h
theorem LogsL.out {H H' : Hp} {t : Tab} {L : Str → List (List V)} {M : List Addr} (h : LogsL H t L) (k : TupKeep H H') (f : FrL M H H') (n : ∀ b ∈ M, ∀ as : List Addr, H b ≠ some (.lst (as.map V.ref))) : LogsL H' t L := fun x =>
  (h x).imp id fun ⟨p, as, a, b, c⟩ => ⟨p, as, a, f p _ (fun hm => n p hm as b) b, c.keep k⟩
theorem CallsL.out {H H' : Hp} {lc : Addr} {cs : List (Str × V × V)} {M : List Addr} (h : CallsL H lc cs) (k : TupKeep H H') (f : FrL M H H') (n : lc ∉ M) : CallsL H' lc cs := by
  obtain ⟨as, a, b⟩ := h
  exact ⟨as, f lc _ n a, b.keep k⟩
theorem CallsL.same {H H' : Hp} {lc : Addr} {cs : List (Str × V × V)} (h : CallsL H lc cs) (s : Same H H') : CallsL H' lc cs := by
  obtain ⟨as, a, b⟩ := h
  exact ⟨as, s _ _ a, b.keep (TupKeep.of s)⟩
theorem callPut_nd {cs : List (Str × V × V)} {x : Str} {v o : V} (h : (cs.map (·.1)).Nodup) : ((callPut cs x v o).map (·.1)).Nodup := by
  unfold callPut
  rw [List.map_append, List.nodup_append]
  refine ⟨List.Nodup.sublist ((List.filter_sublist).map _) h, by simp, fun a ha b hb => ?_⟩
  obtain ⟨c, hc, rfl⟩ := List.mem_map.mp ha
  have := of_decide_eq_true (List.mem_filter.mp hc).2
  simp at hb
  rw [hb]
  exact this
theorem callPut_len (cs : List (Str × V × V)) (x : Str) (v o : V) : (callPut cs x v o).length ≤ cs.length + 1 := by
  unfold callPut
  rw [List.length_append]
  have := List.length_filter_le (fun c : Str × V × V => decide (c.1 ≠ x)) cs
  show _ + 1 ≤ _
  omega
theorem mem_callPut {cs : List (Str × V × V)} {x : Str} {v o : V} {c : Str × V × V} (h : c ∈ callPut cs x v o) : c ∈ cs ∨ c = (x, v, o) := by
  rcases List.mem_append.mp h with h | h
  · exact .inl (List.mem_filter.mp h).1
  · exact .inr (List.mem_singleton.mp h)
end Fk

set_option maxHeartbeats 4000000
/-! A comprehension over zip of two tuples. -/
namespace Fk
open PySem PySem.Spec PyProof.Rows L2 RZ
theorem lc_zipT {K : PySem.W.Frag} {a b D : Addr} {xs ys : List V} {σ : L2.St} {vs : List Nat} {g : TG} {tt : TT} {te : TE} {Q : Hp → Prop} {H1 : Hp} {n : Nat} (f : Nat → V) (hD1 : H1 D = none) (ha : ∀ H, Same H1 H → SqT K H a xs) (hb : ∀ H, Same H1 H → SqT K H b ys)
    (hx : n ≤ xs.length) (hy : n ≤ ys.length) (hn : xs.length ≤ n ∨ ys.length ≤ n) (hl : n ≤ 1000000)
    (hs : ∀ i x y T H, i < n → xs[i]? = some x → ys[i]? = some y → Same H1 H → H T = some (.tup [x, y]) → ∀ (N : VK) (M : Hp → Prop), (∀ H3, Same H H3 → N (f i) H3) →
      g (.ref T) (wipe σ vs) H fun σ2 H2 => wipe σ2 vs = wipe σ vs ∧ tt σ2 H2 fun bb H3 => if bb = true then te σ2 H3 N else M H3)
    (hd : ∀ H, Same H1 H → H D = some (.lst ((List.range n).map f)) → Q H) :
    ∃ W : Nat → Nat → Hp → Prop, (∃ m, W 0 m (upd H1 D (.lst []))) ∧ ∀ k m H, W k m H →
      ((ItzT K a b).stop k H ∧ Q H) ∨ ((ItzT K a b).go k H ∧ ∃ Nx : Hp → Prop, (∀ H', Nx H' → ∃ m', m' < m ∧ W (k + 1) m' H') ∧ ∀ x H', (ItzT K a b).yld k H x H' → g x (wipe σ vs) H' fun σ2 H2 => wipe σ2 vs = wipe σ vs ∧ tt σ2 H2 fun bb H3 =>
        if bb = true then te σ2 H3 fun y H4 => ∃ acc, H4 D = some (.lst acc) ∧ acc.length < sizeLine ∧ Nx (upd H4 D (.lst (acc ++ [y]))) else Nx H3) := by
  refine ⟨fun k m H => m = n - k ∧ k ≤ n ∧ Same H1 H ∧ H D = some (.lst ((List.range k).map f)), ⟨n, by omega, Nat.zero_le _, same_new hD1, upd_same⟩, ?_⟩
  rintro k m H ⟨rfl, hk, s1, hD⟩
  by_cases hlt : k < n
  · have lx : k < xs.length := by omega
    have ly : k < ys.length := by omega
    refine .inr ⟨⟨xs, ys, xs[k], ys[k], ha H s1, hb H s1, List.getElem?_eq_getElem lx, List.getElem?_eq_getElem ly⟩, fun H' => Same H1 H' ∧ H' D = some (.lst ((List.range (k + 1)).map f)), fun H' q => ⟨n - (k + 1), by omega, rfl, hlt, q⟩, fun x H' y => ?_⟩
    obtain ⟨T, u, v, rfl, hT, rfl, gx, gy⟩ := y
    have s2 := same_new (o := .tup [u, v]) hT
    refine hs k u v T _ hlt (gx xs (ha H s1)) (gy ys (hb H s1)) (s1.trans s2) upd_same _ _ fun H3 s3 => ⟨_, s3 _ _ (s2 _ _ hD), small_lt (by rw [List.length_map, List.length_range]; omega), fun c o e => ?_, ?_⟩
    · rw [upd_ne (ne_of_none e hD1)]
      exact s3 _ _ (s2 _ _ (s1 _ _ e))
    · rw [upd_same, List.range_succ, List.map_append]
      rfl
  · have e : k = n := by omega
    subst e
    exact .inl ⟨⟨xs, ys, ha H s1, hb H s1, hn⟩, hd H s1 hD⟩
theorem lc_gen {α : Type} {J : It} {us : List α} {val : α → V} {G : Hp → Prop} {H1 : Hp} {D : Addr} {σ : L2.St} {vs : List Nat} {g : TG} {tt : TT} {te : TE} {Q : Hp → Prop} (Y : Yields J (us.map val) G) (f : α → V) (p : α → Bool) (σf : α → L2.St) (hD1 : H1 D = none) (hG : ∀ H, Same H1 H → G H) (hw : ∀ u ∈ us, wipe (σf u) vs = wipe σ vs)
    (hg : ∀ H u, Same H1 H → u ∈ us → ∀ (R : L2.St → Hp → Prop), R (σf u) H → g (val u) (wipe σ vs) H R)
    (ht : ∀ H u, Same H1 H → u ∈ us → ∀ (R : Bool → Hp → Prop), (∀ H3, Same H H3 → R (p u) H3) → tt (σf u) H R)
    (he : ∀ H u, Same H1 H → u ∈ us → p u = true → ∀ (R : VK), (∀ H3, Same H H3 → R (f u) H3) → te (σf u) H R)
    (hl : us.length ≤ 1000000) (hd : ∀ H, Same H1 H → H D = some (.lst ((us.filter p).map f)) → Q H) :
    ∃ W : Nat → Nat → Hp → Prop, (∃ m, W 0 m (upd H1 D (.lst []))) ∧ ∀ k m H, W k m H →
      (J.stop k H ∧ Q H) ∨ (J.go k H ∧ ∃ Nx : Hp → Prop, (∀ H', Nx H' → ∃ m', m' < m ∧ W (k + 1) m' H') ∧ ∀ x H', J.yld k H x H' → g x (wipe σ vs) H' fun σ2 H2 => wipe σ2 vs = wipe σ vs ∧ tt σ2 H2 fun b H3 =>
        if b = true then te σ2 H3 fun y H4 => ∃ acc, H4 D = some (.lst acc) ∧ acc.length < sizeLine ∧ Nx (upd H4 D (.lst (acc ++ [y]))) else Nx H3) := by
  refine lcG Y (fun k acc H => Same H1 H ∧ acc = ((us.take k).filter p).map f) (fun k acc H h _ => hG H h.1) ⟨same_new hD1, rfl⟩ (fun k acc H x hI hD hx hacc hk => ?_) (by rw [List.length_map]; exact hl) (fun acc H hI hD _ => ?_)
  · obtain ⟨sm, ea⟩ := hI
    rw [List.getElem?_map] at hx
    cases hu : us[k]? with
    | none => rw [hu] at hx; cases hx
    | some u =>
      rw [hu] at hx
      cases hx
      have hm : u ∈ us := List.mem_of_getElem? hu
      have et : us.take (k + 1) = us.take k ++ [u] := by
        rw [List.take_add_one, hu]
        rfl
      refine hg H u sm hm _ ⟨hw u hm, ?_⟩
      refine ht H u sm hm _ (fun H3 s3 => ?_)
      by_cases hp : p u = true
      · rw [if_pos hp]
        refine he H3 u (sm.trans s3) hm hp _ (fun H4 s4 => ?_)
        refine lc_take (s4 _ _ (s3 _ _ hD)) hacc hk ⟨same_mut ((sm.trans s3).trans s4) hD1, ?_⟩
        rw [et, List.filter_append, List.map_append, List.filter_cons, hp, ea]
        rfl
      · rw [if_neg hp]
        refine lc_skip (s3 _ _ hD) hacc ⟨sm.trans s3, ?_⟩
        rw [et, List.filter_append, List.map_append, List.filter_cons, if_neg hp, ea]
        simp
  · obtain ⟨sm, ea⟩ := hI
    rw [List.length_map, List.take_length] at ea
    exact hd H sm (by rw [hD, ea])
def rLenQ (K : PySem.W.Frag) : List V → Hp → VK → Prop := fun xs H Q => ∃ p ys, xs = [.ref p] ∧ (SqL K H p ys ∨ SqT K H p ys) ∧ Q (.int ys.length) H
theorem ciK {X : Cx} {K : PySem.W.Frag} (h : X.K = K) : CallR X (.builtin "isinstance") (rIsi K) := h ▸ call_isi
theorem clK {X : Cx} {K : PySem.W.Frag} (h : X.K = K) : CallR X (.builtin "len") (rLenQ K) := h ▸ call_len_seq
end Fk

set_option maxHeartbeats 4000000
namespace Fk
open PySem PySem.Spec PyProof.Rows L2
/-! ### what an edit is told -/
theorem Wm.ne {H : Hp} {a b : Addr} {c : Int} {o : HO} (h : Wm H a c) (e : H b = some o) (n : ∀ l, o ≠ .lst l) : b ≠ a := fun z => by
  obtain ⟨_, _, _, _, _, h⟩ := h
  rw [z, h] at e
  cases e
  exact n _ rfl
theorem sub_a {a b c d : Addr} : ∀ x ∈ [a], x ∈ [a, b, c, d] := fun x hx => by rw [List.mem_singleton.mp hx]; exact List.mem_cons_self
theorem sub_cd {a b c d : Addr} : ∀ x ∈ [c, d], x ∈ [a, b, c, d] := fun x hx => List.mem_cons_of_mem _ (List.mem_cons_of_mem _ hx)
theorem sub_cb {a b c d : Addr} : ∀ x ∈ [c, b], x ∈ [a, b, c, d] := fun x hx => by
  simp only [List.mem_cons, List.not_mem_nil, or_false] at hx ⊢
  rcases hx with rfl | rfl <;> simp
theorem nin4 {a b c d x : Addr} (h1 : x ≠ a) (h2 : x ≠ b) (h3 : x ≠ c) (h4 : x ≠ d) : x ∉ [a, b, c, d] := fun h => by
  simp only [List.mem_cons, List.not_mem_nil, or_false] at h
  rcases h with rfl | rfl | rfl | rfl <;> contradiction
theorem not4 {a b c d x : Addr} (h1 : x ≠ a) (h2 : x ≠ b) (h3 : x ≠ c) (h4 : x ≠ d) : ∀ y ∈ [a, b, c, d], x ≠ y := fun y hy => by
  simp only [List.mem_cons, List.not_mem_nil, or_false] at hy
  rcases hy with rfl | rfl | rfl | rfl <;> assumption
def GoodV (v : V) : Prop := v = .non ∨ ∃ y ∈ IDS, v = .str y
def GoodC (cs : List (Str × V × V)) : Prop := (cs.map (·.1)).Nodup ∧ ∀ c ∈ cs, c.1 ∈ REFS ∧ GoodV c.2.1 ∧ HadOk c.2.2
theorem GoodV.had {v : V} (h : GoodV v) : HadOk v := by
  rcases h with rfl | ⟨y, hy, rfl⟩
  · exact .inl rfl
  · obtain ⟨a, b, c⟩ := ids_ok y hy
    exact .inr (.inr ⟨y, rfl, a, b, c⟩)
theorem GoodV.flat {v : V} (h : GoodV v) : flatN v := by
  rcases h with rfl | ⟨y, hy, rfl⟩ <;> exact True.intro
theorem had_flat {v : V} (h : HadOk v) : flatN v := by
  rcases h with rfl | rfl | ⟨y, rfl, _⟩ <;> exact True.intro
theorem good_nil : GoodC [] := ⟨List.nodup_nil, fun _ h => (List.not_mem_nil h).elim⟩
theorem good_put {cs : List (Str × V × V)} {x : Str} {v o : V} (g : GoodC cs) (hx : x ∈ REFS) (hv : GoodV v) (ho : HadOk o) : GoodC (callPut cs x v o) :=
  ⟨callPut_nd g.1, fun c hc => (mem_callPut hc).elim (g.2 c) fun e => by rw [e]; exact ⟨hx, hv, ho⟩⟩
def StandAt (H : Hp) (st nh : V) : Prop := (st = .non ∧ nh = .non) ∨ ∃ (sp hp : Addr) (hx hn : Str), st = .ref sp ∧ nh = .ref hp ∧ H sp = some (.tup [.str hx, .str hn]) ∧ H hp = some (.tup [.str hx, .str hn]) ∧ HeadOk hx hn
theorem StandAt.keep {H H' : Hp} {st nh : V} (h : StandAt H st nh) (k : TupKeep H H') : StandAt H' st nh := h.imp id fun ⟨sp, hp, hx, hn, a, b, c, d, e⟩ => ⟨sp, hp, hx, hn, a, b, k _ _ c, k _ _ d, e⟩
def IdsT (t : Tab) : Prop := ∀ e ∈ t, ∃ y ∈ IDS, e.2 = .str y
theorem ids_val {t : Tab} (h : IdsT t) (x : Str) : GoodV ((valV t x).getD .non) := by
  cases c : valV t x with
  | none => exact .inl rfl
  | some v =>
    obtain ⟨y, hy, e⟩ := h _ (val_mem c)
    exact .inr ⟨y, hy, e⟩
/-! ### a turn -/
theorem mem_drop {t : Tab} {x : Str} {p : Str × V} (h : p ∈ dropK t x) : p ∈ t := (List.mem_filter.mp h).1
theorem mem_put {t : Tab} {x : Str} {v : V} {p : Str × V} (h : p ∈ putK t x v) : p ∈ t ∨ p.2 = v := mem_putK h
theorem ids_step {t : Tab} (h : IdsT t) {c : Str × V × V} (g : GoodV c.2.1) : IdsT (stepT t c) := fun e he => by
  unfold stepT at he
  split at he
  · rename_i hn
    rcases mem_put he with he | he
    · exact h e (mem_drop he)
    · rcases g with g | ⟨y, hy, g⟩
      · rw [g] at hn
        cases hn
      · exact ⟨y, hy, he.trans g⟩
  · exact h e (mem_drop he)
theorem ids_lawT {t : Tab} (h : IdsT t) : ∀ {cs : List (Str × V × V)}, (∀ c ∈ cs, GoodV c.2.1) → IdsT (lawT t cs) := fun {cs} g => by
  unfold lawT
  induction cs generalizing t with
  | nil => exact h
  | cons c r ih => exact ih (ids_step h (g c List.mem_cons_self)) fun d hd => g d (List.mem_cons_of_mem _ hd)
theorem ids_txts {t : Tab} (h : IdsT t) : Txts t := fun e he => by
  obtain ⟨y, hy, ey⟩ := h e he
  exact ⟨y, ey, (ids_ok y hy).2.2⟩
theorem moves_eq {t t' : Tab} (h : ∀ x, valV t' x = valV t x) (cs : List (Str × V × V)) (ys : List Str) : movesF t' cs ys = movesF t cs ys := by
  unfold movesF rowsF
  simp only [h]
theorem stale_eq {t t' : Tab} (h : ∀ x, valV t' x = valV t x) (cs : List (Str × V × V)) : staleF t' cs = staleF t cs := by
  unfold staleF
  have e : bad t' = bad t := by
    funext c
    unfold bad
    rw [h]
  rw [e]
theorem stale_mem {t : Tab} {cs : List (Str × V × V)} {x : Str} (h : staleF t cs = some x) : x ∈ cs.map (·.1) := by
  unfold staleF at h
  cases c : cs.find? (bad t) with
  | none => rw [c] at h; cases h
  | some d =>
    rw [c] at h
    cases h
    exact List.mem_map.mpr ⟨d, List.mem_of_find?_eq_some c, rfl⟩
theorem law_eq {t t' : Tab} (h : ∀ x, valV t' x = valV t x) {cs : List (Str × V × V)} (nc : (cs.map (·.1)).Nodup) (x : Str) : valV (lawT t' cs) x = valV (lawT t cs) x := by
  rw [val_lawT x cs t' nc, val_lawT x cs t nc]
  simp only [h]
theorem keys_law {t : Tab} {cs : List (Str × V × V)} (nc : (cs.map (·.1)).Nodup) {x : Str} (h : x ∈ (lawT t cs).map (·.1)) : x ∈ t.map (·.1) ∨ x ∈ cs.map (·.1) := by
  have h := mem_val.mp h
  rw [val_lawT x cs t nc] at h
  cases c : valV (newT cs) x with
  | none =>
    rw [c] at h
    exact .inl (mem_val.mpr h)
  | some v =>
    have := valV_in c
    unfold newT at this
    rw [List.map_map] at this
    exact .inr this
theorem ent_put {L : Str → List (List V)} (h : ∀ x, ∀ l ∈ L x, EntOk l) {y : Str} {l : List V} (g : EntOk l) : ∀ x, ∀ m ∈ logPut L y l x, EntOk m := fun x m hm => by
  unfold logPut at hm
  split at hm
  · rcases List.mem_append.mp hm with hm | hm
    · exact h x m hm
    · rw [List.mem_singleton.mp hm]
      exact g
  · exact h x m hm
theorem ent_moves {note : List V} : ∀ (ms : List (Str × V × V)) {L : Str → List (List V)}, (∀ x, ∀ l ∈ L x, EntOk l) → (∀ m ∈ ms, EntOk ([m.2.1, m.2.2] ++ note)) → ∀ x, ∀ l ∈ logMoves L note ms x, EntOk l
  | [], _, h, _ => h
  | m :: r, L, h, g => ent_moves r (ent_put h (g m List.mem_cons_self)) fun d hd => g d (List.mem_cons_of_mem _ hd)
theorem ent_behind {L : Str → List (List V)} {note : List V} {ms : List (Str × V × V)} {b : Bool} {v1 v2 : V} (h : ∀ x, ∀ l ∈ L x, EntOk l) (g : ∀ m ∈ ms, EntOk ([m.2.1, m.2.2] ++ note)) (gh : EntOk ([v1, v2] ++ note)) : ∀ x, ∀ l ∈ logsBehind L note ms b v1 v2 x, EntOk l := by
  unfold logsBehind
  split
  · exact ent_put (ent_moves ms h g) gh
  · exact ent_moves ms h g
theorem len_behind (L : Str → List (List V)) (note : List V) (ms : List (Str × V × V)) (b : Bool) (v1 v2 : V) (x : Str) : (logsBehind L note ms b v1 v2 x).length ≤ (L x).length + ms.length + 1 := by
  have := logMoves_len L note x ms
  unfold logsBehind
  split
  · unfold logPut
    split
    · rw [List.length_append]
      show _ + 1 ≤ _
      omega
    · omega
  · omega
theorem flat_ok {t : Tab} (h : Txts t) (x : Str) : FlatOk ((valV t x).getD .non) := by
  cases c : valV t x with
  | none => exact .inl rfl
  | some v =>
    obtain ⟨y, ey, hy⟩ := h _ (val_mem c)
    exact .inr ⟨y, ey, hy⟩
theorem flat_led' {t : Tab} (h : Txts t) {x n : Str} (hn : OkS n) : FlatOk (ledF t x n) := by
  unfold ledF
  split
  · exact .inr ⟨n, rfl, hn⟩
  · exact flat_ok h n
theorem good_flat {v : V} (h : GoodV v) : FlatOk v := by
  rcases h with rfl | ⟨y, hy, rfl⟩
  · exact .inl rfl
  · exact .inr ⟨y, rfl, (ids_ok y hy).2.2⟩
theorem ent_of {a b : V} {x y : Str} {i : Int} (ha : FlatOk a) (hb : FlatOk b) (hx : OkS x) (hy : OkS y) : EntOk ([a, b] ++ [V.str x, .int i, .str y]) := ⟨a, b, x, y, i, rfl, ha, hb, hx, hy⟩
theorem new_good {cs : List (Str × V × V)} (g : ∀ c ∈ cs, GoodV c.2.1) (x : Str) : GoodV ((valV (newT cs) x).getD .non) := by
  cases c : valV (newT cs) x with
  | none => exact .inl rfl
  | some v =>
    have m := val_mem c
    unfold newT at m
    obtain ⟨d, hd, e⟩ := List.mem_map.mp m
    have := g d hd
    cases e
    exact this
/-! ### works: edits that are open at the same time -/
theorem head_uniq {y z : Str} {r s : List Str} (h : sortedS (y :: r) = true) (k : sortedS (z :: s) = true) (e : ∀ x, x ∈ y :: r ↔ x ∈ z :: s) : y = z := by
  obtain ⟨h1, _⟩ := List.pairwise_cons.mp (sorted_pw h)
  obtain ⟨k1, _⟩ := List.pairwise_cons.mp (sorted_pw k)
  rcases List.mem_cons.mp ((e y).mp List.mem_cons_self) with c | c
  · exact c
  · rcases List.mem_cons.mp ((e z).mpr List.mem_cons_self) with d | d
    · exact d.symm
    · exact leS_anti (h1 z d) (k1 y c)
def NMS : List Str := ("HEAD" : Str) :: REFS
def nearF (x y : Str) : Bool := if x = ("HEAD" : Str) ∨ y = ("HEAD" : Str) then decide (x = y) else decide (x = y) || (decide (x ∈ prefixesF y) || decide (y ∈ prefixesF x))
theorem touch_near : ∀ x ∈ NMS, ∀ y ∈ NMS, touchF x y = nearF x y := by decide +kernel
theorem near_self (x : Str) : nearF x x = true := by
  unfold nearF
  split
  · exact decide_eq_true rfl
  · rw [decide_eq_true rfl]
    rfl
theorem nms_ok : ∀ x ∈ NMS, x.length ≤ 1000 ∧ OkS x := fun x hx => by
  rcases List.mem_cons.mp hx with rfl | hx
  · exact ⟨by decide +kernel, ok_by (by decide +kernel)⟩
  · exact (refs_ok x hx).2
structure Wk where
  (d e ex nt cl lc ll : Addr)
  (nh st : V)
  (cs : List (Str × V × V))
  (lks : List Str)
  (wn : Int)
def workT (k : Wk) : Tab := [("edit", .ref k.e), ("when", .int k.wn), ("stands", k.st), ("calls", .ref k.lc), ("locks", .ref k.ll)]
def own (k : Wk) : List Addr := [k.d, k.e, k.cl, k.lc, k.ll]
structure WkAt (CE : Addr) (H : Hp) (R : Addr) (k : Wk) : Prop where
  hd : H k.d = some (.dK (kT (workT k)))
  he : H k.e = some (.ins CE k.ex (ef R k.nt k.cl k.nh false))
  hn : H k.nt = some (.tup [.str "ann", .int k.wn, .str ""])
  hc : CallsAt H k.cl k.cs
  hl : CallsL H k.lc k.cs
  hk : H k.ll = some (.lst (k.lks.map V.str))
  st : StandAt H k.st k.nh
  gc : GoodC k.cs
  w0 : 0 ≤ k.wn
  w1 : k.wn ≤ 100
  nm : ∀ x ∈ k.lks, x ∈ NMS
  ne : k.lc ≠ k.ll
def opnW (ws : List Wk) (v : V) : Bool := ws.any fun k => decide (v = .ref k.e)
theorem opnW_true {ws : List Wk} {v : V} : opnW ws v = true ↔ ∃ k ∈ ws, v = .ref k.e := by
  unfold opnW
  rw [List.any_eq_true]
  exact ⟨fun ⟨k, a, b⟩ => ⟨k, a, of_decide_eq_true b⟩, fun ⟨k, a, b⟩ => ⟨k, a, decide_eq_true b⟩⟩
def tot (ws : List Wk) : Nat := (ws.map fun k => k.cs.length).sum
def totL (ws : List Wk) : Nat := (ws.map fun k => k.lks.length).sum
theorem sum_set' {α : Type} (f : α → Nat) : ∀ (l : List α) (j : Nat) (k k' : α), l[j]? = some k → ((l.set j k').map f).sum + f k = (l.map f).sum + f k'
  | [], _, _, _, h => by simp at h
  | a :: l, 0, k, k', h => by
    simp only [List.getElem?_cons_zero, Option.some.injEq] at h
    subst h
    simp only [List.set_cons_zero, List.map_cons, List.sum_cons]
    omega
  | a :: l, j + 1, k, k', h => by
    have := sum_set' f l j k k' (by simpa using h)
    simp only [List.set_cons_succ, List.map_cons, List.sum_cons]
    omega
theorem sum_erase {α : Type} (f : α → Nat) : ∀ (l : List α) (j : Nat) (k : α), l[j]? = some k → ((l.eraseIdx j).map f).sum + f k = (l.map f).sum
  | [], _, _, h => by simp at h
  | a :: l, 0, k, h => by
    simp only [List.getElem?_cons_zero, Option.some.injEq] at h
    subst h
    simp only [List.eraseIdx_cons_zero, List.map_cons, List.sum_cons]
    omega
  | a :: l, j + 1, k, h => by
    have := sum_erase f l j k (by simpa using h)
    simp only [List.eraseIdx_cons_succ, List.map_cons, List.sum_cons]
    omega
def Apart (ws : List Wk) : Prop := ws.Pairwise fun k k' => ∀ a ∈ own k, a ∉ own k'
theorem apart_ne {ws : List Wk} (h : Apart ws) {i j : Nat} {k k' : Wk} (hi : ws[i]? = some k) (hj : ws[j]? = some k') (n : i ≠ j) : ∀ a ∈ own k, a ∉ own k' := fun a ha hb => by
  obtain ⟨li, ei⟩ := List.getElem?_eq_some_iff.mp hi
  obtain ⟨lj, ej⟩ := List.getElem?_eq_some_iff.mp hj
  have P := List.pairwise_iff_getElem.mp h
  rcases Nat.lt_or_gt_of_ne n with c | c
  · exact P i j li lj c a (by rw [ei]; exact ha) (by rw [ej]; exact hb)
  · exact P j i lj li c a (by rw [ej]; exact hb) (by rw [ei]; exact ha)
theorem apart_of {ws : List Wk} (h : ∀ (i j : Nat) (k k' : Wk), ws[i]? = some k → ws[j]? = some k' → i < j → ∀ a ∈ own k, a ∉ own k') : Apart ws :=
  List.pairwise_iff_getElem.mpr fun i j li lj c => h i j _ _ (List.getElem?_eq_getElem li) (List.getElem?_eq_getElem lj) c
theorem get_set {ws : List Wk} {j i : Nat} {k k' x : Wk} (hj : ws[j]? = some k) (h : (ws.set j k')[i]? = some x) : (i = j ∧ x = k') ∨ (i ≠ j ∧ ws[i]? = some x) := by
  by_cases c : j = i
  · subst c
    rw [List.getElem?_set_self (List.getElem?_eq_some_iff.mp hj).1] at h
    exact .inl ⟨rfl, (Option.some.inj h).symm⟩
  · rw [List.getElem?_set_ne c] at h
    exact .inr ⟨fun z => c z.symm, h⟩
theorem apart_set {ws : List Wk} {j : Nat} {k k' : Wk} (h : Apart ws) (hj : ws[j]? = some k) (hk : ∀ a ∈ own k', a ∈ own k ∨ ∀ x ∈ ws, a ∉ own x) : Apart (ws.set j k') := apart_of fun i l x y hx hy c a ha hb => by
  rcases get_set hj hx with ⟨e1, e2⟩ | ⟨e1, e2⟩
  · subst e1 e2
    rcases get_set hj hy with ⟨e3, _⟩ | ⟨e3, e4⟩
    · omega
    · rcases hk a ha with z | z
      · exact apart_ne h hj e4 (fun z => e3 z.symm) a z hb
      · exact z y (List.mem_of_getElem? e4) hb
  · rcases get_set hj hy with ⟨e3, e4⟩ | ⟨e3, e4⟩
    · subst e3 e4
      rcases hk a hb with z | z
      · exact apart_ne h e2 hj e1 a ha z
      · exact z x (List.mem_of_getElem? e2) ha
    · exact apart_ne h e2 e4 (by omega) a ha hb
theorem mem_set {ws : List Wk} {j : Nat} {k k' x : Wk} (hj : ws[j]? = some k) (h : x ∈ ws.set j k') : x = k' ∨ ∃ i, i ≠ j ∧ ws[i]? = some x := by
  obtain ⟨i, hi⟩ := List.getElem?_of_mem h
  rcases get_set hj hi with ⟨_, e⟩ | ⟨n, e⟩
  · exact .inl e
  · exact .inr ⟨i, n, e⟩
theorem mem_erase {ws : List Wk} {j : Nat} {x : Wk} (h : x ∈ ws.eraseIdx j) : ∃ i, i ≠ j ∧ ws[i]? = some x := by
  obtain ⟨i, hi⟩ := List.getElem?_of_mem h
  rw [List.getElem?_eraseIdx] at hi
  split at hi
  · exact ⟨i, by omega, hi⟩
  · exact ⟨i + 1, by omega, hi⟩
section
variable {K : PySem.W.Frag} {CE CR : Addr}
/-- no list of entries -/
def NotLog (H : Hp) (b : Addr) : Prop := ∀ (a : Addr) (r : List V), H b = some (.lst (.ref a :: r)) → ∀ xs, H a ≠ some (.tup xs)
theorem LogsL.outN {H H' : Hp} {t : Tab} {L : Str → List (List V)} {M : List Addr} (h : LogsL H t L) (k : TupKeep H H') (f : FrL M H H') (n : ∀ b ∈ M, NotLog H b) : LogsL H' t L := fun x =>
  (h x).imp id fun ⟨p, as, a, b, c⟩ => by
    refine ⟨p, as, a, f p _ (fun hm => ?_) b, c.keep k⟩
    cases as with
    | nil => exact a.1 (List.eq_nil_of_length_eq_zero (by have := c.1; simpa using this.symm))
    | cons u r =>
      cases hL : L x with
      | nil => exact a.1 hL
      | cons l s =>
        rw [hL] at c
        exact n p hm u (r.map V.ref) b _ (c.2 0 u l rfl rfl)
theorem Agree.mv {H H' : Hp} {M : List Addr} {R dx lk lk' tb hd lg m mt mh ml : Addr} {t lt t' lt' : Tab} {x n : Str} {L : Str → List (List V)} (g : Agree K CR H R dx lk tb hd lg m mt mh ml t lt t' lt' x n L) (f : FrL M H H') (k : TupKeep H H') (hR : H' R = some (.ins CR dx (rf lk' tb hd lg)))
    (nn : ∀ b ∈ M, b ≠ tb ∧ b ≠ lg ∧ b ≠ m ∧ b ≠ mt ∧ b ≠ ml ∧ NotLog H b) : Agree K CR H' R dx lk' tb hd lg m mt mh ml t lt t' lt' x n L := by
  obtain ⟨h1, h2, h3, h4⟩ := g.hM
  exact ⟨hR, f.out g.hT (fun b hb z => (nn b hb).1 z.symm), g.nt, g.hH.keep k, f.out g.hL (fun b hb z => (nn b hb).2.1 z.symm), g.nl, g.lo.keep k,
    ⟨f.out h1 (fun b hb z => (nn b hb).2.2.1 z.symm), f.out h2 (fun b hb z => (nn b hb).2.2.2.1 z.symm), h3.keep k, f.out h4 (fun b hb z => (nn b hb).2.2.2.2.1 z.symm)⟩, g.nt', g.nl', g.ll.outN k f fun b hb => (nn b hb).2.2.2.2.2, g.eq, g.ne, g.vs, g.ks, g.ls, g.es, g.ox, g.on⟩
theorem notlog_of {H : Hp} {b : Addr} {o : HO} (e : H b = some o) (n : ∀ xs, o ≠ .lst xs) : NotLog H b := fun a r h _ _ => by
  rw [e] at h
  cases h
  exact n _ rfl
theorem notlog_strs {H : Hp} {b : Addr} {ys : List Str} (e : H b = some (.lst (ys.map V.str))) : NotLog H b := fun a r h _ _ => by
  rw [e] at h
  cases ys with
  | nil => cases h
  | cons y s => cases h
theorem notlog_well {H : Hp} {b : Addr} {c : Int} (h : Wm H b c) : NotLog H b := fun a r e _ _ => by
  obtain ⟨_, _, _, _, _, h⟩ := h
  rw [h] at e
  cases e
theorem kT_inj {u v : Tab} (h : kT u = kT v) (x : Str) : valV u x = valV v x := by rw [← valV_kT, ← valV_kT, h]
/-- the dict of a work is none of the others -/
theorem work_ne {H : Hp} {k : Wk} {b : Addr} {u : Tab} (h : H k.d = some (.dK (kT (workT k)))) (hb : H b = some (.dK (kT u))) (hu : ∀ i, valV u ("when" : Str) ≠ some (.int i)) : k.d ≠ b := fun z => by
  rw [z, hb] at h
  injection h with h
  injection h with h
  exact hu k.wn (by rw [kT_inj h]; rfl)
theorem WkAt.keep {H H' : Hp} {R : Addr} {k : Wk} {M : List Addr} (h : WkAt CE H R k) (f : FrL M H H') (kp : TupKeep H H') (n : ∀ a ∈ own k, a ∉ M) : WkAt CE H' R k := by
  have nd := n k.d (by simp [own])
  have ne := n k.e (by simp [own])
  have nc := n k.cl (by simp [own])
  have nl := n k.lc (by simp [own])
  have nk := n k.ll (by simp [own])
  exact ⟨f _ _ nd h.hd, f _ _ ne h.he, kp _ _ h.hn, h.hc.keep kp fun o eo => f _ _ nc eo, h.hl.out kp f nl, f _ _ nk h.hk, h.st.keep kp, h.gc, h.w0, h.w1, h.nm, h.ne⟩
theorem WkAt.there {H : Hp} {R : Addr} {k : Wk} (h : WkAt CE H R k) : ∀ a ∈ own k, H a ≠ none := fun a ha => by
  obtain ⟨zs, _, hc, _⟩ := h.hc
  obtain ⟨as, hl, _⟩ := h.hl
  simp only [own, List.mem_cons, List.not_mem_nil, or_false] at ha
  rcases ha with rfl | rfl | rfl | rfl | rfl
  · rw [h.hd]; exact fun z => nomatch z
  · rw [h.he]; exact fun z => nomatch z
  · rw [hc]; exact fun z => nomatch z
  · rw [hl]; exact fun z => nomatch z
  · rw [h.hk]; exact fun z => nomatch z
/-- none of a work's own is the draws' list -/
theorem WkAt.well {H : Hp} {R a : Addr} {c : Int} {k : Wk} (h : WkAt CE H R k) (w : Wm H a c) : ∀ b ∈ own k, b ∉ [a] := fun b hb z => by
  have z := List.mem_singleton.mp z
  obtain ⟨zs, _, hc, _⟩ := h.hc
  obtain ⟨as, hl, _⟩ := h.hl
  obtain ⟨_, x, y, _, _, hw⟩ := w
  simp only [own, List.mem_cons, List.not_mem_nil, or_false] at hb
  rcases hb with rfl | rfl | rfl | rfl | rfl
  · have := h.hd; rw [z, hw] at this; cases this
  · have := h.he; rw [z, hw] at this; cases this
  · rw [z, hw] at hc; cases hc
  · rw [z, hw] at hl
    injection hl with hl
    injection hl with hl
    cases as with
    | nil => cases hl
    | cons u r => cases hl
  · have := h.hk
    rw [z, hw] at this
    injection this with this
    injection this with this
    cases hk : k.lks with
    | nil => rw [hk] at this; cases this
    | cons u r => rw [hk] at this; cases this
/-- behind some turns -/
structure St33 (K : PySem.W.Frag) (CE CR : Addr) (Hb H : Hp) (W R m wl : Addr) (ws : List Wk) (i : Nat) (c : Int) (dx lk tb hd lg mt mh ml : Addr) (t lt t' lt' kt : Tab) (x n : Str) (L : Str → List (List V)) : Prop where
  ag : Agree K CR H R dx lk tb hd lg m mt mh ml t lt t' lt' x n L
  hw : Wm H W c
  it : IdsT t'
  b1 : t.length + tot ws ≤ i
  b2 : lt.length + tot ws ≤ i
  b3 : lt'.length + tot ws ≤ i
  b4 : ∀ y, (L y).length + tot ws ≤ i
  hl : H wl = some (.lst (ws.map fun k => V.ref k.d))
  wk : ∀ k ∈ ws, WkAt CE H R k
  ap : Apart ws
  cl : ∀ k ∈ ws, k.cl ≠ tb ∧ k.cl ≠ lg ∧ k.cl ≠ mt ∧ k.cl ≠ ml ∧ k.cl ≠ lk ∧ k.cl ≠ m
  lo : LockT H CE lk kt (opnW ws)
  nm : ∀ z ∈ kt, z.1 ∈ NMS
  lx : ∀ k ∈ ws, ∀ y, y ∈ k.lks ↔ valV kt y = some (.ref k.e)
  b5 : totL ws ≤ i
  b6 : kt.length ≤ i
  b7 : ws.length ≤ 4
  sb : Same Hb H
  n0 : Hb W = none ∧ Hb R = none ∧ Hb wl = none
  no : ∀ k ∈ ws, ∀ a ∈ own k, Hb a = none
def Turn33 (K : PySem.W.Frag) (CE CR : Addr) (Hb H : Hp) (W R m wl : Addr) (ws : List Wk) (i : Nat) (c : Int) : Prop := ∃ (dx lk tb hd lg mt mh ml : Addr) (t lt t' lt' kt : Tab) (x n : Str) (L : Str → List (List V)), St33 K CE CR Hb H W R m wl ws i c dx lk tb hd lg mt mh ml t lt t' lt' kt x n L
end

end Fk

set_option maxHeartbeats 4000000
namespace Fk
open PySem PySem.Spec PyProof.Rows L2
/-! ### near, called -/
theorem in_strs (x : Str) : ∀ ys : List Str, inV (.str x) (ys.map V.str) = decide (x ∈ ys)
  | [] => rfl
  | y :: r => by
    have ih := in_strs x r
    unfold inV at ih ⊢
    rw [List.map_cons, List.any_cons, ih]
    show (y == x || decide (x ∈ r)) = _
    by_cases c : x = y
    · subst c
      rw [beq_self_eq_true, decide_eq_true (List.mem_cons_self), Bool.true_or]
    · rw [show (y == x) = false from beq_eq_false_iff_ne.mpr (fun z => c z.symm), Bool.false_or]
      exact decide_eq_decide.mpr ⟨fun h => List.mem_cons_of_mem _ h, fun h => (List.mem_cons.mp h).elim (fun z => absurd z c) id⟩
theorem flat_strs (ys : List Str) : (ys.map V.str).all flatV = true := by
  rw [List.all_map]
  exact List.all_eq_true.mpr fun y _ => rfl
section
variable {P : Program} {w : World} {K : PySem.W.Frag} {mg : Str → Option Value} {base : Heap}
def spNear : Sp := fun vs H Q _ => ∃ x y : Str, vs = [.str x, .str y] ∧ x.length ≤ 1000 ∧ OkS x ∧ y.length ≤ 1000 ∧ OkS y ∧ ∀ H', Same H H' → Q (.bl (nearF x y)) H'
theorem c_l_near (T : Top K mg) : C8.Cal P w K mg base 2 "_law_near" spNear [] := by
  refine cal_of T.d_l_near sc_l_near (fun _ _ _ _ _ _ us hl => match us, hl with | [_, _], _ => rfl) (fun vs H Q E h => ?_) (fun f cdv A outer s H vs Q E hr h => ?_)
  · obtain ⟨x, y, rfl, _⟩ := h
    rfl
  · obtain ⟨x, y, rfl, x1, x2, y1, y2, q⟩ := h
    refine ⟨_, (pss_cons (ps_if (pt_cmpR op_in_seq pe_str (pe_tup (pa_cons (pv 0) (pa_cons (pv 1) pa_nil))) rfl)
      (pss_one (ps_ret (pe_cmpR op_eq (pv 0) (pv 1) (nomark _))))
      pss_nil)
      (pss_one (ps_ret (pe_or (pe_cmpR op_eq (pv 0) (pv 1) (nomark _)) (pe_or (pe_cmpR op_in_seq (pv 0) (C8.pe_c (c_l_above T) hr (by decide) (by rfl) (pa_cons (pv 1) pa_nil)) rfl) (pe_one (pe_cmpR op_in_seq (pv 1) (C8.pe_c (c_l_above T) hr (by decide) (by rfl) (pa_cons (pv 0) pa_nil)) rfl))))))), ?_⟩
    refine ⟨.str x, rfl, .str y, rfl, (by show 2 ≤ sizeLine; decide), fun p hp => ⟨p, [.str x, .str y], rfl, .inr (SqT.of upd_same), rfl, rfl, _, rfl, ?_⟩⟩
    have s1 := same_new (o := .tup [.str x, .str y]) hp
    generalize upd H p (.tup [.str x, .str y]) = H1 at s1
    have e1 : inV (V.str (Str.ofString "HEAD")) [.str x, .str y] = decide (("HEAD" : Str) ∈ [x, y]) := in_strs "HEAD" [x, y]
    have deq : ∀ a b : Str, decide (V.str a = V.str b) = decide (a = b) := fun a b => decide_eq_decide.mpr ⟨fun h => V.str.inj h, fun h => by rw [h]⟩
    show if inV (V.str (Str.ofString "HEAD")) [.str x, .str y] = true then _ else _
    rw [e1]
    have q := q
    unfold nearF at q
    by_cases c : x = ("HEAD" : Str) ∨ y = ("HEAD" : Str)
    · rw [decide_eq_true (by simp only [List.mem_cons, List.not_mem_nil, or_false]; exact c.imp Eq.symm Eq.symm)]
      rw [if_pos c] at q
      refine iteT ⟨.str x, rfl, .str y, rfl, rfl, ?_⟩
      rw [deq]
      exact q _ s1
    · rw [decide_eq_false (by simp only [List.mem_cons, List.not_mem_nil, or_false]; exact fun z => c (z.imp Eq.symm Eq.symm))]
      rw [if_neg c] at q
      refine iteF ⟨.str x, rfl, .str y, rfl, rfl, _, rfl, ?_⟩
      rw [deq]
      by_cases d : x = y
      · rw [decide_eq_true d]
        rw [decide_eq_true d] at q
        exact iteT (q _ s1)
      · rw [decide_eq_false d]
        rw [decide_eq_false d] at q
        refine iteF ⟨.str x, rfl, .str y, rfl, y, rfl, y1, y2, fun D H2 _ s2 hD => ⟨D, (prefixesF y).map V.str, rfl, .inl (SqL.of hD), rfl, flat_strs _, _, rfl, ?_⟩⟩
        show if inV (.str x) ((prefixesF y).map V.str) = true then _ else _
        rw [in_strs]
        cases c1 : decide (x ∈ prefixesF y) with
        | true =>
          rw [c1] at q
          exact iteT (q _ (s1.trans s2))
        | false =>
          rw [c1] at q
          refine iteF ⟨.str y, rfl, .str x, rfl, x, rfl, x1, x2, fun D3 H3 _ s3 hD3 => ⟨D3, (prefixesF x).map V.str, rfl, .inl (SqL.of hD3), rfl, flat_strs _, ?_⟩⟩
          show Q (.bl (inV (.str y) ((prefixesF x).map V.str))) H3
          rw [in_strs]
          exact q _ ((s1.trans s2).trans s3)
end
section
variable {P : Program} {w : World} {K : PySem.W.Frag} {mg : Str → Option Value} {base : Heap} {CE CR cS cB iS iB ns r0 h0 l0 cL iL : Addr}
/-- a call: HEAD is stood at x; x is deleted; x is pointed at an id -/
def callTup (x : Str) : Option (Option Str) → List V
  | none => [.str "stand", .str "ref", .str x]
  | some none => [.str "point", .str x, .non]
  | some (some y) => [.str "point", .str x, .str y]
def callNm (x : Str) : Option (Option Str) → Str
  | none => "HEAD"
  | some _ => x
def callVal : Option Str → V
  | none => .non
  | some y => .str y
def callsOf (cs : List (Str × V × V)) (x : Str) : Option (Option Str) → List (Str × V × V)
  | none => cs
  | some v => callPut cs x (callVal v) (.str "")
def spCalled (CE CR : Addr) : Sp := fun vs H Q _ => ∃ (e p ex R nt cl dx lk tb hd lg : Addr) (nh : V) (x : Str) (kd : Option (Option Str)) (cs : List (Str × V × V)) (kt : Tab) (opn : V → Bool), vs = [.ref e, .ref p] ∧ H p = some (.tup (callTup x kd)) ∧ H e = some (.ins CE ex (ef R nt cl nh false)) ∧ H R = some (.ins CR dx (rf lk tb hd lg)) ∧ LockT H CE lk kt opn ∧ CallsAt H cl cs ∧ cs.length < 64 ∧
  x ∈ REFS ∧ (∀ y, kd = some (some y) → y ∈ IDS) ∧
  (∀ y r, (y :: r).Perm (barF kt opn e (callNm x kd)) → sortedS (y :: r) = true → ∀ H', Same H H' → Q (.str y) H') ∧
  (barF kt opn e (callNm x kd) = [] → ∀ lk' nh' H', H lk' = none → FrL [R, cl, e] H H' → TupKeep H H' → H' R = some (.ins CR dx (rf lk' tb hd lg)) → H' e = some (.ins CE ex (ef R nt cl nh' false)) → H' lk' = some (.dK (kT (putK (openT kt opn) (callNm x kd) (.ref e)))) → CallsAt H' cl (callsOf cs x kd) →
    (kd = none → ∃ h, nh' = .ref h ∧ H' h = some (.tup [.str "ref", .str x])) → (kd ≠ none → nh' = nh) → Q .non H')
theorem c_l_called (S : TopL K mg CE CR cS cB iS iB ns r0 h0 l0 cL iL) : C8.Cal P w K mg base 6 "_law_called" (spCalled CE CR) [] := by
  have T := S.toTopR
  refine cal_of T.d_l_called sc_l_called (fun _ _ _ _ _ _ us hl => match us, hl with | [_, _], _ => rfl) (fun vs H Q E h => ?_) (fun f cdv A outer s H vs Q E hr h => ?_)
  · obtain ⟨e, p, ex, R, nt, cl, dx, lk, tb, hd, lg, nh, x, kd, cs, kt, opn, rfl, _⟩ := h
    rfl
  · obtain ⟨e, p, ex, R, nt, cl, dx, lk, tb, hd, lg, nh, x, kd, cs, kt, opn, rfl, hp, he, hR, hk, hc, hl, hx, hy, qr, q⟩ := h
    refine' ⟨_, (pss_cons (ps_tryA rfl rfl takes_none5 (fun W pn xe tk _ => ?B) (HdA.as (i := 2) sc_l_called.nd rfl rfl ⟨rfl, by decide, .inl S.eL.mgc⟩ (fun a oe cls d pn hz hf => ?S) HdA.nil)) (pss_one (ps_ret pe_non))), ?_⟩
    case B => exact (pss_one (ps_if (pt_cmpR op_eq (pe_ix (ixK_tup (K := K) rfl) (pv 1) pe_int (fun _ _ => rfl)) pe_str (nomark _))
      (pss_one (ps_expr (pe_mx (m_Edit_standX S) hr (by decide) (fun _ => passAt tk _) (pv 0) (pa_cons (pe_ix (ixK_tup (K := K) rfl) (pv 1) pe_int (fun _ _ => rfl)) (pa_cons (pe_ix (ixK_tup (K := K) rfl) (pv 1) pe_int (fun _ _ => rfl)) pa_nil)))))
      (pss_one (ps_if (pt_cmpR op_isN (pe_ix (ixK_tup (K := K) rfl) (pv 1) pe_int (fun _ _ => rfl)) pe_non (nomark _))
        (pss_one (ps_expr (pe_mx (m_Edit_deleteX S) hr (by decide) (fun _ => passAt tk _) (pv 0) (pa_cons (pe_ix (ixK_tup (K := K) rfl) (pv 1) pe_int (fun _ _ => rfl)) pa_nil))))
        (pss_one (ps_expr (pe_mx (m_Edit_pointX S) hr (by decide) (fun _ => passAt tk _) (pv 0) (pa_cons (pe_ix (ixK_tup (K := K) rfl) (pv 1) pe_int (fun _ _ => rfl)) (pa_cons (pe_ix (ixK_tup (K := K) rfl) (pv 1) pe_int (fun _ _ => rfl)) pa_nil)))))))))
    case S => exact (pss_one (ps_ret (pe_xf (xf_of S.eL.xc) S.eL.nf hz hf (pv 2))))
    obtain ⟨x1, x2, x3⟩ := refs_ok x hx
    have nRe : R ≠ e := at_ne hR he fun z => by injection z with z; exact T.ne z.symm
    obtain ⟨zs, _, hcl, _⟩ := id hc
    have nce : e ≠ cl := at_ne he hcl fun z => nomatch z
    have f2 : ∀ {H' : Hp}, FrL [R, cl] H H' → FrL [R, cl, e] H H' := fun f => f.mono fun b hb => by
      simp only [List.mem_cons, List.not_mem_nil, or_false] at hb ⊢
      rcases hb with z | z
      · exact .inl z
      · exact .inr (.inl z)
    have f3 : ∀ {H' : Hp}, FrL [R, e] H H' → FrL [R, cl, e] H H' := fun f => f.mono fun b hb => by
      simp only [List.mem_cons, List.not_mem_nil, or_false] at hb ⊢
      rcases hb with z | z
      · exact .inl z
      · exact .inr (.inr z)
    have dn : decide (V.str "point" = V.str "stand") = false := decide_eq_false fun z => absurd (V.str.inj z) (by decide +kernel)
    match kd, hp, hy, qr, q with
    | none, hp, hy, qr, q =>
      refine ⟨.ref p, rfl, p, _, 0, .str "stand", rfl, rfl, SqT.of hp, atI_nat (j := 0) rfl, rfl, _, rfl, ?_⟩
      rw [decide_eq_true rfl]
      refine iteT ⟨.ref e, rfl, e, ex, _, rfl, he, rfl, .ref p, rfl, p, _, 1, .str "ref", rfl, rfl, SqT.of hp, atI_nat (j := 1) rfl, .ref p, rfl, p, _, 2, .str x, rfl, rfl, SqT.of hp, atI_nat (j := 2) rfl, e, ex, R, nt, cl, dx, lk, tb, hd, lg, nh, x, kt, opn, rfl, he, hR, hk, x1, x2, x3, fun y r hp hs d H' s hd => ?_, fun hb lk' h H' nlk f k hR' he' hh hk' => ?_⟩
      · exact ⟨true, S.exLL, fun _ a na => ⟨.ref a, rfl, rfl, rfl, d, _, _, rfl, hd, rfl, qr y r hp hs H' s⟩, fun z => Bool.noConfusion z⟩
      · exact q hb lk' (.ref h) H' nlk (f3 f) k hR' he' hk' (hc.keep k fun o eo => f.out eo (not2 (at_ne hcl hR fun z => nomatch z) nce.symm)) (fun _ => ⟨h, rfl, hh⟩) fun z => absurd rfl z
    | some none, hp, hy, qr, q =>
      refine ⟨.ref p, rfl, p, _, 0, .str "point", rfl, rfl, SqT.of hp, atI_nat (j := 0) rfl, rfl, _, rfl, ?_⟩
      rw [dn]
      refine iteF ⟨.ref p, rfl, p, _, 2, .non, rfl, rfl, SqT.of hp, atI_nat (j := 2) rfl, rfl, _, rfl, ?_⟩
      rw [decide_eq_true rfl]
      refine iteT ⟨.ref e, rfl, e, ex, _, rfl, he, rfl, .ref p, rfl, p, _, 1, .str x, rfl, rfl, SqT.of hp, atI_nat (j := 1) rfl, e, ex, R, nt, cl, dx, lk, tb, hd, lg, nh, x, cs, kt, opn, rfl, he, hR, hk, hc, hl, x1, x2, x3, fun y r hp hs d H' s hd => ?_, fun hb lk' H' nlk f k hR' hk' hc' => ?_⟩
      · exact ⟨true, S.exLL, fun _ a na => ⟨.ref a, rfl, rfl, rfl, d, _, _, rfl, hd, rfl, qr y r hp hs H' s⟩, fun z => Bool.noConfusion z⟩
      · exact q hb lk' nh H' nlk (f2 f) k hR' (f.out he (not2 nRe.symm nce)) hk' hc' (fun z => nomatch z) fun _ => rfl
    | some (some y), hp, hy, qr, q =>
      obtain ⟨y1, y2, y3⟩ := ids_ok y (hy y rfl)
      refine ⟨.ref p, rfl, p, _, 0, .str "point", rfl, rfl, SqT.of hp, atI_nat (j := 0) rfl, rfl, _, rfl, ?_⟩
      rw [dn]
      refine iteF ⟨.ref p, rfl, p, _, 2, .str y, rfl, rfl, SqT.of hp, atI_nat (j := 2) rfl, rfl, _, rfl, ?_⟩
      rw [decide_eq_false (fun z => nomatch z)]
      refine iteF ⟨.ref e, rfl, e, ex, _, rfl, he, rfl, .ref p, rfl, p, _, 1, .str x, rfl, rfl, SqT.of hp, atI_nat (j := 1) rfl, .ref p, rfl, p, _, 2, .str y, rfl, rfl, SqT.of hp, atI_nat (j := 2) rfl, e, ex, R, nt, cl, dx, lk, tb, hd, lg, nh, x, y, cs, kt, opn, rfl, he, hR, hk, hc, hl, x1, x2, x3, y1, y2, y3, fun y r hp hs d H' s hd => ?_, fun hb lk' H' nlk f k hR' hk' hc' => ?_⟩
      · exact ⟨true, S.exLL, fun _ a na => ⟨.ref a, rfl, rfl, rfl, d, _, _, rfl, hd, rfl, qr y r hp hs H' s⟩, fun z => Bool.noConfusion z⟩
      · exact q hb lk' nh H' nlk (f2 f) k hR' (f.out he (not2 nRe.symm nce)) hk' hc' (fun z => nomatch z) fun _ => rfl
end

end Fk

set_option maxHeartbeats 4000000
namespace Fk
open PySem PySem.Spec PyProof.Rows L2
/-! ### what the steps leave -/
theorem lc_enum {K : PySem.W.Frag} {a D : Addr} {xs : List V} {σ : L2.St} {vs : List Nat} {g : TG} {tt : TT} {te : TE} {Q : Hp → Prop} {H1 : Hp} (f : Nat → V → V) (p : Nat → V → Bool) (hD1 : H1 D = none) (ha : ∀ H, Same H1 H → SqL K H a xs) (hl : xs.length ≤ 1000000)
    (hs : ∀ (i : Nat) (x : V) (T : Addr) (H : Hp), xs[i]? = some x → Same H1 H → H T = some (.tup [.int (i : Nat), x]) → ∀ (N : VK) (M : Hp → Prop), (p i x = true → ∀ H3, Same H H3 → N (f i x) H3) → (p i x = false → ∀ H3, Same H H3 → M H3) →
      g (.ref T) (wipe σ vs) H fun σ2 H2 => wipe σ2 vs = wipe σ vs ∧ tt σ2 H2 fun bb H3 => if bb = true then te σ2 H3 N else M H3)
    (hd : ∀ H, Same H1 H → H D = some (.lst ((xs.zipIdx.filter fun z => p z.2 z.1).map fun z => f z.2 z.1)) → Q H) :
    ∃ W : Nat → Nat → Hp → Prop, (∃ m, W 0 m (upd H1 D (.lst []))) ∧ ∀ k m H, W k m H →
      ((Ite K a).stop k H ∧ Q H) ∨ ((Ite K a).go k H ∧ ∃ Nx : Hp → Prop, (∀ H', Nx H' → ∃ m', m' < m ∧ W (k + 1) m' H') ∧ ∀ x H', (Ite K a).yld k H x H' → g x (wipe σ vs) H' fun σ2 H2 => wipe σ2 vs = wipe σ vs ∧ tt σ2 H2 fun bb H3 =>
        if bb = true then te σ2 H3 fun y H4 => ∃ acc, H4 D = some (.lst acc) ∧ acc.length < sizeLine ∧ Nx (upd H4 D (.lst (acc ++ [y]))) else Nx H3) := by
  refine ⟨fun k m H => m = xs.length - k ∧ k ≤ xs.length ∧ Same H1 H ∧ H D = some (.lst ((((xs.take k).zipIdx).filter fun z => p z.2 z.1).map fun z => f z.2 z.1)), ⟨xs.length, by omega, Nat.zero_le _, same_new hD1, upd_same⟩, ?_⟩
  rintro k m H ⟨rfl, hk, s1, hD⟩
  by_cases hlt : k < xs.length
  · have et : (xs.take (k + 1)).zipIdx = (xs.take k).zipIdx ++ [(xs[k], k)] := by
      rw [List.take_add_one, List.getElem?_eq_getElem hlt, List.zipIdx_append]
      simp [Nat.min_eq_left hk]
    refine .inr ⟨⟨xs, xs[k], ha H s1, List.getElem?_eq_getElem hlt⟩, fun H' => Same H1 H' ∧ H' D = some (.lst ((((xs.take (k + 1)).zipIdx).filter fun z => p z.2 z.1).map fun z => f z.2 z.1)), fun H' q => ⟨xs.length - (k + 1), by omega, rfl, hlt, q⟩, fun x H' y => ?_⟩
    obtain ⟨T, u, rfl, hT, rfl, gx⟩ := y
    have gx := gx xs (ha H s1)
    have s2 := same_new (o := .tup [.int (k : Nat), u]) hT
    have eu : xs[k] = u := Option.some.inj ((List.getElem?_eq_getElem hlt).symm.trans gx)
    have lacc : ((((xs.take k).zipIdx).filter fun z => p z.2 z.1).map fun z => f z.2 z.1).length ≤ k := by
      rw [List.length_map]
      refine Nat.le_trans (List.length_filter_le _ _) ?_
      rw [List.length_zipIdx, List.length_take]
      omega
    refine hs k u T _ gx (s1.trans s2) upd_same _ _ (fun hp H3 s3 => ⟨_, s3 _ _ (s2 _ _ hD), small_lt (by omega), fun c o e => ?_, ?_⟩) fun hp H3 s3 => ⟨(s1.trans s2).trans s3, ?_⟩
    · rw [upd_ne (ne_of_none e hD1)]
      exact s3 _ _ (s2 _ _ (s1 _ _ e))
    · rw [upd_same, et, List.filter_append, List.map_append, List.filter_cons, eu, if_pos hp]
      rfl
    · rw [s3 _ _ (s2 _ _ hD), et, List.filter_append, List.map_append, List.filter_cons, eu, if_neg (by rw [hp]; decide)]
      simp
  · have e : k = xs.length := by omega
    subst e
    refine .inl ⟨⟨xs, ha H s1, Nat.le_refl _⟩, hd H s1 ?_⟩
    rw [List.take_length] at hD
    exact hD
section
variable {K : PySem.W.Frag} {CE CR : Addr}
theorem same_fr {Hb H H' : Hp} {M : List Addr} (s : Same Hb H) (f : FrL M H H') (n : ∀ b ∈ M, Hb b = none) : Same Hb H' := fun b o e => f b o (fun hb => by rw [n b hb] at e; cases e) (s b o e)
variable {Hb H H' : Hp} {W R m wl dx lk tb hd lg mt mh ml : Addr} {ws : List Wk} {i : Nat} {c : Int} {t lt t' lt' kt : Tab} {x n : Str} {L : Str → List (List V)}
theorem St33.drawn (S : St33 K CE CR Hb H W R m wl ws i c dx lk tb hd lg mt mh ml t lt t' lt' kt x n L) {c' : Int} (f : FrL [W] H H') (k : TupKeep H H') (w : Wm H' W c') : St33 K CE CR Hb H' W R m wl ws i c' dx lk tb hd lg mt mh ml t lt t' lt' kt x n L := by
  have nW : ∀ {b : Addr} {o : HO}, H b = some o → (∀ l, o ≠ .lst l) → H' b = some o := fun e n => f.out e (not1 (S.hw.ne e n))
  have nwl : wl ≠ W := fun z => by
    obtain ⟨_, x, y, _, _, h⟩ := S.hw
    have := S.hl
    rw [z, h] at this
    injection this with this
    injection this with this
    cases e : ws with
    | nil => rw [e] at this; cases this
    | cons u r => rw [e] at this; cases this
  obtain ⟨m1, m2, m3, m4⟩ := id S.ag.hM
  exact { S with
    ag := S.ag.mv f k (nW S.ag.hR (fun _ z => nomatch z)) fun b hb => by
      rw [List.mem_singleton.mp hb]
      exact ⟨(S.hw.ne S.ag.hT (fun _ z => nomatch z)).symm, (S.hw.ne S.ag.hL (fun _ z => nomatch z)).symm, (S.hw.ne m1 (fun _ z => nomatch z)).symm, (S.hw.ne m2 (fun _ z => nomatch z)).symm, (S.hw.ne m4 (fun _ z => nomatch z)).symm, notlog_well S.hw⟩
    hw := w
    hl := f.out S.hl (not1 nwl)
    wk := fun k0 hk => (S.wk k0 hk).keep f k ((S.wk k0 hk).well S.hw)
    lo := ⟨nW S.lo.1 (fun _ z => nomatch z), S.lo.2.1, S.lo.2.2.1, fun z hz => let ⟨a, e, dx, fs, b, c, d⟩ := S.lo.2.2.2 z hz; ⟨a, e, dx, fs, b, nW c (fun _ z => nomatch z), d⟩⟩
    sb := same_fr S.sb f fun b hb => by rw [List.mem_singleton.mp hb]; exact S.n0.1 }
theorem St33.same (S : St33 K CE CR Hb H W R m wl ws i c dx lk tb hd lg mt mh ml t lt t' lt' kt x n L) (s : Same H H') : St33 K CE CR Hb H' W R m wl ws i c dx lk tb hd lg mt mh ml t lt t' lt' kt x n L :=
  S.drawn (FrL.same s) (TupKeep.of s) (S.hw.same s)
theorem St33.more (S : St33 K CE CR Hb H W R m wl ws i c dx lk tb hd lg mt mh ml t lt t' lt' kt x n L) {j : Nat} (h : i ≤ j) : St33 K CE CR Hb H W R m wl ws j c dx lk tb hd lg mt mh ml t lt t' lt' kt x n L :=
  { S with b1 := Nat.le_trans S.b1 h, b2 := Nat.le_trans S.b2 h, b3 := Nat.le_trans S.b3 h, b4 := fun y => Nat.le_trans (S.b4 y) h, b5 := Nat.le_trans S.b5 h, b6 := Nat.le_trans S.b6 h }
/-- the frame of a call, told of the references and the model -/
theorem St33.apart (S : St33 K CE CR Hb H W R m wl ws i c dx lk tb hd lg mt mh ml t lt t' lt' kt x n L) {k : Wk} (hk : k ∈ ws) : ∀ b ∈ [R, k.cl, k.e, k.d, k.ll], b ≠ tb ∧ b ≠ lg ∧ b ≠ m ∧ b ≠ mt ∧ b ≠ ml ∧ NotLog H b := fun b hb => by
  have w := S.wk k hk
  obtain ⟨m1, m2, m3, m4⟩ := id S.ag.hM
  obtain ⟨zs, _, hc, _⟩ := w.hc
  have A := S.ag
  simp only [List.mem_cons, List.not_mem_nil, or_false] at hb
  rcases hb with rfl | rfl | rfl | rfl | rfl
  · exact ⟨at_ne A.hR A.hT (fun z => nomatch z), at_ne A.hR A.hL (fun z => nomatch z), at_ne A.hR m1 (fun z => nomatch z), at_ne A.hR m2 (fun z => nomatch z), at_ne A.hR m4 (fun z => nomatch z), notlog_of A.hR (fun _ z => nomatch z)⟩
  · obtain ⟨c1, c2, c3, c4, c5, c6⟩ := S.cl k hk
    exact ⟨c1, c2, c6, c3, c4, notlog_of hc (fun _ z => nomatch z)⟩
  · exact ⟨at_ne w.he A.hT (fun z => nomatch z), at_ne w.he A.hL (fun z => nomatch z), at_ne w.he m1 (fun z => nomatch z), at_ne w.he m2 (fun z => nomatch z), at_ne w.he m4 (fun z => nomatch z), notlog_of w.he (fun _ z => nomatch z)⟩
  · refine ⟨work_ne w.hd A.hT (fun i e => ?_), work_ne w.hd A.hL (fun i e => ?_), work_ne w.hd m1 (fun i e => by cases e), work_ne w.hd m2 (fun i e => ?_), work_ne w.hd m4 (fun i e => ?_), notlog_of w.hd (fun _ z => nomatch z)⟩
    · obtain ⟨y, ey, _⟩ := A.vs _ (val_mem e)
      cases ey
    · rcases A.lo "when" with ⟨z, _⟩ | ⟨p, ⟨_, z⟩, _⟩
      · rw [z] at e; cases e
      · rw [z] at e; cases e
    · obtain ⟨y, _, ey⟩ := S.it _ (val_mem e)
      cases ey
    · rcases A.ll "when" with ⟨z, _⟩ | ⟨p, _, ⟨_, z⟩, _⟩
      · rw [z] at e; cases e
      · rw [z] at e; cases e
  · exact ⟨at_ne w.hk A.hT (fun z => nomatch z), at_ne w.hk A.hL (fun z => nomatch z), at_ne w.hk m1 (fun z => nomatch z), at_ne w.hk m2 (fun z => nomatch z), at_ne w.hk m4 (fun z => nomatch z), notlog_strs w.hk⟩
end

end Fk

set_option maxHeartbeats 4000000
namespace Fk
open PySem PySem.Spec PyProof.Rows L2
/-! ### a call that is not refused -/
theorem map_set_same {α β : Type} (f : α → β) : ∀ (l : List α) (j : Nat) (k k' : α), l[j]? = some k → f k' = f k → (l.set j k').map f = l.map f
  | [], _, _, _, h, _ => by simp at h
  | a :: l, 0, k, k', h, e => by
    simp only [List.getElem?_cons_zero, Option.some.injEq] at h
    subst h
    simp only [List.set_cons_zero, List.map_cons, e]
  | a :: l, j + 1, k, k', h, e => by
    simp only [List.set_cons_succ, List.map_cons, map_set_same f l j k k' (by simpa using h) e]
theorem mem_set_of {ws : List Wk} {j i : Nat} {k' x : Wk} (h : ws[i]? = some x) (n : i ≠ j) : x ∈ ws.set j k' := List.mem_of_getElem? (i := i) (by rw [List.getElem?_set_ne (fun z => n z.symm)]; exact h)
theorem mem_set_self' {ws : List Wk} {j : Nat} {k k' : Wk} (h : ws[j]? = some k) : k' ∈ ws.set j k' := List.mem_of_getElem? (i := j) (List.getElem?_set_self (List.getElem?_eq_some_iff.mp h).1)
theorem opn_set {ws : List Wk} {j : Nat} {k k' : Wk} (h : ws[j]? = some k) (e : k'.e = k.e) : opnW (ws.set j k') = opnW ws := by
  funext v
  rw [Bool.eq_iff_iff, opnW_true, opnW_true]
  constructor
  · rintro ⟨y, hy, ev⟩
    rcases mem_set h hy with rfl | ⟨i, _, hi⟩
    · exact ⟨k, List.mem_of_getElem? h, by rw [ev, e]⟩
    · exact ⟨y, List.mem_of_getElem? hi, ev⟩
  · rintro ⟨y, hy, ev⟩
    obtain ⟨i, hi⟩ := List.getElem?_of_mem hy
    by_cases c : i = j
    · subst c
      rw [h] at hi
      cases hi
      exact ⟨k', mem_set_self' h, by rw [ev, e]⟩
    · exact ⟨y, mem_set_of hi c, ev⟩
theorem keys_putK {t : Tab} {x y : Str} {v : V} (h : y ∈ (putK t x v).map (·.1)) : y = x ∨ y ∈ t.map (·.1) := by
  have h := mem_val.mp h
  rw [valV_put] at h
  by_cases c : y = x
  · exact .inl c
  · rw [if_neg c] at h
    exact .inr (mem_val.mpr h)
theorem open_val {kt : Tab} (nd : Nd kt) (opn : V → Bool) (y : Str) (v : V) (hv : opn v = true) : valV (openT kt opn) y = some v ↔ valV kt y = some v := by
  unfold openT
  rw [val_filter nd]
  cases c : valV kt y with
  | none => simp
  | some u =>
    simp only [Option.bind_some, Option.some.injEq]
    by_cases d : opn u = true
    · rw [if_pos d]
      simp
    · rw [if_neg d]
      constructor
      · intro z; cases z
      · rintro rfl; exact absurd hv d
theorem mem_bar {kt : Tab} {opn : V → Bool} {e : Addr} {x y : Str} (nd : Nd kt) : y ∈ barF kt opn e x ↔ ∃ v, valV kt y = some v ∧ opn v = true ∧ v ≠ .ref e ∧ touchF y x = true := by
  unfold barF openT
  rw [List.mem_map]
  constructor
  · rintro ⟨z, hz, rfl⟩
    obtain ⟨h1, h2⟩ := List.mem_filter.mp hz
    obtain ⟨h3, h4⟩ := List.mem_filter.mp h1
    have h2 := Bool.and_eq_true_iff.mp h2
    refine ⟨z.2, val_nodup nd z h3, h4, fun c => ?_, h2.2⟩
    have := h2.1
    rw [c, decide_eq_true rfl] at this
    cases this
  · rintro ⟨v, h1, h2, h3, h4⟩
    refine ⟨(y, v), List.mem_filter.mpr ⟨List.mem_filter.mpr ⟨val_mem h1, h2⟩, ?_⟩, rfl⟩
    show (!decide (v = .ref e) && touchF y x) = true
    rw [decide_eq_false h3, h4]
    rfl
section
variable {K : PySem.W.Frag} {CE CR : Addr}
theorem WkAt.notR {H : Hp} {R dx : Addr} {k : Wk} {fs : List (Str × V)} (h : WkAt CE H R k) (hR : H R = some (.ins CR dx fs)) (ne : CE ≠ CR) : ∀ a ∈ own k, a ≠ R := fun a ha z => by
  obtain ⟨zs, _, hc, _⟩ := h.hc
  obtain ⟨as, hl, _⟩ := h.hl
  simp only [own, List.mem_cons, List.not_mem_nil, or_false] at ha
  rcases ha with rfl | rfl | rfl | rfl | rfl
  · have := h.hd; rw [z, hR] at this; cases this
  · have := h.he
    rw [z, hR] at this
    injection this with this
    injection this with this _ _
    exact ne this.symm
  · rw [z, hR] at hc; cases hc
  · rw [z, hR] at hl; cases hl
  · have := h.hk; rw [z, hR] at this; cases this
theorem WkAt.notWl {H : Hp} {R wl : Addr} {k : Wk} {ws : List Wk} (h : WkAt CE H R k) (hl : H wl = some (.lst (ws.map fun k => V.ref k.d))) (hn : ∀ k ∈ ws, ∃ u, H k.d = some (.dK u)) (hne : ws ≠ []) : ∀ a ∈ own k, a ≠ wl := fun a ha z => by
  obtain ⟨zs, _, hc, _⟩ := h.hc
  obtain ⟨as, hl', tp⟩ := h.hl
  obtain ⟨k0, r, e0⟩ : ∃ k0 r, ws = k0 :: r := by
    cases ws with
    | nil => exact absurd rfl hne
    | cons a b => exact ⟨a, b, rfl⟩
  simp only [own, List.mem_cons, List.not_mem_nil, or_false] at ha
  rcases ha with rfl | rfl | rfl | rfl | rfl
  · have := h.hd; rw [z, hl] at this; cases this
  · have := h.he; rw [z, hl] at this; cases this
  · rw [z, hl] at hc; cases hc
  · rw [z, hl, e0] at hl'
    injection hl' with hl'
    injection hl' with hl'
    cases as with
    | nil => cases hl'
    | cons u s =>
      rw [List.map_cons, List.map_cons] at hl'
      injection hl' with e1 _
      cases e1
      obtain ⟨u, hu⟩ := hn k0 (by rw [e0]; exact List.mem_cons_self)
      have l := tp.1
      cases hcs : k.cs with
      | nil => rw [hcs] at l; cases l
      | cons c cr =>
        rw [hcs] at tp
        have := tp.2 0 k0.d (callL c) rfl rfl
        rw [hu] at this
        cases this
  · have := h.hk
    rw [z, hl, e0] at this
    injection this with this
    injection this with this
    cases hk : k.lks with
    | nil => rw [hk] at this; cases this
    | cons u s => rw [hk] at this; cases this
variable {Hb H H' : Hp} {W R m wl dx lk tb hd lg mt mh ml : Addr} {ws : List Wk} {i : Nat} {c : Int} {t lt t' lt' kt : Tab} {x n : Str} {L : Str → List (List V)}
theorem St33.called (S : St33 K CE CR Hb H W R m wl ws i c dx lk tb hd lg mt mh ml t lt t' lt' kt x n L) (ne : CE ≠ CR) {j : Nat} {k k' : Wk} {lk' : Addr} {nm : Str} (hj : ws[j]? = some k) (f : FrL [R, k.cl, k.e, k.d, k.ll] H H') (kp : TupKeep H H') (hR : H' R = some (.ins CR dx (rf lk' tb hd lg))) (nl : H lk' = none)
    (hlk : H' lk' = some (.dK (kT (putK (openT kt (opnW ws)) nm (.ref k.e))))) (w : WkAt CE H' R k') (e1 : k'.d = k.d) (e2 : k'.e = k.e) (e3 : k'.cl = k.cl) (e4 : k'.ll = k.ll) (e5 : k'.lc = k.lc ∨ H k'.lc = none) (e6 : k'.lks = k.lks ++ [nm]) (e7 : k'.cs.length ≤ k.cs.length + 1) (hn : nm ∈ NMS)
    (hb : barF kt (opnW ws) k.e nm = []) (hi : i < 60) : St33 K CE CR Hb H' W R m wl (ws.set j k') (i + 1) c dx lk' tb hd lg mt mh ml t lt t' lt' (putK (openT kt (opnW ws)) nm (.ref k.e)) x n L := by
  have hk := List.mem_of_getElem? hj
  have wk := S.wk k hk
  have eo := opn_set (k' := k') hj e2
  have inM : ∀ b ∈ [R, k.cl, k.e, k.d, k.ll], b = R ∨ b ∈ own k := fun b hb => by
    simp only [own, List.mem_cons, List.not_mem_nil, or_false] at hb ⊢
    rcases hb with z | z | z | z | z <;> simp [z]
  have notM : ∀ (i0 : Nat) (k0 : Wk), i0 ≠ j → ws[i0]? = some k0 → ∀ a ∈ own k0, a ∉ [R, k.cl, k.e, k.d, k.ll] := fun i0 k0 n0 h0 a ha hM => by
    rcases inM a hM with z | z
    · exact (S.wk k0 (List.mem_of_getElem? h0)).notR S.ag.hR ne a ha z
    · exact apart_ne S.ap h0 hj n0 a ha z
  have wks : ∀ k0 ∈ ws.set j k', WkAt CE H' R k0 := fun k0 h0 => by
    rcases mem_set hj h0 with rfl | ⟨i0, n0, g0⟩
    · exact w
    · exact (S.wk k0 (List.mem_of_getElem? g0)).keep f kp (notM i0 k0 n0 g0)
  have nne : ws ≠ [] := fun z => by rw [z] at hk; cases hk
  have hds : ∀ k ∈ ws, ∃ u, H k.d = some (.dK u) := fun k0 h0 => ⟨_, (S.wk k0 h0).hd⟩
  have t1 := sum_set' (fun k : Wk => k.cs.length) ws j k k' hj
  have t2 := sum_set' (fun k : Wk => k.lks.length) ws j k k' hj
  have l6 : k'.lks.length = k.lks.length + 1 := by rw [e6, List.length_append]; rfl
  have tt : tot (ws.set j k') ≤ tot ws + 1 := by unfold tot; omega
  have tl : totL (ws.set j k') = totL ws + 1 := by unfold totL; omega
  have c1 := S.b1
  have c2 := S.b2
  have c3 := S.b3
  have c5 := S.b5
  have c6 := S.b6
  have lo1 : (openT kt (opnW ws)).length ≤ kt.length := List.length_filter_le _ _
  have lo2 := len_put (openT kt (opnW ws)) nm (.ref k.e)
  have keys : ∀ z ∈ putK (openT kt (opnW ws)) nm (.ref k.e), z.1 ∈ NMS := fun z hz => by
    rcases keys_putK (List.mem_map.mpr ⟨z, hz, rfl⟩) with h | h
    · rw [h]; exact hn
    · obtain ⟨y, hy, e⟩ := List.mem_map.mp h
      rw [← e]
      exact S.nm y (List.mem_filter.mp hy).1
  have ok : opnW ws (.ref k.e) = true := opnW_true.mpr ⟨k, hk, rfl⟩
  refine { ag := S.ag.mv f kp hR (S.apart hk), hw := S.hw.out f (fun b hb z => ?_), it := S.it, b1 := by omega, b2 := by omega, b3 := by omega, b4 := fun y => by have := S.b4 y; omega, hl := ?_, wk := wks, ap := apart_set S.ap hj (fun a ha => ?_), cl := fun k0 h0 => ?_, lo := ?_, nm := keys, lx := fun k0 h0 y => ?_, b5 := by omega, b6 := by omega, b7 := by rw [List.length_set]; exact S.b7, sb := same_fr S.sb f (fun b hb => ?_), n0 := S.n0, no := fun k0 h0 a ha => ?_ }
  · rcases inM b hb with h | h
    · exact S.hw.ne S.ag.hR (fun _ z => nomatch z) (by rw [z, h])
    · exact wk.well S.hw b h (by rw [z]; exact List.mem_singleton_self b)
  · rw [map_set_same (fun k : Wk => V.ref k.d) ws j k k' hj (by show V.ref k'.d = V.ref k.d; rw [e1])]
    refine f.out S.hl fun b hb z => ?_
    rcases inM b hb with h | h
    · have := S.hl; rw [z, h, S.ag.hR] at this; cases this
    · exact wk.notWl S.hl hds nne b h z.symm
  · simp only [own, List.mem_cons, List.not_mem_nil, or_false] at ha ⊢
    rw [e1, e2, e3, e4] at ha
    rcases ha with z | z | z | z | z
    · exact .inl (.inl z)
    · exact .inl (.inr (.inl z))
    · exact .inl (.inr (.inr (.inl z)))
    · rcases e5 with e5 | e5
      · exact .inl (.inr (.inr (.inr (.inl (by rw [z, e5])))))
      · refine .inr fun y hy hm => ?_
        exact (S.wk y hy).there a (by simp only [own, List.mem_cons, List.not_mem_nil, or_false]; exact hm) (by rw [z]; exact e5)
    · exact .inl (.inr (.inr (.inr (.inr z))))
  · have nlk : ∀ {a : Addr}, H a ≠ none → a ≠ lk' := fun h z => h (by rw [z]; exact nl)
    rcases mem_set hj h0 with rfl | ⟨i0, n0, g0⟩
    · obtain ⟨d1, d2, d3, d4, d5, d6⟩ := S.cl k hk
      rw [e3]
      exact ⟨d1, d2, d3, d4, nlk (wk.there k.cl (by simp [own])), d6⟩
    · have h0 := List.mem_of_getElem? g0
      obtain ⟨d1, d2, d3, d4, d5, d6⟩ := S.cl k0 h0
      exact ⟨d1, d2, d3, d4, nlk ((S.wk k0 h0).there k0.cl (by simp [own])), d6⟩
  · refine ⟨hlk, nd_put (nd_filter S.lo.2.1 _) _ _, by omega, fun z hz => ⟨(nms_ok z.1 (keys z hz)).1, ?_⟩⟩
    have ho : opnW (ws.set j k') z.2 = true := by
      rw [eo]
      rcases mem_putK hz with h | h
      · exact (List.mem_filter.mp h).2
      · rw [h]; exact ok
    obtain ⟨k1, h1, ez⟩ := opnW_true.mp ho
    refine ⟨k1.e, k1.ex, _, ez, (wks k1 h1).he, ?_⟩
    rw [ho]
    rfl
  · rw [valV_put]
    rcases mem_set hj h0 with rfl | ⟨i0, n0, g0⟩
    · rw [e6, e2]
      by_cases cy : y = nm
      · rw [if_pos cy, cy]
        simp
      · rw [if_neg cy, open_val S.lo.2.1 _ _ _ ok, ← S.lx k hk y]
        simp [cy]
    · have h0 := List.mem_of_getElem? g0
      have ok0 : opnW ws (.ref k0.e) = true := opnW_true.mpr ⟨k0, h0, rfl⟩
      have nee : k.e ≠ k0.e := fun z => apart_ne S.ap hj g0 (fun z => n0 z.symm) k.e (by simp [own]) (by rw [z]; simp [own])
      by_cases cy : y = nm
      · rw [if_pos cy, cy]
        constructor
        · intro hm
          have hv := (S.lx k0 h0 nm).mp hm
          have : nm ∈ barF kt (opnW ws) k.e nm := (mem_bar S.lo.2.1).mpr ⟨_, hv, ok0, fun z => nee (V.ref.inj z).symm, by
            unfold touchF
            rw [decide_eq_true rfl]
            rfl⟩
          rw [hb] at this
          cases this
        · intro z
          exact absurd (V.ref.inj (Option.some.inj z)) nee
      · rw [if_neg cy, open_val S.lo.2.1 _ _ _ ok0]
        exact S.lx k0 h0 y
  · rcases inM b hb with h | h
    · rw [h]; exact S.n0.2.1
    · exact S.no k hk b h
  · rcases mem_set hj h0 with rfl | ⟨i0, n0, g0⟩
    · simp only [own, List.mem_cons, List.not_mem_nil, or_false] at ha
      rw [e1, e2, e3, e4] at ha
      rcases ha with z | z | z | z | z
      · exact S.no k hk a (by simp [own, z])
      · exact S.no k hk a (by simp [own, z])
      · exact S.no k hk a (by simp [own, z])
      · rcases e5 with e5 | e5
        · exact S.no k hk a (by simp [own, z, e5])
        · rw [z]; exact S.sb.free e5
      · exact S.no k hk a (by simp [own, z])
    · exact S.no k0 (List.mem_of_getElem? g0) a ha
end

end Fk

set_option maxHeartbeats 4000000
namespace Fk
open PySem PySem.Spec PyProof.Rows L2
/-! ### a drawn call -/
def locksOf (ws : List Wk) (j : Nat) : List Str := ((ws.zipIdx.filter fun z => !decide (z.2 = j)).map fun z => z.1.lks).flatten
theorem mem_locksOf {ws : List Wk} {j : Nat} {y : Str} : y ∈ locksOf ws j ↔ ∃ (i : Nat) (k : Wk), i ≠ j ∧ ws[i]? = some k ∧ y ∈ k.lks := by
  unfold locksOf
  rw [List.mem_flatten]
  constructor
  · rintro ⟨l, hl, hy⟩
    obtain ⟨z, hz, rfl⟩ := List.mem_map.mp hl
    obtain ⟨h1, h2⟩ := List.mem_filter.mp hz
    refine ⟨z.2, z.1, fun e => ?_, List.mem_zipIdx_iff_getElem?.mp h1, hy⟩
    rw [e, decide_eq_true rfl] at h2
    cases h2
  · rintro ⟨i, k, n, h, hy⟩
    refine ⟨k.lks, List.mem_map.mpr ⟨(k, i), List.mem_filter.mpr ⟨List.mem_zipIdx_iff_getElem?.mpr h, ?_⟩, rfl⟩, hy⟩
    show (!decide (i = j)) = true
    rw [decide_eq_false n]
    rfl
theorem sum_sub {α : Type} (f : α → Nat) {l m : List α} (h : l.Sublist m) : (l.map f).sum ≤ (m.map f).sum := by
  induction h with
  | slnil => exact Nat.le_refl _
  | cons a _ ih => rw [List.map_cons, List.sum_cons]; omega
  | cons_cons a _ ih => rw [List.map_cons, List.map_cons, List.sum_cons, List.sum_cons]; omega
theorem len_locksOf (ws : List Wk) (j : Nat) : (locksOf ws j).length ≤ totL ws := by
  unfold locksOf totL
  rw [List.length_flatten, List.map_map]
  have h := sum_sub (fun z : Wk × Nat => z.1.lks.length) (List.filter_sublist (l := ws.zipIdx) (p := fun z => !decide (z.2 = j)))
  refine Nat.le_trans h ?_
  have e : ws.zipIdx.map (fun z => z.1.lks.length) = ws.map fun k => k.lks.length := by
    rw [show (fun z : Wk × Nat => z.1.lks.length) = (fun k : Wk => k.lks.length) ∘ Prod.fst from rfl, ← List.map_map, List.zipIdx_map_fst]
  rw [e]
  exact Nat.le_refl _
theorem le_tot {ws : List Wk} {k : Wk} (h : k ∈ ws) : k.cs.length ≤ tot ws := by
  unfold tot
  induction ws with
  | nil => cases h
  | cons a r ih =>
    rw [List.map_cons, List.sum_cons]
    rcases List.mem_cons.mp h with rfl | h
    · omega
    · have := ih h
      omega
theorem le_totL {ws : List Wk} {k : Wk} (h : k ∈ ws) : k.lks.length ≤ totL ws := by
  unfold totL
  induction ws with
  | nil => cases h
  | cons a r ih =>
    rw [List.map_cons, List.sum_cons]
    rcases List.mem_cons.mp h with rfl | h
    · omega
    · have := ih h
      omega
def lockV (ws : List Wk) (i : Nat) (_ : V) : V := match ws[i]? with
  | some k => .ref k.ll
  | none => .non
theorem lockVs (ws : List Wk) (j : Nat) : (((ws.map fun k => V.ref k.d).zipIdx.filter fun z => !decide (z.2 = j)).map fun z => lockV ws z.2 z.1) = (((ws.zipIdx.filter fun z => !decide (z.2 = j)).map fun z => z.1.ll).map V.ref) := by
  rw [List.zipIdx_map, List.filter_map, List.map_map, List.map_map]
  refine List.map_congr_left fun z hz => ?_
  have h := List.mem_zipIdx_iff_getElem?.mp (List.mem_filter.mp hz).1
  show lockV ws z.2 (V.ref z.1.d) = .ref z.1.ll
  unfold lockV
  rw [h]
section
variable {K : PySem.W.Frag} {CE CR : Addr} {Hb H H' : Hp} {W R m wl dx lk tb hd lg mt mh ml : Addr} {ws : List Wk} {i : Nat} {c : Int} {t lt t' lt' kt : Tab} {x n : Str} {L : Str → List (List V)}
theorem St33.near (S : St33 K CE CR Hb H W R m wl ws i c dx lk tb hd lg mt mh ml t lt t' lt' kt x n L) {j : Nat} {k : Wk} (hj : ws[j]? = some k) {nm : Str} (hn : nm ∈ NMS) (y : Str) : y ∈ (locksOf ws j).filter (fun y => nearF y nm) ↔ y ∈ barF kt (opnW ws) k.e nm := by
  rw [List.mem_filter, mem_locksOf, mem_bar S.lo.2.1]
  constructor
  · rintro ⟨⟨i0, k0, n0, h0, hy⟩, hne⟩
    have m0 := List.mem_of_getElem? h0
    refine ⟨.ref k0.e, (S.lx k0 m0 y).mp hy, opnW_true.mpr ⟨k0, m0, rfl⟩, fun z => ?_, by rw [touch_near y ((S.wk k0 m0).nm y hy) nm hn]; exact hne⟩
    exact apart_ne S.ap h0 hj n0 k0.e (by simp [own]) (by rw [V.ref.inj z]; simp [own])
  · rintro ⟨v, hv, ho, ne, ht⟩
    obtain ⟨k0, m0, rfl⟩ := opnW_true.mp ho
    obtain ⟨i0, h0⟩ := List.getElem?_of_mem m0
    have hy := (S.lx k0 m0 y).mpr hv
    refine ⟨⟨i0, k0, fun z => ?_, h0, hy⟩, by rw [← touch_near y ((S.wk k0 m0).nm y hy) nm hn]; exact ht⟩
    rw [z, hj] at h0
    cases h0
    exact ne rfl
end
theorem nm_ok {x : Str} (hx : x ∈ REFS) (kd : Option (Option Str)) : callNm x kd ∈ NMS := by
  cases kd with
  | none => exact List.mem_cons_self
  | some v => exact List.mem_cons_of_mem _ hx
theorem put_stands (k : Wk) (v : V) : putK (workT k) "stands" v = workT { k with st := v } := rfl
theorem put_calls (k : Wk) (a : Addr) : putK (workT k) "calls" (.ref a) = workT { k with lc := a } := rfl
theorem len_callsOf (cs : List (Str × V × V)) (x : Str) (kd : Option (Option Str)) : (callsOf cs x kd).length ≤ cs.length + 1 := by
  cases kd with
  | none => exact Nat.le_succ _
  | some v =>
    show (callPut cs x (callVal v) (.str "")).length ≤ _
    unfold callPut
    rw [List.length_append]
    have := List.length_filter_le (fun c : Str × V × V => decide (c.1 ≠ x)) cs
    show _ + 1 ≤ _
    omega
theorem good_callsOf {cs : List (Str × V × V)} {x : Str} {kd : Option (Option Str)} (g : GoodC cs) (hx : x ∈ REFS) (hk : ∀ z, kd = some (some z) → z ∈ IDS) : GoodC (callsOf cs x kd) := by
  match kd, hk with
  | none, _ => exact g
  | some none, _ => exact good_put g hx (.inl rfl) (.inr (.inl rfl))
  | some (some y), hk => exact good_put g hx (.inr ⟨y, hk y rfl, rfl⟩) (.inr (.inl rfl))
section
variable {P : Program} {w : World} {K : PySem.W.Frag} {mg : Str → Option Value} {base : Heap} {CE CR cS cB iS iB ns r0 h0 l0 cL iL : Addr}
def spCallR (K : PySem.W.Frag) (CE CR : Addr) : Sp := fun vs H Q _ => ∃ (Hb : Hp) (W R m wl : Addr) (ws : List Wk) (i j : Nat) (c : Int), vs = [.ref W, .ref wl, .int (j : Nat)] ∧ Turn33 K CE CR Hb H W R m wl ws i c ∧ j < ws.length ∧ i < 40 ∧ c < 2 ^ 38 ∧
  ∀ ws' c' H', Turn33 K CE CR Hb H' W R m wl ws' (i + 1) c' → c ≤ c' → c' ≤ c + 4 → Q (.bl true) H'
theorem c_l_call_right (S : TopL K mg CE CR cS cB iS iB ns r0 h0 l0 cL iL) : C8.Cal P w K mg base 7 "_law_call_right" (spCallR K CE CR) [] := by
  have T := S.toTopR
  refine cal_of T.d_l_call_right sc_l_call_right (fun _ _ _ _ _ _ us hl => match us, hl with | [_, _, _], _ => rfl) (fun vs H Q E h => ?_) (fun f cdv A outer s H vs Q E hr h => ?_)
  · obtain ⟨Hb, W, R, m, wl, ws, i, j, c, rfl, _⟩ := h
    rfl
  · obtain ⟨Hb, W, R, m, wl, ws, i, j, c, rfl, ⟨dx, lk, tb, hd, lg, mt, mh, ml, t, lt, t', lt', kt, hx0, hn0, L, S0⟩, hj, hi, hc, q⟩ := h
    refine' ⟨_, (pss_cons ?q0 (pss_cons ?q1 (C8.pss_cut ?q2 (C8.pss_cut ?q3 (C8.pss_cut ?q4 (pss_cons ?q5 (pss_cons ?q6 (pss_cons ?q7 (pss_cons ?q8 (pss_cons ?q9 (pss_one ?q10))))))))))), ?main⟩
    case q0 => exact (ps_set (i := 3) sc_l_call_right.nd rfl (Or.inr rfl) (C8.pe_c (c_l_ref T.toTop) hr (by decide) (by rfl) (pa_cons (pv 0) pa_nil)))
    case q1 => exact (ps_set (i := 4) sc_l_call_right.nd rfl (Or.inl rfl) (C8.pe_c (c_l_pick T.toTop) hr (by decide) (by rfl) (pa_cons (pv 0) (pa_cons (pe_lst (pa_cons (pe_tup (pa_cons pe_str (pa_cons (pv 3) (pa_cons (C8.pe_c (c_l_id T.toTop) hr (by decide) (by rfl) (pa_cons (pv 0) pa_nil)) pa_nil)))) (pa_cons (pe_tup (pa_cons pe_str (pa_cons (pv 3) (pa_cons pe_non pa_nil)))) (pa_cons (pe_tup (pa_cons pe_str (pa_cons pe_str (pa_cons (pv 3) pa_nil)))) pa_nil)))) pa_nil))))
    case q2 => exact (ps_set (i := 5) sc_l_call_right.nd rfl (Or.inr rfl) (pe_ifExp (pt_cmpR op_eq (pe_ix ix_tup (pv 4) pe_int (fun _ _ => rfl)) pe_str (nomark _)) pe_str (pv 3)))
    case q3 => exact (ps_set (i := 6) sc_l_call_right.nd rfl (Or.inl rfl) (pe_callB (cr_sumL rfl) (by rfl) T.z_sum (by decide +kernel) (pa_cons (pe_lc (own := [("_law_k", 7), ("_law_work", 8)]) (g := _) (by rfl) sc_l_call_right.nd (pi_enum (by rfl) T.z_enumerate (pa_cons (pv 1) pa_nil)) (blkOk_by (own := [("_law_k", 7), ("_law_work", 8)]) (N := ["_law_source_here", "_law_works", "_law_at", "_law_ref_here", "_law_call", "_law_name", "_law_locks", "_law_k", "_law_work", "_law_near_here", "_law_lock", "_law_told", "_law_one"]) (sc := C8.fnScope s_l_call_right) (by decide +kernel)) (fun _ _ _ _ _ => (pg_tupK (K := K) (n := 2) rfl rfl (pgs_cons (pg_name (i := 7) sc_l_call_right.nd rfl (Or.inl rfl)) (pgs_cons (pg_name (i := 8) sc_l_call_right.nd rfl (Or.inl rfl)) pgs_nil)))) (fun _ _ _ _ _ => pts_one (pt_cmpR op_ne (pv 7) (pv 2) (nomark _))) (fun _ _ _ _ _ => (pe_dget (hu_of hr) (pv 8) pe_str (fun _ _ => rfl)))) (pa_cons (pe_lst pa_nil) pa_nil))))
    case q4 => exact (ps_set (i := 9) sc_l_call_right.nd rfl (Or.inl rfl) (pe_callB (cr_sortedS) (by rfl) T.z_sorted (by decide +kernel) (pa_cons (pe_lc (own := [("_law_lock", 10)]) (g := gName 10) (by rfl) sc_l_call_right.nd (pi_list (pv 6)) (blkOk_by (own := [("_law_lock", 10)]) (N := ["_law_source_here", "_law_works", "_law_at", "_law_ref_here", "_law_call", "_law_name", "_law_locks", "_law_k", "_law_work", "_law_near_here", "_law_lock", "_law_told", "_law_one"]) (sc := C8.fnScope s_l_call_right) (by decide +kernel)) (fun _ _ _ _ _ => (pg_name (i := 10) sc_l_call_right.nd rfl (Or.inl rfl))) (fun _ _ _ _ _ => pts_one (pt_val (C8.pe_c (c_l_near T.toTop) hr (by decide) (by rfl) (pa_cons (pv 10) (pa_cons (pv 5) pa_nil))))) (fun _ _ _ _ _ => (pv 10))) pa_nil)))
    case q5 => exact (ps_set (i := 11) sc_l_call_right.nd rfl (Or.inl rfl) (C8.pe_c (c_l_called S) hr (by decide) (by rfl) (pa_cons (pe_dget (hu_of hr) (pe_ix ix_list (pv 1) (pv 2) (fun _ _ => rfl)) pe_str (fun _ _ => rfl)) (pa_cons (pv 4) pa_nil))))
    case q6 => exact (ps_if (pt_cmpR (op_neD hr.units) (pv 9) (pe_lst pa_nil) (nomark _))
      (pss_one (ps_ret (pe_cmpR op_eq (pv 11) (pe_ix ix_list (pv 9) pe_int (fun _ _ => rfl)) (nomark _))))
      pss_nil)
    case q7 => exact (ps_set (i := 8) sc_l_call_right.nd rfl (Or.inl rfl) (pe_ix ix_list (pv 1) (pv 2) (fun _ _ => rfl)))
    case q8 => exact (ps_expr (pe_bm PySem.F.plainAttrs_list PySem.F.slot_list_append PySem.F.type_list_append mt_append (pe_dget (hu_of hr) (pv 8) pe_str (fun _ _ => rfl)) (pa_cons (pv 5) pa_nil)))
    case q9 => exact (ps_if (pt_cmpR op_eq (pe_ix ix_tup (pv 4) pe_int (fun _ _ => rfl)) pe_str (nomark _))
      (pss_one (ps_dput (hu_of hr) (pv 8) pe_str (pe_tup (pa_cons pe_str (pa_cons (pv 3) pa_nil))) rfl))
      (pss_one (ps_dput (hu_of hr) (pv 8) pe_str (pe_op op_cat (pe_lc (own := [("_law_one", 12)]) (g := gName 12) (by rfl) sc_l_call_right.nd (pi_list (pe_dget (hu_of hr) (pv 8) pe_str (fun _ _ => rfl))) (blkOk_by (own := [("_law_one", 12)]) (N := ["_law_source_here", "_law_works", "_law_at", "_law_ref_here", "_law_call", "_law_name", "_law_locks", "_law_k", "_law_work", "_law_near_here", "_law_lock", "_law_told", "_law_one"]) (sc := C8.fnScope s_l_call_right) (by decide +kernel)) (fun _ _ _ _ _ => (pg_name (i := 12) sc_l_call_right.nd rfl (Or.inl rfl))) (fun _ _ _ _ _ => pts_one (pt_cmpR op_ne (pe_ix (ixK_tup (K := K) rfl) (pv 12) pe_int (fun _ _ => rfl)) (pv 3) (nomark _))) (fun _ _ _ _ _ => (pv 12))) (pe_lst (pa_cons (pe_tup (pa_cons (pv 3) (pa_cons (pe_ix ix_tup (pv 4) pe_int (fun _ _ => rfl)) (pa_cons pe_str pa_nil)))) pa_nil))) rfl)))
    case q10 => exact (ps_ret (pe_cmpR op_isN (pv 11) pe_non (nomark _)))
    obtain ⟨k, hk⟩ : ∃ k, ws[j]? = some k := ⟨_, List.getElem?_eq_getElem hj⟩
    have mk := List.mem_of_getElem? hk
    refine ⟨.ref W, rfl, W, c, rfl, S0.hw, by omega, fun x hx H1 c1 f1 k1 w1 hc1 hc2 => ?_⟩
    have S1 := S0.drawn f1 k1 w1
    refine ⟨.ref W, rfl, .str x, rfl, .ref W, rfl, W, c1, rfl, w1, by omega, fun y hy H2 c2 f2 k2 w2 hc3 hc4 => ⟨(by show 3 ≤ sizeLine; decide), fun p1 hp1 => ⟨.str x, rfl, (by show 3 ≤ sizeLine; decide), fun p2 hp2 => ⟨.str x, rfl, (by show 3 ≤ sizeLine; decide), fun p3 hp3 => ⟨(by show 3 ≤ sizeLine; decide), fun pl hpl => ?_⟩⟩⟩⟩⟩
    have S2 := S1.drawn f2 k2 w2
    have s3 := (((same_new (o := .tup [.str "point", .str x, .str y]) hp1).trans (same_new (o := .tup [.str "point", .str x, .non]) hp2)).trans (same_new (o := .tup [.str "stand", .str "ref", .str x]) hp3)).trans (same_new (o := .lst [.ref p1, .ref p2, .ref p3]) hpl)
    have e1 := ((same_new (o := .tup [.str "point", .str x, .non]) hp2).trans (same_new (o := .tup [.str "stand", .str "ref", .str x]) hp3)).trans (same_new (o := .lst [.ref p1, .ref p2, .ref p3]) hpl) _ _ upd_same
    have e2 := (same_new (o := .tup [.str "stand", .str "ref", .str x]) hp3).trans (same_new (o := .lst [.ref p1, .ref p2, .ref p3]) hpl) _ _ upd_same
    have e3 := (same_new (o := .lst [.ref p1, .ref p2, .ref p3]) hpl) _ _ upd_same
    have e4 : upd (upd (upd (upd H2 p1 (.tup [.str "point", .str x, .str y])) p2 (.tup [.str "point", .str x, .non])) p3 (.tup [.str "stand", .str "ref", .str x])) pl (.lst [.ref p1, .ref p2, .ref p3]) pl = some (.lst [.ref p1, .ref p2, .ref p3]) := upd_same
    have npl : pl ≠ W := by
      obtain ⟨_, _, _, _, _, hW⟩ := id w2
      exact ne_of_none' hpl ((((same_new (o := .tup [.str "point", .str x, .str y]) hp1).trans (same_new (o := .tup [.str "point", .str x, .non]) hp2)).trans (same_new (o := .tup [.str "stand", .str "ref", .str x]) hp3)) _ _ hW)
    generalize upd (upd (upd (upd H2 p1 (.tup [.str "point", .str x, .str y])) p2 (.tup [.str "point", .str x, .non])) p3 (.tup [.str "stand", .str "ref", .str x])) pl (.lst [.ref p1, .ref p2, .ref p3]) = H3 at s3 e1 e2 e3 e4
    refine ⟨W, pl, _, c2, rfl, w2.same s3, e4, npl, (by show 0 < 3; decide), (by show 3 < 1000000; decide), by omega, fun v hv H4 c4 f4 k4 w4 hc5 hc6 => ?_⟩
    have S4 := (S2.same s3).drawn f4 k4 w4
    obtain ⟨pc, kd, rfl, hpc, hkd⟩ : ∃ (pc : Addr) (kd : Option (Option Str)), v = .ref pc ∧ H4 pc = some (.tup (callTup x kd)) ∧ ∀ z, kd = some (some z) → z ∈ IDS := by
      simp only [List.mem_cons, List.not_mem_nil, or_false] at hv
      rcases hv with rfl | rfl | rfl
      · exact ⟨p1, some (some y), rfl, k4 _ _ e1, fun z e => by injection e with e; injection e with e; rw [← e]; exact hy⟩
      · exact ⟨p2, some none, rfl, k4 _ _ e2, fun z e => by injection e with e; cases e⟩
      · exact ⟨p3, none, rfl, k4 _ _ e3, fun z e => by cases e⟩
    have dn : decide (V.str "point" = V.str "stand") = false := decide_eq_false fun z => absurd (V.str.inj z) (by decide +kernel)
    refine ⟨fun σ H' => H' = H4 ∧ σ = [some (.ref W), some (.ref wl), some (.int (j : Nat)), some (.str x), some (.ref pc), some (.str (callNm x kd)), none, none, none, none, none, none, none], ?_, ?_⟩
    · match kd, hpc with
      | none, hpc =>
        refine ⟨.ref pc, rfl, pc, _, 0, .str "stand", rfl, rfl, SqT.of hpc, atI_nat (j := 0) rfl, rfl, _, rfl, ?_⟩
        rw [decide_eq_true rfl]
        exact iteT ⟨rfl, rfl⟩
      | some none, hpc =>
        refine ⟨.ref pc, rfl, pc, _, 0, .str "point", rfl, rfl, SqT.of hpc, atI_nat (j := 0) rfl, rfl, _, rfl, ?_⟩
        rw [dn]
        exact iteF ⟨.str x, rfl, rfl, rfl⟩
      | some (some y), hpc =>
        refine ⟨.ref pc, rfl, pc, _, 0, .str "point", rfl, rfl, SqT.of hpc, atI_nat (j := 0) rfl, rfl, _, rfl, ?_⟩
        rw [dn]
        exact iteF ⟨.str x, rfl, rfl, rfl⟩
    rintro σ H' ⟨rfl, rfl⟩
    have nmk := nm_ok hx kd
    obtain ⟨nm1, nm2⟩ := nms_ok _ nmk
    have t5 := S4.b5
    have t7 := S4.b7
    have ll := len_locksOf ws j
    generalize enm : callNm x kd = nm at nmk nm1 nm2
    -- the locks of the others
    refine ⟨fun σ H5 => Same H' H5 ∧ ∃ p, H5 p = some (.lst ((locksOf ws j).map V.str)) ∧ σ = [some (.ref W), some (.ref wl), some (.int (j : Nat)), some (.str x), some (.ref pc), some (.str nm), some (.ref p), none, none, none, none, none, none], ?_, ?_⟩
    · refine ⟨.ref wl, rfl, wl, _, rfl, SqL.of S4.hl, fun D hD => ?_⟩
      refine lc_enum (lockV ws) (fun i _ => !decide (i = j)) hD (fun H5 s5 => SqL.of (s5 _ _ S4.hl)) (by rw [List.length_map]; omega) (fun i0 v0 Tt H5 h0 s5 hT N M r1 r2 => ?_) (fun H5 s5 h5 => ?_)
      · rw [List.getElem?_map] at h0
        cases hz : ws[i0]? with
        | none => rw [hz] at h0; cases h0
        | some k0 =>
          rw [hz] at h0
          cases h0
          refine ⟨Tt, _, rfl, SqT.of hT, rfl, _, _, rfl, _, _, rfl, rfl, rfl, ?_⟩
          refine ⟨.int i0, rfl, .int j, rfl, rfl, _, rfl, ?_⟩
          by_cases c : i0 = j
          · rw [decide_eq_true (by rw [c])]
            exact iteF (r2 (by rw [decide_eq_true c]; rfl) H5 (Same.refl H5))
          · rw [decide_eq_false (fun z => c (by have := V.int.inj z; omega))]
            have r := r1 (by rw [decide_eq_false c]; rfl) H5 (Same.refl H5)
            have ev : lockV ws i0 (V.ref k0.d) = .ref k0.ll := by
              unfold lockV
              rw [hz]
            rw [ev] at r
            have w0 := S4.wk k0 (List.mem_of_getElem? hz)
            exact iteT ⟨.ref k0.d, rfl, k0.d, .ref k0.ll, rfl, dget_kT (.inl (s5 _ _ w0.hd)) "locks", r⟩
      · rw [lockVs] at h5
        refine ⟨(by show 0 ≤ sizeLine; decide), fun p0 hp0 => ?_⟩
        have s6 := same_new (o := .lst []) hp0
        have el : ((ws.zipIdx.filter fun z => !decide (z.2 = j)).map fun z => z.1.lks.map V.str).flatten = (locksOf ws j).map V.str := by
          unfold locksOf
          rw [List.map_flatten, List.map_map]
          rfl
        refine ⟨D, p0, (ws.zipIdx.filter fun z => !decide (z.2 = j)).map fun z => z.1.ll, [], (ws.zipIdx.filter fun z => !decide (z.2 = j)).map fun z => z.1.lks.map V.str, rfl, SqL.of (s6 _ _ h5), upd_same, by rw [List.length_map, List.length_map], fun i0 l xs g1 g2 => ?_, by rw [List.nil_append, el, List.length_map]; exact small_line (by omega), fun p H6 s7 h7 _ => ?_⟩
        · rw [List.getElem?_map] at g1 g2
          cases hz : (ws.zipIdx.filter fun z => !decide (z.2 = j))[i0]? with
          | none => rw [hz] at g1; cases g1
          | some z =>
            rw [hz] at g1 g2
            cases g1
            cases g2
            have m0 := List.mem_zipIdx_iff_getElem?.mp (List.mem_filter.mp (List.mem_of_getElem? hz)).1
            exact s6 _ _ (s5 _ _ (S4.wk z.1 (List.mem_of_getElem? m0)).hk)
        · rw [List.nil_append, el] at h7
          exact ⟨(s5.trans s6).trans s7, p, h7, rfl⟩
    rintro σ H5 ⟨s5, pk, hpk, rfl⟩
    have S5 := S4.same s5
    -- those that are near
    refine ⟨fun σ H6 => Same H5 H6 ∧ ∃ (p : Addr) (ys : List Str), H6 p = some (.lst (ys.map V.str)) ∧ ys.Perm ((locksOf ws j).filter fun y => nearF y nm) ∧ sortedS ys = true ∧ σ = [some (.ref W), some (.ref wl), some (.int (j : Nat)), some (.str x), some (.ref pc), some (.str nm), some (.ref pk), none, none, some (.ref p), none, none, none], ?_, ?_⟩
    · refine ⟨.ref pk, rfl, pk, rfl, ⟨_, .inl (.inl hpk)⟩, fun D hD => ?_⟩
      refine lc_pure (i := 10) (us := locksOf ws j) (g := V.str) yields_list V.str (fun y => nearF y nm) hD (fun H s => .inl (.inl (s _ _ hpk))) (fun H6 u s6 hu R' r => ?_) (fun H6 u s6 hu _ R' r => ⟨_, rfl, r H6 (Same.refl H6)⟩) (by omega) (fun H6 s6 h6 => ?_)
      · obtain ⟨i0, k0, _, g0, hu⟩ := mem_locksOf.mp hu
        obtain ⟨u1, u2⟩ := nms_ok u ((S5.wk k0 (List.mem_of_getElem? g0)).nm u hu)
        exact ⟨.str u, rfl, .str nm, rfl, u, nm, rfl, u1, u2, nm1, nm2, fun H7 s7 => ⟨_, rfl, r H7 s7⟩⟩
      · refine ⟨D, _, rfl, .inl (.inl h6), Nat.lt_of_le_of_lt (List.length_filter_le _ _) (by omega), fun ys p hp hs hn => ?_⟩
        exact ⟨s6.trans (same_new hn), p, ys, upd_same, hp, hs, rfl⟩
    rintro σ H6 ⟨s6, pn, ys, hpn, hys, hss, rfl⟩
    have S6 := S5.same s6
    have wk6 := S6.wk k mk
    have hpc6 := s6 _ _ (s5 _ _ hpc)
    have mem : ∀ z, z ∈ ys ↔ z ∈ barF kt (opnW ws) k.e nm := fun z => (hys.mem_iff).trans (S6.near hk nmk z)
    have tk := le_tot mk
    have b1 := S6.b1
    refine ⟨.ref wl, rfl, .int (j : Nat), rfl, wl, _, j, .ref k.d, rfl, rfl, SqL.of S6.hl, atI_nat (j := j) (by rw [List.getElem?_map, hk]; rfl), k.d, .ref k.e, rfl, dget_kT (.inl wk6.hd) "edit", .ref pc, rfl, k.e, pc, k.ex, R, k.nt, k.cl, dx, lk, tb, hd, lg, k.nh, x, kd, k.cs, kt, opnW ws, rfl, hpc6, wk6.he, S6.ag.hR, S6.lo, wk6.hc, by omega, hx, hkd, ?_, ?_⟩
    · rw [enm]
      intro y1 r1 hp hs H7 s7
      have oky : ∀ z ∈ ys, OkS z := fun z hz => by
        obtain ⟨hz, _⟩ := List.mem_filter.mp (hys.mem_iff.mp hz)
        obtain ⟨i0, k0, _, g0, hu⟩ := mem_locksOf.mp hz
        exact (nms_ok z ((S6.wk k0 (List.mem_of_getElem? g0)).nm z hu)).2
      obtain ⟨y0, r0, rfl⟩ : ∃ y0 r0, ys = y0 :: r0 := by
        cases ys with
        | nil => exact absurd ((mem y1).mpr (hp.mem_iff.mp List.mem_cons_self)) List.not_mem_nil
        | cons a b => exact ⟨a, b, rfl⟩
      have ey : y1 = y0 := head_uniq hs hss fun z => (hp.mem_iff).trans (mem z).symm
      refine ⟨.ref pn, rfl, (by show 0 ≤ sizeLine; decide), fun pe hpe => ?_⟩
      have s8 := same_new (o := .lst []) hpe
      refine ⟨_, _, .lst (SqL.of (s8 _ _ (s7 _ _ hpn))) (dp_strs _), dp_nil upd_same, shaped_strs _ oky, shaped_nil, _, rfl, ?_⟩
      rw [eqv_nil]
      refine iteT ⟨.str y1, rfl, .ref pn, rfl, pn, _, 0, .str y0, rfl, rfl, SqL.of (s8 _ _ (s7 _ _ hpn)), atI_nat (j := 0) rfl, rfl, ?_⟩
      rw [decide_eq_true (by rw [ey])]
      exact q ws c4 _ ⟨dx, lk, tb, hd, lg, mt, mh, ml, t, lt, t', lt', kt, hx0, hn0, L, (S6.same (s7.trans s8)).more (Nat.le_succ i)⟩ (by omega) (by omega)
    · rw [enm]
      intro hb lk' nh' H7 nlk f7 k7 hR7 he7 hk7 hc7 hst hnst
      have ez : ys = [] := by
        cases ys with
        | nil => rfl
        | cons a b =>
          have := (mem a).mp List.mem_cons_self
          rw [hb] at this
          cases this
      subst ez
      obtain ⟨zs, _, hcl, hzt⟩ := id wk6.hc
      obtain ⟨as, hlc, tp⟩ := id wk6.hl
      have nR := wk6.notR S6.ag.hR T.ne
      have ndc : k.d ≠ k.cl := work_ne wk6.hd hcl fun i0 e => by
        obtain ⟨z, _, ez⟩ := List.mem_map.mp (val_mem e)
        injection ez with _ ez
        cases ez
      have nde : k.d ≠ k.e := at_ne wk6.hd wk6.he fun z => nomatch z
      have ndl : k.d ≠ k.ll := at_ne wk6.hd wk6.hk fun z => nomatch z
      have nlc : k.ll ≠ k.cl := at_ne wk6.hk hcl fun z => nomatch z
      have nle : k.ll ≠ k.e := at_ne wk6.hk wk6.he fun z => nomatch z
      have ncc : k.lc ≠ k.cl := at_ne hlc hcl fun z => nomatch z
      have nce : k.lc ≠ k.e := at_ne hlc wk6.he fun z => nomatch z
      have ndlc : k.lc ≠ k.d := at_ne hlc wk6.hd fun z => nomatch z
      have nec : k.e ≠ k.cl := at_ne wk6.he hcl fun z => nomatch z
      have m3 : ∀ {b : Addr}, b ≠ R → b ≠ k.cl → b ≠ k.e → ∀ d ∈ [R, k.cl, k.e], b ≠ d := fun h1 h2 h3 d hd => by
        simp only [List.mem_cons, List.not_mem_nil, or_false] at hd
        rcases hd with rfl | rfl | rfl <;> assumption
      have hd7 := f7.out wk6.hd (m3 (nR k.d (by simp [own])) ndc nde)
      have hll7 := f7.out wk6.hk (m3 (nR k.ll (by simp [own])) nlc nle)
      have hlc7 := wk6.hl.out k7 f7 (fun z => m3 (nR k.lc (by simp [own])) ncc nce k.lc z rfl)
      have hwl7 : H7 wl = some (.lst (ws.map fun k => V.ref k.d)) := by
        have nne : ws ≠ [] := fun z => by rw [z] at mk; cases mk
        have nw := wk6.notWl S6.hl (fun k0 h0 => ⟨_, (S6.wk k0 h0).hd⟩) nne
        refine f7.out S6.hl (m3 (fun z => ?_) (nw k.cl (by simp [own])).symm (nw k.e (by simp [own])).symm)
        have := S6.hl
        rw [z, S6.ag.hR] at this
        cases this
      have fin : ∀ (HF : Hp) (lc' : Addr) (st' : V), FrL [k.d, k.ll] H7 HF → TupKeep H7 HF → HF k.d = some (.dK (kT (workT { k with st := st', lc := lc' }))) → HF k.ll = some (.lst ((k.lks ++ [nm]).map V.str)) → CallsL HF lc' (callsOf k.cs x kd) → (lc' = k.lc ∨ H7 lc' = none) → StandAt HF st' nh' →
          ∃ ws', Turn33 K CE CR Hb HF W R m wl ws' (i + 1) c4 := fun HF lc' st' fF kF g1 g2 g3 g4 g5 => by
        have nlkd : ∀ {b : Addr} {o : HO}, H6 b = some o → lk' ≠ b := fun e z => by rw [z, e] at nlk; cases nlk
        have hfr : H7 lc' = none → H6 lc' = none := fun e => by
          cases c : H6 lc' with
          | none => rfl
          | some o =>
            by_cases c1 : lc' = R
            · rw [c1, hR7] at e; cases e
            · by_cases c2 : lc' = k.cl
              · obtain ⟨_, _, h, _⟩ := id hc7
                rw [c2, h] at e; cases e
              · by_cases c3 : lc' = k.e
                · rw [c3, he7] at e; cases e
                · rw [f7.out c (m3 c1 c2 c3)] at e; cases e
        refine ⟨ws.set j { k with nh := nh', st := st', cs := callsOf k.cs x kd, lc := lc', lks := k.lks ++ [nm] }, dx, lk', tb, hd, lg, mt, mh, ml, t, lt, t', lt', _, hx0, hn0, L, S6.called T.ne hk ?_ (k7.trans kF) (fF.out hR7 (not2 (nR k.d (by simp [own])).symm (nR k.ll (by simp [own])).symm)) nlk (fF.out hk7 (not2 (nlkd wk6.hd) (nlkd wk6.hk))) ?_ rfl rfl rfl rfl (g4.imp id hfr) rfl (len_callsOf _ _ _) nmk hb (by omega)⟩
        · refine (f7.mono fun b hb => ?_).trans (fF.mono fun b hb => ?_)
          · simp only [List.mem_cons, List.not_mem_nil, or_false] at hb ⊢
            rcases hb with z | z | z <;> simp [z]
          · simp only [List.mem_cons, List.not_mem_nil, or_false] at hb ⊢
            rcases hb with z | z <;> simp [z]
        · exact { hd := g1, he := fF.out he7 (not2 nde.symm nle.symm), hn := kF _ _ (k7 _ _ wk6.hn), hc := hc7.keep kF fun o eo => fF.out eo (not2 ndc.symm nlc.symm), hl := g3, hk := g2, st := g5, gc := good_callsOf wk6.gc hx hkd, w0 := wk6.w0, w1 := wk6.w1, nm := fun z hz => (List.mem_append.mp hz).elim (wk6.nm z) fun h => by rw [List.mem_singleton.mp h]; exact nmk,
                  ne := by
                    rcases g4 with h | h
                    · show lc' ≠ k.ll
                      rw [h]; exact wk6.ne
                    · exact fun z => by
                        have z : lc' = k.ll := z
                        rw [z, hll7] at h; cases h }
      refine ⟨.ref pn, rfl, (by show 0 ≤ sizeLine; decide), fun pe hpe => ?_⟩
      have hpn7 : H7 pn = some (.lst []) := by
        refine f7.out hpn (m3 (at_ne hpn S6.ag.hR fun z => nomatch z) (at_ne hpn hcl fun z => nomatch z) (at_ne hpn wk6.he fun z => nomatch z))
      have s8 := same_new (o := .lst []) hpe
      refine ⟨_, _, dp_nil (s8 _ _ hpn7), dp_nil upd_same, shaped_nil, shaped_nil, _, rfl, ?_⟩
      generalize upd H7 pe (.lst []) = H8 at s8
      rw [show PyData.eqv (.list []) (.list []) = true by decide +kernel]
      refine iteF ⟨.ref wl, rfl, .int (j : Nat), rfl, wl, _, j, .ref k.d, rfl, rfl, SqL.of (s8 _ _ hwl7), atI_nat (j := j) (by rw [List.getElem?_map, hk]; rfl), ?_⟩
      have hll8 := s8 _ _ hll7
      have hd8 := s8 _ _ hd7
      refine ⟨.ref k.d, rfl, k.d, .ref k.ll, rfl, dget_kT (.inl hd8) "locks", .inl ⟨rfl, _, SqL.of hll8⟩, .str nm, rfl, k.ll, _, _, rfl, rfl, hll8, small_lt ?_, ?_⟩
      · have := le_totL mk
        have := S6.b5
        rw [List.length_map]
        omega
      have f9 : FrL [k.d, k.ll] H7 (upd H8 k.ll (.lst (k.lks.map V.str ++ [.str nm]))) := (FrL.same s8).trans (FrL.at (by simp))
      have k9 : TupKeep H7 (upd H8 k.ll (.lst (k.lks.map V.str ++ [.str nm]))) := (TupKeep.of s8).trans (TupKeep.at fun xs z => by rw [hll8] at z; cases z)
      have hll9 : (upd H8 k.ll (.lst (k.lks.map V.str ++ [.str nm]))) k.ll = some (.lst ((k.lks ++ [nm]).map V.str)) := by rw [upd_same, List.map_append]; rfl
      have hd9 : (upd H8 k.ll (.lst (k.lks.map V.str ++ [.str nm]))) k.d = some (.dK (kT (workT k))) := by rw [upd_ne ndl]; exact hd8
      have hpc9 : (upd H8 k.ll (.lst (k.lks.map V.str ++ [.str nm]))) pc = some (.tup (callTup x kd)) := k9 _ _ (k7 _ _ hpc6)
      have hlc9 : CallsL (upd H8 k.ll (.lst (k.lks.map V.str ++ [.str nm]))) k.lc k.cs := hlc7.out k9 f9 (by simp only [List.mem_cons, List.not_mem_nil, or_false]; exact fun z => z.elim ndlc wk6.ne)
      have hst9 := (wk6.st.keep k7).keep k9
      generalize upd H8 k.ll (.lst (k.lks.map V.str ++ [.str nm])) = H9 at f9 k9 hll9 hd9 hpc9 hlc9 hst9
      match kd, hpc9, hc7, hst, hnst, fin with
      | none, hpc9, hc7, hst, hnst, fin =>
        obtain ⟨hh, rfl, hhh⟩ := hst rfl
        refine ⟨.ref pc, rfl, pc, _, 0, .str "stand", rfl, rfl, SqT.of hpc9, atI_nat (j := 0) rfl, rfl, _, rfl, ?_⟩
        rw [decide_eq_true rfl]
        refine iteT ⟨.str x, rfl, (by show 2 ≤ sizeLine; decide), fun sp hsp => ?_⟩
        have s10 := same_new (o := .tup [.str "ref", .str x]) hsp
        have hd10 := s10 _ _ hd9
        have hll10 := s10 _ _ hll9
        have hsp10 : (upd H9 sp (.tup [.str "ref", .str x])) sp = some (.tup [.str "ref", .str x]) := upd_same
        generalize upd H9 sp (.tup [.str "ref", .str x]) = H10 at s10 hd10 hll10 hsp10
        refine ⟨.ref k.d, rfl, k.d, _, rfl, .inl ⟨kT (workT k), .inr "stands", hd10, rfl, small_lt (by rw [len_kT]; show 5 ≤ _; decide), rfl⟩, ?_⟩
        rw [putK_kT, put_stands]
        have k11 : TupKeep H10 (upd H10 k.d (.dK (kT (workT { k with st := .ref sp })))) := TupKeep.at fun xs z => by rw [hd10] at z; cases z
        have f11 : FrL [k.d, k.ll] H10 (upd H10 k.d (.dK (kT (workT { k with st := .ref sp })))) := FrL.at (by simp)
        have kk := (k9.trans (TupKeep.of s10)).trans k11
        have ff := (f9.trans (FrL.same s10)).trans f11
        obtain ⟨ws', t'⟩ := fin _ k.lc (.ref sp) ff kk upd_same (by rw [upd_ne ndl.symm]; exact hll10) ((hlc9.same s10).out k11 f11 (by simp only [List.mem_cons, List.not_mem_nil, or_false]; exact fun z => z.elim ndlc wk6.ne)) (.inl rfl) (.inr ⟨sp, hh, "ref", x, rfl, rfl, k11 _ _ hsp10, kk _ _ hhh, ⟨.inl ⟨rfl, (refs_ok x hx).1⟩, (refs_ok x hx).2⟩⟩)
        refine ⟨.non, rfl, rfl, ?_⟩
        rw [decide_eq_true rfl]
        exact q ws' c4 _ t' (by omega) (by omega)
      | some v, hpc9, hc7, hst, hnst, fin =>
        have enh := hnst (fun z => nomatch z)
        subst enh
        refine ⟨.ref pc, rfl, pc, callTup x (some v), 0, .str "point", rfl, rfl, SqT.of hpc9, atI_nat (j := 0) (by cases v <;> rfl), rfl, _, rfl, ?_⟩
        rw [dn]
        obtain ⟨bs0, hlc9', tp9⟩ := id hlc9
        have el : bs0.length = k.cs.length := by have := tp9.1; rw [List.length_map] at this; exact this
        refine iteF ⟨.ref k.d, rfl, k.d, .ref k.lc, rfl, dget_kT (.inl hd9) "calls", k.lc, rfl, ⟨_, .inl (.inl hlc9')⟩, fun D hD => ?_⟩
        refine lc_pure (i := 12) (us := bs0.zip k.cs) (g := fun z => V.ref z.1) (yields_zipL el) (fun z => V.ref z.1) (fun z => decide (z.2.1 ≠ x)) hD (fun H s => .inl (.inl (s _ _ hlc9'))) (fun H11 u s11 hu R' r => ?_) (fun H11 u s11 hu _ R' r => ⟨_, rfl, r H11 (Same.refl H11)⟩) (by rw [List.length_zip]; omega) (fun H11 s11 h11 => ?_)
        · refine ⟨.ref u.1, rfl, u.1, _, 0, .str u.2.1, rfl, rfl, SqT.of (s11 _ _ (tups_get tp9 hu)), rfl, .str x, rfl, rfl, _, rfl, ?_⟩
          have r := r H11 (Same.refl H11)
          have e : (!decide (V.str u.2.1 = V.str x)) = decide (u.2.1 ≠ x) := by
            by_cases cx : u.2.1 = x
            · rw [decide_eq_true (by rw [cx]), decide_eq_false (fun z => z cx)]
              rfl
            · rw [decide_eq_false (fun z => cx (V.str.inj z)), decide_eq_true cx]
              rfl
          rw [e]
          exact r
        · obtain ⟨bs, eb, tb'⟩ := tups_filter callL (fun z : Str × V × V => decide (z.1 ≠ x)) k.cs bs0 (tp9.keep (TupKeep.of s11))
          rw [eb] at h11
          have lb : bs.length ≤ k.cs.length := by
            have := tb'.1
            rw [List.length_map] at this
            rw [this]
            exact List.length_filter_le _ _
          refine ⟨.str x, rfl, .ref pc, rfl, pc, callTup x (some v), 2, callVal v, rfl, rfl, SqT.of (s11 _ _ hpc9), atI_nat (j := 2) (by cases v <;> rfl), (by show 3 ≤ sizeLine; decide), fun pt hpt => ⟨(by show 1 ≤ sizeLine; decide), fun p5 hp5 => ?_⟩⟩
          have s12 := (same_new (o := .tup [.str x, callVal v, .str ""]) hpt).trans (same_new (o := .lst [.ref pt]) hp5)
          have hpt12 := (same_new (o := .lst [.ref pt]) hp5) _ _ (upd_same (H := H11) (a := pt) (o := .tup [.str x, callVal v, .str ""]))
          have hp12 : (upd (upd H11 pt (.tup [.str x, callVal v, .str ""])) p5 (.lst [.ref pt])) p5 = some (.lst [.ref pt]) := upd_same
          generalize upd (upd H11 pt (.tup [.str x, callVal v, .str ""])) p5 (.lst [.ref pt]) = H12 at s12 hpt12 hp12
          refine ⟨D, p5, _, _, rfl, rfl, s12 _ _ h11, hp12, small_line (by rw [List.length_map]; show _ + 1 ≤ _; omega), fun lc' hl' => ?_⟩
          have s13 := same_new (o := .lst (bs.map V.ref ++ [V.ref pt])) hl'
          have hl13 : (upd H12 lc' (.lst (bs.map V.ref ++ [V.ref pt]))) lc' = some (.lst ((bs ++ [pt]).map V.ref)) := by rw [upd_same, List.map_append]; rfl
          generalize upd H12 lc' (.lst (bs.map V.ref ++ [V.ref pt])) = H13 at s13 hl13
          have s93 := (s11.trans s12).trans s13
          have hd13 := s93 _ _ hd9
          refine ⟨.ref k.d, rfl, k.d, _, rfl, .inl ⟨kT (workT k), .inr "calls", hd13, rfl, small_lt (by rw [len_kT]; show 5 ≤ _; decide), rfl⟩, ?_⟩
          rw [putK_kT, put_calls]
          have k14 : TupKeep H13 (upd H13 k.d (.dK (kT (workT { k with lc := lc' })))) := TupKeep.at fun xs z => by rw [hd13] at z; cases z
          have f14 : FrL [k.d, k.ll] H13 (upd H13 k.d (.dK (kT (workT { k with lc := lc' })))) := FrL.at (by simp)
          have kk := (k9.trans (TupKeep.of s93)).trans k14
          have ff := (f9.trans (FrL.same s93)).trans f14
          have nl7 : H7 lc' = none := by
            have h9 := (s11.trans s12).free hl'
            refine f9.free (fun z => ?_) h9
            simp only [List.mem_cons, List.not_mem_nil, or_false] at z
            rcases z with z | z
            · rw [z, hd9] at h9; cases h9
            · rw [z, hll9] at h9; cases h9
          have nld : lc' ≠ k.d := fun z => by rw [z, hd7] at nl7; cases nl7
          have tpf : Tups (upd H13 k.d (.dK (kT (workT { k with lc := lc' })))) (bs ++ [pt]) ((callPut k.cs x (callVal v) (.str "")).map callL) := by
            unfold callPut
            rw [List.map_append]
            exact ((((tb'.keep (TupKeep.of s12)).keep (TupKeep.of s13)).snoc (s13 _ _ hpt12)).keep k14)
          obtain ⟨ws', t'⟩ := fin _ lc' k.st ff kk upd_same (by rw [upd_ne ndl.symm]; exact s93 _ _ hll9) ⟨bs ++ [pt], by rw [upd_ne nld]; exact hl13, tpf⟩ (.inr nl7) (hst9.keep ((TupKeep.of s93).trans k14))
          refine ⟨.non, rfl, rfl, ?_⟩
          rw [decide_eq_true rfl]
          exact q ws' c4 _ t' (by omega) (by omega)
end

end Fk

set_option maxHeartbeats 4000000
/-! xs == []. -/
namespace Fk
open PySem PySem.Spec PyProof.Rows L2
def rEqE : R2 := fun x y H Q => ∃ a b xs, x = .ref a ∧ y = .ref b ∧ H a = some (.lst xs) ∧ H b = some (.lst []) ∧ Q (.bl xs.isEmpty) H
theorem op_eqE {X : Cx} (hu : X.A.units + 64 < cLine) : OpR X (compareOp .Eq) rEqE := by
  intro pins s σ H x y v u Q I rx ry h
  obtain ⟨a, b, xs, rfl, rfl, ha, hb, q⟩ := h
  cases rx
  cases ry
  obtain ⟨z1, its1, n1, r1, l1, e1⟩ := I.lstM ha
  obtain ⟨z2, its2, n2, r2, l2, e2⟩ := I.lstM hb
  have hb0 : its2 = [] := by cases r2; rfl
  subst hb0
  have done : EP X pins σ Q (.bool xs.isEmpty) s := ⟨.bl _, H, I, rfl, q⟩
  cases xs with
  | nil =>
    have h0 : its1 = [] := by cases r1; rfl
    subst h0
    exact SeqAt.RcAt.lists (e := fun _ => true) ⟨_, e1, rfl, _, rfl⟩ ⟨_, e2, rfl, _, rfl⟩ rfl (by omega) (fun j j1 _ => absurd j1 (by simp)) _ _ _ _ done
  | cons c r =>
    obtain ⟨u, us, rfl⟩ : ∃ u us, its1 = u :: us := by cases r1; exact ⟨_, _, rfl⟩
    exact SeqAt.RcAt.lists_lengths ⟨_, e1, rfl, _, rfl⟩ ⟨_, e2, rfl, _, rfl⟩ (by simp) (by omega) _ _ _ _ done
end Fk

set_option maxHeartbeats 4000000
namespace Fk
open PySem PySem.Spec PyProof.Rows L2
/-! ### an edit that is closed, an edit that is opened -/
section
variable {K : PySem.W.Frag} {CE CR : Addr}
variable {Hb H H' : Hp} {W R m wl dx lk tb hd lg mt mh ml : Addr} {ws : List Wk} {i : Nat} {c : Int} {t lt t' lt' kt : Tab} {x n : Str} {L : Str → List (List V)}
theorem St33.closed (S : St33 K CE CR Hb H W R m wl ws i c dx lk tb hd lg mt mh ml t lt t' lt' kt x n L) (ne : CE ≠ CR) {j i2 : Nat} {k : Wk} (hj : ws[j]? = some k) {m2 tb2 hd2 lg2 mt2 mh2 ml2 : Addr} {t2 lt2 t2' lt2' : Tab} {x2 n2 : Str} {L2 : Str → List (List V)} (f : FrL [R, k.e, wl] H H') (kp : TupKeep H H')
    (hl : H' wl = some (.lst ((ws.eraseIdx j).map fun k => V.ref k.d))) (he : H' k.e = some (.ins CE k.ex (ef R k.nt k.cl k.nh true))) (ag : Agree K CR H' R dx lk tb2 hd2 lg2 m2 mt2 mh2 ml2 t2 lt2 t2' lt2' x2 n2 L2) (it : IdsT t2')
    (b1 : t2.length ≤ t.length + k.cs.length) (b2 : lt2.length ≤ lt.length + k.cs.length + (i2 - i)) (b3 : lt2'.length ≤ lt'.length + k.cs.length + (i2 - i)) (b4 : ∀ y, (L2 y).length ≤ (L y).length + k.cs.length + (i2 - i)) (hi : i ≤ i2)
    (nw : ∀ b ∈ [tb2, lg2, mt2, ml2, m2], b ∈ [tb, lg, mt, ml, m] ∨ H b = none) : St33 K CE CR Hb H' W R m2 wl (ws.eraseIdx j) i2 c dx lk tb2 hd2 lg2 mt2 mh2 ml2 t2 lt2 t2' lt2' kt x2 n2 L2 := by
  have mk := List.mem_of_getElem? hj
  have wk := S.wk k mk
  have nne : ws ≠ [] := fun z => by rw [z] at mk; cases mk
  have hds : ∀ k ∈ ws, ∃ u, H k.d = some (.dK u) := fun k0 h0 => ⟨_, (S.wk k0 h0).hd⟩
  have notM : ∀ (i0 : Nat) (k0 : Wk), i0 ≠ j → ws[i0]? = some k0 → ∀ a ∈ own k0, a ∉ [R, k.e, wl] := fun i0 k0 n0 h0 a ha hM => by
    have w0 := S.wk k0 (List.mem_of_getElem? h0)
    simp only [List.mem_cons, List.not_mem_nil, or_false] at hM
    rcases hM with z | z | z
    · exact w0.notR S.ag.hR ne a ha z
    · exact apart_ne S.ap h0 hj n0 a ha (by rw [z]; simp [own])
    · exact w0.notWl S.hl hds nne a ha z
  have nW : ∀ b ∈ [R, k.e, wl], W ≠ b := fun b hb z => by
    simp only [List.mem_cons, List.not_mem_nil, or_false] at hb
    rcases hb with rfl | rfl | rfl
    · exact S.hw.ne S.ag.hR (fun _ z => nomatch z) z.symm
    · exact S.hw.ne wk.he (fun _ z => nomatch z) z.symm
    · obtain ⟨_, _, _, _, _, h⟩ := S.hw
      have := S.hl
      rw [← z, h] at this
      injection this with this
      injection this with this
      cases e : ws with
      | nil => rw [e] at this; cases this
      | cons u r => rw [e] at this; cases this
  have t1 := sum_erase (fun k : Wk => k.cs.length) ws j k hj
  have t3 := sum_erase (fun k : Wk => k.lks.length) ws j k hj
  have tt : tot (ws.eraseIdx j) + k.cs.length = tot ws := t1
  have tl : totL (ws.eraseIdx j) ≤ totL ws := by unfold totL; omega
  have c1 := S.b1
  have c2 := S.b2
  have c3 := S.b3
  have c5 := S.b5
  have c6 := S.b6
  have sub : ∀ k0 ∈ ws.eraseIdx j, k0 ∈ ws := fun k0 h0 => (List.eraseIdx_sublist ws j).subset h0
  have opn : ∀ e' : Addr, e' ≠ k.e → opnW (ws.eraseIdx j) (.ref e') = opnW ws (.ref e') := fun e' n' => by
    rw [Bool.eq_iff_iff, opnW_true, opnW_true]
    constructor
    · rintro ⟨y, hy, ev⟩
      exact ⟨y, sub y hy, ev⟩
    · rintro ⟨y, hy, ev⟩
      obtain ⟨i0, h0⟩ := List.getElem?_of_mem hy
      by_cases cj : i0 = j
      · rw [cj, hj] at h0
        cases h0
        exact absurd (V.ref.inj ev) n'
      · refine ⟨y, ?_, ev⟩
        by_cases lt0 : i0 < j
        · exact List.mem_of_getElem? (i := i0) (by rw [List.getElem?_eraseIdx, if_pos lt0]; exact h0)
        · refine List.mem_of_getElem? (i := i0 - 1) ?_
          rw [List.getElem?_eraseIdx, if_neg (by omega), show i0 - 1 + 1 = i0 by omega]
          exact h0
  have opk : opnW (ws.eraseIdx j) (.ref k.e) = false := by
    cases c : opnW (ws.eraseIdx j) (.ref k.e) with
    | false => rfl
    | true =>
      obtain ⟨y, hy, ev⟩ := opnW_true.mp c
      obtain ⟨i0, n0, h0⟩ := mem_erase hy
      exact absurd (show k.e ∈ own k by simp [own]) (apart_ne S.ap h0 hj n0 k.e (by rw [V.ref.inj ev]; simp [own]))
  exact {
    ag := ag
    hw := S.hw.out f nW
    it := it
    b1 := by omega
    b2 := by omega
    b3 := by omega
    b4 := fun y => by
      have := S.b4 y
      have := b4 y
      omega
    hl := hl
    wk := fun k0 h0 => by
      obtain ⟨i0, n0, g0⟩ := mem_erase h0
      exact (S.wk k0 (sub k0 h0)).keep f kp (notM i0 k0 n0 g0)
    ap := List.Pairwise.sublist (List.eraseIdx_sublist ws j) S.ap
    cl := fun k0 h0 => by
      have m0 := sub k0 h0
      obtain ⟨d1, d2, d3, d4, d5, d6⟩ := S.cl k0 m0
      have th := (S.wk k0 m0).there k0.cl (by simp [own])
      have g : ∀ b ∈ [tb2, lg2, mt2, ml2, m2], k0.cl ≠ b := fun b hb z => by
        rcases nw b hb with h | h
        · simp only [List.mem_cons, List.not_mem_nil, or_false] at h
          rcases h with rfl | rfl | rfl | rfl | rfl
          · exact d1 z
          · exact d2 z
          · exact d3 z
          · exact d4 z
          · exact d6 z
        · exact th (by rw [z]; exact h)
      exact ⟨g tb2 (by simp), g lg2 (by simp), g mt2 (by simp), g ml2 (by simp), d5, g m2 (by simp)⟩
    lo := by
      obtain ⟨l1, l2, l3, l4⟩ := S.lo
      refine ⟨f.out l1 fun b hb => ?_, l2, l3, fun z hz => ?_⟩
      · simp only [List.mem_cons, List.not_mem_nil, or_false] at hb
        rcases hb with rfl | rfl | rfl
        · exact at_ne l1 S.ag.hR fun z => nomatch z
        · exact at_ne l1 wk.he fun z => nomatch z
        · exact at_ne l1 S.hl fun z => nomatch z
      · obtain ⟨a, e', dx', fs', g1, g2, g3⟩ := l4 z hz
        refine ⟨a, ?_⟩
        by_cases ce : e' = k.e
        · refine ⟨k.e, k.ex, _, by rw [g1, ce], he, ?_⟩
          rw [g1, ce, opk]
          rfl
        · refine ⟨e', dx', fs', g1, f.out g2 fun b hb => ?_, ?_⟩
          · simp only [List.mem_cons, List.not_mem_nil, or_false] at hb
            rcases hb with rfl | rfl | rfl
            · exact at_ne g2 S.ag.hR fun z => by
                injection z with z
                exact ne z
            · exact ce
            · exact at_ne g2 S.hl fun z => nomatch z
          · rw [g3, g1, opn e' ce]
    nm := S.nm
    lx := fun k0 h0 => S.lx k0 (sub k0 h0)
    b5 := by omega
    b6 := by omega
    b7 := by have := (List.eraseIdx_sublist ws j).length_le; have := S.b7; omega
    sb := same_fr S.sb f fun b hb => by
      simp only [List.mem_cons, List.not_mem_nil, or_false] at hb
      rcases hb with rfl | rfl | rfl
      · exact S.n0.2.1
      · exact S.no k mk k.e (by simp [own])
      · exact S.n0.2.2
    n0 := S.n0
    no := fun k0 h0 => S.no k0 (sub k0 h0) }
theorem St33.opened (S : St33 K CE CR Hb H W R m wl ws i c dx lk tb hd lg mt mh ml t lt t' lt' kt x n L) {k : Wk} (f : FrL [wl] H H') (kp : TupKeep H H') (hl : H' wl = some (.lst ((ws ++ [k]).map fun k => V.ref k.d))) (w : WkAt CE H' R k) (fr : ∀ a ∈ own k, H a = none) (e1 : k.cs = []) (e2 : k.lks = []) (h4 : ws.length < 4) :
    St33 K CE CR Hb H' W R m wl (ws ++ [k]) (i + 1) c dx lk tb hd lg mt mh ml t lt t' lt' kt x n L := by
  have hds : ∀ k ∈ ws, ∃ u, H k.d = some (.dK u) := fun k0 h0 => ⟨_, (S.wk k0 h0).hd⟩
  have nl : ∀ {b : Addr} {o : HO}, H b = some o → (∀ l, o ≠ .lst l) → H' b = some o := fun e n => f.out e (not1 (at_ne e S.hl (n _)))
  obtain ⟨m1, m2, m3, m4⟩ := id S.ag.hM
  have ntl : NotLog H wl := fun a r h xs z => by
    rw [S.hl] at h
    cases e : ws with
    | nil => rw [e] at h; cases h
    | cons u s =>
      rw [e] at h
      cases h
      rw [(S.wk u (by rw [e]; exact List.mem_cons_self)).hd] at z
      cases z
  have nW : W ≠ wl := fun z => by
    obtain ⟨_, _, _, _, _, h⟩ := S.hw
    have := S.hl
    rw [← z, h] at this
    injection this with this
    injection this with this
    cases e : ws with
    | nil => rw [e] at this; cases this
    | cons u r => rw [e] at this; cases this
  have wks : ∀ k0 ∈ ws, WkAt CE H' R k0 := fun k0 h0 => (S.wk k0 h0).keep f kp fun a ha hM => (S.wk k0 h0).notWl S.hl hds (fun z => by rw [z] at h0; cases h0) a ha (List.mem_singleton.mp hM)
  have tt : tot (ws ++ [k]) = tot ws := by
    unfold tot
    rw [List.map_append, List.sum_append]
    show _ + (k.cs.length + 0) = _
    rw [e1]
    rfl
  have tl : totL (ws ++ [k]) = totL ws := by
    unfold totL
    rw [List.map_append, List.sum_append]
    show _ + (k.lks.length + 0) = _
    rw [e2]
    rfl
  have ke : H k.e = none := fr k.e (by simp [own])
  have c1 := S.b1
  have c2 := S.b2
  have c3 := S.b3
  have c5 := S.b5
  have c6 := S.b6
  exact { ag := S.ag.mv f kp (nl S.ag.hR fun _ z => nomatch z) fun b hb => by
            rw [List.mem_singleton.mp hb]
            exact ⟨(at_ne S.ag.hT S.hl (fun z => nomatch z)).symm, (at_ne S.ag.hL S.hl fun z => nomatch z).symm, (at_ne m1 S.hl fun z => nomatch z).symm, (at_ne m2 S.hl fun z => nomatch z).symm, (at_ne m4 S.hl fun z => nomatch z).symm, ntl⟩
          hw := S.hw.out f (not1 nW), it := S.it, b1 := by omega, b2 := by omega, b3 := by omega, b4 := fun y => by have := S.b4 y; omega, hl := hl
          wk := fun k0 h0 => (List.mem_append.mp h0).elim (wks k0) fun h => by rw [List.mem_singleton.mp h]; exact w
          ap := List.pairwise_append.mpr ⟨S.ap, List.pairwise_singleton _ _, fun a ha b hb y hy hz => by
            rw [List.mem_singleton.mp hb] at hz
            exact (S.wk a ha).there y hy (fr y hz)⟩
          cl := fun k0 h0 => by
            rcases List.mem_append.mp h0 with h | h
            · exact S.cl k0 h
            · rw [List.mem_singleton.mp h]
              have fc := fr k.cl (by simp [own])
              exact ⟨ne_of_none' fc S.ag.hT, ne_of_none' fc S.ag.hL, ne_of_none' fc m2, ne_of_none' fc m4, ne_of_none' fc S.lo.1, ne_of_none' fc m1⟩
          lo := by
            obtain ⟨l1, l2, l3, l4⟩ := S.lo
            refine ⟨nl l1 (fun _ z => nomatch z), l2, l3, fun z hz => ?_⟩
            obtain ⟨a, e', dx', fs', g1, g2, g3⟩ := l4 z hz
            refine ⟨a, e', dx', fs', g1, nl g2 (fun _ z => nomatch z), ?_⟩
            rw [g3, g1]
            congr 3
            unfold opnW
            rw [List.any_append, List.any_cons, List.any_nil, decide_eq_false (fun z => ne_of_none' ke g2 (V.ref.inj z).symm)]
            simp
          nm := S.nm
          lx := fun k0 h0 y => by
            rcases List.mem_append.mp h0 with h | h
            · exact S.lx k0 h y
            · rw [List.mem_singleton.mp h, e2]
              refine ⟨fun z => absurd z List.not_mem_nil, fun z => ?_⟩
              obtain ⟨_, e', _, _, g1, g2, _⟩ := S.lo.2.2.2 _ (val_mem z)
              rw [← V.ref.inj g1, ke] at g2
              cases g2
          b5 := by omega, b6 := by omega
          b7 := by rw [List.length_append]; show _ + 1 ≤ _; omega
          sb := same_fr S.sb f fun b hb => by rw [List.mem_singleton.mp hb]; exact S.n0.2.2
          n0 := S.n0
          no := fun k0 h0 a ha => by
            rcases List.mem_append.mp h0 with h | h
            · exact S.no k0 h a ha
            · rw [List.mem_singleton.mp h] at ha
              exact S.sb.free (fr a ha) }
end

end Fk

set_option maxHeartbeats 4000000
namespace Fk
open PySem PySem.Spec PyProof.Rows L2
/-! ### the law -/
theorem pe_mk0 {X : Cx} {k j : Nat} {C : Addr} {x : Str} {sp : Sp} {dvs : List V} {p pos : Pos} (c : C8.Mak X.prog X.w X.K X.mg X.base k x C sp dvs) (hr : Room j X.A) (hk : k + 1 ≤ j) (hg : Gl X x)
    (hdb : (x == ("__debug__" : Str)) = false := by decide) : PE X (.Call (.Name x p) [] [] pos) (tMake C sp dvs C8.E0 tNil) := by
  obtain ⟨f, fd, ps, ds, M, F, hm, b, d⟩ := c.ex
  exact pe_make0 M F (hr.mono hk) hg hm b d C8.pass0 hdb
theorem cells_int {v : Int} {zs : List Int} {lo hi : Option Int} {x : V} (h : x ∈ [V.int v] ++ cutV (zs.map V.int) lo hi) : ∃ n, x = .int n := by
  rcases List.mem_append.mp h with h | h
  · exact ⟨v, List.mem_singleton.mp h⟩
  · unfold cutV at h
    obtain ⟨n, _, rfl⟩ := List.mem_map.mp (List.mem_of_mem_drop (List.mem_of_mem_take h))
    exact ⟨n, rfl⟩
def spLaw (K : PySem.W.Frag) : Sp := fun vs H Q _ => ∃ (a : Addr) (zs : List Int), vs = [.ref a] ∧ SqL K H a (zs.map V.int) ∧ zs.length ≤ 63 ∧ ∀ H', Q (.bl true) H'
section
variable {P : Program} {w : World} {K : PySem.W.Frag} {mg : Str → Option Value} {base : Heap} {CE CR cS cB iS iB ns r0 h0 l0 cL iL : Addr}
theorem dk_isi {a : Addr} {u : List (Key × V)} {H : Hp} {C : String} {b : Bool} {Q : VK} (e : H a = some (.dK u)) (hk : (PySem.W.kitOne K (.type "dict") (.type C)) = some b) (k : Q (.bl b) H) : rIsi K [.ref a, .ty C] H Q :=
  ⟨_, _, .type "dict", .type C, b, rfl, .ty C, .base (.dK e), hk, k⟩
theorem agree0 (T : TopR K mg CE CR cS cB iS iB ns r0 h0 l0) {H : Hp} {R dx lk tb lg m mt mh ml : Addr} (hR : H R = some (.ins CR dx (rf lk tb h0 lg))) (htb : H tb = some (.dK [])) (hlg : H lg = some (.dK []))
    (hm : H m = some (.dK (kT (modelT mt mh ml)))) (hmt : H mt = some (.dK [])) (hmh : H mh = some (.tup [.str "ref", .str "main"])) (hml : H ml = some (.dK [])) (ne : tb ≠ mt) : Agree K CR H R dx lk tb h0 lg m mt mh ml [] [] [] [] "ref" "main" fun _ => [] :=
  ⟨hR, htb, List.nodup_nil, .inr T.kh, hlg, List.nodup_nil, fun _ => .inl ⟨rfl, rfl⟩, ⟨hm, hmt, .inl hmh, hml⟩, List.nodup_nil, List.nodup_nil, fun _ => .inl ⟨rfl, rfl⟩, fun _ => rfl, ne,
    fun e he => (List.not_mem_nil he).elim, fun e he => (List.not_mem_nil he).elim, fun e he => (List.not_mem_nil he).elim, fun x l hl => (List.not_mem_nil hl).elim, ok_by (by decide +kernel), ok_by (by decide +kernel)⟩
theorem tor_of {ta tb : TT} {σ : L2.St} {H : Hp} {Q : Bool → Hp → Prop} {x y : Bool} (ha : ∀ R : Bool → Hp → Prop, R x H → ta σ H R) (hb : x = false → ∀ R : Bool → Hp → Prop, (∀ H', Same H H' → R y H') → tb σ H R) (h : ∀ H', Same H H' → Q (x || y) H') : tOr ta tb σ H Q := by
  refine ha _ ?_
  cases x with
  | true => exact iteT (h H (Same.refl H))
  | false => exact iteF (hb rfl _ h)
theorem map_eraseIdx' {α β : Type} (f : α → β) : ∀ (l : List α) (j : Nat), (l.eraseIdx j).map f = (l.map f).eraseIdx j
  | [], _ => rfl
  | _ :: _, 0 => rfl
  | a :: l, j + 1 => by rw [List.eraseIdx_cons_succ, List.map_cons, List.map_cons, List.eraseIdx_cons_succ, map_eraseIdx' f l j]
theorem St33.ewl {Hb H : Hp} {W R m wl dx lk tb hd lg mt mh ml : Addr} {ws : List Wk} {i : Nat} {c : Int} {t lt t' lt' kt : Tab} {x n : Str} {L : Str → List (List V)} (S : St33 K CE CR Hb H W R m wl ws i c dx lk tb hd lg mt mh ml t lt t' lt' kt x n L) {k : Wk} (hk : k ∈ ws) : ∀ b ∈ [k.e, wl], b ≠ tb ∧ b ≠ lg ∧ b ≠ m ∧ b ≠ mt ∧ b ≠ ml ∧ NotLog H b := fun b hb => by
  simp only [List.mem_cons, List.not_mem_nil, or_false] at hb
  rcases hb with rfl | rfl
  · exact S.apart hk k.e (by simp)
  · obtain ⟨m1, m2, m3, m4⟩ := id S.ag.hM
    refine ⟨(at_ne S.ag.hT S.hl (fun z => nomatch z)).symm, (at_ne S.ag.hL S.hl (fun z => nomatch z)).symm, (at_ne m1 S.hl (fun z => nomatch z)).symm, (at_ne m2 S.hl (fun z => nomatch z)).symm, (at_ne m4 S.hl (fun z => nomatch z)).symm, fun a r h xs z => ?_⟩
    rw [S.hl] at h
    cases e : ws with
    | nil => rw [e] at h; cases h
    | cons u s =>
      rw [e] at h
      cases h
      rw [(S.wk u (by rw [e]; exact List.mem_cons_self)).hd] at z
      cases z
theorem ok_law (S : TopL K mg CE CR cS cB iS iB ns r0 h0 l0 cL iL) {f : Addr} {fd : FuncData} (F : C8.Fun K "law" "law" s_law f fd) : FnOk P w K mg base C8.CX0 10 f fd ["_law_script"] (spLaw K) := by
  have T := S.toTopR
  refine C8.fn0 F sc_law (fun vs H Q E h => ?_) (fun cdv A outer s H vs Q E hr h => ?_)
  · obtain ⟨a, zs, rfl, _⟩ := h
    rfl
  · obtain ⟨a, zs, rfl, hS, hlen, q⟩ := h
    refine' ⟨_, (pss_cons ?q0 (pss_one ?q1)), ?main⟩
    case q0 => exact (ps_for PassesOwn.never rfl (pi_list (pe_op op_cat (pe_lst (pa_cons (C8.pe_c (c_l_cell_at T.toTop) hr (by decide) (by rfl) (pa_cons (pv 0) (pa_cons pe_int pa_nil))) pa_nil)) (pe_slice sl_list (pv 0) (po_some pe_int) (po_some pe_int)))) (pg_name (i := 1) sc_law.nd rfl (Or.inl rfl))
      (pss_cons (ps_set (i := 2) sc_law.nd rfl (Or.inl rfl) (C8.pe_c (c_l_source T.toTop) hr (by decide) (by rfl) (pa_cons (pv 1) pa_nil)))
      (pss_cons (ps_par3 (i := 3) (j := 4) (l := 5) rfl sc_law.nd rfl rfl rfl (by decide) (by decide) (by decide) rfl rfl rfl (pa_cons (pe_mk0 (k_Refs T) hr (by decide) (by rfl)) (pa_cons (pe_c0 (c_l_new T.toTop) hr (by decide) (by rfl)) (pa_cons (pe_lst pa_nil) pa_nil))) rfl)
      (pss_one (ps_for PassesOwn.never rfl (pi_range1 (by rfl) T.z_range (pa_cons pe_int pa_nil)) (pg_name (i := 6) sc_law.nd rfl (Or.inl rfl))
      (pss_cons (ps_set (i := 7) sc_law.nd rfl (Or.inl rfl) (C8.pe_c (c_l_draw T.toTop) hr (by decide) (by rfl) (pa_cons (pv 2) (pa_cons pe_int pa_nil))))
      (pss_cons (ps_if (PW.pt (pw_or (PW.pt (pw_and (pt_cmpR op_eq (pv 7) pe_int (nomark _)) (pw_and1 (pt_cmpR op_lt (pe_callB call_len_seq (by rfl) T.z_len (by decide +kernel) (pa_cons (pv 5) pa_nil)) pe_int (nomark _))))) (pw_or1 (pt_cmpR (op_eqE hr.units) (pv 5) (pe_lst pa_nil) (nomark _)))))
      (pss_cons (ps_set (i := 8) sc_law.nd rfl (Or.inl rfl) (pe_disp (pps_cons pe_str (C8.pe_mt (m_Refs_edit T) hr (by decide) (pv 3) (pa_cons pe_str (pa_cons (pv 6) (pa_cons pe_str pa_nil)))) (pps_cons pe_str (pv 6) (pps_cons pe_str pe_non pps_nil))) (by rfl) (by rfl) (fun z => by cases z) (by decide)))
      (pss_cons (ps_expr (pe_bm PySem.F.plainAttrs_dict PySem.F.slot_dict_update PySem.F.type_dict_update mt_update (pv 8) (pa_cons (pe_disp (pps_cons pe_str (pe_lst pa_nil) (pps_cons pe_str (pe_lst pa_nil) pps_nil)) (by rfl) (by rfl) (fun z => by cases z) (by decide)) pa_nil)))
      (pss_cons (ps_expr (pe_bm PySem.F.plainAttrs_list PySem.F.slot_list_append PySem.F.type_list_append mt_append (pv 5) (pa_cons (pv 8) pa_nil)))
      (pss_one ps_continue))))
      pss_nil)
      (pss_cons (ps_set (i := 9) sc_law.nd rfl (Or.inl rfl) (C8.pe_c (c_l_draw T.toTop) hr (by decide) (by rfl) (pa_cons (pv 2) (pa_cons (pe_callB call_len_seq (by rfl) T.z_len (by decide +kernel) (pa_cons (pv 5) pa_nil)) pa_nil))))
      (C8.pss_cut (ps_if (PW.pt (pw_and (pt_cmpR op_lt (pv 7) pe_int (nomark _)) (pw_and1 (pt_not (pt_val (C8.pe_c (c_l_call_right S) hr (by decide) (by rfl) (pa_cons (pv 2) (pa_cons (pv 5) (pa_cons (pv 9) pa_nil)))))))))
      (pss_one (ps_ret pe_bl))
      pss_nil)
      (C8.pss_cut (ps_if (pt_cmpR op_eq (pv 7) pe_int (nomark _))
      (pss_cons (ps_set (i := 8) sc_law.nd rfl (Or.inl rfl) (pe_ix ix_list (pv 5) (pv 9) (fun _ _ => rfl)))
      (pss_cons (ps_set (i := 10) sc_law.nd rfl (Or.inl rfl) (C8.pe_c (c_l_behind T.toTop) hr (by decide) (by rfl) (pa_cons (pv 4) (pa_cons (pe_dget (hu_of hr) (pv 8) pe_str (fun _ _ => rfl)) (pa_cons (pe_dget (hu_of hr) (pv 8) pe_str (fun _ _ => rfl)) (pa_cons (pe_tup (pa_cons pe_str (pa_cons (pe_dget (hu_of hr) (pv 8) pe_str (fun _ _ => rfl)) (pa_cons pe_str pa_nil)))) pa_nil))))))
      (pss_cons (ps_set (i := 11) sc_law.nd rfl (Or.inl rfl) (C8.pe_c (c_l_finished T) hr (by decide) (by rfl) (pa_cons (pe_dget (hu_of hr) (pv 8) pe_str (fun _ _ => rfl)) pa_nil)))
      (pss_cons (ps_if (pt_cmpR (op_neD hr.units) (pv 11) (pe_ifExp (pt_val (pe_callB call_isi (by rfl) T.z_isinstance (by decide +kernel) (pa_cons (pv 10) (pa_cons (pe_bltn (v := .ty "tuple") (by rfl) T.z_tuple (by decide +kernel) rfl) pa_nil)))) (pv 10) pe_non) (nomark _))
      (pss_one (ps_ret pe_bl))
      pss_nil)
      (pss_one (ps_if (pt_cmpR op_isN (pv 11) pe_non (nomark _))
      (pss_cons (ps_set (i := 4) sc_law.nd rfl (Or.inl rfl) (pv 10))
      (pss_one (ps_expr (pe_bm PySem.F.plainAttrs_list PySem.F.slot_list_pop PySem.F.type_list_pop mt_popAt (pv 5) (pa_cons (pv 9) pa_nil)))))
      pss_nil))))))
      pss_nil)
      (C8.pss_cut (ps_if (pt_cmpR op_eq (pv 7) pe_int (nomark _))
      (pss_one (ps_expr (C8.pe_mt0 (m_Edit_drop T) hr (by decide) (pe_dget (hu_of hr) (pe_bm PySem.F.plainAttrs_list PySem.F.slot_list_pop PySem.F.type_list_pop mt_popAt (pv 5) (pa_cons (pv 9) pa_nil)) pe_str (fun _ _ => rfl)))))
      pss_nil)
      (pss_one (ps_if (pt_not (pt_val (C8.pe_c (c_l_stands T) hr (by decide) (by rfl) (pa_cons (pv 3) (pa_cons (pv 4) pa_nil)))))
      (pss_one (ps_ret pe_bl))
      pss_nil)))))))))))))
    case q1 => exact (ps_ret pe_bl)
    refine ⟨.ref a, rfl, a, zs, 0, rfl, hS, fun v => ⟨(by show 1 ≤ sizeLine; decide), fun p1 n1 => ?_⟩⟩
    have s2 := same_new (o := .lst [V.int v]) n1
    have h1 : (upd H p1 (.lst [V.int v])) p1 = some (.lst [V.int v]) := upd_same
    generalize upd H p1 (.lst [V.int v]) = H2 at s2 h1 ⊢
    refine ⟨.ref a, rfl, 1, rfl, 4, rfl, a, zs.map V.int, rfl, s2.seq hS, fun p2 n2 => ?_⟩
    have s3 := same_new (o := .lst (cutV (zs.map V.int) (some 1) (some 4))) n2
    have h2 : (upd H2 p2 (.lst (cutV (zs.map V.int) (some 1) (some 4)))) p2 = some (.lst (cutV (zs.map V.int) (some 1) (some 4))) := upd_same
    generalize upd H2 p2 (.lst (cutV (zs.map V.int) (some 1) (some 4))) = H3 at s3 h2 ⊢
    refine ⟨p1, p2, _, _, rfl, rfl, s3 _ _ h1, h2, ?_, fun LL nLL => ?_⟩
    · have := cutV_length (zs.map V.int) (some 1) (some 4)
      rw [List.length_map] at this
      exact small_line (by simp only [List.length_cons, List.length_nil]; omega)
    have h4 : (upd H3 LL (.lst ([V.int v] ++ cutV (zs.map V.int) (some 1) (some 4)))) LL = some (.lst ([V.int v] ++ cutV (zs.map V.int) (some 1) (some 4))) := upd_same
    generalize upd H3 LL (.lst ([V.int v] ++ cutV (zs.map V.int) (some 1) (some 4))) = H4 at h4 ⊢
    refine ⟨LL, rfl, ⟨_, SqL.of h4⟩, ?_⟩
    refine for_list (K := K) (a := LL) (xs := [V.int v] ++ cutV (zs.map V.int) (some 1) (some 4)) (fun i σ H' => Same H4 H' ∧ ∃ z1 z2 z3 z4 z5 z6 z7 z8 z9 z10 z11, σ = [some (.ref a), z1, z2, z3, z4, z5, z6, z7, z8, z9, z10, z11])
      ⟨Same.refl _, none, none, none, none, none, none, none, none, none, none, none, rfl⟩ (fun i σ H' _ I => I.1.seq (SqL.of h4)) ?_ ?_
    · rintro i x σ H' hi ⟨s5, z1, z2, z3, z4, z5, z6, z7, z8, z9, z10, z11, rfl⟩
      obtain ⟨n, rfl⟩ := cells_int (List.mem_of_getElem? hi)
      refine ⟨.int n, rfl, n, rfl, fun H5 W nW s6 w5 => ?_⟩
      have s45 := s5.trans s6
      have nW4 : H4 W = none := s5.free nW
      intro R dx hR hdx ndx
      have sR : Same H5 (upd (upd H5 dx (.own R)) R (.ins CR dx [])) := fun b o e => by
        rw [upd_ne (ne_of_none e hR), upd_ne (ne_of_none e hdx)]
        exact e
      refine ⟨R, dx, rfl, upd_same, fun lk tb lg H6 nlk ntb nlg f6 k6 hR6 hlk6 htb6 hlg6 => ⟨rfl, ?_⟩⟩
      have s56 : Same H5 H6 := same_frl hR sR f6
      refine ⟨rfl, fun m mt mh ml H7 nm nmt s7 hm7 hmt7 hmh7 hml7 => ?_⟩
      have net : tb ≠ mt := ne_of_none htb6 nmt
      refine ⟨(by show 0 ≤ sizeLine; decide), fun wl hwl => ⟨_, _, _, rfl, ?_⟩⟩
      have s8 := same_new (o := .lst []) hwl
      have hwl8 : (upd H7 wl (.lst [])) wl = some (.lst []) := upd_same
      generalize upd H7 wl (.lst []) = H8 at s8 hwl8
      have s78 := s7.trans s8
      have S0 : Turn33 K CE CR H4 H8 W R m wl [] 0 0 := ⟨dx, lk, tb, h0, lg, mt, mh, ml, [], [], [], [], [], "ref", "main", fun _ => [],
        { ag := agree0 T (s78 _ _ hR6) (s78 _ _ htb6) (s78 _ _ hlg6) (s8 _ _ hm7) (s8 _ _ hmt7) (s8 _ _ hmh7) (s8 _ _ hml7) net
          hw := ((w5.same s56).same s7).same s8
          it := fun e he => (List.not_mem_nil he).elim
          b1 := Nat.le_refl 0
          b2 := Nat.le_refl 0
          b3 := Nat.le_refl 0
          b4 := fun _ => Nat.le_refl 0
          hl := hwl8
          wk := fun k hk => (List.not_mem_nil hk).elim
          ap := List.Pairwise.nil
          cl := fun k hk => (List.not_mem_nil hk).elim
          lo := ⟨s78 _ _ hlk6, List.nodup_nil, by decide, fun z hz => (List.not_mem_nil hz).elim⟩
          nm := fun z hz => (List.not_mem_nil hz).elim
          lx := fun k hk => (List.not_mem_nil hk).elim
          b5 := Nat.le_refl 0
          b6 := Nat.le_refl 0
          b7 := Nat.zero_le _
          sb := ((s45.trans s56).trans s7).trans s8
          n0 := ⟨nW4, s45.free hR, (((s45.trans s56).trans s7)).free hwl⟩
          no := fun k hk => (List.not_mem_nil hk).elim }⟩
      refine ⟨30, rfl, by decide, by decide, ?_⟩
      refine forG (items := (List.range (30 : Int).toNat).map fun (i : Nat) => V.int (0 + (i : Int))) yields_range (fun i σ H' => ∃ (m : Addr) (ws : List Wk) (c : Int) (y6 y7 y8 y9 y10 y11 : Option V), Turn33 K CE CR H4 H' W R m wl ws i c ∧ c ≤ 6 * (i : Int) ∧ σ = [some (.ref a), some (.int n), some (.ref W), some (.ref R), some (.ref m), some (.ref wl), y6, y7, y8, y9, y10, y11]) ⟨m, [], 0, z6, z7, z8, z9, z10, z11, S0, by omega, rfl⟩ (fun _ _ _ _ => True.intro) ?_ ?_
      · rintro i v σ H9 hv ⟨m, ws, c, y6, y7, y8, y9, y10, y11, t9, hc, rfl⟩
        rw [List.getElem?_map] at hv
        cases hz : (List.range (30 : Int).toNat)[i]? with
        | none => rw [hz] at hv; cases hv
        | some i' =>
          rw [hz] at hv
          cases hv
          have hi : i < (30 : Int).toNat := by have := (List.getElem?_eq_some_iff.mp hz).1; rwa [List.length_range] at this
          have hi : i < 30 := hi
          have ei : i' = i := by
            have hz : (List.range 30)[i]? = some i' := hz
            rw [List.getElem?_range hi] at hz
            exact (Option.some.inj hz).symm
          subst ei
          obtain ⟨dx, lk, tb, hd, lg, mt, mh, ml, t, lt, t', lt', kt, x, n0, L, S9⟩ := t9
          refine ⟨.ref W, rfl, W, 6, c, rfl, S9.hw, by decide, by decide, by omega, fun r hr0 hr1 H10 c10 f10 k10 w10 hd1 hd2 => ?_⟩
          have S10 := S9.drawn f10 k10 w10
          dsimp only [gName, tSeq, tIfS]
          refine tor_of (x := decide (r = 0 ∧ ws.length < 4)) (y := ws.isEmpty) (fun R' k => ?_) (fun hx R' k => ?_) (fun H11 s11 => ?_)
          · by_cases c1 : r = 0
            · refine ⟨.int r, rfl, rfl, _, rfl, ?_⟩
              rw [decide_eq_true (by rw [c1])]
              refine iteT ⟨.ref wl, rfl, wl, _, rfl, .inl (SqL.of S10.hl), _, _, rfl, rfl, _, rfl, ?_⟩
              have e : decide (((ws.map fun k => V.ref k.d).length : Int) < 4) = decide (r = 0 ∧ ws.length < 4) := decide_eq_decide.mpr (by rw [List.length_map]; omega)
              rw [e]
              exact k
            · refine ⟨.int r, rfl, rfl, _, rfl, ?_⟩
              rw [decide_eq_false (fun z => c1 (V.int.inj z))]
              rw [decide_eq_false (fun z => c1 z.1)] at k
              exact iteF k
          · refine ⟨.ref wl, rfl, (by show 0 ≤ sizeLine; decide), fun pe hpe => ⟨wl, pe, _, rfl, rfl, (same_new hpe) _ _ S10.hl, upd_same, _, rfl, ?_⟩⟩
            rw [List.isEmpty_map]
            exact k _ (same_new hpe)
          have S11 := S10.same s11
          by_cases ho : (r = 0 ∧ ws.length < 4) ∨ ws = []
          · have e : (decide (r = 0 ∧ ws.length < 4) || ws.isEmpty) = true := by
              rcases ho with h | h
              · rw [decide_eq_true h]; rfl
              · rw [h]; simp
            rw [e]
            have l4 : ws.length < 4 := by
              rcases ho with h | h
              · exact h.2
              · rw [h]; decide
            refine iteT ?_
            intro d hd'
            have s12 := same_new (o := .dK []) hd'
            have hd12 : (upd H11 d (.dK [])) d = some (.dK []) := upd_same
            generalize upd H11 d (.dK []) = H12 at s12 hd12
            refine ⟨.ref R, rfl, R, dx, _, rfl, s12 _ _ S11.ag.hR, rfl, .int (0 + (i' : Int)), rfl, R, dx, lk, tb, hd, lg, "ann", "", 0 + (i' : Int), rfl, s12 _ _ S11.ag.hR, (by decide +kernel), (by decide +kernel), ok_by (by decide +kernel), by omega, by omega, (by decide +kernel), (by decide +kernel), fun e ex nt cl H13 ne ncl s13 he hnt hcl => ?_⟩
            have hd13 := s13 _ _ hd12
            refine ⟨.int (0 + (i' : Int)), rfl, hd13, [(.inr "edit", .ref e), (.inr "when", .int (0 + (i' : Int))), (.inr "stands", .non)], rfl, (by show 3 ≤ 15; decide), ?_⟩
            have s14 : Same H11 (upd H13 d (.dK (mergeK [] [(.inr "edit", .ref e), (.inr "when", .int (0 + (i' : Int))), (.inr "stands", .non)]))) := fun b o eb => by
              rw [upd_ne (ne_of_none eb hd')]
              exact s13 _ _ (s12 _ _ eb)
            have hd14 : (upd H13 d (.dK (mergeK [] [(.inr "edit", .ref e), (.inr "when", .int (0 + (i' : Int))), (.inr "stands", .non)]))) d = some (.dK (kT [("edit", .ref e), ("when", .int (0 + (i' : Int))), ("stands", .non)])) := upd_same
            have he14 := (upd_ne (H := H13) (o := .dK (mergeK [] [(.inr "edit", .ref e), (.inr "when", .int (0 + (i' : Int))), (.inr "stands", .non)])) (ne_of_none' ne hd12)).trans he
            have hnt14 := (upd_ne (H := H13) (o := .dK (mergeK [] [(.inr "edit", .ref e), (.inr "when", .int (0 + (i' : Int))), (.inr "stands", .non)])) (at_ne hnt hd13 fun z => nomatch z)).trans hnt
            have hcl14 := (upd_ne (H := H13) (o := .dK (mergeK [] [(.inr "edit", .ref e), (.inr "when", .int (0 + (i' : Int))), (.inr "stands", .non)])) (ne_of_none' ncl hd12)).trans hcl
            generalize upd H13 d (.dK (mergeK [] [(.inr "edit", .ref e), (.inr "when", .int (0 + (i' : Int))), (.inr "stands", .non)])) = H14 at s14 hd14 he14 hnt14 hcl14
            refine ⟨.ref d, rfl, .inr (.inr (.inl ⟨rfl, .inl ⟨_, hd14⟩⟩)), fun d2 hd2 => ?_⟩
            have s15 := same_new (o := .dK []) hd2
            have hd15 : (upd H14 d2 (.dK [])) d2 = some (.dK []) := upd_same
            generalize upd H14 d2 (.dK []) = H15 at s15 hd15
            refine ⟨(by show 0 ≤ sizeLine; decide), fun lc hlc => ?_⟩
            have s16 := same_new (o := .lst []) hlc
            have hlc16 : (upd H15 lc (.lst [])) lc = some (.lst []) := upd_same
            generalize upd H15 lc (.lst []) = H16 at s16 hlc16
            refine ⟨(by show 0 ≤ sizeLine; decide), fun ll hll => ?_⟩
            have s17 := same_new (o := .lst []) hll
            have hll17 : (upd H16 ll (.lst [])) ll = some (.lst []) := upd_same
            generalize upd H16 ll (.lst []) = H17 at s17 hll17
            have hd17 := s17 _ _ (s16 _ _ hd15)
            refine ⟨hd17, [(.inr "calls", .ref lc), (.inr "locks", .ref ll)], rfl, (by show 2 ≤ 15; decide), ?_⟩
            have s418 : Same H14 (upd H17 d2 (.dK (mergeK [] [(.inr "calls", .ref lc), (.inr "locks", .ref ll)]))) := fun b o eb => by
              rw [upd_ne (ne_of_none eb hd2)]
              exact s17 _ _ (s16 _ _ (s15 _ _ eb))
            have hd18 : (upd H17 d2 (.dK (mergeK [] [(.inr "calls", .ref lc), (.inr "locks", .ref ll)]))) d2 = some (.dK (kT [("calls", .ref lc), ("locks", .ref ll)])) := upd_same
            have hlc18 := (upd_ne (H := H17) (o := .dK (mergeK [] [(.inr "calls", .ref lc), (.inr "locks", .ref ll)])) (ne_of_none' hlc hd15)).trans (s17 _ _ hlc16)
            have hll18 := (upd_ne (H := H17) (o := .dK (mergeK [] [(.inr "calls", .ref lc), (.inr "locks", .ref ll)])) (ne_of_none' hll (s16 _ _ hd15))).trans hll17
            generalize upd H17 d2 (.dK (mergeK [] [(.inr "calls", .ref lc), (.inr "locks", .ref ll)])) = H18 at s418 hd18 hlc18 hll18
            refine ⟨d, d2, _, _, rfl, rfl, ne_of_none hd14 hd2, s418 _ _ hd14, hd18, (by show 5 ≤ sizeLine; decide), ?_⟩
            have nde : e ≠ d := ne_of_none' ne hd12
            have ndc : cl ≠ d := ne_of_none' ncl hd12
            have ndl : lc ≠ d := ne_of_none' hlc (s15 _ _ hd14)
            have ndk : ll ≠ d := ne_of_none' hll (s16 _ _ (s15 _ _ hd14))
            have ndn : nt ≠ d := at_ne hnt14 hd14 fun z => nomatch z
            have s11_18 := s14.trans s418
            have hd19 : (upd H18 d (.dK (mergeK (kT [("edit", .ref e), ("when", .int (0 + (i' : Int))), ("stands", .non)]) (kT [("calls", .ref lc), ("locks", .ref ll)])))) d = some (.dK (kT (workT { d := d, e := e, ex := ex, nt := nt, cl := cl, lc := lc, ll := ll, nh := .non, st := .non, cs := [], lks := [], wn := 0 + (i' : Int) }))) := upd_same
            have s19 : Same H11 (upd H18 d (.dK (mergeK (kT [("edit", .ref e), ("when", .int (0 + (i' : Int))), ("stands", .non)]) (kT [("calls", .ref lc), ("locks", .ref ll)])))) := fun b o eb => by
              rw [upd_ne (ne_of_none eb hd')]
              exact s11_18 _ _ eb
            have u19 : ∀ {b : Addr} {o : HO}, b ≠ d → H18 b = some o → (upd H18 d (.dK (mergeK (kT [("edit", .ref e), ("when", .int (0 + (i' : Int))), ("stands", .non)]) (kT [("calls", .ref lc), ("locks", .ref ll)])))) b = some o := fun n z => by rw [upd_ne n]; exact z
            have he19 := u19 nde (s418 _ _ he14)
            have hnt19 := u19 ndn (s418 _ _ hnt14)
            have hcl19 := u19 ndc (s418 _ _ hcl14)
            have hlc19 := u19 ndl hlc18
            have hll19 := u19 ndk hll18
            generalize upd H18 d (.dK (mergeK (kT [("edit", .ref e), ("when", .int (0 + (i' : Int))), ("stands", .non)]) (kT [("calls", .ref lc), ("locks", .ref ll)]))) = H19 at hd19 s19 he19 hnt19 hcl19 hlc19 hll19
            have hwl19 := s19 _ _ S11.hl
            refine ⟨.ref wl, rfl, .inl ⟨rfl, _, SqL.of hwl19⟩, .ref d, rfl, wl, _, _, rfl, rfl, hwl19, small_lt (by rw [List.length_map]; omega), ?_⟩
            have u20 : ∀ {b : Addr} {o : HO}, b ≠ wl → H19 b = some o → (upd H19 wl (.lst (ws.map (fun k => V.ref k.d) ++ [V.ref d]))) b = some o := fun n z => by rw [upd_ne n]; exact z
            have fr11 : H11 e = none ∧ H11 cl = none ∧ H11 lc = none ∧ H11 ll = none := ⟨s12.free ne, s12.free ncl, (s14.trans s15).free hlc, ((s14.trans s15).trans s16).free hll⟩
            have nwl : ∀ {b : Addr}, H11 b = none → b ≠ wl := fun z => ne_of_none' z S11.hl
            have nnt : nt ≠ wl := at_ne hnt19 hwl19 fun z => nomatch z
            have fF : FrL [wl] H11 (upd H19 wl (.lst (ws.map (fun k => V.ref k.d) ++ [V.ref d]))) := (FrL.same s19).trans (FrL.at (List.mem_singleton_self wl))
            have kF : TupKeep H11 (upd H19 wl (.lst (ws.map (fun k => V.ref k.d) ++ [V.ref d]))) := (TupKeep.of s19).trans (TupKeep.at fun xs z => by rw [hwl19] at z; cases z)
            refine ⟨m, ws ++ [{ d := d, e := e, ex := ex, nt := nt, cl := cl, lc := lc, ll := ll, nh := .non, st := .non, cs := [], lks := [], wn := 0 + (i' : Int) }], c10, _, _, _, _, _, _, ⟨dx, lk, tb, hd, lg, mt, mh, ml, t, lt, t', lt', kt, x, n0, L, S11.opened fF kF (by rw [upd_same, List.map_append]; rfl)
              { hd := u20 (nwl hd') hd19, he := u20 (nwl fr11.1) he19, hn := u20 nnt hnt19, hc := ⟨[], rfl, u20 (nwl fr11.2.1) hcl19, fun z hz => (List.not_mem_nil hz).elim⟩, hl := ⟨[], u20 (nwl fr11.2.2.1) hlc19, Tups.nil⟩, hk := u20 (nwl fr11.2.2.2) hll19, st := .inl ⟨rfl, rfl⟩, gc := good_nil
                w0 := by show (0 : Int) ≤ 0 + (i' : Int); omega
                w1 := by show 0 + (i' : Int) ≤ 100; omega
                nm := fun z hz => (List.not_mem_nil hz).elim
                ne := ne_of_none hlc16 hll } (fun b hb => ?_) rfl rfl l4⟩, by omega, rfl⟩
            simp only [own, List.mem_cons, List.not_mem_nil, or_false] at hb
            rcases hb with z | z | z | z | z
            · rw [z]; exact hd'
            · rw [z]; exact fr11.1
            · rw [z]; exact fr11.2.1
            · rw [z]; exact fr11.2.2.1
            · rw [z]; exact fr11.2.2.2
          · have e : (decide (r = 0 ∧ ws.length < 4) || ws.isEmpty) = false := by
              rw [decide_eq_false (fun z => ho (.inl z)), Bool.false_or]
              cases ws with
              | nil => exact absurd rfl (fun z => ho (.inr z))
              | cons => rfl
            rw [e]
            refine iteF ?_
            have lw : 0 < ws.length := by
              cases ws with
              | nil => exact absurd rfl (fun z => ho (.inr z))
              | cons => exact Nat.succ_pos _
            have l7 := S11.b7
            refine ⟨.ref W, rfl, .ref wl, rfl, wl, _, rfl, .inl (SqL.of S11.hl), W, _, c10, rfl, S11.hw, (by rw [List.length_map]; omega), (by rw [List.length_map]; omega), by omega, fun j hj0 hj1 H12 c12 f12 k12 w12 hd3 hd4 => ?_⟩
            have S12 := S11.drawn f12 k12 w12
            obtain ⟨jn, rfl⟩ : ∃ jn : Nat, j = (jn : Int) := ⟨j.toNat, (Int.toNat_of_nonneg hj0).symm⟩
            have hjn : jn < ws.length := by rw [List.length_map] at hj1; omega
            -- a call
            refine ⟨fun σ H' => ∃ (m : Addr) (ws : List Wk) (c : Int) (y8 y10 y11 : Option V), Turn33 K CE CR H4 H' W R m wl ws (if r < 4 then i' + 1 else i') c ∧ c ≤ 6 * (i' : Int) + 6 ∧ (4 ≤ r → jn < ws.length) ∧ σ = [some (.ref a), some (.int n), some (.ref W), some (.ref R), some (.ref m), some (.ref wl), some (.int (0 + (i' : Int))), some (.int r), y8, some (.int (jn : Int)), y10, y11], ?_, ?_⟩
            · by_cases c4 : r < 4
              · refine ⟨.int r, rfl, _, _, rfl, rfl, _, rfl, ?_⟩
                rw [decide_eq_true c4]
                refine iteT ⟨.ref W, rfl, .ref wl, rfl, .int (jn : Int), rfl, H4, W, R, m, wl, ws, i', jn, c12, rfl, ⟨dx, lk, tb, hd, lg, mt, mh, ml, t, lt, t', lt', kt, x, n0, L, S12⟩, hjn, by omega, by omega, fun ws' c' H' t'' h1 h2 => ⟨_, rfl, iteF ?_⟩⟩
                exact ⟨m, ws', c', _, _, _, by rw [if_pos c4]; exact t'', by omega, fun z => absurd z (by omega), rfl⟩
              · refine ⟨.int r, rfl, _, _, rfl, rfl, _, rfl, ?_⟩
                rw [decide_eq_false c4]
                exact iteF ⟨m, ws, c12, _, _, _, by rw [if_neg c4]; exact ⟨dx, lk, tb, hd, lg, mt, mh, ml, t, lt, t', lt', kt, x, n0, L, S12⟩, by omega, fun _ => hjn, rfl⟩
            rintro σ H13 ⟨m1, ws1, c1, y8', y10', y11', ⟨dx1, lk1, tb1, hd1, lg1, mt1, mh1, ml1, t1, lt1, t1', lt1', kt1', x1, n1, L1, S13⟩, hc1, hj1, rfl⟩
            -- an edit is finished
            refine ⟨fun σ H' => ∃ (m : Addr) (ws : List Wk) (c : Int) (y8 y10 y11 : Option V), Turn33 K CE CR H4 H' W R m wl ws (if r < 5 then i' + 1 else i') c ∧ c ≤ 6 * (i' : Int) + 6 ∧ (5 ≤ r → jn < ws.length) ∧ σ = [some (.ref a), some (.int n), some (.ref W), some (.ref R), some (.ref m), some (.ref wl), some (.int (0 + (i' : Int))), some (.int r), y8, some (.int (jn : Int)), y10, y11], ?_, ?_⟩
            · by_cases c4 : r = 4
              · have hj1 := hj1 (by omega)
                have e4 : (if r < 4 then i' + 1 else i') = i' := if_neg (by omega)
                rw [e4] at S13
                have e5 : (if r < 5 then i' + 1 else i') = i' + 1 := if_pos (by omega)
                rw [e5]
                obtain ⟨k, hk⟩ : ∃ k, ws1[jn]? = some k := ⟨_, List.getElem?_eq_getElem hj1⟩
                have mk := List.mem_of_getElem? hk
                have wk := S13.wk k mk
                have nne : ws1 ≠ [] := fun z => by rw [z] at mk; cases mk
                have nw := wk.notWl S13.hl (fun k0 h0 => ⟨_, (S13.wk k0 h0).hd⟩) nne
                refine ⟨.int r, rfl, rfl, _, rfl, ?_⟩
                rw [decide_eq_true (by rw [c4])]
                refine iteT ⟨.ref wl, rfl, .int (jn : Int), rfl, wl, _, jn, .ref k.d, rfl, rfl, SqL.of S13.hl, atI_nat (j := jn) (by rw [List.getElem?_map, hk]; rfl), ?_⟩
                refine ⟨.ref m1, rfl, .ref k.d, rfl, k.d, .ref k.lc, rfl, dget_kT (.inl wk.hd) "calls", .ref k.d, rfl, k.d, k.st, rfl, dget_kT (.inl wk.hd) "stands", .ref k.d, rfl, k.d, .int k.wn, rfl, dget_kT (.inl wk.hd) "when", (by show 3 ≤ sizeLine; decide), fun sg hsg => ?_⟩
                have s8 := same_new (o := .tup [.str "ann", .int k.wn, .str ""]) hsg
                have hsg8 : (upd H13 sg (.tup [.str "ann", .int k.wn, .str ""])) sg = some (.tup [.str "ann", .int k.wn, .str ""]) := upd_same
                generalize upd H13 sg (.tup [.str "ann", .int k.wn, .str ""]) = H8 at s8 hsg8
                have S8 := S13.same s8
                have wk8 := S8.wk k mk
                have ag := S8.ag
                have it := S8.it
                have gc := wk8.gc
                have tk := le_tot mk
                have b1 := S8.b1
                have b2 := S8.b2
                have b3 := S8.b3
                have b4 := S8.b4
                have oann : OkS "ann" := ok_by (by decide +kernel)
                have oemp : OkS "" := ok_by (by decide +kernel)
                obtain ⟨mh2, hdd2, hx, hn, hst, hSt, ohx, ohn⟩ : ∃ (mh2 hd2 : Addr) (hx hn : Str), ((k.st = .non ∧ mh2 = mh1 ∧ hx = x1 ∧ hn = n1) ∨ (k.st = .ref mh2 ∧ TupK K H8 mh2 [.str hx, .str hn])) ∧ Stand K H8 k.nh hd1 hd2 x1 n1 hx hn ∧ OkS hx ∧ OkS hn := by
                  rcases wk8.st with ⟨z1, z2⟩ | ⟨sp, hp, hx, hn, z1, z2, z3, z4, z5, z6, z7⟩
                  · exact ⟨mh1, hd1, x1, n1, .inl ⟨z1, rfl, rfl, rfl⟩, ⟨ag.hH, ag.ox, ag.on, .inl ⟨z2, rfl, rfl, rfl⟩⟩, ag.ox, ag.on⟩
                  · have ohx : OkS hx := by
                      rcases z5 with ⟨rfl, _⟩ | ⟨rfl, _⟩ <;> exact ok_by (by decide +kernel)
                    exact ⟨sp, hp, hx, hn, .inr ⟨z1, .inl z3⟩, ⟨ag.hH, ag.ox, ag.on, .inr ⟨z2, .inl z4, ohx, z7⟩⟩, ohx, z7⟩
                have kp : (t1'.map (·.1)).Perm (t1.map (·.1)) := keys_perm ag.nt' ag.nt fun x => by rw [ag.eq]
                have lt1e : t1'.length = t1.length := by have := kp.length_eq; rw [List.length_map, List.length_map] at this; exact this
                have fcs : ∀ c ∈ k.cs, flatN c.2.1 ∧ flatN c.2.2 := fun c hc => ⟨(gc.2 c hc).2.1.flat, had_flat (gc.2 c hc).2.2⟩
                have kt1 : ∀ y ∈ t1.map (·.1), y.length ≤ 1000 ∧ OkS y := fun y hy => (ag.ks y hy).2
                have kt2 : ∀ y ∈ t1'.map (·.1), y.length ≤ 1000 ∧ OkS y := fun y hy => kt1 y (kp.mem_iff.mp hy)
                have kcs : ∀ y ∈ k.cs.map (·.1), isRefF y = true ∧ y.length ≤ 1000 ∧ OkS y := fun y hy => by
                  obtain ⟨c, hc, rfl⟩ := List.mem_map.mp hy
                  exact refs_ok _ (gc.2 c hc).1
                have vt : Txts t1 := ag.vs
                have bL : ∀ y, (L1 y).length ≤ 1000 := fun y => by have := b4 y; omega
                have rdy : ∀ {H9}, Same H8 H9 → Ready CE CR H9 k.e k.ex R k.nt k.cl dx1 lk1 tb1 hd1 lg1 k.nh t1 lt1 k.cs := fun {H9} s9 =>
                  ⟨s9 _ _ wk8.he, s9 _ _ ag.hR, s9 _ _ ag.hT, ag.nt, s9 _ _ ag.hL, ag.nl, by omega, by omega, wk8.hc.keep (TupKeep.of s9) (fun o eo => s9 _ _ eo), gc.1, vt.flat, fcs, kt1, fun y hy => (kcs y hy).2⟩
                have std : ∀ {H9}, Same H8 H9 → Stand K H9 k.nh hd1 hdd2 x1 n1 hx hn := fun {H9} s9 =>
                  ⟨hSt.1.keep (TupKeep.of s9), hSt.2.1, hSt.2.2.1, hSt.2.2.2.imp id fun ⟨z1, z2, z3, z4⟩ => ⟨z1, z2.keep (TupKeep.of s9), z3, z4⟩⟩
                have same2 : ∀ {H9 : Hp}, Same H8 H9 → Turn33 K CE CR H4 H9 W R m1 wl ws1 (i' + 1) c1 := fun {H9} s9 => ⟨dx1, lk1, tb1, hd1, lg1, mt1, mh1, ml1, t1, lt1, t1', lt1', kt1', x1, n1, L1, (S8.same s9).more (Nat.le_succ _)⟩
                refine ⟨m1, k.lc, sg, mt1, mh1, ml1, mh2, k.st, t1', lt1', k.cs, x1, n1, hx, hn, L1, .str "ann", .int k.wn, .str "", rfl, ag.hM, wk8.hl, hsg8, ag.nt', ag.nl', ag.ll, ids_txts it, gc.1, fcs, kt2, fun y hy => (kcs y hy).2, by omega, by omega, bL, ag.ox, ag.on, ohx, ohn, hst, fun rr hrr p9 H9 s9 hp9 => ?_, fun sn hv p9 H9 s9 hp9 => ?_, fun sn hv ys hp hs m2 mt2 ml2 lt2 H9 s9 nm2 nmt2 nml2 hM9 nd2 len2 keys2 ll9 => ?_⟩
                · rw [stale_eq ag.eq] at hrr
                  refine ⟨.ref k.d, rfl, k.d, .ref k.e, rfl, dget_kT (.inl (s9 _ _ wk8.hd)) "edit", k.e, k.ex, R, k.nt, k.cl, dx1, lk1, tb1, hd1, lg1, hdd2, k.nh, t1, lt1, k.cs, L1, x1, n1, hx, hn, .str "ann", .int k.wn, .str "", rfl, rdy s9, std s9, ag.lo.keep (TupKeep.of s9), s9 _ _ wk8.hn, bL, fun r2 hr2 p10 H10 s10 hp10 => ?_, fun sn => absurd (sn.symm.trans hrr) (fun z => nomatch z), fun sn => absurd (sn.symm.trans hrr) (fun z => nomatch z)⟩
                  rw [hrr] at hr2
                  cases hr2
                  have orr := (kcs rr (stale_mem hrr)).2.2
                  have ost : OkS "stale" := ok_by (by decide +kernel)
                  refine ⟨.ref p10, rfl, .ref p9, rfl, ?_⟩
                  dsimp only [tCons, tC, tNil]
                  refine isi_tup (s10 _ _ hp9) (b := true) (kit_ty (by decide +kernel)) ⟨_, rfl, iteT ⟨.ref p9, rfl, _, _, dp_head (.inl hp10), dp_head (.inl (s10 _ _ hp9)), shaped_head ost orr, shaped_head ost orr, _, rfl, ?_⟩⟩
                  rw [eqv_head, decide_eq_true rfl]
                  refine iteF ⟨.ref p10, rfl, rfl, _, rfl, ?_⟩
                  rw [decide_eq_false (fun z => nomatch z)]
                  exact iteF ⟨m1, ws1, c1, _, _, _, same2 (s9.trans s10), hc1, fun z => absurd z (by omega), rfl⟩
                · have sn' : staleF t1 k.cs = none := by rw [← stale_eq ag.eq]; exact sn
                  have hv' : ∀ ys : List Str, ys.Perm (k.cs.map (·.1)) → haveF ((afterT t1 (movesF t1 k.cs ys)).map (·.1)) = true := fun ys hp => by
                    rw [← hv]
                    exact have_perm (keys_perm (nd_after ag.nt (movesF_nd (hp.nodup_iff.mpr gc.1))) (nd_lawT ag.nt' k.cs) fun y => by rw [law_eq ag.eq gc.1, after_law ag.nt vt.nn gc.1 hp])
                  refine ⟨.ref k.d, rfl, k.d, .ref k.e, rfl, dget_kT (.inl (s9 _ _ wk8.hd)) "edit", k.e, k.ex, R, k.nt, k.cl, dx1, lk1, tb1, hd1, lg1, hdd2, k.nh, t1, lt1, k.cs, L1, x1, n1, hx, hn, .str "ann", .int k.wn, .str "", rfl, rdy s9, std s9, ag.lo.keep (TupKeep.of s9), s9 _ _ wk8.hn, bL, fun r2 hr2 => absurd (sn'.symm.trans hr2) (fun z => nomatch z), fun _ ys hp hs _ p10 H10 s10 hp10 => ?_, fun _ ys hp _ hf => absurd ((hv' ys hp).symm.trans hf) (fun z => nomatch z)⟩
                  have dp : ∀ {p : Addr}, H10 p = some (.tup [.str "ref", .non]) → Dp K H10 (.ref p) (.tuple [.str "ref", .none]) := fun h => .tup (SqT.of h) (.cons (.str _) (.cons .non .nil))
                  refine ⟨.ref p10, rfl, .ref p9, rfl, ?_⟩
                  dsimp only [tCons, tC, tNil]
                  refine isi_tup (s10 _ _ hp9) (b := true) (kit_ty (by decide +kernel)) ⟨_, rfl, iteT ⟨.ref p9, rfl, _, _, dp hp10, dp (s10 _ _ hp9), by decide +kernel, by decide +kernel, _, rfl, ?_⟩⟩
                  rw [show PyData.eqv (.tuple [.str "ref", .none]) (.tuple [.str "ref", .none]) = true by decide +kernel]
                  refine iteF ⟨.ref p10, rfl, rfl, _, rfl, ?_⟩
                  rw [decide_eq_false (fun z => nomatch z)]
                  exact iteF ⟨m1, ws1, c1, _, _, _, same2 (s9.trans s10), hc1, fun z => absurd z (by omega), rfl⟩
                · have sn' : staleF t1 k.cs = none := by rw [← stale_eq ag.eq]; exact sn
                  have eqA : ∀ ys : List Str, ys.Perm (k.cs.map (·.1)) → ∀ y, valV (lawT t1' k.cs) y = valV (afterT t1 (movesF t1 k.cs ys)) y := fun ys hp y => by rw [law_eq ag.eq gc.1, after_law ag.nt vt.nn gc.1 hp]
                  have hv' : ∀ ys : List Str, ys.Perm (k.cs.map (·.1)) → haveF ((afterT t1 (movesF t1 k.cs ys)).map (·.1)) = false := fun ys hp => by
                    rw [← hv]
                    exact have_perm (keys_perm (nd_after ag.nt (movesF_nd (hp.nodup_iff.mpr gc.1))) (nd_lawT ag.nt' k.cs) fun y => by rw [eqA ys hp])
                  refine ⟨.ref k.d, rfl, k.d, .ref k.e, rfl, dget_kT (.inl (s9 _ _ wk8.hd)) "edit", k.e, k.ex, R, k.nt, k.cl, dx1, lk1, tb1, hd1, lg1, hdd2, k.nh, t1, lt1, k.cs, L1, x1, n1, hx, hn, .str "ann", .int k.wn, .str "", rfl, rdy s9, std s9, ag.lo.keep (TupKeep.of s9), s9 _ _ wk8.hn, bL, fun r2 hr2 => absurd (sn'.symm.trans hr2) (fun z => nomatch z), fun _ ys hp _ hf => absurd ((hv' ys hp).symm.trans hf) (fun z => nomatch z), fun _ ys2 hp2 hs2 _ tb2 lg2 u' lu' H10 f10 k10 hR10 he10 ht10 so10 hl10 ndl10 len10 lo10 ntb nlg => ?_⟩
                  have ey : ys = ys2 := sort_uniq hs hs2 (hp.trans hp2.symm)
                  subst ey
                  obtain ⟨hm9, hmt9, hmh9, hml9⟩ := id hM9
                  have he9 := s9 _ _ wk8.he
                  have hR9 := s9 _ _ ag.hR
                  have nR : ∀ {b : Addr} {u : List (Key × V)}, H9 b = some (.dK u) → b ≠ R := fun z => at_ne z hR9 fun z => nomatch z
                  have nE : ∀ {b : Addr} {u : List (Key × V)}, H9 b = some (.dK u) → b ≠ k.e := fun z => at_ne z he9 fun z => nomatch z
                  have o10 : ∀ {b : Addr} {u : List (Key × V)}, H9 b = some (.dK u) → H10 b = some (.dK u) := fun z => f10.out z (not2 (nR z) (nE z))
                  have nys : ys.Nodup := hp.nodup_iff.mpr gc.1
                  have lys : ys.length = k.cs.length := by have := hp.length_eq; rw [List.length_map] at this; exact this
                  have lm := movesF_len t1 k.cs ys
                  have la := len_after (t := t1) (ms := movesF t1 k.cs ys)
                  have lu := so10.len
                  have ids' : IdsT (lawT t1' k.cs) := ids_lawT it fun c hc => (gc.2 c hc).2.1
                  have ndu : Nd u' := so10.nd (nd_after ag.nt (movesF_nd nys))
                  have eqU : ∀ y, valV (lawT t1' k.cs) y = valV u' y := fun y => (eqA ys hp y).trans (so10.2.2 y).symm
                  have ll9' : LogsL H9 lt2 (logsNew t1 L1 [.str "ann", .int k.wn, .str ""] (movesF t1 k.cs ys) x1 n1 hx hn) := by
                    rw [moves_eq ag.eq, led_of ag.eq, led_of (eqA ys hp)] at ll9
                    exact ll9
                  have ag10 : Agree K CR H10 R dx1 lk1 tb2 hdd2 lg2 m2 mt2 mh2 ml2 u' lu' (lawT t1' k.cs) lt2 hx hn (logsNew t1 L1 [.str "ann", .int k.wn, .str ""] (movesF t1 k.cs ys) x1 n1 hx hn) := by
                    refine ⟨hR10, ht10, ndu, (std s9).both.1.keep k10, hl10, ndl10, lo10, ⟨o10 hm9, o10 hmt9, hmh9.keep k10, o10 hml9⟩, nd_lawT ag.nt' k.cs, nd2, ?_, eqU, ne_of_none' ntb hmt9, ?_, ?_, ?_, ?_, ohx, ohn⟩
                    · refine ll9'.out k10 f10 fun b hb as => ?_
                      simp only [List.mem_cons, List.not_mem_nil, or_false] at hb
                      rcases hb with rfl | rfl
                      · rw [hR9]
                        exact fun z => nomatch z
                      · rw [he9]
                        exact fun z => nomatch z
                    · intro z hz
                      have v1 := val_nodup ndu z hz
                      rw [← eqU] at v1
                      exact ids_txts ids' _ (val_mem v1)
                    · intro y hy
                      have hy := mem_val.mp hy
                      rw [← eqU] at hy
                      rcases keys_law gc.1 (mem_val.mpr hy) with h | h
                      · exact ag.ks y (kp.mem_iff.mp h)
                      · exact kcs y h
                    · intro y hy
                      rcases keys2 y hy with h | h | h
                      · exact ag.ls y h
                      · obtain ⟨z1, z2, z3⟩ := kcs y h
                        exact ⟨.inl z1, z2, z3⟩
                      · rw [h]
                        exact ⟨.inr rfl, by decide +kernel, ok_by (by decide +kernel)⟩
                    · refine ent_behind ag.es (fun z hz => ?_) ?_
                      · obtain ⟨hz, _⟩ := List.mem_filter.mp hz
                        obtain ⟨y, _, rfl⟩ := List.mem_map.mp hz
                        exact ent_of (flat_ok vt _) (good_flat (new_good (fun c hc => (gc.2 c hc).2.1) _)) oann oemp
                      · have fl : FlatOk (ledF (afterT t1 (movesF t1 k.cs ys)) hx hn) := by
                          rw [← led_of (eqA ys hp)]
                          exact flat_led' (ids_txts ids') ohn
                        exact ent_of (flat_led' vt ag.on) fl oann oemp
                  have f13 : FrL [R, k.e] H13 H10 := (FrL.same (s8.trans s9)).trans f10
                  have k13 : TupKeep H13 H10 := (TupKeep.of (s8.trans s9)).trans k10
                  have nRw : R ≠ wl := at_ne S13.ag.hR S13.hl fun z => nomatch z
                  have new : k.e ≠ wl := nw k.e (by simp [own])
                  have hwl10 : H10 wl = some (.lst (ws1.map fun k => V.ref k.d)) := f13.out S13.hl (not2 nRw.symm new.symm)
                  refine ⟨.non, rfl, .ref m2, rfl, ?_⟩
                  dsimp only [tCons, tC, tNil]
                  refine dk_isi (o10 hm9) (b := false) (kit_ty (by decide +kernel)) ⟨_, rfl, iteF ⟨_, _, .non, .non, by decide +kernel, by decide +kernel, _, rfl, ?_⟩⟩
                  rw [show PyData.eqv .none .none = true by decide +kernel]
                  refine iteF ⟨.non, rfl, rfl, _, rfl, ?_⟩
                  rw [decide_eq_true rfl]
                  refine iteT ⟨.ref m2, rfl, .ref wl, rfl, .inl ⟨rfl, _, SqL.of hwl10⟩, .int (jn : Int), rfl, wl, _, (jn : Int), jn, .ref k.d, rfl, rfl, hwl10, by omega, by omega, ?_, (by rw [List.getElem?_map, hk]; rfl), ?_⟩
                  · rw [seqIndex_of (by omega) (by rw [List.length_map]; omega), Int.toNat_natCast]
                  have fw : FrL [wl] H10 (upd H10 wl (.lst ((ws1.map fun k => V.ref k.d).eraseIdx jn))) := FrL.at (List.mem_singleton_self wl)
                  have kw : TupKeep H10 (upd H10 wl (.lst ((ws1.map fun k => V.ref k.d).eraseIdx jn))) := TupKeep.at fun xs z => by rw [hwl10] at z; cases z
                  have ntl : NotLog H10 wl := fun a r h xs z => by
                    rw [hwl10] at h
                    cases e : ws1 with
                    | nil => rw [e] at h; cases h
                    | cons u s =>
                      rw [e] at h
                      cases h
                      have wu := S13.wk u (by rw [e]; exact List.mem_cons_self)
                      have := f13.out wu.hd (not2 ((wu.notR S13.ag.hR T.ne) u.d (by simp [own])) (at_ne wu.hd wk.he fun z => nomatch z))
                      rw [this] at z
                      cases z
                  obtain ⟨q1, q2, q3, q4⟩ := id ag10.hM
                  have ag11 := ag10.mv fw kw (fw.out hR10 (not1 nRw)) fun b hb => by
                    rw [List.mem_singleton.mp hb]
                    exact ⟨(at_ne ag10.hT hwl10 (fun z => nomatch z)).symm, (at_ne ag10.hL hwl10 (fun z => nomatch z)).symm, (at_ne q1 hwl10 (fun z => nomatch z)).symm, (at_ne q2 hwl10 (fun z => nomatch z)).symm, (at_ne q4 hwl10 (fun z => nomatch z)).symm, ntl⟩
                  refine ⟨m2, ws1.eraseIdx jn, c1, _, _, _, ⟨dx1, lk1, tb2, hdd2, lg2, mt2, mh2, ml2, u', lu', lawT t1' k.cs, lt2, kt1', hx, hn, _, S13.closed T.ne hk ((f13.mono fun b hb => ?_).trans (fw.mono fun b hb => ?_)) (k13.trans kw) ?_ (fw.out he10 (not1 new)) ag11 ids' (by omega) (by omega) (by omega) (fun y => ?_) (Nat.le_succ _) fun b hb => .inr ?_⟩, hc1, fun z => absurd z (by omega), rfl⟩
                  · simp only [List.mem_cons, List.not_mem_nil, or_false] at hb ⊢
                    rcases hb with z | z <;> simp [z]
                  · rw [List.mem_singleton.mp hb]; simp
                  · rw [upd_same, map_eraseIdx']
                  · have := len_behind L1 [.str "ann", .int k.wn, .str ""] (movesF t1 k.cs ys) (decide ((x1, n1) ≠ (hx, hn)) || decide (ledF t1 x1 n1 ≠ ledF (afterT t1 (movesF t1 k.cs ys)) hx hn)) (ledF t1 x1 n1) (ledF (afterT t1 (movesF t1 k.cs ys)) hx hn) y
                    unfold logsNew
                    omega
                  · simp only [List.mem_cons, List.not_mem_nil, or_false] at hb
                    rcases hb with rfl | rfl | rfl | rfl | rfl
                    · exact (s8.trans s9).free ntb
                    · exact (s8.trans s9).free nlg
                    · exact s8.free nmt2
                    · exact s8.free nml2
                    · exact s8.free nm2
              · refine ⟨.int r, rfl, rfl, _, rfl, ?_⟩
                rw [decide_eq_false (fun z => c4 (V.int.inj z))]
                have ei : (if r < 5 then i' + 1 else i') = (if r < 4 then i' + 1 else i') := by
                  by_cases c5 : r < 4
                  · rw [if_pos c5, if_pos (by omega)]
                  · rw [if_neg c5, if_neg (by omega)]
                exact iteF ⟨m1, ws1, c1, _, _, _, by rw [ei]; exact ⟨dx1, lk1, tb1, hd1, lg1, mt1, mh1, ml1, t1, lt1, t1', lt1', kt1', x1, n1, L1, S13⟩, hc1, fun z => hj1 (by omega), rfl⟩
            clear S13 hj1 hc1
            rintro σ H14 ⟨m2, ws2, c2, y8'', y10'', y11'', ⟨dx2, lk2, tb2, hd2, lg2, mt2, mh2, ml2, t2, lt2, t2', lt2', kt2, x2, n2, L2, S14⟩, hc2, hj2, rfl⟩
            -- an edit is dropped
            refine ⟨fun σ H' => ∃ (m : Addr) (ws : List Wk) (c : Int) (y8 y10 y11 : Option V), Turn33 K CE CR H4 H' W R m wl ws (i' + 1) c ∧ c ≤ 6 * (i' : Int) + 6 ∧ σ = [some (.ref a), some (.int n), some (.ref W), some (.ref R), some (.ref m), some (.ref wl), some (.int (0 + (i' : Int))), some (.int r), y8, some (.int (jn : Int)), y10, y11], ?_, ?_⟩
            · by_cases c5 : r = 5
              · have hj2 := hj2 (by omega)
                obtain ⟨k, hk⟩ : ∃ k, ws2[jn]? = some k := ⟨_, List.getElem?_eq_getElem hj2⟩
                have mk := List.mem_of_getElem? hk
                have wk := S14.wk k mk
                have nne : ws2 ≠ [] := fun z => by rw [z] at mk; cases mk
                have nw := wk.notWl S14.hl (fun k0 h0 => ⟨_, (S14.wk k0 h0).hd⟩) nne
                refine ⟨.int r, rfl, rfl, _, rfl, ?_⟩
                rw [decide_eq_true (by rw [c5])]
                have e5 : (if r < 5 then i' + 1 else i') = i' := if_neg (by omega)
                rw [e5] at S14
                have hdw : (upd H14 wl (.lst ((ws2.map fun k => V.ref k.d).eraseIdx jn))) k.d = some (.dK (kT (workT k))) := by rw [upd_ne (nw k.d (by simp [own]))]; exact wk.hd
                have hew : (upd H14 wl (.lst ((ws2.map fun k => V.ref k.d).eraseIdx jn))) k.e = some (.ins CE k.ex (ef R k.nt k.cl k.nh false)) := by rw [upd_ne (nw k.e (by simp [own]))]; exact wk.he
                refine iteT ⟨.ref wl, rfl, .inl ⟨rfl, _, SqL.of S14.hl⟩, .int (jn : Int), rfl, wl, _, (jn : Int), jn, .ref k.d, rfl, rfl, S14.hl, by omega, by omega, ?_, (by rw [List.getElem?_map, hk]; rfl), k.d, .ref k.e, rfl, dget_kT (.inl hdw) "edit", k.e, k.ex, _, rfl, hew, rfl, k.e, k.ex, R, k.nt, k.cl, k.nh, rfl, hew, ?_⟩
                · rw [seqIndex_of (by omega) (by rw [List.length_map]; omega), Int.toNat_natCast]
                · have fw : FrL [k.e, wl] H14 (upd (upd H14 wl (.lst ((ws2.map fun k => V.ref k.d).eraseIdx jn))) k.e (.ins CE k.ex (ef R k.nt k.cl k.nh true))) := (FrL.at (by simp)).trans (FrL.at (by simp))
                  have kw : TupKeep H14 (upd (upd H14 wl (.lst ((ws2.map fun k => V.ref k.d).eraseIdx jn))) k.e (.ins CE k.ex (ef R k.nt k.cl k.nh true))) := (TupKeep.at fun xs z => by rw [S14.hl] at z; cases z).trans (TupKeep.at fun xs z => by rw [hew] at z; cases z)
                  have nRe : R ≠ k.e := ((wk.notR S14.ag.hR T.ne) k.e (by simp [own])).symm
                  have nRw : R ≠ wl := at_ne S14.ag.hR S14.hl fun z => nomatch z
                  have hRF := fw.out S14.ag.hR (not2 nRe nRw)
                  refine ⟨m2, ws2.eraseIdx jn, c2, _, _, _, ⟨dx2, lk2, tb2, hd2, lg2, mt2, mh2, ml2, t2, lt2, t2', lt2', kt2, x2, n2, L2, ?_⟩, hc2, rfl⟩
                  refine S14.closed T.ne hk (fw.mono fun b hb => List.mem_cons_of_mem _ hb) kw ?_ upd_same (S14.ag.mv fw kw hRF (S14.ewl mk)) S14.it (by omega) (by omega) (by omega) (fun y => by omega) (Nat.le_succ _) fun b hb => .inl hb
                  rw [upd_ne (nw k.e (by simp [own])).symm, upd_same, map_eraseIdx']
              · refine ⟨.int r, rfl, rfl, _, rfl, ?_⟩
                rw [decide_eq_false (fun z => c5 (V.int.inj z))]
                have ei : (if r < 5 then i' + 1 else i') = i' + 1 := if_pos (by omega)
                rw [ei] at S14
                exact iteF ⟨m2, ws2, c2, _, _, _, ⟨dx2, lk2, tb2, hd2, lg2, mt2, mh2, ml2, t2, lt2, t2', lt2', kt2, x2, n2, L2, S14⟩, hc2, rfl⟩
            clear S14 hj2 hc2
            rintro σ H15 ⟨m3, ws3, c3, y8, y10, y11, ⟨dx3, lk3, tb3, hd3, lg3, mt3, mh3, ml3, t3, lt3, t3', lt3', kt3, x3, n3, L3, S15⟩, hc3, rfl⟩
            have b1 := S15.b1
            have b3 := S15.b3
            refine ⟨.ref R, rfl, .ref m3, rfl, R, dx3, lk3, tb3, hd3, lg3, m3, mt3, mh3, ml3, t3, lt3, t3', lt3', x3, n3, L3, rfl, S15.ag, by omega, by omega, fun H16 s16 => ⟨_, rfl, iteF ?_⟩⟩
            exact ⟨m3, ws3, c3, _, _, _, _, _, _, ⟨dx3, lk3, tb3, hd3, lg3, mt3, mh3, ml3, t3, lt3, t3', lt3', kt3, x3, n3, L3, S15.same s16⟩, by omega, rfl⟩
      · rintro σ H' ⟨m, ws, c, y6, y7, y8, y9, y10, y11, ⟨dx, lk, tb, hd, lg, mt, mh, ml, t, lt, t', lt', kt, x, n0, L, S9⟩, _, rfl⟩
        exact ⟨S9.sb, _, _, _, _, _, _, _, _, _, _, _, rfl⟩
    · rintro σ H' ⟨_, z1, z2, z3, z4, z5, z6, z7, z8, z9, z10, z11, rfl⟩
      exact q _
end

end Fk

set_option maxHeartbeats 4000000
namespace Fk
open PySem PySem.Spec PyProof.Rows L2
/-! ### the makers of the errors -/
section
variable {P : Program} {w : World} {K : PySem.W.Frag} {mg : Str → Option Value} {base : Heap}
theorem ini_ForkError {f : Addr} {fd : FuncData} (F : C8.Fun K "__init__" "ForkError.__init__" s_ForkError_init f fd) : FnOk P w K mg base C8.CX0 1 f fd ["self", "why"] (spErr K "why") := by
  refine C8.fn0 F sc_ForkError_init (fun vs H Q E h => ?_) (fun cdv A outer s H vs Q E hr h => ?_)
  · obtain ⟨a, C, fI, y, rfl, _⟩ := h
    rfl
  · obtain ⟨a, C, fI, y, rfl, T, hno, ea, q⟩ := h
    refine ⟨_, pss_one (ps_osv (pv 0) (pv 1)), ?_⟩
    exact ⟨y, rfl, .ref a, rfl, a, C, fI, rfl, T, hno, ea, q⟩
theorem ini_Stale {f : Addr} {fd : FuncData} (F : C8.Fun K "__init__" "Stale.__init__" s_Stale_init f fd) : FnOk P w K mg base C8.CX0 1 f fd ["self", "ref"] (spErr K "ref") := by
  refine C8.fn0 F sc_Stale_init (fun vs H Q E h => ?_) (fun cdv A outer s H vs Q E hr h => ?_)
  · obtain ⟨a, C, fI, y, rfl, _⟩ := h
    rfl
  · obtain ⟨a, C, fI, y, rfl, T, hno, ea, q⟩ := h
    refine ⟨_, pss_one (ps_osv (pv 0) (pv 1)), ?_⟩
    exact ⟨y, rfl, .ref a, rfl, a, C, fI, rfl, T, hno, ea, q⟩
theorem ini_Locked {f : Addr} {fd : FuncData} (F : C8.Fun K "__init__" "Locked.__init__" s_Locked_init f fd) : FnOk P w K mg base C8.CX0 1 f fd ["self", "ref"] (spErr K "ref") := by
  refine C8.fn0 F sc_Locked_init (fun vs H Q E h => ?_) (fun cdv A outer s H vs Q E hr h => ?_)
  · obtain ⟨a, C, fI, y, rfl, _⟩ := h
    rfl
  · obtain ⟨a, C, fI, y, rfl, T, hno, ea, q⟩ := h
    refine ⟨_, pss_one (ps_osv (pv 0) (pv 1)), ?_⟩
    exact ⟨y, rfl, .ref a, rfl, a, C, fI, rfl, T, hno, ea, q⟩
end

end Fk

set_option maxHeartbeats 4000000
namespace Fk
open PySem PySem.Spec PyProof.Rows L2
theorem all_mk {l : PySem.W.OpenLaw} {w : World} {K : PySem.W.Frag} {h : Heap} {mg : Str → Option Value} {fa : Addr} (X : K.In h) (G : h.Ns mainGlobals mg) (hfa : mg "law" = some (.ref fa))
    {f1 f2 f3 f4 f5 f6 f7 f8 f9 f10 f11 f12 f13 f14 f15 f16 f17 f18 f19 f20 f21 f22 f23 f24 f25 f26 f27 f28 f29 f30 f31 f32 f33 f34 : Addr} {od1 an1 od2 an2 od3 an3 od4 an4 od5 an5 od6 an6 od7 an7 od8 an8 od9 an9 od10 an10 od11 an11 od12 an12 od13 an13 od14 an14 od15 an15 od16 an16 od17 an17 od18 an18 od19 an19 od20 an20 od21 an21 od22 an22 od23 an23 od24 an24 od25 an25 od26 an26 od27 an27 od28 an28 od29 an29 od30 an30 od31 an31 od32 an32 od33 an33 od34 an34 : Option Addr} {sl1 sl2 sl3 sl4 sl5 sl6 sl7 sl8 sl9 sl10 sl11 sl12 sl13 sl14 sl15 sl16 sl17 sl18 sl19 sl20 sl21 sl22 sl23 sl24 sl25 sl26 sl27 sl28 sl29 sl30 sl31 sl32 sl33 sl34 : Array (Option Value)} {oc1 kV1 dc1 pm1 cd1 ct1 oc2 kV2 dc2 pm2 cd2 ct2 oc3 kV3 dc3 pm3 cd3 ct3 oc4 kV4 dc4 pm4 cd4 ct4 oc5 kV5 dc5 pm5 cd5 ct5 oc6 kV6 dc6 pm6 cd6 ct6 oc7 kV7 dc7 pm7 cd7 ct7 oc8 kV8 dc8 pm8 cd8 ct8 oc9 kV9 dc9 pm9 cd9 ct9 oc10 kV10 dc10 pm10 cd10 ct10 oc11 kV11 dc11 pm11 cd11 ct11 oc12 kV12 dc12 pm12 cd12 ct12 oc13 kV13 dc13 pm13 cd13 ct13 oc14 kV14 dc14 pm14 cd14 ct14 oc15 kV15 dc15 pm15 cd15 ct15 oc16 kV16 dc16 pm16 cd16 ct16 oc17 kV17 dc17 pm17 cd17 ct17 oc18 kV18 dc18 pm18 cd18 ct18 oc19 kV19 dc19 pm19 cd19 ct19 oc20 kV20 dc20 pm20 cd20 ct20 oc21 kV21 dc21 pm21 cd21 ct21 oc22 kV22 dc22 pm22 cd22 ct22 oc23 kV23 dc23 pm23 cd23 ct23 oc24 kV24 dc24 pm24 cd24 ct24 oc25 kV25 dc25 pm25 cd25 ct25 oc26 kV26 dc26 pm26 cd26 ct26 oc27 kV27 dc27 pm27 cd27 ct27 oc28 kV28 dc28 pm28 cd28 ct28 oc29 kV29 dc29 pm29 cd29 ct29 oc30 kV30 dc30 pm30 cd30 ct30 oc31 kV31 dc31 pm31 cd31 ct31 oc32 kV32 dc32 pm32 cd32 ct32 oc33 kV33 dc33 pm33 cd33 ct33 oc34 kV34 dc34 pm34 cd34 ct34 : Value} {t_HEX_DIGITS : Tok} {t_REF_SIGNS : Tok} {t_LONGEST_WORD : Tok} {t_LONGEST_TEXT : Tok} {t_LONGEST_MESSAGE : Tok} {t_LATEST : Tok}
    (a1 : PySem.W.nsIn K mainGlobals "is_id" = some (some (.ref f1))) (l1 : K.lookup f1 = some ⟨oc1, od1, .func (PySem.W.fnOf "is_id" "is_id" (C8.fnArgs s_is_id) (C8.fnBody s_is_id) (C8.fnScope s_is_id) .none kV1 dc1 pm1 an1 cd1 ct1), sl1⟩) (c1 : PySem.W.codeIn K cd1 "is_id" = true) (k1 : PySem.W.keepIn K (.ref f1) = true)
    (a2 : PySem.W.nsIn K mainGlobals "is_ref" = some (some (.ref f2))) (l2 : K.lookup f2 = some ⟨oc2, od2, .func (PySem.W.fnOf "is_ref" "is_ref" (C8.fnArgs s_is_ref) (C8.fnBody s_is_ref) (C8.fnScope s_is_ref) .none kV2 dc2 pm2 an2 cd2 ct2), sl2⟩) (c2 : PySem.W.codeIn K cd2 "is_ref" = true) (k2 : PySem.W.keepIn K (.ref f2) = true)
    (a3 : PySem.W.nsIn K mainGlobals "is_short_ref" = some (some (.ref f3))) (l3 : K.lookup f3 = some ⟨oc3, od3, .func (PySem.W.fnOf "is_short_ref" "is_short_ref" (C8.fnArgs s_is_short_ref) (C8.fnBody s_is_short_ref) (C8.fnScope s_is_short_ref) .none kV3 dc3 pm3 an3 cd3 ct3), sl3⟩) (c3 : PySem.W.codeIn K cd3 "is_short_ref" = true) (k3 : PySem.W.keepIn K (.ref f3) = true)
    (a4 : PySem.W.nsIn K mainGlobals "is_text" = some (some (.ref f4))) (l4 : K.lookup f4 = some ⟨oc4, od4, .func (PySem.W.fnOf "is_text" "is_text" (C8.fnArgs s_is_text) (C8.fnBody s_is_text) (C8.fnScope s_is_text) .none kV4 dc4 pm4 an4 cd4 ct4), sl4⟩) (c4 : PySem.W.codeIn K cd4 "is_text" = true) (k4 : PySem.W.keepIn K (.ref f4) = true)
    (a5 : PySem.W.nsIn K mainGlobals "is_message" = some (some (.ref f5))) (l5 : K.lookup f5 = some ⟨oc5, od5, .func (PySem.W.fnOf "is_message" "is_message" (C8.fnArgs s_is_message) (C8.fnBody s_is_message) (C8.fnScope s_is_message) .none kV5 dc5 pm5 an5 cd5 ct5), sl5⟩) (c5 : PySem.W.codeIn K cd5 "is_message" = true) (k5 : PySem.W.keepIn K (.ref f5) = true)
    (a6 : PySem.W.nsIn K mainGlobals "is_time" = some (some (.ref f6))) (l6 : K.lookup f6 = some ⟨oc6, od6, .func (PySem.W.fnOf "is_time" "is_time" (C8.fnArgs s_is_time) (C8.fnBody s_is_time) (C8.fnScope s_is_time) .none kV6 dc6 pm6 an6 cd6 ct6), sl6⟩) (c6 : PySem.W.codeIn K cd6 "is_time" = true) (k6 : PySem.W.keepIn K (.ref f6) = true)
    (a7 : PySem.W.nsIn K mainGlobals "is_count" = some (some (.ref f7))) (l7 : K.lookup f7 = some ⟨oc7, od7, .func (PySem.W.fnOf "is_count" "is_count" (C8.fnArgs s_is_count) (C8.fnBody s_is_count) (C8.fnScope s_is_count) .none kV7 dc7 pm7 an7 cd7 ct7), sl7⟩) (c7 : PySem.W.codeIn K cd7 "is_count" = true) (k7 : PySem.W.keepIn K (.ref f7) = true)
    (a8 : PySem.W.nsIn K mainGlobals "ascending" = some (some (.ref f8))) (l8 : K.lookup f8 = some ⟨oc8, od8, .func (PySem.W.fnOf "ascending" "ascending" (C8.fnArgs s_ascending) (C8.fnBody s_ascending) (C8.fnScope s_ascending) .none kV8 dc8 pm8 an8 cd8 ct8), sl8⟩) (c8 : PySem.W.codeIn K cd8 "ascending" = true) (k8 : PySem.W.keepIn K (.ref f8) = true)
    (a9 : PySem.W.nsIn K mainGlobals "prefixes" = some (some (.ref f9))) (l9 : K.lookup f9 = some ⟨oc9, od9, .func (PySem.W.fnOf "prefixes" "prefixes" (C8.fnArgs s_prefixes) (C8.fnBody s_prefixes) (C8.fnScope s_prefixes) .none kV9 dc9 pm9 an9 cd9 ct9), sl9⟩) (c9 : PySem.W.codeIn K cd9 "prefixes" = true) (k9 : PySem.W.keepIn K (.ref f9) = true)
    (a10 : PySem.W.nsIn K mainGlobals "have_prefixes" = some (some (.ref f10))) (l10 : K.lookup f10 = some ⟨oc10, od10, .func (PySem.W.fnOf "have_prefixes" "have_prefixes" (C8.fnArgs s_have_prefixes) (C8.fnBody s_have_prefixes) (C8.fnScope s_have_prefixes) .none kV10 dc10 pm10 an10 cd10 ct10), sl10⟩) (c10 : PySem.W.codeIn K cd10 "have_prefixes" = true) (k10 : PySem.W.keepIn K (.ref f10) = true)
    (a11 : PySem.W.nsIn K mainGlobals "_is_word" = some (some (.ref f11))) (l11 : K.lookup f11 = some ⟨oc11, od11, .func (PySem.W.fnOf "_is_word" "_is_word" (C8.fnArgs s__is_word) (C8.fnBody s__is_word) (C8.fnScope s__is_word) .none kV11 dc11 pm11 an11 cd11 ct11), sl11⟩) (c11 : PySem.W.codeIn K cd11 "_is_word" = true) (k11 : PySem.W.keepIn K (.ref f11) = true)
    (a12 : PySem.W.nsIn K mainGlobals "is_head" = some (some (.ref f12))) (l12 : K.lookup f12 = some ⟨oc12, od12, .func (PySem.W.fnOf "is_head" "is_head" (C8.fnArgs s_is_head) (C8.fnBody s_is_head) (C8.fnScope s_is_head) .none kV12 dc12 pm12 an12 cd12 ct12), sl12⟩) (c12 : PySem.W.codeIn K cd12 "is_head" = true) (k12 : PySem.W.keepIn K (.ref f12) = true)
    (a13 : PySem.W.nsIn K mainGlobals "is_log_name" = some (some (.ref f13))) (l13 : K.lookup f13 = some ⟨oc13, od13, .func (PySem.W.fnOf "is_log_name" "is_log_name" (C8.fnArgs s_is_log_name) (C8.fnBody s_is_log_name) (C8.fnScope s_is_log_name) .none kV13 dc13 pm13 an13 cd13 ct13), sl13⟩) (c13 : PySem.W.codeIn K cd13 "is_log_name" = true) (k13 : PySem.W.keepIn K (.ref f13) = true)
    (a14 : PySem.W.nsIn K mainGlobals "touch" = some (some (.ref f14))) (l14 : K.lookup f14 = some ⟨oc14, od14, .func (PySem.W.fnOf "touch" "touch" (C8.fnArgs s_touch) (C8.fnBody s_touch) (C8.fnScope s_touch) .none kV14 dc14 pm14 an14 cd14 ct14), sl14⟩) (c14 : PySem.W.codeIn K cd14 "touch" = true) (k14 : PySem.W.keepIn K (.ref f14) = true)
    (a15 : PySem.W.nsIn K mainGlobals "led_to" = some (some (.ref f15))) (l15 : K.lookup f15 = some ⟨oc15, od15, .func (PySem.W.fnOf "led_to" "led_to" (C8.fnArgs s_led_to) (C8.fnBody s_led_to) (C8.fnScope s_led_to) .none kV15 dc15 pm15 an15 cd15 ct15), sl15⟩) (c15 : PySem.W.codeIn K cd15 "led_to" = true) (k15 : PySem.W.keepIn K (.ref f15) = true)
    (a16 : PySem.W.nsIn K mainGlobals "moved" = some (some (.ref f16))) (l16 : K.lookup f16 = some ⟨oc16, od16, .func (PySem.W.fnOf "moved" "moved" (C8.fnArgs s_moved) (C8.fnBody s_moved) (C8.fnScope s_moved) .none kV16 dc16 pm16 an16 cd16 ct16), sl16⟩) (c16 : PySem.W.codeIn K cd16 "moved" = true) (k16 : PySem.W.keepIn K (.ref f16) = true)
    (a17 : PySem.W.nsIn K mainGlobals "after_moves" = some (some (.ref f17))) (l17 : K.lookup f17 = some ⟨oc17, od17, .func (PySem.W.fnOf "after_moves" "after_moves" (C8.fnArgs s_after_moves) (C8.fnBody s_after_moves) (C8.fnScope s_after_moves) .none kV17 dc17 pm17 an17 cd17 ct17), sl17⟩) (c17 : PySem.W.codeIn K cd17 "after_moves" = true) (k17 : PySem.W.keepIn K (.ref f17) = true)
    (a18 : PySem.W.nsIn K mainGlobals "sorted_rows" = some (some (.ref f18))) (l18 : K.lookup f18 = some ⟨oc18, od18, .func (PySem.W.fnOf "sorted_rows" "sorted_rows" (C8.fnArgs s_sorted_rows) (C8.fnBody s_sorted_rows) (C8.fnScope s_sorted_rows) .none kV18 dc18 pm18 an18 cd18 ct18), sl18⟩) (c18 : PySem.W.codeIn K cd18 "sorted_rows" = true) (k18 : PySem.W.keepIn K (.ref f18) = true)
    (a19 : PySem.W.nsIn K mainGlobals "_law_cell_at" = some (some (.ref f19))) (l19 : K.lookup f19 = some ⟨oc19, od19, .func (PySem.W.fnOf "_law_cell_at" "_law_cell_at" (C8.fnArgs s_l_cell_at) (C8.fnBody s_l_cell_at) (C8.fnScope s_l_cell_at) .none kV19 dc19 pm19 an19 cd19 ct19), sl19⟩) (c19 : PySem.W.codeIn K cd19 "_law_cell_at" = true) (k19 : PySem.W.keepIn K (.ref f19) = true)
    (a20 : PySem.W.nsIn K mainGlobals "_law_source" = some (some (.ref f20))) (l20 : K.lookup f20 = some ⟨oc20, od20, .func (PySem.W.fnOf "_law_source" "_law_source" (C8.fnArgs s_l_source) (C8.fnBody s_l_source) (C8.fnScope s_l_source) .none kV20 dc20 pm20 an20 cd20 ct20), sl20⟩) (c20 : PySem.W.codeIn K cd20 "_law_source" = true) (k20 : PySem.W.keepIn K (.ref f20) = true)
    (a21 : PySem.W.nsIn K mainGlobals "_law_draw" = some (some (.ref f21))) (l21 : K.lookup f21 = some ⟨oc21, od21, .func (PySem.W.fnOf "_law_draw" "_law_draw" (C8.fnArgs s_l_draw) (C8.fnBody s_l_draw) (C8.fnScope s_l_draw) .none kV21 dc21 pm21 an21 cd21 ct21), sl21⟩) (c21 : PySem.W.codeIn K cd21 "_law_draw" = true) (k21 : PySem.W.keepIn K (.ref f21) = true)
    (a22 : PySem.W.nsIn K mainGlobals "_law_pick" = some (some (.ref f22))) (l22 : K.lookup f22 = some ⟨oc22, od22, .func (PySem.W.fnOf "_law_pick" "_law_pick" (C8.fnArgs s_l_pick) (C8.fnBody s_l_pick) (C8.fnScope s_l_pick) .none kV22 dc22 pm22 an22 cd22 ct22), sl22⟩) (c22 : PySem.W.codeIn K cd22 "_law_pick" = true) (k22 : PySem.W.keepIn K (.ref f22) = true)
    (a23 : PySem.W.nsIn K mainGlobals "_law_ref" = some (some (.ref f23))) (l23 : K.lookup f23 = some ⟨oc23, od23, .func (PySem.W.fnOf "_law_ref" "_law_ref" (C8.fnArgs s_l_ref) (C8.fnBody s_l_ref) (C8.fnScope s_l_ref) .none kV23 dc23 pm23 an23 cd23 ct23), sl23⟩) (c23 : PySem.W.codeIn K cd23 "_law_ref" = true) (k23 : PySem.W.keepIn K (.ref f23) = true)
    (a24 : PySem.W.nsIn K mainGlobals "_law_id" = some (some (.ref f24))) (l24 : K.lookup f24 = some ⟨oc24, od24, .func (PySem.W.fnOf "_law_id" "_law_id" (C8.fnArgs s_l_id) (C8.fnBody s_l_id) (C8.fnScope s_l_id) .none kV24 dc24 pm24 an24 cd24 ct24), sl24⟩) (c24 : PySem.W.codeIn K cd24 "_law_id" = true) (k24 : PySem.W.keepIn K (.ref f24) = true)
    (a25 : PySem.W.nsIn K mainGlobals "_law_new" = some (some (.ref f25))) (l25 : K.lookup f25 = some ⟨oc25, od25, .func (PySem.W.fnOf "_law_new" "_law_new" (C8.fnArgs s_l_new) (C8.fnBody s_l_new) (C8.fnScope s_l_new) .none kV25 dc25 pm25 an25 cd25 ct25), sl25⟩) (c25 : PySem.W.codeIn K cd25 "_law_new" = true) (k25 : PySem.W.keepIn K (.ref f25) = true)
    (a26 : PySem.W.nsIn K mainGlobals "_law_at_head" = some (some (.ref f26))) (l26 : K.lookup f26 = some ⟨oc26, od26, .func (PySem.W.fnOf "_law_at_head" "_law_at_head" (C8.fnArgs s_l_at_head) (C8.fnBody s_l_at_head) (C8.fnScope s_l_at_head) .none kV26 dc26 pm26 an26 cd26 ct26), sl26⟩) (c26 : PySem.W.codeIn K cd26 "_law_at_head" = true) (k26 : PySem.W.keepIn K (.ref f26) = true)
    (a27 : PySem.W.nsIn K mainGlobals "_law_above" = some (some (.ref f27))) (l27 : K.lookup f27 = some ⟨oc27, od27, .func (PySem.W.fnOf "_law_above" "_law_above" (C8.fnArgs s_l_above) (C8.fnBody s_l_above) (C8.fnScope s_l_above) .none kV27 dc27 pm27 an27 cd27 ct27), sl27⟩) (c27 : PySem.W.codeIn K cd27 "_law_above" = true) (k27 : PySem.W.keepIn K (.ref f27) = true)
    (a28 : PySem.W.nsIn K mainGlobals "_law_behind" = some (some (.ref f28))) (l28 : K.lookup f28 = some ⟨oc28, od28, .func (PySem.W.fnOf "_law_behind" "_law_behind" (C8.fnArgs s_l_behind) (C8.fnBody s_l_behind) (C8.fnScope s_l_behind) .none kV28 dc28 pm28 an28 cd28 ct28), sl28⟩) (c28 : PySem.W.codeIn K cd28 "_law_behind" = true) (k28 : PySem.W.keepIn K (.ref f28) = true)
    (a29 : PySem.W.nsIn K mainGlobals "_law_stands" = some (some (.ref f29))) (l29 : K.lookup f29 = some ⟨oc29, od29, .func (PySem.W.fnOf "_law_stands" "_law_stands" (C8.fnArgs s_l_stands) (C8.fnBody s_l_stands) (C8.fnScope s_l_stands) .none kV29 dc29 pm29 an29 cd29 ct29), sl29⟩) (c29 : PySem.W.codeIn K cd29 "_law_stands" = true) (k29 : PySem.W.keepIn K (.ref f29) = true)
    (a30 : PySem.W.nsIn K mainGlobals "_law_finished" = some (some (.ref f30))) (l30 : K.lookup f30 = some ⟨oc30, od30, .func (PySem.W.fnOf "_law_finished" "_law_finished" (C8.fnArgs s_l_finished) (C8.fnBody s_l_finished) (C8.fnScope s_l_finished) .none kV30 dc30 pm30 an30 cd30 ct30), sl30⟩) (c30 : PySem.W.codeIn K cd30 "_law_finished" = true) (k30 : PySem.W.keepIn K (.ref f30) = true)
    (a31 : PySem.W.nsIn K mainGlobals "_law_near" = some (some (.ref f31))) (l31 : K.lookup f31 = some ⟨oc31, od31, .func (PySem.W.fnOf "_law_near" "_law_near" (C8.fnArgs s_l_near) (C8.fnBody s_l_near) (C8.fnScope s_l_near) .none kV31 dc31 pm31 an31 cd31 ct31), sl31⟩) (c31 : PySem.W.codeIn K cd31 "_law_near" = true) (k31 : PySem.W.keepIn K (.ref f31) = true)
    (a32 : PySem.W.nsIn K mainGlobals "_law_called" = some (some (.ref f32))) (l32 : K.lookup f32 = some ⟨oc32, od32, .func (PySem.W.fnOf "_law_called" "_law_called" (C8.fnArgs s_l_called) (C8.fnBody s_l_called) (C8.fnScope s_l_called) .none kV32 dc32 pm32 an32 cd32 ct32), sl32⟩) (c32 : PySem.W.codeIn K cd32 "_law_called" = true) (k32 : PySem.W.keepIn K (.ref f32) = true)
    (a33 : PySem.W.nsIn K mainGlobals "_law_call_right" = some (some (.ref f33))) (l33 : K.lookup f33 = some ⟨oc33, od33, .func (PySem.W.fnOf "_law_call_right" "_law_call_right" (C8.fnArgs s_l_call_right) (C8.fnBody s_l_call_right) (C8.fnScope s_l_call_right) .none kV33 dc33 pm33 an33 cd33 ct33), sl33⟩) (c33 : PySem.W.codeIn K cd33 "_law_call_right" = true) (k33 : PySem.W.keepIn K (.ref f33) = true)
    (a34 : PySem.W.nsIn K mainGlobals "law" = some (some (.ref f34))) (l34 : K.lookup f34 = some ⟨oc34, od34, .func (PySem.W.fnOf "law" "law" (C8.fnArgs s_law) (C8.fnBody s_law) (C8.fnScope s_law) .none kV34 dc34 pm34 an34 cd34 ct34), sl34⟩) (c34 : PySem.W.codeIn K cd34 "law" = true) (k34 : PySem.W.keepIn K (.ref f34) = true)
    (z_KeyError : PySem.W.nsIn K mainGlobals "KeyError" = some none)
    (z_TypeError : PySem.W.nsIn K mainGlobals "TypeError" = some none)
    (z_ValueError : PySem.W.nsIn K mainGlobals "ValueError" = some none)
    (z_all : PySem.W.nsIn K mainGlobals "all" = some none)
    (z_any : PySem.W.nsIn K mainGlobals "any" = some none)
    (z_bool : PySem.W.nsIn K mainGlobals "bool" = some none)
    (z_dict : PySem.W.nsIn K mainGlobals "dict" = some none)
    (z_enumerate : PySem.W.nsIn K mainGlobals "enumerate" = some none)
    (z_int : PySem.W.nsIn K mainGlobals "int" = some none)
    (z_isinstance : PySem.W.nsIn K mainGlobals "isinstance" = some none)
    (z_len : PySem.W.nsIn K mainGlobals "len" = some none)
    (z_list : PySem.W.nsIn K mainGlobals "list" = some none)
    (z_range : PySem.W.nsIn K mainGlobals "range" = some none)
    (z_sorted : PySem.W.nsIn K mainGlobals "sorted" = some none)
    (z_str : PySem.W.nsIn K mainGlobals "str" = some none)
    (z_sum : PySem.W.nsIn K mainGlobals "sum" = some none)
    (z_tuple : PySem.W.nsIn K mainGlobals "tuple" = some none)
    (z_zip : PySem.W.nsIn K mainGlobals "zip" = some none)
    (g_HEX_DIGITS : PySem.W.nsIn K mainGlobals "HEX_DIGITS" = some (some (.str (Str.ofString "0123456789abcdef") t_HEX_DIGITS)))
    (g_REF_SIGNS : PySem.W.nsIn K mainGlobals "REF_SIGNS" = some (some (.str (Str.ofString "abcdefghijklmnopqrstuvwxyz0123456789-") t_REF_SIGNS)))
    (g_LONGEST_WORD : PySem.W.nsIn K mainGlobals "LONGEST_WORD" = some (some (.int 12 t_LONGEST_WORD)))
    (g_LONGEST_TEXT : PySem.W.nsIn K mainGlobals "LONGEST_TEXT" = some (some (.int 2000 t_LONGEST_TEXT)))
    (g_LONGEST_MESSAGE : PySem.W.nsIn K mainGlobals "LONGEST_MESSAGE" = some (some (.int 200 t_LONGEST_MESSAGE)))
    (g_LATEST : PySem.W.nsIn K mainGlobals "LATEST" = some (some (.int 1000000000000 t_LATEST)))
    {CE CR cF cS cB cL iL dK dP iF iS ns0 r0 h0 l0 dT dN : Addr}
    {fmEdit_stand : Addr} {odmEdit_stand anmEdit_stand : Option Addr} {slmEdit_stand : Array (Option Value)} {ocmEdit_stand kVmEdit_stand dcmEdit_stand pmmEdit_stand cdmEdit_stand ctmEdit_stand : Value}
    {fmEdit_finish : Addr} {odmEdit_finish anmEdit_finish : Option Addr} {slmEdit_finish : Array (Option Value)} {ocmEdit_finish kVmEdit_finish dcmEdit_finish pmmEdit_finish cdmEdit_finish ctmEdit_finish : Value}
    {fmEdit_drop : Addr} {odmEdit_drop anmEdit_drop : Option Addr} {slmEdit_drop : Array (Option Value)} {ocmEdit_drop kVmEdit_drop dcmEdit_drop pmmEdit_drop cdmEdit_drop ctmEdit_drop : Value}
    {fmEdit_moves : Addr} {odmEdit_moves anmEdit_moves : Option Addr} {slmEdit_moves : Array (Option Value)} {ocmEdit_moves kVmEdit_moves dcmEdit_moves pmmEdit_moves cdmEdit_moves ctmEdit_moves : Value}
    {fmEdit_behind : Addr} {odmEdit_behind anmEdit_behind : Option Addr} {slmEdit_behind : Array (Option Value)} {ocmEdit_behind kVmEdit_behind dcmEdit_behind pmmEdit_behind cdmEdit_behind ctmEdit_behind : Value}
    {fmEditcheck_open : Addr} {odmEditcheck_open anmEditcheck_open : Option Addr} {slmEditcheck_open : Array (Option Value)} {ocmEditcheck_open kVmEditcheck_open dcmEditcheck_open pmmEditcheck_open cdmEditcheck_open ctmEditcheck_open : Value}
    {fmEditcall : Addr} {odmEditcall anmEditcall : Option Addr} {slmEditcall : Array (Option Value)} {ocmEditcall kVmEditcall dcmEditcall pmmEditcall cdmEditcall ctmEditcall : Value}
    {fmEditids : Addr} {odmEditids anmEditids : Option Addr} {slmEditids : Array (Option Value)} {ocmEditids kVmEditids dcmEditids pmmEditids cdmEditids ctmEditids : Value}
    {fmEdit_init : Addr} {odmEdit_init anmEdit_init : Option Addr} {slmEdit_init : Array (Option Value)} {ocmEdit_init kVmEdit_init dcmEdit_init pmmEdit_init cdmEdit_init ctmEdit_init : Value}
    {fmEdit_point : Addr} {odmEdit_point anmEdit_point : Option Addr} {slmEdit_point : Array (Option Value)} {ocmEdit_point dcmEdit_point pmmEdit_point cdmEdit_point ctmEdit_point : Value}
    {fmEdit_delete : Addr} {odmEdit_delete anmEdit_delete : Option Addr} {slmEdit_delete : Array (Option Value)} {ocmEdit_delete dcmEdit_delete pmmEdit_delete cdmEdit_delete ctmEdit_delete : Value}
    {fmRefs_getitem : Addr} {odmRefs_getitem anmRefs_getitem : Option Addr} {slmRefs_getitem : Array (Option Value)} {ocmRefs_getitem kVmRefs_getitem dcmRefs_getitem pmmRefs_getitem cdmRefs_getitem ctmRefs_getitem : Value}
    {fmRefs_contains : Addr} {odmRefs_contains anmRefs_contains : Option Addr} {slmRefs_contains : Array (Option Value)} {ocmRefs_contains kVmRefs_contains dcmRefs_contains pmmRefs_contains cdmRefs_contains ctmRefs_contains : Value}
    {fmRefs_len : Addr} {odmRefs_len anmRefs_len : Option Addr} {slmRefs_len : Array (Option Value)} {ocmRefs_len kVmRefs_len dcmRefs_len pmmRefs_len cdmRefs_len ctmRefs_len : Value}
    {fmRefs_names : Addr} {odmRefs_names anmRefs_names : Option Addr} {slmRefs_names : Array (Option Value)} {ocmRefs_names kVmRefs_names dcmRefs_names pmmRefs_names cdmRefs_names ctmRefs_names : Value}
    {fmRefs_head : Addr} {odmRefs_head anmRefs_head : Option Addr} {slmRefs_head : Array (Option Value)} {ocmRefs_head kVmRefs_head dcmRefs_head pmmRefs_head cdmRefs_head ctmRefs_head : Value}
    {fmRefs_at_head : Addr} {odmRefs_at_head anmRefs_at_head : Option Addr} {slmRefs_at_head : Array (Option Value)} {ocmRefs_at_head kVmRefs_at_head dcmRefs_at_head pmmRefs_at_head cdmRefs_at_head ctmRefs_at_head : Value}
    {fmRefs_state : Addr} {odmRefs_state anmRefs_state : Option Addr} {slmRefs_state : Array (Option Value)} {ocmRefs_state kVmRefs_state dcmRefs_state pmmRefs_state cdmRefs_state ctmRefs_state : Value}
    {fmRefs_log : Addr} {odmRefs_log anmRefs_log : Option Addr} {slmRefs_log : Array (Option Value)} {ocmRefs_log kVmRefs_log dcmRefs_log pmmRefs_log cdmRefs_log ctmRefs_log : Value}
    {fmRefs_edit : Addr} {odmRefs_edit anmRefs_edit : Option Addr} {slmRefs_edit : Array (Option Value)} {ocmRefs_edit kVmRefs_edit dcmRefs_edit pmmRefs_edit cdmRefs_edit ctmRefs_edit : Value}
    {fmRefs_lock : Addr} {odmRefs_lock anmRefs_lock : Option Addr} {slmRefs_lock : Array (Option Value)} {ocmRefs_lock kVmRefs_lock dcmRefs_lock pmmRefs_lock cdmRefs_lock ctmRefs_lock : Value}
    {fmRefstake_over : Addr} {odmRefstake_over anmRefstake_over : Option Addr} {slmRefstake_over : Array (Option Value)} {ocmRefstake_over kVmRefstake_over dcmRefstake_over pmmRefstake_over cdmRefstake_over ctmRefstake_over : Value}
    {fmRefs_become : Addr} {odmRefs_become anmRefs_become : Option Addr} {slmRefs_become : Array (Option Value)} {ocmRefs_become kVmRefs_become dcmRefs_become pmmRefs_become cdmRefs_become ctmRefs_become : Value}
    {fmRefs_init : Addr} {odmRefs_init anmRefs_init : Option Addr} {slmRefs_init : Array (Option Value)} {ocmRefs_init kVmRefs_init dcmRefs_init pmmRefs_init cdmRefs_init ctmRefs_init : Value}
    {qF : Str} {NF : Addr} {bsF subF : List Value} {snF : List Str} {abF : Bool} {colF : Option Bool} {ddF : Option Addr} {mF_0 mF_1 mF_2 mF_3 mF_5 : Option Value}
    {qS : Str} {NS : Addr} {bsS subS : List Value} {snS : List Str} {abS : Bool} {colS : Option Bool} {ddS : Option Addr} {mS_0 mS_1 mS_2 mS_3 mS_5 : Option Value}
    {qB : Str} {NB : Addr} {bsB subB : List Value} {snB : List Str} {abB : Bool} {colB : Option Bool} {ddB : Option Addr} {mB_0 mB_1 mB_2 mB_3 mB_5 : Option Value}
    {qL : Str} {NL : Addr} {bsL subL : List Value} {snL : List Str} {abL : Bool} {colL : Option Bool} {ddL : Option Addr} {mL_0 mL_1 mL_2 mL_3 mL_5 : Option Value}
    {odiS aniS : Option Addr} {sliS : Array (Option Value)} {ociS kViS dciS pmiS cdiS ctiS : Value}
    {odiF aniF : Option Addr} {sliF : Array (Option Value)} {ociF kViF dciF pmiF cdiF ctiF : Value}
    {odiL aniL : Option Addr} {sliL : Array (Option Value)} {ociL kViL dciL pmiL cdiL ctiL : Value}
    {tkd : Tok} {tcd tcn : Value} {tod ton : Option Addr} {tn tnn : Nat} {tsl tsn : Array (Option Value)}
    {tkk : Tok}
    {tkp : Tok}
    {no ro ho lo : Option Addr} {nn rn hn ln : Nat} {nsl rsl hsl lsl : Array (Option Value)} {tk1 tk2 : Tok}
    (eE_mg : PySem.W.nsIn K mainGlobals "Edit" = some (some (.ref CE)))
    (eR_mg : PySem.W.nsIn K mainGlobals "Refs" = some (some (.ref CR)))
    (eF_mg : PySem.W.nsIn K mainGlobals "ForkError" = some (some (.ref cF)))
    (eS_mg : PySem.W.nsIn K mainGlobals "Stale" = some (some (.ref cS)))
    (eB_mg : PySem.W.nsIn K mainGlobals "BadRef" = some (some (.ref cB)))
    (eL_mg : PySem.W.nsIn K mainGlobals "Locked" = some (some (.ref cL)))
    (cE_pg : PySem.W.plainGet K CE Str.empty = true)
    (cE_hd : PySem.W.hasDictIn K CE = true)
    (cE_po : PySem.W.plainOver K CE = true)
    (cE_sa : PySem.W.findIn K (.ref CE) "__setattr__" = some (some (.builtin "object.__setattr__")))
    (cE_mk : PySem.W.makesIn K CE = true)
    (cE_kc : PySem.W.keepIn K (.ref CE) = true)
    (cR_pg : PySem.W.plainGet K CR Str.empty = true)
    (cR_hd : PySem.W.hasDictIn K CR = true)
    (cR_po : PySem.W.plainOver K CR = true)
    (cR_sa : PySem.W.findIn K (.ref CR) "__setattr__" = some (some (.builtin "object.__setattr__")))
    (cR_mk : PySem.W.makesIn K CR = true)
    (cR_kc : PySem.W.keepIn K (.ref CR) = true)
    (p_ne : PySem.W.findIn K (.ref CE) "__ne__" = some (some (.builtin "object.__ne__")))
    (p_eq : PySem.W.findIn K (.ref CE) "__eq__" = some (some (.builtin "object.__eq__")))
    (p_ob : PySem.W.mroIn K CE (.type "object") = some true)
    (p_st : PySem.W.findIn K (.ref CR) "stand" = some none)
    (amEdit_stand : PySem.W.findIn K (.ref CE) "stand" = some (some (.ref fmEdit_stand)))
    (imEdit_stand : PySem.W.isFn K (.ref fmEdit_stand) = true)
    (lmEdit_stand : K.lookup fmEdit_stand = some ⟨ocmEdit_stand, odmEdit_stand, .func (PySem.W.fnOf "stand" "Edit.stand" (C8.fnArgs s_Edit_stand) (C8.fnBody s_Edit_stand) (C8.fnScope s_Edit_stand) .none kVmEdit_stand dcmEdit_stand pmmEdit_stand anmEdit_stand cdmEdit_stand ctmEdit_stand), slmEdit_stand⟩)
    (cmEdit_stand : PySem.W.codeIn K cdmEdit_stand "Edit.stand" = true)
    (kmEdit_stand : PySem.W.keepIn K (.ref fmEdit_stand) = true)
    (amEdit_finish : PySem.W.findIn K (.ref CE) "finish" = some (some (.ref fmEdit_finish)))
    (imEdit_finish : PySem.W.isFn K (.ref fmEdit_finish) = true)
    (lmEdit_finish : K.lookup fmEdit_finish = some ⟨ocmEdit_finish, odmEdit_finish, .func (PySem.W.fnOf "finish" "Edit.finish" (C8.fnArgs s_Edit_finish) (C8.fnBody s_Edit_finish) (C8.fnScope s_Edit_finish) .none kVmEdit_finish dcmEdit_finish pmmEdit_finish anmEdit_finish cdmEdit_finish ctmEdit_finish), slmEdit_finish⟩)
    (cmEdit_finish : PySem.W.codeIn K cdmEdit_finish "Edit.finish" = true)
    (kmEdit_finish : PySem.W.keepIn K (.ref fmEdit_finish) = true)
    (amEdit_drop : PySem.W.findIn K (.ref CE) "drop" = some (some (.ref fmEdit_drop)))
    (imEdit_drop : PySem.W.isFn K (.ref fmEdit_drop) = true)
    (lmEdit_drop : K.lookup fmEdit_drop = some ⟨ocmEdit_drop, odmEdit_drop, .func (PySem.W.fnOf "drop" "Edit.drop" (C8.fnArgs s_Edit_drop) (C8.fnBody s_Edit_drop) (C8.fnScope s_Edit_drop) .none kVmEdit_drop dcmEdit_drop pmmEdit_drop anmEdit_drop cdmEdit_drop ctmEdit_drop), slmEdit_drop⟩)
    (cmEdit_drop : PySem.W.codeIn K cdmEdit_drop "Edit.drop" = true)
    (kmEdit_drop : PySem.W.keepIn K (.ref fmEdit_drop) = true)
    (amEdit_moves : PySem.W.findIn K (.ref CE) "moves" = some (some (.ref fmEdit_moves)))
    (imEdit_moves : PySem.W.isFn K (.ref fmEdit_moves) = true)
    (lmEdit_moves : K.lookup fmEdit_moves = some ⟨ocmEdit_moves, odmEdit_moves, .func (PySem.W.fnOf "moves" "Edit.moves" (C8.fnArgs s_Edit_moves) (C8.fnBody s_Edit_moves) (C8.fnScope s_Edit_moves) .none kVmEdit_moves dcmEdit_moves pmmEdit_moves anmEdit_moves cdmEdit_moves ctmEdit_moves), slmEdit_moves⟩)
    (cmEdit_moves : PySem.W.codeIn K cdmEdit_moves "Edit.moves" = true)
    (kmEdit_moves : PySem.W.keepIn K (.ref fmEdit_moves) = true)
    (amEdit_behind : PySem.W.findIn K (.ref CE) "behind" = some (some (.ref fmEdit_behind)))
    (imEdit_behind : PySem.W.isFn K (.ref fmEdit_behind) = true)
    (lmEdit_behind : K.lookup fmEdit_behind = some ⟨ocmEdit_behind, odmEdit_behind, .func (PySem.W.fnOf "behind" "Edit.behind" (C8.fnArgs s_Edit_behind) (C8.fnBody s_Edit_behind) (C8.fnScope s_Edit_behind) .none kVmEdit_behind dcmEdit_behind pmmEdit_behind anmEdit_behind cdmEdit_behind ctmEdit_behind), slmEdit_behind⟩)
    (cmEdit_behind : PySem.W.codeIn K cdmEdit_behind "Edit.behind" = true)
    (kmEdit_behind : PySem.W.keepIn K (.ref fmEdit_behind) = true)
    (amEditcheck_open : PySem.W.findIn K (.ref CE) "_check_open" = some (some (.ref fmEditcheck_open)))
    (imEditcheck_open : PySem.W.isFn K (.ref fmEditcheck_open) = true)
    (lmEditcheck_open : K.lookup fmEditcheck_open = some ⟨ocmEditcheck_open, odmEditcheck_open, .func (PySem.W.fnOf "_check_open" "Edit._check_open" (C8.fnArgs s_Editcheck_open) (C8.fnBody s_Editcheck_open) (C8.fnScope s_Editcheck_open) .none kVmEditcheck_open dcmEditcheck_open pmmEditcheck_open anmEditcheck_open cdmEditcheck_open ctmEditcheck_open), slmEditcheck_open⟩)
    (cmEditcheck_open : PySem.W.codeIn K cdmEditcheck_open "Edit._check_open" = true)
    (kmEditcheck_open : PySem.W.keepIn K (.ref fmEditcheck_open) = true)
    (amEditcall : PySem.W.findIn K (.ref CE) "_call" = some (some (.ref fmEditcall)))
    (imEditcall : PySem.W.isFn K (.ref fmEditcall) = true)
    (lmEditcall : K.lookup fmEditcall = some ⟨ocmEditcall, odmEditcall, .func (PySem.W.fnOf "_call" "Edit._call" (C8.fnArgs s_Editcall) (C8.fnBody s_Editcall) (C8.fnScope s_Editcall) .none kVmEditcall dcmEditcall pmmEditcall anmEditcall cdmEditcall ctmEditcall), slmEditcall⟩)
    (cmEditcall : PySem.W.codeIn K cdmEditcall "Edit._call" = true)
    (kmEditcall : PySem.W.keepIn K (.ref fmEditcall) = true)
    (amEditids : PySem.W.findIn K (.ref CE) "_ids" = some (some (.ref fmEditids)))
    (imEditids : PySem.W.isFn K (.ref fmEditids) = true)
    (lmEditids : K.lookup fmEditids = some ⟨ocmEditids, odmEditids, .func (PySem.W.fnOf "_ids" "Edit._ids" (C8.fnArgs s_Editids) (C8.fnBody s_Editids) (C8.fnScope s_Editids) .none kVmEditids dcmEditids pmmEditids anmEditids cdmEditids ctmEditids), slmEditids⟩)
    (cmEditids : PySem.W.codeIn K cdmEditids "Edit._ids" = true)
    (kmEditids : PySem.W.keepIn K (.ref fmEditids) = true)
    (amEdit_init : PySem.W.findIn K (.ref CE) "__init__" = some (some (.ref fmEdit_init)))
    (imEdit_init : PySem.W.isFn K (.ref fmEdit_init) = true)
    (lmEdit_init : K.lookup fmEdit_init = some ⟨ocmEdit_init, odmEdit_init, .func (PySem.W.fnOf "__init__" "Edit.__init__" (C8.fnArgs s_Edit_init) (C8.fnBody s_Edit_init) (C8.fnScope s_Edit_init) .none kVmEdit_init dcmEdit_init pmmEdit_init anmEdit_init cdmEdit_init ctmEdit_init), slmEdit_init⟩)
    (cmEdit_init : PySem.W.codeIn K cdmEdit_init "Edit.__init__" = true)
    (kmEdit_init : PySem.W.keepIn K (.ref fmEdit_init) = true)
    (amEdit_point : PySem.W.findIn K (.ref CE) "point" = some (some (.ref fmEdit_point)))
    (imEdit_point : PySem.W.isFn K (.ref fmEdit_point) = true)
    (lmEdit_point : K.lookup fmEdit_point = some ⟨ocmEdit_point, odmEdit_point, .func (PySem.W.fnOf "point" "Edit.point" (C8.fnArgs s_Edit_point) (C8.fnBody s_Edit_point) (C8.fnScope s_Edit_point) .none (.ref dP) dcmEdit_point pmmEdit_point anmEdit_point cdmEdit_point ctmEdit_point), slmEdit_point⟩)
    (cmEdit_point : PySem.W.codeIn K cdmEdit_point "Edit.point" = true)
    (kmEdit_point : PySem.W.keepIn K (.ref fmEdit_point) = true)
    (amEdit_delete : PySem.W.findIn K (.ref CE) "delete" = some (some (.ref fmEdit_delete)))
    (imEdit_delete : PySem.W.isFn K (.ref fmEdit_delete) = true)
    (lmEdit_delete : K.lookup fmEdit_delete = some ⟨ocmEdit_delete, odmEdit_delete, .func (PySem.W.fnOf "delete" "Edit.delete" (C8.fnArgs s_Edit_delete) (C8.fnBody s_Edit_delete) (C8.fnScope s_Edit_delete) .none (.ref dK) dcmEdit_delete pmmEdit_delete anmEdit_delete cdmEdit_delete ctmEdit_delete), slmEdit_delete⟩)
    (cmEdit_delete : PySem.W.codeIn K cdmEdit_delete "Edit.delete" = true)
    (kmEdit_delete : PySem.W.keepIn K (.ref fmEdit_delete) = true)
    (amRefs_getitem : PySem.W.findIn K (.ref CR) "__getitem__" = some (some (.ref fmRefs_getitem)))
    (imRefs_getitem : PySem.W.isFn K (.ref fmRefs_getitem) = true)
    (lmRefs_getitem : K.lookup fmRefs_getitem = some ⟨ocmRefs_getitem, odmRefs_getitem, .func (PySem.W.fnOf "__getitem__" "Refs.__getitem__" (C8.fnArgs s_Refs_getitem) (C8.fnBody s_Refs_getitem) (C8.fnScope s_Refs_getitem) .none kVmRefs_getitem dcmRefs_getitem pmmRefs_getitem anmRefs_getitem cdmRefs_getitem ctmRefs_getitem), slmRefs_getitem⟩)
    (cmRefs_getitem : PySem.W.codeIn K cdmRefs_getitem "Refs.__getitem__" = true)
    (kmRefs_getitem : PySem.W.keepIn K (.ref fmRefs_getitem) = true)
    (amRefs_contains : PySem.W.findIn K (.ref CR) "__contains__" = some (some (.ref fmRefs_contains)))
    (imRefs_contains : PySem.W.isFn K (.ref fmRefs_contains) = true)
    (lmRefs_contains : K.lookup fmRefs_contains = some ⟨ocmRefs_contains, odmRefs_contains, .func (PySem.W.fnOf "__contains__" "Refs.__contains__" (C8.fnArgs s_Refs_contains) (C8.fnBody s_Refs_contains) (C8.fnScope s_Refs_contains) .none kVmRefs_contains dcmRefs_contains pmmRefs_contains anmRefs_contains cdmRefs_contains ctmRefs_contains), slmRefs_contains⟩)
    (cmRefs_contains : PySem.W.codeIn K cdmRefs_contains "Refs.__contains__" = true)
    (kmRefs_contains : PySem.W.keepIn K (.ref fmRefs_contains) = true)
    (amRefs_len : PySem.W.findIn K (.ref CR) "__len__" = some (some (.ref fmRefs_len)))
    (imRefs_len : PySem.W.isFn K (.ref fmRefs_len) = true)
    (lmRefs_len : K.lookup fmRefs_len = some ⟨ocmRefs_len, odmRefs_len, .func (PySem.W.fnOf "__len__" "Refs.__len__" (C8.fnArgs s_Refs_len) (C8.fnBody s_Refs_len) (C8.fnScope s_Refs_len) .none kVmRefs_len dcmRefs_len pmmRefs_len anmRefs_len cdmRefs_len ctmRefs_len), slmRefs_len⟩)
    (cmRefs_len : PySem.W.codeIn K cdmRefs_len "Refs.__len__" = true)
    (kmRefs_len : PySem.W.keepIn K (.ref fmRefs_len) = true)
    (amRefs_names : PySem.W.findIn K (.ref CR) "names" = some (some (.ref fmRefs_names)))
    (imRefs_names : PySem.W.isFn K (.ref fmRefs_names) = true)
    (lmRefs_names : K.lookup fmRefs_names = some ⟨ocmRefs_names, odmRefs_names, .func (PySem.W.fnOf "names" "Refs.names" (C8.fnArgs s_Refs_names) (C8.fnBody s_Refs_names) (C8.fnScope s_Refs_names) .none kVmRefs_names dcmRefs_names pmmRefs_names anmRefs_names cdmRefs_names ctmRefs_names), slmRefs_names⟩)
    (cmRefs_names : PySem.W.codeIn K cdmRefs_names "Refs.names" = true)
    (kmRefs_names : PySem.W.keepIn K (.ref fmRefs_names) = true)
    (amRefs_head : PySem.W.findIn K (.ref CR) "head" = some (some (.ref fmRefs_head)))
    (imRefs_head : PySem.W.isFn K (.ref fmRefs_head) = true)
    (lmRefs_head : K.lookup fmRefs_head = some ⟨ocmRefs_head, odmRefs_head, .func (PySem.W.fnOf "head" "Refs.head" (C8.fnArgs s_Refs_head) (C8.fnBody s_Refs_head) (C8.fnScope s_Refs_head) .none kVmRefs_head dcmRefs_head pmmRefs_head anmRefs_head cdmRefs_head ctmRefs_head), slmRefs_head⟩)
    (cmRefs_head : PySem.W.codeIn K cdmRefs_head "Refs.head" = true)
    (kmRefs_head : PySem.W.keepIn K (.ref fmRefs_head) = true)
    (amRefs_at_head : PySem.W.findIn K (.ref CR) "at_head" = some (some (.ref fmRefs_at_head)))
    (imRefs_at_head : PySem.W.isFn K (.ref fmRefs_at_head) = true)
    (lmRefs_at_head : K.lookup fmRefs_at_head = some ⟨ocmRefs_at_head, odmRefs_at_head, .func (PySem.W.fnOf "at_head" "Refs.at_head" (C8.fnArgs s_Refs_at_head) (C8.fnBody s_Refs_at_head) (C8.fnScope s_Refs_at_head) .none kVmRefs_at_head dcmRefs_at_head pmmRefs_at_head anmRefs_at_head cdmRefs_at_head ctmRefs_at_head), slmRefs_at_head⟩)
    (cmRefs_at_head : PySem.W.codeIn K cdmRefs_at_head "Refs.at_head" = true)
    (kmRefs_at_head : PySem.W.keepIn K (.ref fmRefs_at_head) = true)
    (amRefs_state : PySem.W.findIn K (.ref CR) "state" = some (some (.ref fmRefs_state)))
    (imRefs_state : PySem.W.isFn K (.ref fmRefs_state) = true)
    (lmRefs_state : K.lookup fmRefs_state = some ⟨ocmRefs_state, odmRefs_state, .func (PySem.W.fnOf "state" "Refs.state" (C8.fnArgs s_Refs_state) (C8.fnBody s_Refs_state) (C8.fnScope s_Refs_state) .none kVmRefs_state dcmRefs_state pmmRefs_state anmRefs_state cdmRefs_state ctmRefs_state), slmRefs_state⟩)
    (cmRefs_state : PySem.W.codeIn K cdmRefs_state "Refs.state" = true)
    (kmRefs_state : PySem.W.keepIn K (.ref fmRefs_state) = true)
    (amRefs_log : PySem.W.findIn K (.ref CR) "log" = some (some (.ref fmRefs_log)))
    (imRefs_log : PySem.W.isFn K (.ref fmRefs_log) = true)
    (lmRefs_log : K.lookup fmRefs_log = some ⟨ocmRefs_log, odmRefs_log, .func (PySem.W.fnOf "log" "Refs.log" (C8.fnArgs s_Refs_log) (C8.fnBody s_Refs_log) (C8.fnScope s_Refs_log) .none kVmRefs_log dcmRefs_log pmmRefs_log anmRefs_log cdmRefs_log ctmRefs_log), slmRefs_log⟩)
    (cmRefs_log : PySem.W.codeIn K cdmRefs_log "Refs.log" = true)
    (kmRefs_log : PySem.W.keepIn K (.ref fmRefs_log) = true)
    (amRefs_edit : PySem.W.findIn K (.ref CR) "edit" = some (some (.ref fmRefs_edit)))
    (imRefs_edit : PySem.W.isFn K (.ref fmRefs_edit) = true)
    (lmRefs_edit : K.lookup fmRefs_edit = some ⟨ocmRefs_edit, odmRefs_edit, .func (PySem.W.fnOf "edit" "Refs.edit" (C8.fnArgs s_Refs_edit) (C8.fnBody s_Refs_edit) (C8.fnScope s_Refs_edit) .none kVmRefs_edit dcmRefs_edit pmmRefs_edit anmRefs_edit cdmRefs_edit ctmRefs_edit), slmRefs_edit⟩)
    (cmRefs_edit : PySem.W.codeIn K cdmRefs_edit "Refs.edit" = true)
    (kmRefs_edit : PySem.W.keepIn K (.ref fmRefs_edit) = true)
    (amRefs_lock : PySem.W.findIn K (.ref CR) "lock" = some (some (.ref fmRefs_lock)))
    (imRefs_lock : PySem.W.isFn K (.ref fmRefs_lock) = true)
    (lmRefs_lock : K.lookup fmRefs_lock = some ⟨ocmRefs_lock, odmRefs_lock, .func (PySem.W.fnOf "lock" "Refs.lock" (C8.fnArgs s_Refs_lock) (C8.fnBody s_Refs_lock) (C8.fnScope s_Refs_lock) .none kVmRefs_lock dcmRefs_lock pmmRefs_lock anmRefs_lock cdmRefs_lock ctmRefs_lock), slmRefs_lock⟩)
    (cmRefs_lock : PySem.W.codeIn K cdmRefs_lock "Refs.lock" = true)
    (kmRefs_lock : PySem.W.keepIn K (.ref fmRefs_lock) = true)
    (amRefstake_over : PySem.W.findIn K (.ref CR) "_take_over" = some (some (.ref fmRefstake_over)))
    (imRefstake_over : PySem.W.isFn K (.ref fmRefstake_over) = true)
    (lmRefstake_over : K.lookup fmRefstake_over = some ⟨ocmRefstake_over, odmRefstake_over, .func (PySem.W.fnOf "_take_over" "Refs._take_over" (C8.fnArgs s_Refstake_over) (C8.fnBody s_Refstake_over) (C8.fnScope s_Refstake_over) .none kVmRefstake_over dcmRefstake_over pmmRefstake_over anmRefstake_over cdmRefstake_over ctmRefstake_over), slmRefstake_over⟩)
    (cmRefstake_over : PySem.W.codeIn K cdmRefstake_over "Refs._take_over" = true)
    (kmRefstake_over : PySem.W.keepIn K (.ref fmRefstake_over) = true)
    (amRefs_become : PySem.W.findIn K (.ref CR) "become" = some (some (.ref fmRefs_become)))
    (imRefs_become : PySem.W.isFn K (.ref fmRefs_become) = true)
    (lmRefs_become : K.lookup fmRefs_become = some ⟨ocmRefs_become, odmRefs_become, .func (PySem.W.fnOf "become" "Refs.become" (C8.fnArgs s_Refs_become) (C8.fnBody s_Refs_become) (C8.fnScope s_Refs_become) .none kVmRefs_become dcmRefs_become pmmRefs_become anmRefs_become cdmRefs_become ctmRefs_become), slmRefs_become⟩)
    (cmRefs_become : PySem.W.codeIn K cdmRefs_become "Refs.become" = true)
    (kmRefs_become : PySem.W.keepIn K (.ref fmRefs_become) = true)
    (amRefs_init : PySem.W.findIn K (.ref CR) "__init__" = some (some (.ref fmRefs_init)))
    (imRefs_init : PySem.W.isFn K (.ref fmRefs_init) = true)
    (lmRefs_init : K.lookup fmRefs_init = some ⟨ocmRefs_init, odmRefs_init, .func (PySem.W.fnOf "__init__" "Refs.__init__" (C8.fnArgs s_Refs_init) (C8.fnBody s_Refs_init) (C8.fnScope s_Refs_init) (.ref dN) kVmRefs_init dcmRefs_init pmmRefs_init anmRefs_init cdmRefs_init ctmRefs_init), slmRefs_init⟩)
    (cmRefs_init : PySem.W.codeIn K cdmRefs_init "Refs.__init__" = true)
    (kmRefs_init : PySem.W.keepIn K (.ref fmRefs_init) = true)
    (nE_refs : PySem.W.findIn K (.ref CE) "_refs" = some none)
    (nE_note : PySem.W.findIn K (.ref CE) "_note" = some none)
    (nE_calls : PySem.W.findIn K (.ref CE) "_calls" = some none)
    (nE_new_head : PySem.W.findIn K (.ref CE) "_new_head" = some none)
    (nEclosed : PySem.W.findIn K (.ref CE) "closed" = some none)
    (nR_locks : PySem.W.findIn K (.ref CR) "_locks" = some none)
    (nR_table : PySem.W.findIn K (.ref CR) "_table" = some none)
    (nR_head : PySem.W.findIn K (.ref CR) "_head" = some none)
    (nR_logs : PySem.W.findIn K (.ref CR) "_logs" = some none)
    (xF : K.lookup cF = some (excClassObj "ForkError" qF cF NF bsF [.type "ValueError", .type "Exception", .type "BaseException", .type "object"] true snF subF abF colF ddF mF_0 mF_1 mF_2 mF_3 mF_5 "ValueError.__new__"))
    (xS : K.lookup cS = some (excClassObj "Stale" qS cS NS bsS [.ref cF, .type "ValueError", .type "Exception", .type "BaseException", .type "object"] true snS subS abS colS ddS mS_0 mS_1 mS_2 mS_3 mS_5 "ValueError.__new__"))
    (saS : PySem.W.findIn K (.ref cS) "__setattr__" = some (some (.builtin "object.__setattr__")))
    (kCS : PySem.W.keepIn K (.ref cS) = true)
    (iCS : PySem.W.findIn K (.ref cS) "__init__" = some (some (.ref iS)))
    (gaS : PySem.W.findIn K (.ref cS) "__getattribute__" = some (some (.builtin "BaseException.__getattribute__")))
    (ggS : PySem.W.findIn K (.ref cS) "__getattr__" = some none)
    (haS : PySem.W.findIn K (.ref cS) "__class__" = some (some (.builtin "object.__class__")))
    (nfS : PySem.W.findIn K (.ref cS) "ref" = some none)
    (xB : K.lookup cB = some (excClassObj "BadRef" qB cB NB bsB [.ref cF, .type "ValueError", .type "Exception", .type "BaseException", .type "object"] true snB subB abB colB ddB mB_0 mB_1 mB_2 mB_3 mB_5 "ValueError.__new__"))
    (saB : PySem.W.findIn K (.ref cB) "__setattr__" = some (some (.builtin "object.__setattr__")))
    (kCB : PySem.W.keepIn K (.ref cB) = true)
    (iCB : PySem.W.findIn K (.ref cB) "__init__" = some (some (.ref iF)))
    (gaB : PySem.W.findIn K (.ref cB) "__getattribute__" = some (some (.builtin "BaseException.__getattribute__")))
    (ggB : PySem.W.findIn K (.ref cB) "__getattr__" = some none)
    (haB : PySem.W.findIn K (.ref cB) "__class__" = some (some (.builtin "object.__class__")))
    (nfB : PySem.W.findIn K (.ref cB) "why" = some none)
    (xL : K.lookup cL = some (excClassObj "Locked" qL cL NL bsL [.ref cF, .type "ValueError", .type "Exception", .type "BaseException", .type "object"] true snL subL abL colL ddL mL_0 mL_1 mL_2 mL_3 mL_5 "ValueError.__new__"))
    (saL : PySem.W.findIn K (.ref cL) "__setattr__" = some (some (.builtin "object.__setattr__")))
    (kCL : PySem.W.keepIn K (.ref cL) = true)
    (iCL : PySem.W.findIn K (.ref cL) "__init__" = some (some (.ref iL)))
    (gaL : PySem.W.findIn K (.ref cL) "__getattribute__" = some (some (.builtin "BaseException.__getattribute__")))
    (ggL : PySem.W.findIn K (.ref cL) "__getattr__" = some none)
    (haL : PySem.W.findIn K (.ref cL) "__class__" = some (some (.builtin "object.__class__")))
    (nfL : PySem.W.findIn K (.ref cL) "ref" = some none)
    (e_hn : PySem.W.specialIn K (.builtin "object.__class__") "__get__" = some (some (.builtin "getset_descriptor.__get__")))
    (e_ht : PySem.W.takesIn K (.builtin "object.__class__") = some true)
    (tiS : PySem.W.typeIn K (.ref iS) = some (.type "function"))
    (liS : K.lookup iS = some ⟨ociS, odiS, .func (PySem.W.fnOf "__init__" "Stale.__init__" (C8.fnArgs s_Stale_init) (C8.fnBody s_Stale_init) (C8.fnScope s_Stale_init) .none kViS dciS pmiS aniS cdiS ctiS), sliS⟩)
    (ciS : PySem.W.codeIn K cdiS "Stale.__init__" = true)
    (tiF : PySem.W.typeIn K (.ref iF) = some (.type "function"))
    (liF : K.lookup iF = some ⟨ociF, odiF, .func (PySem.W.fnOf "__init__" "ForkError.__init__" (C8.fnArgs s_ForkError_init) (C8.fnBody s_ForkError_init) (C8.fnScope s_ForkError_init) (.ref dT) kViF dciF pmiF aniF cdiF ctiF), sliF⟩)
    (ciF : PySem.W.codeIn K cdiF "ForkError.__init__" = true)
    (tiL : PySem.W.typeIn K (.ref iL) = some (.type "function"))
    (liL : K.lookup iL = some ⟨ociL, odiL, .func (PySem.W.fnOf "__init__" "Locked.__init__" (C8.fnArgs s_Locked_init) (C8.fnBody s_Locked_init) (C8.fnScope s_Locked_init) .none kViL dciL pmiL aniL cdiL ctiL), sliL⟩)
    (ciL : PySem.W.codeIn K cdiL "Locked.__init__" = true)
    (kiF : PySem.W.keepIn K (.ref iF) = true)
    (e_dT : K.lookup dT = some ⟨tcd, tod, .seq #[.str (Str.ofString "") tkd] tn, tsl⟩)
    (e_dN : K.lookup dN = some ⟨tcn, ton, .seq #[.none] tnn, tsn⟩)
    (e_dK : PySem.W.nsIn K dK "old" = some (some (.str (Str.ofString "") tkk)))
    (e_dP : PySem.W.nsIn K dP "old" = some (some (.str (Str.ofString "") tkp)))
    (g_NS : PySem.W.nsIn K mainGlobals "NEW_STATE" = some (some (.ref ns0)))
    (t_ns : K.lookup ns0 = some ⟨.type "tuple", no, .seq #[.ref r0, .ref h0, .ref l0] nn, nsl⟩)
    (t_r : K.lookup r0 = some ⟨.type "tuple", ro, .seq #[] rn, rsl⟩)
    (t_h : K.lookup h0 = some ⟨.type "tuple", ho, .seq #[.str (Str.ofString "ref") tk1, .str (Str.ofString "main") tk2] hn, hsl⟩)
    (t_l : K.lookup l0 = some ⟨.type "tuple", lo, .seq #[] ln, lsl⟩)
    : ∃ fd : FuncData, (∀ (s : Shared) (v : Value), BindsTo s fd ⟨[v], []⟩ [("_law_script", v)]) ∧ ∀ base : Heap, K.In base → base.Ns mainGlobals mg → FnOk l.prog w K mg base C8.CX0 10 fa fd ["_law_script"] (spLaw K) := by
  have e := hfa.symm.trans (PySem.W.mg_of X G a34)
  cases e
  have T : Top K mg := {
    d_is_id := ⟨_, _, ⟨⟨⟨_, _, _, _, _, _, _, _, _, _, rfl, l1, c1⟩⟩, PySem.W.mg_of X G a1, k1⟩, rfl⟩
    d_is_ref := ⟨_, _, ⟨⟨⟨_, _, _, _, _, _, _, _, _, _, rfl, l2, c2⟩⟩, PySem.W.mg_of X G a2, k2⟩, rfl⟩
    d_is_short_ref := ⟨_, _, ⟨⟨⟨_, _, _, _, _, _, _, _, _, _, rfl, l3, c3⟩⟩, PySem.W.mg_of X G a3, k3⟩, rfl⟩
    d_is_text := ⟨_, _, ⟨⟨⟨_, _, _, _, _, _, _, _, _, _, rfl, l4, c4⟩⟩, PySem.W.mg_of X G a4, k4⟩, rfl⟩
    d_is_message := ⟨_, _, ⟨⟨⟨_, _, _, _, _, _, _, _, _, _, rfl, l5, c5⟩⟩, PySem.W.mg_of X G a5, k5⟩, rfl⟩
    d_is_time := ⟨_, _, ⟨⟨⟨_, _, _, _, _, _, _, _, _, _, rfl, l6, c6⟩⟩, PySem.W.mg_of X G a6, k6⟩, rfl⟩
    d_is_count := ⟨_, _, ⟨⟨⟨_, _, _, _, _, _, _, _, _, _, rfl, l7, c7⟩⟩, PySem.W.mg_of X G a7, k7⟩, rfl⟩
    d_ascending := ⟨_, _, ⟨⟨⟨_, _, _, _, _, _, _, _, _, _, rfl, l8, c8⟩⟩, PySem.W.mg_of X G a8, k8⟩, rfl⟩
    d_prefixes := ⟨_, _, ⟨⟨⟨_, _, _, _, _, _, _, _, _, _, rfl, l9, c9⟩⟩, PySem.W.mg_of X G a9, k9⟩, rfl⟩
    d_have_prefixes := ⟨_, _, ⟨⟨⟨_, _, _, _, _, _, _, _, _, _, rfl, l10, c10⟩⟩, PySem.W.mg_of X G a10, k10⟩, rfl⟩
    d__is_word := ⟨_, _, ⟨⟨⟨_, _, _, _, _, _, _, _, _, _, rfl, l11, c11⟩⟩, PySem.W.mg_of X G a11, k11⟩, rfl⟩
    d_is_head := ⟨_, _, ⟨⟨⟨_, _, _, _, _, _, _, _, _, _, rfl, l12, c12⟩⟩, PySem.W.mg_of X G a12, k12⟩, rfl⟩
    d_is_log_name := ⟨_, _, ⟨⟨⟨_, _, _, _, _, _, _, _, _, _, rfl, l13, c13⟩⟩, PySem.W.mg_of X G a13, k13⟩, rfl⟩
    d_touch := ⟨_, _, ⟨⟨⟨_, _, _, _, _, _, _, _, _, _, rfl, l14, c14⟩⟩, PySem.W.mg_of X G a14, k14⟩, rfl⟩
    d_led_to := ⟨_, _, ⟨⟨⟨_, _, _, _, _, _, _, _, _, _, rfl, l15, c15⟩⟩, PySem.W.mg_of X G a15, k15⟩, rfl⟩
    d_moved := ⟨_, _, ⟨⟨⟨_, _, _, _, _, _, _, _, _, _, rfl, l16, c16⟩⟩, PySem.W.mg_of X G a16, k16⟩, rfl⟩
    d_after_moves := ⟨_, _, ⟨⟨⟨_, _, _, _, _, _, _, _, _, _, rfl, l17, c17⟩⟩, PySem.W.mg_of X G a17, k17⟩, rfl⟩
    d_sorted_rows := ⟨_, _, ⟨⟨⟨_, _, _, _, _, _, _, _, _, _, rfl, l18, c18⟩⟩, PySem.W.mg_of X G a18, k18⟩, rfl⟩
    d_l_cell_at := ⟨_, _, ⟨⟨⟨_, _, _, _, _, _, _, _, _, _, rfl, l19, c19⟩⟩, PySem.W.mg_of X G a19, k19⟩, rfl⟩
    d_l_source := ⟨_, _, ⟨⟨⟨_, _, _, _, _, _, _, _, _, _, rfl, l20, c20⟩⟩, PySem.W.mg_of X G a20, k20⟩, rfl⟩
    d_l_draw := ⟨_, _, ⟨⟨⟨_, _, _, _, _, _, _, _, _, _, rfl, l21, c21⟩⟩, PySem.W.mg_of X G a21, k21⟩, rfl⟩
    d_l_pick := ⟨_, _, ⟨⟨⟨_, _, _, _, _, _, _, _, _, _, rfl, l22, c22⟩⟩, PySem.W.mg_of X G a22, k22⟩, rfl⟩
    d_l_ref := ⟨_, _, ⟨⟨⟨_, _, _, _, _, _, _, _, _, _, rfl, l23, c23⟩⟩, PySem.W.mg_of X G a23, k23⟩, rfl⟩
    d_l_id := ⟨_, _, ⟨⟨⟨_, _, _, _, _, _, _, _, _, _, rfl, l24, c24⟩⟩, PySem.W.mg_of X G a24, k24⟩, rfl⟩
    d_l_new := ⟨_, _, ⟨⟨⟨_, _, _, _, _, _, _, _, _, _, rfl, l25, c25⟩⟩, PySem.W.mg_of X G a25, k25⟩, rfl⟩
    d_l_at_head := ⟨_, _, ⟨⟨⟨_, _, _, _, _, _, _, _, _, _, rfl, l26, c26⟩⟩, PySem.W.mg_of X G a26, k26⟩, rfl⟩
    d_l_above := ⟨_, _, ⟨⟨⟨_, _, _, _, _, _, _, _, _, _, rfl, l27, c27⟩⟩, PySem.W.mg_of X G a27, k27⟩, rfl⟩
    d_l_behind := ⟨_, _, ⟨⟨⟨_, _, _, _, _, _, _, _, _, _, rfl, l28, c28⟩⟩, PySem.W.mg_of X G a28, k28⟩, rfl⟩
    d_l_stands := ⟨_, _, ⟨⟨⟨_, _, _, _, _, _, _, _, _, _, rfl, l29, c29⟩⟩, PySem.W.mg_of X G a29, k29⟩, rfl⟩
    d_l_finished := ⟨_, _, ⟨⟨⟨_, _, _, _, _, _, _, _, _, _, rfl, l30, c30⟩⟩, PySem.W.mg_of X G a30, k30⟩, rfl⟩
    d_l_near := ⟨_, _, ⟨⟨⟨_, _, _, _, _, _, _, _, _, _, rfl, l31, c31⟩⟩, PySem.W.mg_of X G a31, k31⟩, rfl⟩
    d_l_called := ⟨_, _, ⟨⟨⟨_, _, _, _, _, _, _, _, _, _, rfl, l32, c32⟩⟩, PySem.W.mg_of X G a32, k32⟩, rfl⟩
    d_l_call_right := ⟨_, _, ⟨⟨⟨_, _, _, _, _, _, _, _, _, _, rfl, l33, c33⟩⟩, PySem.W.mg_of X G a33, k33⟩, rfl⟩
    d_law := ⟨_, _, ⟨⟨⟨_, _, _, _, _, _, _, _, _, _, rfl, l34, c34⟩⟩, PySem.W.mg_of X G a34, k34⟩, rfl⟩
    z_KeyError := PySem.W.mg_none_of X G z_KeyError
    z_TypeError := PySem.W.mg_none_of X G z_TypeError
    z_ValueError := PySem.W.mg_none_of X G z_ValueError
    z_all := PySem.W.mg_none_of X G z_all
    z_any := PySem.W.mg_none_of X G z_any
    z_bool := PySem.W.mg_none_of X G z_bool
    z_dict := PySem.W.mg_none_of X G z_dict
    z_enumerate := PySem.W.mg_none_of X G z_enumerate
    z_int := PySem.W.mg_none_of X G z_int
    z_isinstance := PySem.W.mg_none_of X G z_isinstance
    z_len := PySem.W.mg_none_of X G z_len
    z_list := PySem.W.mg_none_of X G z_list
    z_range := PySem.W.mg_none_of X G z_range
    z_sorted := PySem.W.mg_none_of X G z_sorted
    z_str := PySem.W.mg_none_of X G z_str
    z_sum := PySem.W.mg_none_of X G z_sum
    z_tuple := PySem.W.mg_none_of X G z_tuple
    z_zip := PySem.W.mg_none_of X G z_zip
    g_HEX_DIGITS := ⟨_, PySem.W.mg_of X G g_HEX_DIGITS, ⟨_, rfl⟩⟩
    g_REF_SIGNS := ⟨_, PySem.W.mg_of X G g_REF_SIGNS, ⟨_, rfl⟩⟩
    g_LONGEST_WORD := ⟨_, PySem.W.mg_of X G g_LONGEST_WORD, ⟨_, rfl⟩⟩
    g_LONGEST_TEXT := ⟨_, PySem.W.mg_of X G g_LONGEST_TEXT, ⟨_, rfl⟩⟩
    g_LONGEST_MESSAGE := ⟨_, PySem.W.mg_of X G g_LONGEST_MESSAGE, ⟨_, rfl⟩⟩
    g_LATEST := ⟨_, PySem.W.mg_of X G g_LATEST, ⟨_, rfl⟩⟩ }
  have cfF : CF K "ForkError" "ValueError.__new__" VE cF := ⟨_, _, _, _, _, _, _, _, _, _, _, _, _, xF⟩
  have cfS : CF K "Stale" "ValueError.__new__" (.ref cF :: VE) cS := ⟨_, _, _, _, _, _, _, _, _, _, _, _, _, xS⟩
  have cfB : CF K "BadRef" "ValueError.__new__" (.ref cF :: VE) cB := ⟨_, _, _, _, _, _, _, _, _, _, _, _, _, xB⟩
  have hbE : ((Value.ref cF :: VE).contains (.type "BaseException")) = true := rfl
  have hbO : ((Value.ref cF :: VE).contains (.type "object")) = true := rfl
  have nBS : cB ≠ cS := fun z => by
    subst z
    exact absurd (cfB.name cfS) (by decide +kernel)
  have nFS : cF ≠ cS := fun z => by
    subst z
    exact absurd (cfF.name cfS) (by decide +kernel)
  have refne : ∀ {a b : Addr}, a ≠ b → (Value.ref b == .ref a) = false := fun {a b} h => by
    cases e : (Value.ref b == .ref a) with
    | false => rfl
    | true =>
      have := eq_of_beq e
      cases this
      exact absurd rfl h
  have FS : C8.Fun K "__init__" "Stale.__init__" s_Stale_init iS (PySem.W.fnOf "__init__" "Stale.__init__" (C8.fnArgs s_Stale_init) (C8.fnBody s_Stale_init) (C8.fnScope s_Stale_init) .none kViS dciS pmiS aniS cdiS ctiS) := ⟨⟨_, _, _, _, _, _, _, _, _, _, rfl, liS, ciS⟩⟩
  have FD : FunD K "__init__" "ForkError.__init__" (C8.fnArgs s_ForkError_init) (C8.fnBody s_ForkError_init) (C8.fnScope s_ForkError_init) [V.str ""] [] iF (PySem.W.fnOf "__init__" "ForkError.__init__" (C8.fnArgs s_ForkError_init) (C8.fnBody s_ForkError_init) (C8.fnScope s_ForkError_init) (.ref dT) kViF dciF pmiF aniF cdiF ctiF) :=
    ⟨⟨_, _, _, _, _, _, _, _, _, _, rfl, liF, ciF, .inr ⟨(fun z => by cases z), dT, _, [.str (Str.ofString "") tkd], tn, rfl, e_dT, rfl, .cons ⟨tkd, rfl⟩ .nil⟩, .inl rfl⟩, kiF⟩
  have eS : ErrC K mg "Stale" "ref" cS iS := ⟨PySem.W.mg_of X G eS_mg, cfS.oex (by show PySem.HandSPX.refsVE VE = true; decide +kernel) saS kCS hbE,
    cfS.xc PySem.F.excBase_ValueError (rve_ok _) (rve_pass _) hbO hbE saS kCS iCS tiS gaS ggS haS e_hn e_ht, nfS, _, fun P w base => ini_Stale FS, FS.binds rfl (fun _ _ _ _ _ _ us hl => match us, hl with | [_, _], _ => rfl)⟩
  have eB : ErrC K mg "BadRef" "why" cB iF := by
    refine ⟨PySem.W.mg_of X G eB_mg, cfB.oex (by show PySem.HandSPX.refsVE VE = true; decide +kernel) saB kCB hbE,
      cfB.xc PySem.F.excBase_ValueError (rve_ok _) (rve_pass _) hbO hbE saB kCB iCB tiF gaB ggB haB e_hn e_ht, nfB, _, fun P w base => ini_ForkError ⟨⟨_, _, _, _, _, _, _, _, _, _, rfl, liF, ciF⟩⟩, ?_⟩
    obtain ⟨ds, v, b⟩ := FD.binds1 (ps := ["self", "why"]) 2 1 (fun z => by cases z) rfl (fun T kV doc pm an cdv ct us its h1 h2 => match us, its, h1, h2 with | [_, _], [_], _, _ => ⟨_, rfl, rfl⟩)
    cases v
    exact b
  have FR : FunD K "__init__" "Refs.__init__" (C8.fnArgs s_Refs_init) (C8.fnBody s_Refs_init) (C8.fnScope s_Refs_init) [V.non] [] fmRefs_init (PySem.W.fnOf "__init__" "Refs.__init__" (C8.fnArgs s_Refs_init) (C8.fnBody s_Refs_init) (C8.fnScope s_Refs_init) (.ref dN) kVmRefs_init dcmRefs_init pmmRefs_init anmRefs_init cdmRefs_init ctmRefs_init) :=
    ⟨⟨_, _, _, _, _, _, _, _, _, _, rfl, lmRefs_init, cmRefs_init, .inr ⟨(fun z => by cases z), dN, _, [.none], tnn, rfl, e_dN, rfl, .cons rfl .nil⟩, .inl rfl⟩, kmRefs_init⟩
  have iR : ∃ f fd ds, Mk K CR f ∧ C8.Fun K "__init__" "Refs.__init__" s_Refs_init f fd ∧ Vals [V.non] ds ∧ Binds K fd ["self", "state"] ds := by
    obtain ⟨ds, v, b⟩ := FR.binds1 (ps := ["self", "state"]) 1 0 (fun z => by cases z) rfl (fun T kV doc pm an cdv ct us its h1 h2 => match us, its, h1, h2 with | [_], [_], _, _ => ⟨_, rfl, rfl⟩)
    exact ⟨_, _, ds, ⟨cR_mk, amRefs_init, imRefs_init, cR_kc⟩, ⟨⟨_, _, _, _, _, _, _, _, _, _, rfl, lmRefs_init, cmRefs_init⟩⟩, v, b⟩
  have TR : TopR K mg CE CR cS cB iS iF ns0 r0 h0 l0 := { T with
    cE := ⟨cE_pg, cE_hd, cE_po, cE_sa⟩
    cR := ⟨cR_pg, cR_hd, cR_po, cR_sa⟩
    pEdit := ⟨p_ne, p_eq, p_ob⟩
    ne := fun z => by
      have h := amEdit_stand
      rw [z, p_st] at h
      cases h
    mE := PySem.W.mg_of X G eE_mg
    mR := PySem.W.mg_of X G eR_mg
    m_Edit_stand := ⟨_, _, ⟨⟨_, _, _, _, _, _, _, _, _, _, rfl, lmEdit_stand, cmEdit_stand⟩⟩, ⟨amEdit_stand, imEdit_stand, kmEdit_stand⟩, rfl⟩
    m_Edit_finish := ⟨_, _, ⟨⟨_, _, _, _, _, _, _, _, _, _, rfl, lmEdit_finish, cmEdit_finish⟩⟩, ⟨amEdit_finish, imEdit_finish, kmEdit_finish⟩, rfl⟩
    m_Edit_drop := ⟨_, _, ⟨⟨_, _, _, _, _, _, _, _, _, _, rfl, lmEdit_drop, cmEdit_drop⟩⟩, ⟨amEdit_drop, imEdit_drop, kmEdit_drop⟩, rfl⟩
    m_Edit_moves := ⟨_, _, ⟨⟨_, _, _, _, _, _, _, _, _, _, rfl, lmEdit_moves, cmEdit_moves⟩⟩, ⟨amEdit_moves, imEdit_moves, kmEdit_moves⟩, rfl⟩
    m_Edit_behind := ⟨_, _, ⟨⟨_, _, _, _, _, _, _, _, _, _, rfl, lmEdit_behind, cmEdit_behind⟩⟩, ⟨amEdit_behind, imEdit_behind, kmEdit_behind⟩, rfl⟩
    m_Editcheck_open := ⟨_, _, ⟨⟨_, _, _, _, _, _, _, _, _, _, rfl, lmEditcheck_open, cmEditcheck_open⟩⟩, ⟨amEditcheck_open, imEditcheck_open, kmEditcheck_open⟩, rfl⟩
    m_Editcall := ⟨_, _, ⟨⟨_, _, _, _, _, _, _, _, _, _, rfl, lmEditcall, cmEditcall⟩⟩, ⟨amEditcall, imEditcall, kmEditcall⟩, rfl⟩
    m_Editids := ⟨_, _, ⟨⟨_, _, _, _, _, _, _, _, _, _, rfl, lmEditids, cmEditids⟩⟩, ⟨amEditids, imEditids, kmEditids⟩, rfl⟩
    m_Refs_getitem := ⟨_, _, ⟨⟨_, _, _, _, _, _, _, _, _, _, rfl, lmRefs_getitem, cmRefs_getitem⟩⟩, ⟨amRefs_getitem, imRefs_getitem, kmRefs_getitem⟩, rfl⟩
    m_Refs_contains := ⟨_, _, ⟨⟨_, _, _, _, _, _, _, _, _, _, rfl, lmRefs_contains, cmRefs_contains⟩⟩, ⟨amRefs_contains, imRefs_contains, kmRefs_contains⟩, rfl⟩
    m_Refs_len := ⟨_, _, ⟨⟨_, _, _, _, _, _, _, _, _, _, rfl, lmRefs_len, cmRefs_len⟩⟩, ⟨amRefs_len, imRefs_len, kmRefs_len⟩, rfl⟩
    m_Refs_names := ⟨_, _, ⟨⟨_, _, _, _, _, _, _, _, _, _, rfl, lmRefs_names, cmRefs_names⟩⟩, ⟨amRefs_names, imRefs_names, kmRefs_names⟩, rfl⟩
    m_Refs_head := ⟨_, _, ⟨⟨_, _, _, _, _, _, _, _, _, _, rfl, lmRefs_head, cmRefs_head⟩⟩, ⟨amRefs_head, imRefs_head, kmRefs_head⟩, rfl⟩
    m_Refs_at_head := ⟨_, _, ⟨⟨_, _, _, _, _, _, _, _, _, _, rfl, lmRefs_at_head, cmRefs_at_head⟩⟩, ⟨amRefs_at_head, imRefs_at_head, kmRefs_at_head⟩, rfl⟩
    m_Refs_state := ⟨_, _, ⟨⟨_, _, _, _, _, _, _, _, _, _, rfl, lmRefs_state, cmRefs_state⟩⟩, ⟨amRefs_state, imRefs_state, kmRefs_state⟩, rfl⟩
    m_Refs_log := ⟨_, _, ⟨⟨_, _, _, _, _, _, _, _, _, _, rfl, lmRefs_log, cmRefs_log⟩⟩, ⟨amRefs_log, imRefs_log, kmRefs_log⟩, rfl⟩
    m_Refs_edit := ⟨_, _, ⟨⟨_, _, _, _, _, _, _, _, _, _, rfl, lmRefs_edit, cmRefs_edit⟩⟩, ⟨amRefs_edit, imRefs_edit, kmRefs_edit⟩, rfl⟩
    m_Refs_lock := ⟨_, _, ⟨⟨_, _, _, _, _, _, _, _, _, _, rfl, lmRefs_lock, cmRefs_lock⟩⟩, ⟨amRefs_lock, imRefs_lock, kmRefs_lock⟩, rfl⟩
    m_Refstake_over := ⟨_, _, ⟨⟨_, _, _, _, _, _, _, _, _, _, rfl, lmRefstake_over, cmRefstake_over⟩⟩, ⟨amRefstake_over, imRefstake_over, kmRefstake_over⟩, rfl⟩
    m_Refs_become := ⟨_, _, ⟨⟨_, _, _, _, _, _, _, _, _, _, rfl, lmRefs_become, cmRefs_become⟩⟩, ⟨amRefs_become, imRefs_become, kmRefs_become⟩, rfl⟩
    nE_refs := nE_refs
    nE_note := nE_note
    nE_calls := nE_calls
    nE_new_head := nE_new_head
    nEclosed := nEclosed
    nR_locks := nR_locks
    nR_table := nR_table
    nR_head := nR_head
    nR_logs := nR_logs
    eS := eS
    eB := eB
    iE := ⟨_, _, ⟨cE_mk, amEdit_init, imEdit_init, cE_kc⟩, ⟨⟨_, _, _, _, _, _, _, _, _, _, rfl, lmEdit_init, cmEdit_init⟩⟩, rfl⟩
    iR := iR
    kP := ⟨_, _, ⟨amEdit_point, imEdit_point, kmEdit_point⟩, ⟨⟨_, _, _, _, _, _, _, _, _, _, rfl, lmEdit_point, cmEdit_point⟩⟩, rfl⟩
    kD := ⟨_, _, ⟨amEdit_delete, imEdit_delete, kmEdit_delete⟩, ⟨⟨_, _, _, _, _, _, _, _, _, _, rfl, lmEdit_delete, cmEdit_delete⟩⟩, rfl⟩
    g_NEW_STATE := ⟨_, PySem.W.mg_of X G g_NS, rfl⟩
    kS := ⟨_, _, _, t_ns, rfl, rfl, (by show 3 ≤ sizeLine; decide), .cons rfl (.cons rfl (.cons rfl .nil))⟩
    kr := ⟨_, _, _, t_r, rfl, rfl, (by show 0 ≤ sizeLine; decide), .nil⟩
    kh := ⟨_, _, _, t_h, rfl, rfl, (by show 2 ≤ sizeLine; decide), .cons ⟨_, rfl⟩ (.cons ⟨_, rfl⟩ .nil)⟩
    kl := ⟨_, _, _, t_l, rfl, rfl, (by show 0 ≤ sizeLine; decide), .nil⟩
    exSS := cfS.exm cfS hbE (by rw [List.contains_cons, beq_self_eq_true]; rfl)
    exBS := cfB.exm cfS hbE (by rw [List.contains_cons, List.contains_cons, refne nBS, refne nFS]; rfl)
    exBB := cfB.exm cfB hbE (by rw [List.contains_cons, beq_self_eq_true]; rfl) }
  have cfL : CF K "Locked" "ValueError.__new__" (.ref cF :: VE) cL := ⟨_, _, _, _, _, _, _, _, _, _, _, _, _, xL⟩
  have FLk : C8.Fun K "__init__" "Locked.__init__" s_Locked_init iL (PySem.W.fnOf "__init__" "Locked.__init__" (C8.fnArgs s_Locked_init) (C8.fnBody s_Locked_init) (C8.fnScope s_Locked_init) .none kViL dciL pmiL aniL cdiL ctiL) := ⟨⟨_, _, _, _, _, _, _, _, _, _, rfl, liL, ciL⟩⟩
  have eL : ErrC K mg "Locked" "ref" cL iL := ⟨PySem.W.mg_of X G eL_mg, cfL.oex (by show PySem.HandSPX.refsVE VE = true; decide +kernel) saL kCL hbE,
    cfL.xc PySem.F.excBase_ValueError (rve_ok _) (rve_pass _) hbO hbE saL kCL iCL tiL gaL ggL haL e_hn e_ht, nfL, _, fun P w base => ini_Locked FLk, FLk.binds rfl (fun _ _ _ _ _ _ us hl => match us, hl with | [_, _], _ => rfl)⟩
  have FL : FunD K "delete" "Edit.delete" (C8.fnArgs s_Edit_delete) (C8.fnBody s_Edit_delete) (C8.fnScope s_Edit_delete) [] [("old", V.str "")] fmEdit_delete (PySem.W.fnOf "delete" "Edit.delete" (C8.fnArgs s_Edit_delete) (C8.fnBody s_Edit_delete) (C8.fnScope s_Edit_delete) .none (.ref dK) dcmEdit_delete pmmEdit_delete anmEdit_delete cdmEdit_delete ctmEdit_delete) :=
    ⟨⟨_, _, _, _, _, _, _, _, _, _, rfl, lmEdit_delete, cmEdit_delete, .inl ⟨rfl, rfl⟩, .inr ⟨dK, rfl, fun q hq => by rw [List.mem_singleton.mp hq]; exact ⟨_, e_dK, ⟨_, rfl⟩⟩⟩⟩, kmEdit_delete⟩
  have kD0 : ∃ f fd ds, Meth K CE "delete" f ∧ C8.Fun K "delete" "Edit.delete" s_Edit_delete f fd ∧ Vals [V.str ""] ds ∧ Binds K fd ["self", "ref", "old"] ds := by
    obtain ⟨ds, v, b⟩ := FL.binds0 (ps := ["self", "ref", "old"]) 2 (fun z => by cases z) rfl (fun D doc pm an cdv ct us ks h1 h2 => match us, ks, h1, h2 with | [_, _], [_], _, _ => ⟨_, _, _, _, _, _, rfl, rfl, rfl⟩)
    exact ⟨_, _, ds, ⟨amEdit_delete, imEdit_delete, kmEdit_delete⟩, ⟨⟨_, _, _, _, _, _, _, _, _, _, rfl, lmEdit_delete, cmEdit_delete⟩⟩, v, b⟩
  have FP : FunD K "point" "Edit.point" (C8.fnArgs s_Edit_point) (C8.fnBody s_Edit_point) (C8.fnScope s_Edit_point) [] [("old", V.str "")] fmEdit_point (PySem.W.fnOf "point" "Edit.point" (C8.fnArgs s_Edit_point) (C8.fnBody s_Edit_point) (C8.fnScope s_Edit_point) .none (.ref dP) dcmEdit_point pmmEdit_point anmEdit_point cdmEdit_point ctmEdit_point) :=
    ⟨⟨_, _, _, _, _, _, _, _, _, _, rfl, lmEdit_point, cmEdit_point, .inl ⟨rfl, rfl⟩, .inr ⟨dP, rfl, fun q hq => by rw [List.mem_singleton.mp hq]; exact ⟨_, e_dP, ⟨_, rfl⟩⟩⟩⟩, kmEdit_point⟩
  have kP0 : ∃ f fd ds, Meth K CE "point" f ∧ C8.Fun K "point" "Edit.point" s_Edit_point f fd ∧ Vals [V.str ""] ds ∧ Binds K fd ["self", "ref", "new", "old"] ds := by
    obtain ⟨ds, v, b⟩ := FP.binds0 (ps := ["self", "ref", "new", "old"]) 3 (fun z => by cases z) rfl (fun D doc pm an cdv ct us ks h1 h2 => match us, ks, h1, h2 with | [_, _, _], [_], _, _ => ⟨_, _, _, _, _, _, rfl, rfl, rfl⟩)
    exact ⟨_, _, ds, ⟨amEdit_point, imEdit_point, kmEdit_point⟩, ⟨⟨_, _, _, _, _, _, _, _, _, _, rfl, lmEdit_point, cmEdit_point⟩⟩, v, b⟩
  have TL : TopL K mg CE CR cS cB iS iF ns0 r0 h0 l0 cL iL := { TR with
    eL := eL
    exLL := cfL.exm cfL hbE (by rw [List.contains_cons, beq_self_eq_true]; rfl)
    kD0 := kD0
    kP0 := kP0 }
  exact ⟨PySem.W.fnOf "law" "law" (C8.fnArgs s_law) (C8.fnBody s_law) (C8.fnScope s_law) .none kV34 dc34 pm34 an34 cd34 ct34, fun s v => .of_eq rfl, fun base _ _ => ok_law TL ⟨⟨_, _, _, _, _, _, _, _, _, _, rfl, l34, c34⟩⟩⟩
end Fk
open PySem PySem.W PyProof.Rows
set_option maxHeartbeats 0 in
set_option pp.maxSteps 25 in
theorem PySem.Challenge.cw_forkhaul_k33_edits_open_at_the_same_time_holds : PySem.Challenge.rw_forkhaul_k33_edits_open_at_the_same_time.Holds := by
  w_on; o_law; k_head; (case hw => w_witness2)
  k_fill
  refine L2.walk_of (l := PySem.Challenge.rw_forkhaul_k33_edits_open_at_the_same_time) (n := 63) (k := 10) (x := "_law_script") (CX := fun _ => C8.CX0) (sp := fun w => Fk.spLaw _) rfl (by decide) rfl ⟨rfl, by decide, by decide⟩ (fun w h Y => PySem.W.kIn_of Y) ?F (fun _ _ a ns hl _ hS => ⟨a, ns, rfl, hS, hl, fun _ => rfl⟩) (fun _ _ _ _ _ h => h)
  case F =>
    intro w mg fa h KX G hmg
    refine' Fk.all_mk KX G hmg ?a1 ?l1 ?c1 ?k1 ?a2 ?l2 ?c2 ?k2 ?a3 ?l3 ?c3 ?k3 ?a4 ?l4 ?c4 ?k4 ?a5 ?l5 ?c5 ?k5 ?a6 ?l6 ?c6 ?k6 ?a7 ?l7 ?c7 ?k7 ?a8 ?l8 ?c8 ?k8 ?a9 ?l9 ?c9 ?k9 ?a10 ?l10 ?c10 ?k10 ?a11 ?l11 ?c11 ?k11 ?a12 ?l12 ?c12 ?k12 ?a13 ?l13 ?c13 ?k13 ?a14 ?l14 ?c14 ?k14 ?a15 ?l15 ?c15 ?k15 ?a16 ?l16 ?c16 ?k16 ?a17 ?l17 ?c17 ?k17 ?a18 ?l18 ?c18 ?k18 ?a19 ?l19 ?c19 ?k19 ?a20 ?l20 ?c20 ?k20 ?a21 ?l21 ?c21 ?k21 ?a22 ?l22 ?c22 ?k22 ?a23 ?l23 ?c23 ?k23 ?a24 ?l24 ?c24 ?k24 ?a25 ?l25 ?c25 ?k25 ?a26 ?l26 ?c26 ?k26 ?a27 ?l27 ?c27 ?k27 ?a28 ?l28 ?c28 ?k28 ?a29 ?l29 ?c29 ?k29 ?a30 ?l30 ?c30 ?k30 ?a31 ?l31 ?c31 ?k31 ?a32 ?l32 ?c32 ?k32 ?a33 ?l33 ?c33 ?k33 ?a34 ?l34 ?c34 ?k34 ?z_KeyError ?z_TypeError ?z_ValueError ?z_all ?z_any ?z_bool ?z_dict ?z_enumerate ?z_int ?z_isinstance ?z_len ?z_list ?z_range ?z_sorted ?z_str ?z_sum ?z_tuple ?z_zip ?g_HEX_DIGITS ?g_REF_SIGNS ?g_LONGEST_WORD ?g_LONGEST_TEXT ?g_LONGEST_MESSAGE ?g_LATEST ?eE_mg ?eR_mg ?eF_mg ?eS_mg ?eB_mg ?eL_mg ?cE_pg ?cE_hd ?cE_po ?cE_sa ?cE_mk ?cE_kc ?cR_pg ?cR_hd ?cR_po ?cR_sa ?cR_mk ?cR_kc ?p_ne ?p_eq ?p_ob ?p_st ?amEdit_stand ?imEdit_stand ?lmEdit_stand ?cmEdit_stand ?kmEdit_stand ?amEdit_finish ?imEdit_finish ?lmEdit_finish ?cmEdit_finish ?kmEdit_finish ?amEdit_drop ?imEdit_drop ?lmEdit_drop ?cmEdit_drop ?kmEdit_drop ?amEdit_moves ?imEdit_moves ?lmEdit_moves ?cmEdit_moves ?kmEdit_moves ?amEdit_behind ?imEdit_behind ?lmEdit_behind ?cmEdit_behind ?kmEdit_behind ?amEditcheck_open ?imEditcheck_open ?lmEditcheck_open ?cmEditcheck_open ?kmEditcheck_open ?amEditcall ?imEditcall ?lmEditcall ?cmEditcall ?kmEditcall ?amEditids ?imEditids ?lmEditids ?cmEditids ?kmEditids ?amEdit_init ?imEdit_init ?lmEdit_init ?cmEdit_init ?kmEdit_init ?amEdit_point ?imEdit_point ?lmEdit_point ?cmEdit_point ?kmEdit_point ?amEdit_delete ?imEdit_delete ?lmEdit_delete ?cmEdit_delete ?kmEdit_delete ?amRefs_getitem ?imRefs_getitem ?lmRefs_getitem ?cmRefs_getitem ?kmRefs_getitem ?amRefs_contains ?imRefs_contains ?lmRefs_contains ?cmRefs_contains ?kmRefs_contains ?amRefs_len ?imRefs_len ?lmRefs_len ?cmRefs_len ?kmRefs_len ?amRefs_names ?imRefs_names ?lmRefs_names ?cmRefs_names ?kmRefs_names ?amRefs_head ?imRefs_head ?lmRefs_head ?cmRefs_head ?kmRefs_head ?amRefs_at_head ?imRefs_at_head ?lmRefs_at_head ?cmRefs_at_head ?kmRefs_at_head ?amRefs_state ?imRefs_state ?lmRefs_state ?cmRefs_state ?kmRefs_state ?amRefs_log ?imRefs_log ?lmRefs_log ?cmRefs_log ?kmRefs_log ?amRefs_edit ?imRefs_edit ?lmRefs_edit ?cmRefs_edit ?kmRefs_edit ?amRefs_lock ?imRefs_lock ?lmRefs_lock ?cmRefs_lock ?kmRefs_lock ?amRefstake_over ?imRefstake_over ?lmRefstake_over ?cmRefstake_over ?kmRefstake_over ?amRefs_become ?imRefs_become ?lmRefs_become ?cmRefs_become ?kmRefs_become ?amRefs_init ?imRefs_init ?lmRefs_init ?cmRefs_init ?kmRefs_init ?nE_refs ?nE_note ?nE_calls ?nE_new_head ?nEclosed ?nR_locks ?nR_table ?nR_head ?nR_logs ?xF ?xS ?saS ?kCS ?iCS ?gaS ?ggS ?haS ?nfS ?xB ?saB ?kCB ?iCB ?gaB ?ggB ?haB ?nfB ?xL ?saL ?kCL ?iCL ?gaL ?ggL ?haL ?nfL ?e_hn ?e_ht ?tiS ?liS ?ciS ?tiF ?liF ?ciF ?tiL ?liL ?ciL ?kiF ?e_dT ?e_dN ?e_dK ?e_dP ?g_NS ?t_ns ?t_r ?t_h ?t_l
    (case a1 => k_is); (case l1 => k_is); (case c1 => k_is); (case k1 => k_is); (case a2 => k_is); (case l2 => k_is); (case c2 => k_is); (case k2 => k_is); (case a3 => k_is); (case l3 => k_is); (case c3 => k_is); (case k3 => k_is); (case a4 => k_is); (case l4 => k_is); (case c4 => k_is); (case k4 => k_is); (case a5 => k_is); (case l5 => k_is); (case c5 => k_is); (case k5 => k_is); (case a6 => k_is); (case l6 => k_is); (case c6 => k_is); (case k6 => k_is); (case a7 => k_is); (case l7 => k_is); (case c7 => k_is); (case k7 => k_is); (case a8 => k_is); (case l8 => k_is); (case c8 => k_is); (case k8 => k_is); (case a9 => k_is); (case l9 => k_is); (case c9 => k_is); (case k9 => k_is); (case a10 => k_is); (case l10 => k_is); (case c10 => k_is); (case k10 => k_is); (case a11 => k_is); (case l11 => k_is); (case c11 => k_is); (case k11 => k_is); (case a12 => k_is); (case l12 => k_is); (case c12 => k_is); (case k12 => k_is); (case a13 => k_is); (case l13 => k_is); (case c13 => k_is); (case k13 => k_is); (case a14 => k_is); (case l14 => k_is); (case c14 => k_is); (case k14 => k_is); (case a15 => k_is); (case l15 => k_is); (case c15 => k_is); (case k15 => k_is); (case a16 => k_is); (case l16 => k_is); (case c16 => k_is); (case k16 => k_is); (case a17 => k_is); (case l17 => k_is); (case c17 => k_is); (case k17 => k_is); (case a18 => k_is); (case l18 => k_is); (case c18 => k_is); (case k18 => k_is); (case a19 => k_is); (case l19 => k_is); (case c19 => k_is); (case k19 => k_is); (case a20 => k_is); (case l20 => k_is); (case c20 => k_is); (case k20 => k_is); (case a21 => k_is); (case l21 => k_is); (case c21 => k_is); (case k21 => k_is); (case a22 => k_is); (case l22 => k_is); (case c22 => k_is); (case k22 => k_is); (case a23 => k_is); (case l23 => k_is); (case c23 => k_is); (case k23 => k_is); (case a24 => k_is); (case l24 => k_is); (case c24 => k_is); (case k24 => k_is); (case a25 => k_is); (case l25 => k_is); (case c25 => k_is); (case k25 => k_is); (case a26 => k_is); (case l26 => k_is); (case c26 => k_is); (case k26 => k_is); (case a27 => k_is); (case l27 => k_is); (case c27 => k_is); (case k27 => k_is); (case a28 => k_is); (case l28 => k_is); (case c28 => k_is); (case k28 => k_is); (case a29 => k_is); (case l29 => k_is); (case c29 => k_is); (case k29 => k_is); (case a30 => k_is); (case l30 => k_is); (case c30 => k_is); (case k30 => k_is); (case a31 => k_is); (case l31 => k_is); (case c31 => k_is); (case k31 => k_is); (case a32 => k_is); (case l32 => k_is); (case c32 => k_is); (case k32 => k_is); (case a33 => k_is); (case l33 => k_is); (case c33 => k_is); (case k33 => k_is); (case a34 => k_is); (case l34 => k_is); (case c34 => k_is); (case k34 => k_is); (case z_KeyError => k_is); (case z_TypeError => k_is); (case z_ValueError => k_is); (case z_all => k_is); (case z_any => k_is); (case z_bool => k_is); (case z_dict => k_is); (case z_enumerate => k_is); (case z_int => k_is); (case z_isinstance => k_is); (case z_len => k_is); (case z_list => k_is); (case z_range => k_is); (case z_sorted => k_is); (case z_str => k_is); (case z_sum => k_is); (case z_tuple => k_is); (case z_zip => k_is); (case g_HEX_DIGITS => k_is); (case g_REF_SIGNS => k_is); (case g_LONGEST_WORD => k_is); (case g_LONGEST_TEXT => k_is); (case g_LONGEST_MESSAGE => k_is); (case g_LATEST => k_is); (case eE_mg => k_is); (case eR_mg => k_is); (case eF_mg => k_is); (case eS_mg => k_is); (case eB_mg => k_is); (case eL_mg => k_is); (case cE_pg => k_is); (case cE_hd => k_is); (case cE_po => k_is); (case cE_sa => k_is); (case cE_mk => k_is); (case cE_kc => k_is); (case cR_pg => k_is); (case cR_hd => k_is); (case cR_po => k_is); (case cR_sa => k_is); (case cR_mk => k_is); (case cR_kc => k_is); (case p_ne => k_is); (case p_eq => k_is); (case p_ob => k_is); (case p_st => k_is); (case amEdit_stand => k_is); (case imEdit_stand => k_is); (case lmEdit_stand => k_is); (case cmEdit_stand => k_is); (case kmEdit_stand => k_is); (case amEdit_finish => k_is); (case imEdit_finish => k_is); (case lmEdit_finish => k_is); (case cmEdit_finish => k_is); (case kmEdit_finish => k_is); (case amEdit_drop => k_is); (case imEdit_drop => k_is); (case lmEdit_drop => k_is); (case cmEdit_drop => k_is); (case kmEdit_drop => k_is); (case amEdit_moves => k_is); (case imEdit_moves => k_is); (case lmEdit_moves => k_is); (case cmEdit_moves => k_is); (case kmEdit_moves => k_is); (case amEdit_behind => k_is); (case imEdit_behind => k_is); (case lmEdit_behind => k_is); (case cmEdit_behind => k_is); (case kmEdit_behind => k_is); (case amEditcheck_open => k_is); (case imEditcheck_open => k_is); (case lmEditcheck_open => k_is); (case cmEditcheck_open => k_is); (case kmEditcheck_open => k_is); (case amEditcall => k_is); (case imEditcall => k_is); (case lmEditcall => k_is); (case cmEditcall => k_is); (case kmEditcall => k_is); (case amEditids => k_is); (case imEditids => k_is); (case lmEditids => k_is); (case cmEditids => k_is); (case kmEditids => k_is); (case amEdit_init => k_is); (case imEdit_init => k_is); (case lmEdit_init => k_is); (case cmEdit_init => k_is); (case kmEdit_init => k_is); (case amEdit_point => k_is); (case imEdit_point => k_is); (case lmEdit_point => k_is); (case cmEdit_point => k_is); (case kmEdit_point => k_is); (case amEdit_delete => k_is); (case imEdit_delete => k_is); (case lmEdit_delete => k_is); (case cmEdit_delete => k_is); (case kmEdit_delete => k_is); (case amRefs_getitem => k_is); (case imRefs_getitem => k_is); (case lmRefs_getitem => k_is); (case cmRefs_getitem => k_is); (case kmRefs_getitem => k_is); (case amRefs_contains => k_is); (case imRefs_contains => k_is); (case lmRefs_contains => k_is); (case cmRefs_contains => k_is); (case kmRefs_contains => k_is); (case amRefs_len => k_is); (case imRefs_len => k_is); (case lmRefs_len => k_is); (case cmRefs_len => k_is); (case kmRefs_len => k_is); (case amRefs_names => k_is); (case imRefs_names => k_is); (case lmRefs_names => k_is); (case cmRefs_names => k_is); (case kmRefs_names => k_is); (case amRefs_head => k_is); (case imRefs_head => k_is); (case lmRefs_head => k_is); (case cmRefs_head => k_is); (case kmRefs_head => k_is); (case amRefs_at_head => k_is); (case imRefs_at_head => k_is); (case lmRefs_at_head => k_is); (case cmRefs_at_head => k_is); (case kmRefs_at_head => k_is); (case amRefs_state => k_is); (case imRefs_state => k_is); (case lmRefs_state => k_is); (case cmRefs_state => k_is); (case kmRefs_state => k_is); (case amRefs_log => k_is); (case imRefs_log => k_is); (case lmRefs_log => k_is); (case cmRefs_log => k_is); (case kmRefs_log => k_is); (case amRefs_edit => k_is); (case imRefs_edit => k_is); (case lmRefs_edit => k_is); (case cmRefs_edit => k_is); (case kmRefs_edit => k_is); (case amRefs_lock => k_is); (case imRefs_lock => k_is); (case lmRefs_lock => k_is); (case cmRefs_lock => k_is); (case kmRefs_lock => k_is); (case amRefstake_over => k_is); (case imRefstake_over => k_is); (case lmRefstake_over => k_is); (case cmRefstake_over => k_is); (case kmRefstake_over => k_is); (case amRefs_become => k_is); (case imRefs_become => k_is); (case lmRefs_become => k_is); (case cmRefs_become => k_is); (case kmRefs_become => k_is); (case amRefs_init => k_is); (case imRefs_init => k_is); (case lmRefs_init => k_is); (case cmRefs_init => k_is); (case kmRefs_init => k_is); (case nE_refs => k_is); (case nE_note => k_is); (case nE_calls => k_is); (case nE_new_head => k_is); (case nEclosed => k_is); (case nR_locks => k_is); (case nR_table => k_is); (case nR_head => k_is); (case nR_logs => k_is); (case xF => k_is); (case xS => k_is); (case saS => k_is); (case kCS => k_is); (case iCS => k_is); (case gaS => k_is); (case ggS => k_is); (case haS => k_is); (case nfS => k_is); (case xB => k_is); (case saB => k_is); (case kCB => k_is); (case iCB => k_is); (case gaB => k_is); (case ggB => k_is); (case haB => k_is); (case nfB => k_is); (case xL => k_is); (case saL => k_is); (case kCL => k_is); (case iCL => k_is); (case gaL => k_is); (case ggL => k_is); (case haL => k_is); (case nfL => k_is); (case e_hn => k_is); (case e_ht => k_is); (case tiS => k_is); (case liS => k_is); (case ciS => k_is); (case tiF => k_is); (case liF => k_is); (case ciF => k_is); (case tiL => k_is); (case liL => k_is); (case ciL => k_is); (case kiF => k_is); (case e_dT => k_is); (case e_dN => k_is); (case e_dK => k_is); (case e_dP => k_is); (case g_NS => k_is); (case t_ns => k_is); (case t_r => k_is); (case t_h => k_is); (case t_l => k_is)

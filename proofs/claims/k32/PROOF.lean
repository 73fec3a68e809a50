import PyProof.Rows.All
import Wide.All
import OpenK.AllK
import Wide.FinOn
import HandS.ForMost
import HandS.Codes
import HandS.IsInst
import HandS.Wide
import HandS.CallLocal
import HandS.StrMore
import HandS.Replace
import HandS.ReplaceDef
import HandS.ReplaceLit
import HandS.ReplaceList
import Wide.Txt
import HandS.Exc
import HandS.ExcInit
import HandS.Defaults
import HandS.MakeKw
import HandS.TryOnly
import HandS.ExcField
import KE.KExcIs
import KE.KExcInit
import PyProof.P3Eq
import HandS.ExcIs
import HandS.OwnEq
import HandS.Property
import HandS.ExcOwn
import HandS.NamedTupSort
import KE.KOpsOwn
import PyProof.InstNe
import HandS.MakeKwOnly
import PyProof.InstEq
import PyProof.DictUpdate
import PyProof.DictDisplay
import HandS.DictComp
import KE.KEqDict
import HandS.More
import HandS.TryMany
import HandS.WordsDict
import PyProof.Rows.StrMeet
import HandS.RaiseMore
import HandS.TupAny
import KE.KRevSl
import PyProof.SliceList
import PySem.Challenge.RW_forkhaul_k32_states_there_and_back
import HandS.Zip
import HandS.SetTxt0
import HandS.SetFor
import HandS.TupSets
import HandS.Strs
import HandS.Lambda
import HandS.EndTab
import HandS.EndOwn
set_option Elab.async false
set_option linter.all false
set_option maxRecDepth 100000
set_option maxHeartbeats 4000000
/-! The base of the proofs: repetition of texts, defs by their names, comprehensions by an invariant, frames. -/
namespace Fk
open PySem PySem.Spec PyProof.Rows L2

/-! ### a text repeated -/
theorem fold_cps (x : Array Nat) : ∀ (n : Nat) (acc : Array Nat), ((List.replicate n x).foldl (· ++ ·) acc).toList = acc.toList ++ (List.replicate n x.toList).flatten
  | 0, acc => by simp
  | n + 1, acc => by
    rw [List.replicate_succ, List.foldl_cons, fold_cps x n (acc ++ x), List.replicate_succ, List.flatten_cons, Array.toList_append, List.append_assoc]
def repS (x : Str) (n : Nat) : Str := ⟨(List.replicate n x.cps.toList).flatten.toArray⟩
theorem tl_rep (x : Str) (n : Nat) : TL.tl (repS x n) = (List.replicate n (TL.tl x)).flatten := rfl
theorem rep_len (x : Str) (n : Nat) : (repS x n).length = n * x.length := by
  rw [TL.len_tl, tl_rep, TL.len_tl]
  induction n with
  | zero => simp
  | succ n ih => rw [List.replicate_succ, List.flatten_cons, List.length_append, ih, Nat.succ_mul, Nat.add_comm]
theorem tooLong_no {n : Nat} (h : n ≤ 16777216) : Builtin.Str.tooLong n = false := by
  unfold Builtin.Str.tooLong
  have e : (16777216 : Nat) = sizeLine ∨ 16777216 ≤ sizeLine := by right; decide
  have h2 : 16777216 ≤ sizeLine := by rcases e with e | e <;> omega
  simp
  omega
def rMulSI : R2 := fun x y H Q => ∃ (z : Str) (k : Int), x = .str z ∧ y = .int k ∧ 0 ≤ k ∧ k ≤ 10000 ∧ z.length * k.toNat ≤ 1000000 ∧ Q (.str (repS z k.toNat)) H
theorem op_mul_si {X : Cx} : OpR X (binaryOp .Mult) rMulSI := by
  intro pins s σ H x y v u Q I rx ry h
  obtain ⟨z, k, rfl, rfl, h0, h1, h2, q⟩ := h
  obtain ⟨t, rfl⟩ := rx
  obtain ⟨t', rfl⟩ := ry
  refine PySem.P.mul_str ?_ (fun h3 h4 => ?_) (fun h3 h4 => ?_) ?_
  · have e1 : ¬ k < -(2 ^ 63 : Int) := by omega
    have e2 : ¬ k ≥ 2 ^ 63 := by omega
    rw [decide_eq_false e1, decide_eq_false e2]
    rfl
  · have hk : 1 ≤ k := by omega
    have hz : z.length ≤ 1000000 := by
      have h5 : z.length * 1 ≤ z.length * k.toNat := Nat.mul_le_mul_left _ (by omega)
      omega
    have h6 : (10 ^ 14 : Int) ≤ (2 ^ 63 - 1) / k := by
      refine Int.le_ediv_of_mul_le (by omega) ?_
      have h7 : (10 ^ 14 : Int) * k ≤ 10 ^ 14 * 10000 := Int.mul_le_mul_of_nonneg_left h1 (by decide)
      have h8 : ((10 ^ 14 : Int) * 10000) ≤ 2 ^ 63 - 1 := by decide
      omega
    have h9 : ((z.length : Nat) : Int) ≤ 1000000 := by omega
    have h10 : (1000000 : Int) < 10 ^ 14 := by decide
    omega
  · exact tooLong_no (by omega)
  · by_cases h3 : k < 1
    · rw [if_pos h3]
      have e : k.toNat = 0 := by omega
      rw [e] at q
      have ez : repS z 0 = Str.empty := TL.ext_tl rfl
      rw [ez] at q
      exact ⟨by decide, V.str Str.empty, H, I.tok _, ⟨_, rfl⟩, q⟩
    · rw [if_neg h3]
      by_cases h4 : (k == 1 || z.length == 0) = true
      · rw [if_pos h4]
        have ez : repS z k.toNat = z := by
          apply TL.ext_tl
          rw [tl_rep]
          rcases Bool.or_eq_true_iff.mp h4 with h5 | h5
          · have e : k.toNat = 1 := by
              have := eq_of_beq h5
              omega
            rw [e]
            simp
          · have e : TL.tl z = [] := by
              have := eq_of_beq h5
              rw [TL.len_tl] at this
              exact List.length_eq_zero_iff.mp this
            rw [e]
            simp
        rw [ez] at q
        exact ⟨V.str z, H, I, ⟨_, rfl⟩, q⟩
      · rw [if_neg h4]
        have ez : (⟨(List.replicate k.toNat z.cps).foldl (· ++ ·) #[]⟩ : Str) = repS z k.toNat := by
          apply TL.ext_tl
          show ((List.replicate k.toNat z.cps).foldl (· ++ ·) #[]).toList = _
          rw [fold_cps]
          rfl
        have hl : (repS z k.toNat).length ≤ sizeLine := by
          rw [rep_len, Nat.mul_comm]
          exact Nat.le_trans h2 (by decide)
        rw [← ez] at q hl
        exact ⟨hl, V.str _, H, I.tok _, ⟨_, rfl⟩, q⟩

section
variable {P : Program} {w : World} {K : PySem.W.Frag} {mg : Str → Option Value} {base : Heap}
/-! ### defs by their names -/
/-- a def of the module whose parameters have no defaults -/
def IsDef (K : PySem.W.Frag) (mg : Str → Option Value) (x : Str) (st : Stmt) : Prop := ∃ f fd, C8.Def K mg x st f fd ∧ fd.defaults = .none
theorem cal_of {x : Str} {st : Stmt} {N ps : List Str} {k : Nat} {sp : Sp} (D : IsDef K mg x st) (S : FnScope N ps (C8.fnScope st))
    (hb : ∀ (kV doc pm : Value) (an : Option Addr) (cdv ct : Value) (us : List Value), us.length = ps.length → bindArgs (PySem.W.fnOf x x (C8.fnArgs st) (C8.fnBody st) (C8.fnScope st) .none kV doc pm an cdv ct) ⟨us, []⟩ = pure (ps.zip us))
    (len : ∀ vs H Q E, sp vs H Q E → vs.length = ps.length)
    (hbody : ∀ (f : Addr) (cdv : Value) (A : Around) (outer : List Env) (s : Shared) (H : Hp) (vs : List V) (Q : VK) (E : XK), Room k (A.deeper (envOfC x (C8.fnScope st) s.heap.objs.size f cdv)) → sp vs H Q E →
      ∃ t, PSs (cxOf C8.CX0 P w K mg base N x (C8.fnScope st) f cdv A outer s H E).nox (C8.fnBody st) t ∧ t { nx := fun _ H' => Q .non H', rt := Q } (start N vs) H) : C8.Cal P w K mg base (k + 1) x sp [] := by
  obtain ⟨f, fd, D, df⟩ := D
  exact C8.cal0 D (D.fn.binds df hb) .nil S len (hbody f)
theorem pe_c0 {X : Cx} {k j : Nat} {x : Str} {sp : Sp} {dvs : List V} {p pos : Pos} (c : C8.Cal X.prog X.w X.K X.mg X.base k x sp dvs) (hr : Room j X.A) (hk : k ≤ j) (hg : Gl X x)
    (hdb : (x == ("__debug__" : Str)) = false := by decide) : PE X (.Call (.Name x p) [] [] pos) (tCall sp dvs C8.E0 tNil) := by
  obtain ⟨f, fd, ps, ds, F, hm, kp, b, d⟩ := c.ex
  exact pe_call0 F (hr.mono hk) hg hm kp b d C8.pass0 hdb
/-- a def's address as a value, with its promise -/
theorem held_of {k : Nat} {x : Str} {sp : Sp} {f : Addr} (c : C8.Cal P w K mg base k x sp []) (h : mg x = some (.ref f)) : Held P w K mg base k f sp := by
  obtain ⟨f', fd, ps, ds, F, hm, kp, b, d⟩ := c.ex
  rw [h] at hm
  cases hm
  cases d
  exact ⟨fd, ps, F, kp, b⟩
end

/-! ### heaps -/
/-- all that was tracked is as it was, but what stands at a -/
def Fr (a : Addr) (H H' : Hp) : Prop := ∀ b o, b ≠ a → H b = some o → H' b = some o
theorem Fr.refl (a : Addr) (H : Hp) : Fr a H H := fun _ _ _ h => h
theorem Fr.trans {a : Addr} {H H1 H2 : Hp} (x : Fr a H H1) (y : Fr a H1 H2) : Fr a H H2 := fun b o n h => y b o n (x b o n h)
theorem Fr.at {a : Addr} {H : Hp} {o : HO} : Fr a H (upd H a o) := fun b u n h => by
  rw [upd_ne n]
  exact h
theorem Fr.new {a p : Addr} {H : Hp} {o : HO} (h : H p = none) : Fr a H (upd H p o) := fun b u _ e => by
  rw [upd_ne (ne_of_none e h)]
  exact e
/-- what came later may change -/
theorem Fr.mut {a p : Addr} {H H' : Hp} {o : HO} (x : Fr a H H') (h : H p = none) : Fr a H (upd H' p o) := fun b u n e => by
  rw [upd_ne (ne_of_none e h)]
  exact x b u n e
theorem Fr.same {a : Addr} {H H' : Hp} (h : Same H H') : Fr a H H' := fun b o _ e => h b o e
theorem Fr.free {a p : Addr} {H H' : Hp} (x : Fr a H H') (n : p ≠ a) (h : H' p = none) : H p = none := by
  cases q : H p with
  | none => rfl
  | some o =>
    rw [x p o n q] at h
    cases h
theorem same_new {H : Hp} {p : Addr} {o : HO} (h : H p = none) : Same H (upd H p o) := fun b u e => by
  rw [upd_ne (ne_of_none e h)]
  exact e
theorem same_mut {H H' : Hp} {p : Addr} {o : HO} (x : Same H H') (h : H p = none) : Same H (upd H' p o) := fun b u e => by
  rw [upd_ne (ne_of_none e h)]
  exact x b u e
theorem small_line {n : Nat} (h : n ≤ 1000000) : n ≤ sizeLine := Nat.le_trans h (by decide)
theorem small_lt {n : Nat} (h : n ≤ 1000000) : n < sizeLine := Nat.lt_of_le_of_lt h (by decide)

/-! ### comprehensions -/
theorem set_set {σ : L2.St} {i : Nat} {x y : Option V} : (σ.set i x).set i y = σ.set i y := by
  rw [List.set_set]
/-- what an iterator yields while the list at D grows: the items of a list -/
structure Yields (J : It) (items : List V) (G : Hp → Prop) : Prop where
  go : ∀ k H, G H → k < items.length → J.go k H
  stop : ∀ H, G H → J.stop items.length H
  yld : ∀ k H x H', k < items.length → G H → J.yld k H x H' → H' = H ∧ items[k]? = some x
theorem yields_str (x : Str) : Yields (Its x) (x.cps.toList.map fun c => V.str ⟨#[c]⟩) (fun _ => True) where
  go := fun k H _ h => by
    rw [List.length_map] at h
    exact (by simpa using h : k < x.cps.size)
  stop := fun H _ => by
    show x.cps.size ≤ _
    simp
  yld := fun k H v H' _ _ h => by
    obtain ⟨e, c, hc, hv⟩ := h
    refine ⟨e, ?_⟩
    rw [List.getElem?_map, Array.getElem?_toList, hc, hv]
    rfl
theorem yields_list {K : PySem.W.Frag} {a : Addr} {xs : List V} : Yields (Itl K a) xs (fun H => SqL K H a xs) where
  go := fun k H g h => ⟨xs, xs[k], g, List.getElem?_eq_getElem h⟩
  stop := fun H g => ⟨xs, g, Nat.le_refl _⟩
  yld := fun k H x H' _ g h => ⟨h.1, h.2 xs g⟩
theorem yields_range {lo : Int} {n : Nat} : Yields (Itr lo n) ((List.range n).map fun (i : Nat) => V.int (lo + (i : Int))) (fun _ => True) where
  go := fun k H _ h => by
    rw [List.length_map, List.length_range] at h
    exact h
  stop := fun H _ => by
    show n ≤ _
    rw [List.length_map, List.length_range]
    exact Nat.le_refl _
  yld := fun k H x H' hk _ h => by
    obtain ⟨e, hx⟩ := h
    rw [List.length_map, List.length_range] at hk
    refine ⟨e, ?_⟩
    rw [List.getElem?_map, List.getElem?_range hk, hx]
    rfl
/-- behind k turns of a comprehension: the list at D holds acc, of which I speaks -/
def LcN (I : Nat → List V → Hp → Prop) (D : Addr) (k : Nat) (H : Hp) : Prop := ∃ acc, H D = some (.lst acc) ∧ acc.length ≤ k ∧ I k acc H
theorem lc_take {I : Nat → List V → Hp → Prop} {D : Addr} {k : Nat} {H4 : Hp} {y : V} {acc : List V} (h : H4 D = some (.lst acc)) (l : acc.length ≤ k) (hk : k < 1000000) (q : I (k + 1) (acc ++ [y]) (upd H4 D (.lst (acc ++ [y])))) :
    ∃ acc, H4 D = some (.lst acc) ∧ acc.length < sizeLine ∧ LcN I D (k + 1) (upd H4 D (.lst (acc ++ [y]))) :=
  ⟨acc, h, small_lt (by omega), acc ++ [y], upd_same, by rw [List.length_append, List.length_singleton]; omega, q⟩
theorem lc_skip {I : Nat → List V → Hp → Prop} {D : Addr} {k : Nat} {H4 : Hp} {acc : List V} (h : H4 D = some (.lst acc)) (l : acc.length ≤ k) (q : I (k + 1) acc H4) : LcN I D (k + 1) H4 := ⟨acc, h, by omega, q⟩
/-- a comprehension by an invariant I over (turns, what the new list holds, the heap) -/
theorem lc_inv {J : It} {items : List V} {G : Hp → Prop} {H1 : Hp} {D : Addr} {σ : L2.St} {i : Nat} {tt : TT} {te : TE} {Q : Hp → Prop} (Y : Yields J items G) (I : Nat → List V → Hp → Prop)
    (hG : ∀ k acc H, I k acc H → H D = some (.lst acc) → G H) (h0 : I 0 [] (upd H1 D (.lst [])))
    (hs : ∀ k acc H x, I k acc H → H D = some (.lst acc) → items[k]? = some x → acc.length ≤ k → k < 1000000 → tt (σ.set i (some x)) H fun b H3 =>
      if b = true then te (σ.set i (some x)) H3 fun y H4 => ∃ acc, H4 D = some (.lst acc) ∧ acc.length < sizeLine ∧ LcN I D (k + 1) (upd H4 D (.lst (acc ++ [y]))) else LcN I D (k + 1) H3)
    (hl : items.length ≤ 1000000) (hd : ∀ acc H, I items.length acc H → H D = some (.lst acc) → acc.length ≤ items.length → Q H) :
    ∃ W : Nat → Nat → Hp → Prop, (∃ m, W 0 m (upd H1 D (.lst []))) ∧ ∀ k m H, W k m H →
      (J.stop k H ∧ Q H) ∨ (J.go k H ∧ ∃ Nx : Hp → Prop, (∀ H', Nx H' → ∃ m', m' < m ∧ W (k + 1) m' H') ∧ ∀ x H', J.yld k H x H' → gName i x (wipe σ [i]) H' fun σ2 H2 => wipe σ2 [i] = wipe σ [i] ∧ tt σ2 H2 fun b H3 =>
        if b = true then te σ2 H3 fun y H4 => ∃ acc, H4 D = some (.lst acc) ∧ acc.length < sizeLine ∧ Nx (upd H4 D (.lst (acc ++ [y]))) else Nx H3) := by
  refine ⟨fun k m H => m = items.length - k ∧ k ≤ items.length ∧ LcN I D k H, ⟨items.length, by omega, Nat.zero_le _, [], upd_same, Nat.zero_le _, h0⟩, ?_⟩
  rintro k m H ⟨rfl, hk, acc, hD, hacc, hI⟩
  by_cases hlt : k < items.length
  · refine .inr ⟨Y.go k H (hG _ _ _ hI hD) hlt, LcN I D (k + 1), fun H' q => ⟨items.length - (k + 1), by omega, rfl, hlt, q⟩, fun x H' y => ?_⟩
    obtain ⟨rfl, hx⟩ := Y.yld k H x H' hlt (hG _ _ _ hI hD) y
    show wipe ((wipe σ [i]).set i (some x)) [i] = wipe σ [i] ∧ tt ((wipe σ [i]).set i (some x)) _ _
    have e1 : (wipe σ [i]).set i (some x) = σ.set i (some x) := set_set
    have e2 : wipe (σ.set i (some x)) [i] = wipe σ [i] := set_set
    rw [e1]
    exact ⟨e2, hs k acc _ x hI hD hx hacc (by omega)⟩
  · have e : k = items.length := by omega
    subst e
    exact .inl ⟨Y.stop H (hG _ _ _ hI hD), hd acc H hI hD hacc⟩
/-- a comprehension whose element and test change nothing that is tracked -/
theorem lc_pure {α : Type} {J : It} {us : List α} {g : α → V} {G : Hp → Prop} {H1 : Hp} {D : Addr} {σ : L2.St} {i : Nat} {tt : TT} {te : TE} {Q : Hp → Prop} (Y : Yields J (us.map g) G) (f : α → V) (p : α → Bool) (hD1 : H1 D = none)
    (hG : ∀ H, Same H1 H → G H)
    (hs : ∀ H u, Same H1 H → u ∈ us → ∀ (R : Bool → Hp → Prop), (∀ H3, Same H H3 → R (p u) H3) → tt (σ.set i (some (g u))) H R)
    (he : ∀ H u, Same H1 H → u ∈ us → p u = true → ∀ (R : VK), (∀ H3, Same H H3 → R (f u) H3) → te (σ.set i (some (g u))) H R)
    (hl : us.length ≤ 1000000) (hd : ∀ H, Same H1 H → H D = some (.lst ((us.filter p).map f)) → Q H) :
    ∃ W : Nat → Nat → Hp → Prop, (∃ m, W 0 m (upd H1 D (.lst []))) ∧ ∀ k m H, W k m H →
      (J.stop k H ∧ Q H) ∨ (J.go k H ∧ ∃ Nx : Hp → Prop, (∀ H', Nx H' → ∃ m', m' < m ∧ W (k + 1) m' H') ∧ ∀ x H', J.yld k H x H' → gName i x (wipe σ [i]) H' fun σ2 H2 => wipe σ2 [i] = wipe σ [i] ∧ tt σ2 H2 fun b H3 =>
        if b = true then te σ2 H3 fun y H4 => ∃ acc, H4 D = some (.lst acc) ∧ acc.length < sizeLine ∧ Nx (upd H4 D (.lst (acc ++ [y]))) else Nx H3) := by
  refine lc_inv Y (fun k acc H => Same H1 H ∧ acc = ((us.take k).filter p).map f) (fun k acc H h _ => hG H h.1) ⟨same_new hD1, rfl⟩ (fun k acc H x hI hD hx hacc hk => ?_) (by rw [List.length_map]; exact hl) (fun acc H hI hD _ => ?_)
  · obtain ⟨sm, ea⟩ := hI
    rw [List.getElem?_map] at hx
    cases hu : us[k]? with
    | none => rw [hu] at hx; cases hx
    | some u =>
      rw [hu] at hx
      cases hx
      have hm : u ∈ us := List.mem_of_getElem? hu
      have et : us.take (k + 1) = us.take k ++ [u] := by
        rw [List.take_add_one, hu]
        rfl
      refine hs H u sm hm _ (fun H3 s3 => ?_)
      by_cases hp : p u = true
      · rw [if_pos hp]
        refine he H3 u (sm.trans s3) hm hp _ (fun H4 s4 => ?_)
        refine lc_take (s4 _ _ (s3 _ _ hD)) hacc hk ⟨same_mut ((sm.trans s3).trans s4) hD1, ?_⟩
        rw [et, List.filter_append, List.map_append, ← ea, List.filter_cons, hp]
        rfl
      · rw [if_neg hp]
        refine lc_skip (s3 _ _ hD) hacc ⟨sm.trans s3, ?_⟩
        rw [et, List.filter_append, List.map_append, ← ea, List.filter_cons, if_neg hp]
        simp
  · obtain ⟨sm, ea⟩ := hI
    rw [List.length_map, List.take_length] at ea
    rw [ea] at hD
    exact hd H sm hD

/-! ### what may be asked -/
def evalV (f : Str → Bool) : V → Bool
  | .str x => f x
  | _ => false
/-- its signs are signs -/
def OkS (x : Str) : Prop := ∀ u ∈ TL.tl x, u < 1114112
/-- a text, not too long, or a thing that is no text -/
inductive Thing (H : Hp) : V → Prop where
  | str (x : Str) (h : x.length ≤ 100000) (o : OkS x) : Thing H (.str x)
  | non : Thing H .non
  | bl (b : Bool) : Thing H (.bl b)
  | int (i : Int) : Thing H (.int i)
  | lst (a : Addr) (xs : List V) (h : H a = some (.lst xs)) : Thing H (.ref a)
  | tup (a : Addr) (xs : List V) (h : H a = some (.tup xs)) : Thing H (.ref a)
  | dK (a : Addr) (kvs : List (Key × V)) (h : H a = some (.dK kvs)) : Thing H (.ref a)
theorem Thing.fr {a : Addr} {H H' : Hp} {v : V} (t : Thing H v) (n : v ≠ .ref a) (f : Fr a H H') : Thing H' v := by
  cases t with
  | str x h o => exact .str x h o
  | non => exact .non
  | bl b => exact .bl b
  | int i => exact .int i
  | lst b xs h => exact .lst b xs (f b _ (fun e => n (by rw [e])) h)
  | tup b xs h => exact .tup b xs (f b _ (fun e => n (by rw [e])) h)
  | dK b xs h => exact .dK b xs (f b _ (fun e => n (by rw [e])) h)
theorem Thing.same {H H' : Hp} {v : V} (t : Thing H v) (f : Same H H') : Thing H' v := by
  cases t with
  | str x h o => exact .str x h o
  | non => exact .non
  | bl b => exact .bl b
  | int i => exact .int i
  | lst b xs h => exact .lst b xs (f b _ h)
  | tup b xs h => exact .tup b xs (f b _ h)
  | dK b xs h => exact .dK b xs (f b _ h)
/-- isinstance(thing, str) -/
theorem Thing.isi {K : PySem.W.Frag} {H : Hp} {v : V} {Q : VK} (t : Thing H v) (h : Q (.bl (evalV (fun _ => true) v)) H) : rIsi K [v, .ty "str"] H Q := by
  cases t with
  | str x _ _ => exact ⟨_, _, .type "str", .type "str", true, rfl, .ty "str", .base (.str x), kit_ty (by decide +kernel), h⟩
  | non => exact ⟨_, _, .type "NoneType", .type "str", false, rfl, .ty "str", .base .non, kit_ty (by decide +kernel), h⟩
  | bl b => exact ⟨_, _, .type "bool", .type "str", false, rfl, .ty "str", .base (.bl b), kit_ty (by decide +kernel), h⟩
  | int i => exact ⟨_, _, .type "int", .type "str", false, rfl, .ty "str", .base (.int i), kit_ty (by decide +kernel), h⟩
  | lst a xs e => exact ⟨_, _, .type "list", .type "str", false, rfl, .ty "str", .base (.lst e), kit_ty (by decide +kernel), h⟩
  | tup a xs e => exact ⟨_, _, .type "tuple", .type "str", false, rfl, .ty "str", .base (.tup e), kit_ty (by decide +kernel), h⟩
  | dK a xs e => exact ⟨_, _, .type "dict", .type "str", false, rfl, .ty "str", .base (.dK e), kit_ty (by decide +kernel), h⟩
theorem Thing.cases {H : Hp} {v : V} (t : Thing H v) : (∃ x, v = .str x ∧ x.length ≤ 100000 ∧ OkS x) ∨ ∀ f, evalV f v = false := by
  cases t with
  | str x h o => exact .inl ⟨x, rfl, h, o⟩
  | _ => exact .inr fun _ => rfl
/-- the promise of a def that tells whether its argument is such a text -/
def spWord (f : Str → Bool) : Sp := fun vs H Q _ => ∃ v, vs = [v] ∧ Thing H v ∧ ∀ H', Same H H' → Q (.bl (evalV f v)) H'

/-! ### the words, as functions of a text -/
def HEX : Str := "0123456789abcdef"
def LET : Str := "abcdefghijklmnopqrstuvwxyz"
def RSG : Str := "abcdefghijklmnopqrstuvwxyz0123456789-"
def SSG : Str := "abcdefghijklmnopqrstuvwxyz0123456789._-"
def sgn (c : Nat) : V := .str ⟨#[c]⟩
def hasOnly (x y : Str) : Bool := (TL.tl x).all fun c => decide (c ∈ TL.tl y)
def dots (x : Str) : Bool := !(Builtin.Str.occurrences x (".." : Str) 0 x.length 1).isEmpty
def isWordF (y x : Str) : Bool := decide (1 ≤ x.length) && (decide (x.length ≤ 12) && hasOnly x y)
def isSegF (x : Str) : Bool := isWordF SSG x && (!decide (x = ".") && !dots x)
def segs (x : Str) : List Str := Txt.split x "/"
def isIdF (x : Str) : Bool := decide (x.length = 16) && hasOnly x HEX
def isPathF (x : Str) : Bool := decide ((segs x).length ≤ 6) && (segs x).all isSegF
def mostF (x : Str) : Nat := if (segs x)[0]? = some ("far" : Str) then 7 else 5
def isRefF (x : Str) : Bool := decide ((segs x).length ≤ mostF x) && (segs x).all (isWordF RSG)
def plainC (c : Nat) : Bool := !decide ([c] < [32]) && !decide ([126] < [c])
def isTextF (x : Str) : Bool := decide (x.length ≤ 2000) && (TL.tl x).all fun c => decide (c = 10) || plainC c
end Fk
namespace Fk
open PySem PySem.Spec PyProof.Rows L2
theorem sql_fr {K : PySem.W.Frag} {a b : Addr} {H H' : Hp} {xs : List V} (h : SqL K H b xs) (n : b ≠ a) (f : Fr a H H') : SqL K H' b xs := by
  rcases h with (h | ⟨o, h⟩) | h
  · exact .inl (.inl (f _ _ n h))
  · exact .inl (.inr ⟨o, f _ _ n h⟩)
  · exact .inr h
/-- a well of numbers at a, from which c were drawn -/
def Wl (H : Hp) (a : Addr) (c : Int) : Prop := 0 ≤ c ∧ ∃ x y : Int, H a = some (.lst [.int x, .int y, .int c])
theorem Wl.same {H H' : Hp} {a : Addr} {c : Int} (h : Wl H a c) (f : Same H H') : Wl H' a c := by
  obtain ⟨h0, x, y, e⟩ := h
  exact ⟨h0, x, y, f _ _ e⟩
/-- behind at most d draws from the well at a -/
def Aft (a : Addr) (c d : Int) (H : Hp) (R : Hp → Prop) : Prop := ∀ H' c', Fr a H H' → Wl H' a c' → c ≤ c' → c' ≤ c + d → R H'
theorem join_signs : ∀ cs : List Nat, TL.tl (Txt.join ("" : Str) (cs.map fun c => (⟨#[c]⟩ : Str))) = cs := by
  intro cs
  rw [TL.join_eq, TL.tl_join]
  have e : TL.tl ("" : Str) = [] := by decide +kernel
  rw [e]
  induction cs with
  | nil => rfl
  | cons c r ih =>
    cases r with
    | nil => rfl
    | cons d r =>
      show [c] ++ [] ++ TL.joinL [] (((d :: r).map fun c => (⟨#[c]⟩ : Str)).map TL.tl) = _
      rw [ih]
      rfl
theorem signs_sum : ∀ cs : List Nat, ((cs.map fun c => (⟨#[c]⟩ : Str)).map (·.length)).sum = cs.length
  | [] => rfl
  | c :: r => by
    rw [List.map_cons, List.map_cons, List.sum_cons, signs_sum r, List.length_cons]
    show 1 + _ = _
    omega
theorem atI_int {α : Type} {xs : List α} {r : Int} (h0 : 0 ≤ r) (h1 : r < xs.length) : ∃ v, v ∈ xs ∧ xs[r.toNat]? = some v ∧ atI xs r = some v := by
  have h2 : r.toNat < xs.length := by omega
  have e : r = ((r.toNat : Nat) : Int) := by omega
  refine ⟨xs[r.toNat], List.getElem_mem h2, List.getElem?_eq_getElem h2, ?_⟩
  have q := atI_nat (List.getElem?_eq_getElem h2)
  rw [← e] at q
  exact q
theorem Wl.upd {H : Hp} {a : Addr} {x y c : Int} (h : 0 ≤ c) : Wl (upd H a (.lst [.int x, .int y, .int c])) a c := ⟨h, x, y, upd_same⟩
theorem Fr.fr_new {a p : Addr} {H H' : Hp} {o : HO} (x : Fr a H H') (h : H' p = none) : Fr a H (L2.upd H' p o) := x.trans (Fr.new h)
theorem Wl.new {H : Hp} {a p : Addr} {c : Int} {o : HO} (h : Wl H a c) (n : H p = none) : Wl (L2.upd H p o) a c := h.same (same_new n)
theorem Wl.mut {H : Hp} {a p : Addr} {c : Int} {o : HO} (h : Wl H a c) (n : p ≠ a) : Wl (L2.upd H p o) a c := by
  obtain ⟨h0, x, y, e⟩ := h
  exact ⟨h0, x, y, by rw [upd_ne n.symm]; exact e⟩
theorem Wl.ne {H : Hp} {a p : Addr} {c : Int} (h : Wl H a c) (n : H p = none) : p ≠ a := by
  obtain ⟨h0, x, y, e⟩ := h
  exact (ne_of_none e n).symm
theorem Aft.start {a : Addr} {c d : Int} {H : Hp} {R : Hp → Prop} (h : Aft a c d H R) (w : Wl H a c) (hd : 0 ≤ d) : R H := h H c (Fr.refl a H) w (Int.le_refl _) (by omega)
theorem Aft.more {a : Addr} {c c1 d d1 : Int} {H H1 : Hp} {R : Hp → Prop} (h : Aft a c d H R) (f : Fr a H H1) (h1 : c ≤ c1) (h2 : c1 + d1 ≤ c + d) : Aft a c1 d1 H1 R := fun H' c' f' w h3 h4 => h H' c' (f.trans f') w (by omega) (by omega)
theorem yes_ {σ : L2.St} {H : Hp} {A B : Hp → Prop} (h : A H) : tYes σ H (fun b H3 => if b = true then A H3 else B H3) := by
  show (if true = true then A H else B H)
  rw [if_pos rfl]
  exact h
end Fk

set_option maxHeartbeats 4000000
namespace Fk
open PySem PySem.Spec PyProof.Rows L2
/-! ### texts that are drawn: what holds of them -/
theorem tl_cut (z : Str) (lo hi : Option Int) : TL.tl (cutS z lo hi) = ((TL.tl z).drop (HT.sIx z.length 0 lo)).take (HT.sIx z.length z.length hi - HT.sIx z.length 0 lo) := rfl
theorem cut_to (z : Str) (n : Nat) : TL.tl (cutS z none (some (n : Int))) = (TL.tl z).take n := by
  rw [tl_cut, HT.sIx_none, HT.sIx_nat, List.drop_zero, Nat.sub_zero, TL.len_tl]
  rcases Nat.le_total n (TL.tl z).length with h | h
  · rw [Nat.min_eq_left h]
  · rw [Nat.min_eq_right h, List.take_length, List.take_of_length_le h]
theorem cut_from (z : Str) (n : Nat) : TL.tl (cutS z (some (n : Int)) none) = (TL.tl z).drop n := by
  rw [tl_cut, HT.sIx_none, HT.sIx_nat, TL.len_tl]
  rcases Nat.le_total n (TL.tl z).length with h | h
  · rw [Nat.min_eq_left h, List.take_of_length_le (by rw [List.length_drop]; omega)]
  · rw [Nat.min_eq_right h, List.drop_length, List.take_nil, List.drop_of_length_le h]
theorem cutS_le (z : Str) (lo hi : Option Int) : (cutS z lo hi).length ≤ z.length := cutS_length z lo hi
def LTS : Str := "abcdefghijklmnopqrstuvwxyz0123456789_-"
theorem dots_count {x : Str} (h : dots x = true) : 2 ≤ (TL.tl x).count 46 := by
  obtain ⟨i, _, h2⟩ := (StrLaws.found_iff x (".." : Str)).mp h
  rw [StrLaws.subAt_eq] at h2
  have e : ((TL.tl x).drop i).take 2 = [46, 46] := by
    have e1 := eq_of_beq h2
    have e2 : (".." : Str).length = 2 := by decide +kernel
    have e3 : (".." : Str).cps.toList = [46, 46] := by decide +kernel
    rw [e2, e3] at e1
    exact e1
  have s : List.Sublist [46, 46] (TL.tl x) := by
    rw [← e]
    exact (List.take_sublist _ _).trans (List.drop_sublist _ _)
  exact s.count_le 46
theorem has_only {x y : Str} (h : ∀ u ∈ TL.tl x, u ∈ TL.tl y) : hasOnly x y = true := by
  unfold hasOnly
  rw [List.all_eq_true]
  exact fun u hu => decide_eq_true (h u hu)
theorem dot_tl : TL.tl ("." : Str) = [46] := by decide +kernel
theorem seg_of {x : Str} (h : ∀ u ∈ TL.tl x, u ∈ TL.tl SSG) (h1 : 1 ≤ x.length) (h2 : x.length ≤ 12) (h3 : (TL.tl x).count 46 ≤ 1) (h4 : (TL.tl x).count 46 = 0 ∨ 2 ≤ x.length) : isSegF x = true := by
  unfold isSegF isWordF
  have d : dots x = false := Bool.eq_false_iff.mpr fun z => by
    have := dots_count z
    omega
  have n : ¬ x = "." := fun e => by
    have e1 : TL.tl x = [46] := by rw [e]; exact dot_tl
    rw [TL.len_tl, e1] at h4
    rcases h4 with h4 | h4
    · exact absurd h4 (by decide)
    · exact absurd h4 (by decide)
  rw [decide_eq_true h1, decide_eq_true h2, has_only h, decide_eq_false n, d]
  rfl
theorem lts_ssg : ∀ u ∈ TL.tl LTS, u ∈ TL.tl SSG := by decide +kernel
theorem lts_dot : 46 ∉ TL.tl LTS := by decide +kernel
theorem seg_plain {x : Str} (h : ∀ u ∈ TL.tl x, u ∈ TL.tl LTS) (h1 : 1 ≤ x.length) (h2 : x.length ≤ 12) : isSegF x = true := by
  have c0 : (TL.tl x).count 46 = 0 := List.count_eq_zero.mpr fun z => lts_dot (h _ z)
  exact seg_of (fun u hu => lts_ssg u (h u hu)) h1 h2 (by omega) (.inl c0)
theorem seg_dotted {x : Str} (n : Nat) (h : ∀ u ∈ TL.tl x, u ∈ TL.tl LTS) (h1 : 1 ≤ x.length) (h2 : x.length < 12) :
    isSegF ((cutS x none (some (n : Int)) ++ ("." : Str)) ++ cutS x (some (n : Int)) none) = true ∧ ((cutS x none (some (n : Int)) ++ ("." : Str)) ++ cutS x (some (n : Int)) none).length ≤ 12 := by
  have e : TL.tl ((cutS x none (some (n : Int)) ++ ("." : Str)) ++ cutS x (some (n : Int)) none) = ((TL.tl x).take n ++ [46]) ++ (TL.tl x).drop n := by
    rw [TL.tl_append, TL.tl_append, cut_to, cut_from, dot_tl]
  have c0 : (TL.tl x).count 46 = 0 := List.count_eq_zero.mpr fun z => lts_dot (h _ z)
  have len : (((TL.tl x).take n ++ [46]) ++ (TL.tl x).drop n).length = x.length + 1 := by
    have := congrArg List.length (List.take_append_drop n (TL.tl x))
    rw [List.length_append] at this
    rw [List.length_append, List.length_append, List.length_singleton, TL.len_tl]
    omega
  have cnt : (((TL.tl x).take n ++ [46]) ++ (TL.tl x).drop n).count 46 = 1 := by
    have := congrArg (List.count 46) (List.take_append_drop n (TL.tl x))
    rw [List.count_append, c0] at this
    rw [List.count_append, List.count_append]
    have : [46].count 46 = 1 := rfl
    omega
  refine ⟨seg_of (fun u hu => ?_) (by rw [TL.len_tl, e, len]; omega) (by rw [TL.len_tl, e, len]; omega) (by rw [e, cnt]; exact Nat.le_refl _) (.inr (by rw [TL.len_tl, e, len]; omega)), by rw [TL.len_tl, e, len]; omega⟩
  rw [e] at hu
  rcases List.mem_append.mp hu with hu | hu
  · rcases List.mem_append.mp hu with hu | hu
    · exact lts_ssg u (h u (List.mem_of_mem_take hu))
    · rw [List.mem_singleton.mp hu]
      decide +kernel
  · exact lts_ssg u (h u (List.mem_of_mem_drop hu))
theorem slash_tl : TL.tl ("/" : Str) = [47] := by decide +kernel
theorem seg_slash {x : Str} (h : isSegF x = true) : 47 ∉ TL.tl x := by
  unfold isSegF isWordF hasOnly at h
  simp only [Bool.and_eq_true] at h
  have h1 := h.1.2.2
  rw [List.all_eq_true] at h1
  intro z
  have h2 := of_decide_eq_true (h1 47 z)
  exact absurd h2 (by decide +kernel)
theorem seg_len {x : Str} (h : isSegF x = true) : x.length ≤ 12 := by
  unfold isSegF isWordF at h
  simp only [Bool.and_eq_true] at h
  exact of_decide_eq_true h.1.2.1
theorem path_of {ps : List Str} (h0 : ps ≠ []) (h1 : ps.length ≤ 6) (h : ∀ p ∈ ps, isSegF p = true) : isPathF (Txt.join "/" ps) = true := by
  unfold isPathF segs
  rw [TL.split_join (S := []) slash_tl (by decide +kernel) h0 fun p hp => seg_slash (h p hp), decide_eq_true h1, List.all_eq_true.mpr h]
  rfl
theorem join_len (y : Str) : ∀ ps : List Str, (∀ p ∈ ps, p.length ≤ 12) → (Txt.join y ps).length ≤ ps.length * (12 + y.length) := by
  intro ps h
  rw [TL.join_eq]
  refine Nat.le_trans (StrLaws.join_length_le y ps) ?_
  rw [Nat.mul_add]
  refine Nat.add_le_add_right ?_ _
  induction ps with
  | nil => exact Nat.le_refl _
  | cons p r ih =>
    rw [List.map_cons, List.sum_cons, List.length_cons, Nat.succ_mul]
    have := ih fun q hq => h q (List.mem_cons_of_mem _ hq)
    have := h p List.mem_cons_self
    omega
theorem sum_len : ∀ ps : List Str, (∀ p ∈ ps, p.length ≤ 12) → (ps.map (·.length)).sum ≤ ps.length * 12 := by
  intro ps h
  induction ps with
  | nil => exact Nat.le_refl _
  | cons p r ih =>
    rw [List.map_cons, List.sum_cons, List.length_cons, Nat.succ_mul]
    have := ih fun q hq => h q (List.mem_cons_of_mem _ hq)
    have := h p List.mem_cons_self
    omega
def ALL : Str := (" !\"#$&'()*+,-./0123456789:;<=>?@ABCDEFGHIJKLMNOPQRSTUVWXYZ[]^_`abcdefghijklmnopqrstuvwxyz{|}~" : Str) ++ ("\\" : Str) ++ ("\n" : Str)
theorem all_plain : ∀ u ∈ TL.tl ALL, (decide (u = 10) || plainC u) = true := by decide +kernel
theorem text_of {x : Str} (h : ∀ u ∈ TL.tl x, u ∈ TL.tl ALL) (h1 : x.length ≤ 2000) : isTextF x = true := by
  unfold isTextF
  rw [decide_eq_true h1, List.all_eq_true.mpr fun u hu => all_plain u (h u hu)]
  rfl
theorem id_of {x : Str} (h : ∀ u ∈ TL.tl x, u ∈ TL.tl HEX) (h1 : x.length = 16) : isIdF x = true := by
  unfold isIdF
  rw [decide_eq_true h1, has_only h]
  rfl
theorem filt_all {α : Type} (l : List α) : l.filter (fun _ => true) = l := List.filter_eq_self.mpr fun _ _ => rfl
theorem of_ev {f : Str → Bool} {x : Str} {b : Bool} {Q : VK} {H : Hp} (q : Q (.bl (evalV f (.str x))) H) (e : f x = b) : Q (.bl b) H := by
  rw [← e]
  exact q
theorem of_ev0 {f : Str → Bool} {v : V} {Q : VK} {H : Hp} (hn : ∀ f, evalV f v = false) (q : Q (.bl (evalV f v)) H) : Q (.bl false) H := by
  rw [← hn f]
  exact q
theorem segs_ne (x : Str) : segs x ≠ [] := by
  intro h
  have e := TL.split_spl x "/" (by decide +kernel) (TL.kind_ok (by decide +kernel))
  have h' : Txt.split x "/" = [] := h
  rw [h'] at e
  have e2 : ∀ l k acc, TL.spl (TL.tl "/") k acc l ≠ [] := by
    intro l
    induction l with
    | nil => intro k acc h; rw [TL.spl_nil] at h; cases h
    | cons c r ih =>
      intro k acc h
      cases k with
      | zero =>
        unfold TL.spl at h
        split at h
        · cases h
        · exact ih _ _ h
      | succ k => exact ih _ _ h
  exact e2 _ _ _ e.symm
theorem segs_len (x : Str) (h : x.length ≤ 100000) : (segs x).length ≤ 100001 ∧ ∀ y ∈ segs x, y.length ≤ 100000 := by
  have e := TL.split_spl x "/" (by decide +kernel) (TL.kind_ok (by decide +kernel))
  have e2 : ∀ l k acc, (TL.spl (TL.tl "/") k acc l).length ≤ l.length + 1 ∧ ∀ y ∈ TL.spl (TL.tl "/") k acc l, y.length ≤ acc.length + l.length := by
    intro l
    induction l with
    | nil => intro k acc; rw [TL.spl_nil]; exact ⟨Nat.le_refl _, fun y hy => by rw [List.mem_singleton.mp hy]; simp⟩
    | cons c r ih =>
      intro k acc
      cases k with
      | zero =>
        unfold TL.spl
        split
        · obtain ⟨i1, i2⟩ := ih ((TL.tl "/").length - 1) []
          refine ⟨by simp only [List.length_cons]; omega, fun y hy => ?_⟩
          rcases List.mem_cons.mp hy with rfl | hy
          · simp only [List.length_cons]; omega
          · have := i2 y hy
            simp only [List.length_cons, List.length_nil] at this ⊢
            omega
        · obtain ⟨i1, i2⟩ := ih 0 (acc ++ [c])
          refine ⟨by simp only [List.length_cons]; omega, fun y hy => ?_⟩
          have := i2 y hy
          simp only [List.length_cons, List.length_append, List.length_nil] at this ⊢
          omega
      | succ k =>
        obtain ⟨i1, i2⟩ := ih k acc
        unfold TL.spl
        refine ⟨by simp only [List.length_cons]; omega, fun y hy => ?_⟩
        have := i2 y hy
        simp only [List.length_cons] at this ⊢
        omega
  obtain ⟨i1, i2⟩ := e2 (TL.tl x) 0 []
  rw [← e] at i1 i2
  rw [List.length_map, ← TL.len_tl] at i1
  refine ⟨?_, fun y hy => ?_⟩
  · show (Txt.split x "/").length ≤ _
    omega
  · have := i2 (TL.tl y) (List.mem_map_of_mem hy)
    rw [← TL.len_tl, ← TL.len_tl] at this
    simp at this
    omega
theorem segs_ok (x : Str) (h : OkS x) : ∀ y ∈ segs x, OkS y := by
  have e := TL.split_spl x "/" (by decide +kernel) (TL.kind_ok (by decide +kernel))
  have e2 : ∀ l k acc, (∀ u ∈ l, u < 1114112) → (∀ u ∈ acc, u < 1114112) → ∀ y ∈ TL.spl (TL.tl "/") k acc l, ∀ u ∈ y, u < 1114112 := by
    intro l
    induction l with
    | nil =>
      intro k acc h1 h2 y hy
      rw [TL.spl_nil] at hy
      rw [List.mem_singleton.mp hy]
      exact h2
    | cons c r ih =>
      intro k acc h1 h2 y hy
      have h3 : ∀ u ∈ r, u < 1114112 := fun u hu => h1 u (List.mem_cons_of_mem _ hu)
      cases k with
      | zero =>
        unfold TL.spl at hy
        split at hy
        · rcases List.mem_cons.mp hy with rfl | hy
          · exact h2
          · exact ih _ _ h3 (fun u hu => (List.not_mem_nil hu).elim) y hy
        · refine ih _ _ h3 (fun u hu => ?_) y hy
          rcases List.mem_append.mp hu with hu | hu
          · exact h2 u hu
          · rw [List.mem_singleton.mp hu]
            exact h1 c List.mem_cons_self
      | succ k => exact ih _ _ h3 h2 y hy
  intro y hy
  have i2 := e2 (TL.tl x) 0 [] h (fun u hu => (List.not_mem_nil hu).elim) (TL.tl y)
  rw [← e] at i2
  exact i2 (List.mem_map_of_mem hy)
theorem dp_nil {K : PySem.W.Frag} {H : Hp} {p : Addr} (h : H p = some (.lst [])) : Dp K H (.ref p) (.list []) := .lst (SqL.of h) .nil
theorem dp_strs {K : PySem.W.Frag} {H : Hp} : ∀ ys : List Str, DpAll K H (ys.map V.str) (ys.map PyData.str)
  | [] => .nil
  | y :: r => .cons (.str y) (dp_strs r)
theorem strOk_of {x : Str} (h : OkS x) : PyData.strOk x = true := by
  unfold PyData.strOk
  rw [← Array.all_toList, List.all_eq_true]
  exact fun u hu => decide_eq_true (h u hu)
theorem lay_strs : ∀ ys : List Str, (∀ y ∈ ys, OkS y) → PyData.canLayAll0 (ys.map PyData.str) = true
  | [], _ => rfl
  | y :: r, h => by simp [PyData.canLayAll0, PyData.canLay0, lay_strs r fun z hz => h z (List.mem_cons_of_mem _ hz), strOk_of (h y List.mem_cons_self)]
theorem depth_strs : ∀ ys : List Str, PyData.depthAll (ys.map PyData.str) = 0
  | [] => rfl
  | _ :: r => by simp [PyData.depthAll, PyData.depth, depth_strs r]
theorem shaped_strs (ys : List Str) (h : ∀ y ∈ ys, OkS y) : SeqAt.shaped (.list (ys.map PyData.str)) = true := by
  simp [SeqAt.shaped, PyData.canLay0, PyData.depth, lay_strs ys h, depth_strs]
theorem shaped_nil : SeqAt.shaped (.list []) = true := shaped_strs [] fun _ h => (List.not_mem_nil h).elim
theorem eqv_nil (ys : List Str) : PyData.eqv (.list (ys.map PyData.str)) (.list []) = ys.isEmpty := by
  cases ys with
  | nil => simp [PyData.eqv, PyData.eqvAll]
  | cons y r => simp [PyData.eqv, PyData.eqvAll]
theorem ifF {c A B : Prop} [Decidable c] (h : ¬ c) (b : B) : if c then A else B := by
  rw [if_neg h]
  exact b
theorem ifT {c A B : Prop} [Decidable c] (h : c) (b : A) : if c then A else B := by
  rw [if_pos h]
  exact b
/-- a list of texts is asked for being empty -/
theorem ask_nil {K : PySem.W.Frag} {H' : Hp} {p q : Addr} {ys : List Str} {Q : VK} (ho : ∀ y ∈ ys, OkS y) (h : H' p = some (.lst (ys.map V.str))) (hq : H' q = some (.lst [])) (k : Q (.bl ys.isEmpty) H') : rEqD K (.ref p) (.ref q) H' Q :=
  ⟨_, _, .lst (SqL.of h) (dp_strs ys), dp_nil hq, shaped_strs ys ho, shaped_nil, by rw [eqv_nil]; exact k⟩
theorem filt_empty {α : Type} (l : List α) (p : α → Bool) : (l.filter fun u => !p u).isEmpty = l.all p := by
  induction l with
  | nil => rfl
  | cons a r ih =>
    rw [List.filter_cons, List.all_cons]
    cases h : p a with
    | true => simpa [h] using ih
    | false => simp [h]
theorem map_sgn (cs : List Nat) : cs.map sgn = (cs.map fun c => (⟨#[c]⟩ : Str)).map V.str := by
  rw [List.map_map]
  rfl
theorem ok_sgn {c : Nat} (h : c < 1114112) : OkS ⟨#[c]⟩ := fun u hu => by
  have e : u = c := List.mem_singleton.mp hu
  rw [e]
  exact h
theorem ok_sgns {x : Str} (h : OkS x) (p : Nat → Bool) : ∀ y ∈ ((TL.tl x).filter p).map fun c => (⟨#[c]⟩ : Str), OkS y := fun y hy => by
  obtain ⟨c, hc, rfl⟩ := List.mem_map.mp hy
  exact ok_sgn (h c ((List.mem_filter.mp hc).1))
end Fk
namespace Fk
open PySem PySem.Spec PyProof.Rows L2
theorem ok_app {x y : Str} (hx : OkS x) (hy : OkS y) : OkS (x ++ y) := fun u hu => by
  rw [TL.tl_append] at hu
  rcases List.mem_append.mp hu with hu | hu
  · exact hx u hu
  · exact hy u hu
theorem ok_cut {x : Str} (hx : OkS x) (lo hi : Option Int) : OkS (cutS x lo hi) := fun u hu => by
  rw [tl_cut] at hu
  exact hx u (List.mem_of_mem_drop (List.mem_of_mem_take hu))
theorem ok_rep {x : Str} (hx : OkS x) (n : Nat) : OkS (repS x n) := fun u hu => by
  rw [tl_rep] at hu
  obtain ⟨l, hl, hu⟩ := List.mem_flatten.mp hu
  rw [(List.mem_replicate.mp hl).2] at hu
  exact hx u hu
theorem ok_join {y : Str} (hy : OkS y) {ps : List Str} (h : ∀ p ∈ ps, OkS p) : OkS (Txt.join y ps) := fun u hu => by
  rw [TL.join_eq, TL.tl_join] at hu
  have e : ∀ ls : List (List Nat), (∀ l ∈ ls, ∀ u ∈ l, u < 1114112) → ∀ u ∈ TL.joinL (TL.tl y) ls, u < 1114112 := by
    intro ls
    induction ls with
    | nil => intro _ u hu; exact (List.not_mem_nil hu).elim
    | cons l r ih =>
      intro h u hu
      cases r with
      | nil => exact h l List.mem_cons_self u hu
      | cons m r =>
        have hu : u ∈ l ++ (TL.tl y ++ TL.joinL (TL.tl y) (m :: r)) := hu
        rcases List.mem_append.mp hu with hu | hu
        · exact h l List.mem_cons_self u hu
        · rcases List.mem_append.mp hu with hu | hu
          · exact hy u hu
          · exact ih (fun l hl => h l (List.mem_cons_of_mem _ hl)) u hu
  refine e _ (fun l hl => ?_) u hu
  obtain ⟨p, hp, rfl⟩ := List.mem_map.mp hl
  exact h p hp
theorem ok_by {x : Str} (h : (TL.tl x).all (fun u => decide (u < 1114112)) = true) : OkS x := fun u hu => of_decide_eq_true (List.all_eq_true.mp h u hu)
theorem ok_sub {x y : Str} (h : ∀ u ∈ TL.tl x, u ∈ TL.tl y) (hy : OkS y) : OkS x := fun u hu => hy u (h u hu)
theorem ok_hex : OkS HEX := ok_by (by decide +kernel)
theorem ok_ssg : OkS SSG := ok_by (by decide +kernel)
theorem ok_rsg : OkS RSG := ok_by (by decide +kernel)
theorem ok_let : OkS LET := ok_by (by decide +kernel)
theorem ok_all : OkS ALL := ok_by (by decide +kernel)
theorem ok_slash : OkS "/" := ok_by (by decide +kernel)
theorem only_sub {x y : Str} (h : hasOnly x y = true) : ∀ u ∈ TL.tl x, u ∈ TL.tl y := fun u hu => of_decide_eq_true (List.all_eq_true.mp h u hu)
theorem ok_seg {x : Str} (h : isSegF x = true) : OkS x := by
  unfold isSegF isWordF at h
  simp only [Bool.and_eq_true] at h
  exact ok_sub (only_sub h.1.2.2) ok_ssg
theorem word_of {x y : Str} (h : ∀ u ∈ TL.tl x, u ∈ TL.tl y) (h1 : 1 ≤ x.length) (h2 : x.length ≤ 12) : isWordF y x = true := by
  unfold isWordF
  rw [decide_eq_true h1, decide_eq_true h2, has_only h]
  rfl
theorem Same.of_fr {a : Addr} {H H1 H2 : Hp} (h : H a = none) (s : Same H H1) (f : Fr a H1 H2) : Same H H2 := fun b o e => f b o (ne_of_none e h) (s b o e)
theorem def_ne {K : PySem.W.Frag} {mg : Str → Option Value} {x y : Str} {st st' : Stmt} {f f' : Addr} {fd fd' : FuncData} (D : C8.Def K mg x st f fd) (D' : C8.Def K mg y st' f' fd') (h : x ≠ y) : f ≠ f' := by
  intro e
  subst e
  obtain ⟨oc, od, dV, kV, doc, pm, an, cdv, ct, osl, rfl, lk, _⟩ := D.fn.ex
  obtain ⟨oc', od', dV', kV', doc', pm', an', cdv', ct', osl', rfl, lk', _⟩ := D'.fn.ex
  rw [lk] at lk'
  have e1 := Option.some.inj lk'
  injection e1 with e1 e2 e3 e4
  injection e3 with e3
  exact h (congrArg FuncData.name e3)
end Fk
namespace Fk
open PySem PySem.Spec PyProof.Rows L2
theorem plain_lt {c : Nat} (h : (decide (c = 10) || plainC c) = true) : c < 1114112 := by
  rcases Bool.or_eq_true_iff.mp h with h | h
  · have := of_decide_eq_true h
    omega
  · unfold plainC at h
    have h2 := (Bool.and_eq_true_iff.mp h).2
    have h3 : ¬ ([126] < [c]) := fun z => by
      rw [decide_eq_true z] at h2
      exact absurd h2 (by decide)
    have h4 : ¬ 126 < c := fun z => h3 (List.Lex.rel z)
    omega
theorem ok_text {x : Str} (h : isTextF x = true) : OkS x := fun u hu => plain_lt (List.all_eq_true.mp (Bool.and_eq_true_iff.mp h).2 u hu)
end Fk

set_option maxHeartbeats 4000000
/-! strip(signs), isascii, replace, isprintable: what they say of the words; a def that begins with a token out. -/
namespace Fk
open PySem PySem.Spec PyProof.Rows L2
section
variable {X : Cx} {a b o : Expr} {rest : List Expr} {ta tb t to : TE} {pos : Pos}
theorem pet_one {op} (h : PET X a t) : PET X (.BoolOp op [a] pos) t := fun pins s σ H Q h0 I hw => BoolOp_one (h pins s σ H Q h0 I hw)
theorem pet_and (ha : PE X a ta) (hb : PET X (.BoolOp .And (b :: rest) pos) tb) : PET X (.BoolOp .And (a :: b :: rest) pos) (tAndV ta tb) := by
  intro pins s σ H Q h0 I h
  refine BoolOp_and (wpAny_mono (PySem.wpAny_toks (ha.run pins s σ H _ I h)) (fun v s1 q => ?_) fun _ _ z => z.2)
  obtain ⟨hk, x, H1, I1, r1, q1⟩ := q
  obtain ⟨c, rfl, q1⟩ := q1
  cases r1
  refine wpAny_truthy_bool ?_
  cases c with
  | true => exact hb pins s1 σ H1 Q (by omega) I1 q1
  | false => exact ⟨.bl false, H1, I1, rfl, q1⟩
theorem pet_bm0 {T id name : String} {apos cpos : Pos} {r : V → List V → Hp → VK → Prop} (pa : PlainAttrs T) (slot : Slot T name id) (hty : typeOf (.builtin id) = pure (.type "method_descriptor")) (hm : MtR X id r) (ho : PET X o to)
    (hbase : attributeBase o name X.env (eval o X.env) = eval o X.env := by rfl) (hline : (apos.endLine == cpos.line) = true := by rfl) : PET X (.Call (.Attribute o name apos) [] [] cpos) (tBM0 X.K T r to) := by
  intro pins s σ H Q h0 I h
  refine wpAny_Call_method0_late hbase hline (thn (ho pins s σ H _ h0 I h) fun v s1 ⟨x, H1, I1, r1, ty, q1⟩ => ?_)
  obtain ⟨h1, h2⟩ := tyV_is I1 r1 ty
  exact ⟨T, id, pa, slot, hty, h1, h2, Calls.callWith_builtin rfl (PySem.evalArgs_none (hm pins s1 σ H1 x [] v [] Q I1 r1 .nil q1))⟩
end
section
variable {P : Program} {w : World} {K : PySem.W.Frag} {mg : Str → Option Value} {base : Heap}
/-- a def whose parameters are no cells: a token is out when its body begins -/
theorem cal_ofT {x : Str} {st : Stmt} {N ps : List Str} {k : Nat} {sp : Sp} (D : IsDef K mg x st) (S : FnScope N ps (C8.fnScope st))
    (hnc : ∀ y ∈ (C8.fnScope st).names, y.2 ≠ .cell) (hps : 1 ≤ ps.length)
    (hb : ∀ (kV doc pm : Value) (an : Option Addr) (cdv ct : Value) (us : List Value), us.length = ps.length → bindArgs (PySem.W.fnOf x x (C8.fnArgs st) (C8.fnBody st) (C8.fnScope st) .none kV doc pm an cdv ct) ⟨us, []⟩ = pure (ps.zip us))
    (len : ∀ vs H Q E, sp vs H Q E → vs.length = ps.length)
    (hbody : ∀ (f : Addr) (cdv : Value) (A : Around) (outer : List Env) (s : Shared) (H : Hp) (vs : List V) (Q : VK) (E : XK), Room k (A.deeper (envOfC x (C8.fnScope st) s.heap.objs.size f cdv)) → sp vs H Q E →
      ∃ t, PSsT (cxOf C8.CX0 P w K mg base N x (C8.fnScope st) f cdv A outer s H E) (C8.fnBody st) t ∧ t { nx := fun _ H' => Q .non H', rt := Q } (start N vs) H) : C8.Cal P w K mg base (k + 1) x sp [] := by
  obtain ⟨f, fd, D, df⟩ := D
  obtain ⟨oc, od, dV, kV, doc, pm, an, cdv, ct, osl, rfl, lk, hcd⟩ := D.fn.ex
  have e : dV = .none := df
  subst e
  exact ⟨f, _, ps, [], fn_ofT lk hcd S hnc hps len (hbody f cdv), D.mgf, D.kp, .all (hb kV doc pm an cdv ct), .nil⟩
end

/-! ### what strip leaves -/
theorem tw_all {p : Nat → Bool} {l : List Nat} (h : ∀ c ∈ l, p c = true) : l.takeWhile p = l := by
  induction l with
  | nil => rfl
  | cons c r ih =>
    rw [List.takeWhile_cons, h c List.mem_cons_self, if_pos rfl, ih fun d hd => h d (List.mem_cons_of_mem _ hd)]
theorem tw_short {p : Nat → Bool} {l : List Nat} {c : Nat} (h : p c = false) : ((l ++ [c]).takeWhile p).length ≤ l.length := by
  induction l with
  | nil => simp [List.takeWhile_cons, h]
  | cons d r ih =>
    rw [List.cons_append, List.takeWhile_cons]
    cases hd : p d with
    | true => simpa using ih
    | false => simp
theorem dw_head {p : Nat → Bool} : ∀ {l : List Nat}, (∃ c ∈ l, p c = false) → ∃ c r, l.drop (l.takeWhile p).length = c :: r ∧ p c = false ∧ (l.takeWhile p).length + r.length + 1 = l.length
  | [], h => by
    obtain ⟨c, hc, _⟩ := h
    exact (List.not_mem_nil hc).elim
  | d :: r, h => by
    cases hd : p d with
    | false => exact ⟨d, r, by simp [List.takeWhile_cons, hd], hd, by simp [List.takeWhile_cons, hd]⟩
    | true =>
      have h' : ∃ c ∈ r, p c = false := by
        obtain ⟨c, hc, q⟩ := h
        rcases List.mem_cons.mp hc with rfl | hc
        · rw [hd] at q
          cases q
        · exact ⟨c, hc, q⟩
      obtain ⟨c, r', e1, e2, e3⟩ := dw_head h'
      refine ⟨c, r', ?_, e2, ?_⟩
      · rw [List.takeWhile_cons, hd, if_pos rfl, List.length_cons, List.drop_succ_cons, e1]
      · rw [List.takeWhile_cons, hd, if_pos rfl, List.length_cons, List.length_cons]
        omega
theorem strip_tl (g : Nat → Bool) (x : Str) : TL.tl (Txt.stripBy g true true x) = ((TL.tl x).drop ((TL.tl x).takeWhile g).length).take (x.length - (((TL.tl x).drop ((TL.tl x).takeWhile g).length).reverse.takeWhile g).length - ((TL.tl x).takeWhile g).length) := by
  rw [PySem.W.stripBy_eq]
  exact StrLaws.strSub_toList x _ _
theorem strip_none (x y : Str) : decide (V.str (Txt.stripChars x y) = V.str "") = hasOnly x y := by
  have e0 : TL.tl ("" : Str) = [] := by decide +kernel
  have hg : ∀ c, y.cps.contains c = decide (c ∈ TL.tl y) := fun c => by
    rw [Bool.eq_iff_iff]
    simp [TL.tl]
  have key : (Txt.stripChars x y = ("" : Str)) ↔ hasOnly x y = true := by
    have et := strip_tl (fun c => y.cps.contains c) x
    constructor
    · intro h
      refine Bool.not_eq_false _ ▸ fun hf => ?_
      have hx : ∃ c ∈ TL.tl x, y.cps.contains c = false := by
        refine Classical.byContradiction fun z => ?_
        have : hasOnly x y = true := by
          unfold hasOnly
          refine List.all_eq_true.mpr fun c hc => ?_
          rw [← hg]
          cases q : y.cps.contains c with
          | true => rfl
          | false => exact absurd ⟨c, hc, q⟩ z
        rw [this] at hf
        cases hf
      obtain ⟨c, r, e1, e2, e3⟩ := dw_head (p := fun c => y.cps.contains c) hx
      have h' : Txt.stripBy (fun c => y.cps.contains c) true true x = ("" : Str) := h
      rw [h', e0, e1] at et
      have hs := tw_short (p := fun c => y.cps.contains c) (l := r.reverse) e2
      rw [List.length_reverse, ← List.reverse_cons] at hs
      rw [← TL.len_tl] at e3
      have hp : ∃ m, x.length - (((c :: r).reverse.takeWhile fun c => y.cps.contains c)).length - ((TL.tl x).takeWhile fun c => y.cps.contains c).length = m + 1 := ⟨x.length - (((c :: r).reverse.takeWhile fun c => y.cps.contains c)).length - ((TL.tl x).takeWhile fun c => y.cps.contains c).length - 1, by omega⟩
      obtain ⟨m, hm⟩ := hp
      rw [hm, List.take_succ_cons] at et
      cases et
    · intro h
      have hx : ∀ c ∈ TL.tl x, y.cps.contains c = true := fun c hc => by
        rw [hg]
        unfold hasOnly at h
        exact List.all_eq_true.mp h c hc
      apply TL.ext_tl
      rw [e0]
      refine Eq.trans et ?_
      rw [tw_all hx, List.drop_length, List.take_nil]
  rw [Bool.eq_iff_iff, decide_eq_true_iff, ← key]
  exact ⟨fun h => V.str.inj h, fun h => by rw [h]⟩

/-! ### texts of plain signs -/
theorem plain_of {c : Nat} (h : c < 128) : plainC c = Unicode.isPrintable c := by
  have : ∀ c < 128, plainC c = Unicode.isPrintable c := by decide +kernel
  exact this c h
theorem plain_far {c : Nat} (h : ¬ c < 128) : plainC c = false := by
  have h2 : [126] < [c] := List.Lex.rel (by omega)
  unfold plainC
  rw [decide_eq_true h2]
  simp
theorem repl_one (k : Nat) : ∀ l : List Nat, StrLaws.replL [k] [] l = l.filter fun c => !decide (c = k)
  | [] => by rw [StrLaws.replL_nil]; rfl
  | c :: r => by
    by_cases h : c = k
    · rw [StrLaws.replL_hit (by simp) (by simp [h])]
      rw [List.filter_cons, h]
      simp [repl_one k r]
    · rw [StrLaws.replL_miss (by simp [h]), repl_one k r, List.filter_cons]
      simp [h]
def plainT (x : Str) : Bool := Txt.isascii x && Txt.isprintable (Txt.replace x "\n" "")
theorem plain_text (x : Str) : plainT x = (TL.tl x).all fun c => decide (c = 10) || plainC c := by
  have e10 : ("\n" : Str).cps.toList = [10] := by decide +kernel
  have e00 : ("" : Str).cps.toList = [] := by decide +kernel
  have hr : (Txt.replace x "\n" "").cps.toList = (TL.tl x).filter fun c => !decide (c = 10) := by
    rw [StrLaws.replace_list (by decide +kernel), e10, e00, repl_one]
  unfold plainT Txt.isascii Txt.isprintable
  rw [← Array.all_toList, ← Array.all_toList, hr]
  show ((TL.tl x).all _ && _) = _
  induction TL.tl x with
  | nil => rfl
  | cons c r ih =>
    rw [List.all_cons, List.all_cons, ← ih, List.filter_cons]
    by_cases h1 : c < 128
    · rw [plain_of h1]
      by_cases h2 : c = 10
      · simp [h1, h2]
      · simp [h1, h2]
        cases Unicode.isPrintable c <;> simp
    · rw [plain_far h1]
      have h2 : ¬ c = 10 := by omega
      simp [h1, h2]
end Fk

set_option maxHeartbeats 4000000
/-! An error of an own class as a value: made with keywords or without, its base any whose making is the plain one. -/
namespace Fk
open PySem PySem.Spec L2
open Builtin
section
variable {prog : Program} {w : World} {A : Around} {R : Result → Shared → Prop} {h : Heap} {g : Array GenState} {d : Drawn} {t : Nat} {os : OsState}
variable {nm q : Str} {C N : Addr} {bs bm bmB : List Value} {hdct : Bool} {sn : List Str} {sub : List Value} {ab : Bool} {col : Option Bool} {dd : Option Addr} {k0 k1 k2 k3 k5 : Option Value} {B newId initId : String} {kws : List (Str × Value)}
/-- what the class's own list of bases must say -/
structure BmOk (B : String) (bm : List Value) : Prop where
  b : bm.contains (.type B) = true
  a : bm.contains (.type "AttributeError") = false
  n : bm.contains (.type "NameError") = false
theorem BmOk.b' (o : BmOk B bm) : (Value.ref C :: bm).contains (.type B) = true := by
  have := o.b
  simp only [List.contains_cons, this, Bool.or_true]
theorem BmOk.a' (o : BmOk B bm) : (Value.ref C :: bm).contains (.type "AttributeError") = false := by
  have := o.a
  rw [List.contains_cons, this] <;> rfl
theorem BmOk.n' (o : BmOk B bm) : (Value.ref C :: bm).contains (.type "NameError") = false := by
  have := o.n
  rw [List.contains_cons, this] <;> rfl
theorem xcheck_new (F : ExcBaseFacts B newId initId bmB) (o : BmOk B bm) {rest : List Value} {M : Model} {E : Value → Shared → Prop} {Q : Unit → Shared → Prop} (hC : h.get? C = some (excClassObj nm q C N bs bm hdct sn sub ab col dd k0 k1 k2 k3 k5 newId))
    (hq : Q () ⟨h, g, d, t, os⟩) : wpAny M A (checkBuiltinCall newId ⟨.ref C :: rest, kws⟩) Q E ⟨h, g, d, t, os⟩ := by
  have z1 := o.b' (C := C)
  have z2 := F.noStar
  simp only [checkBuiltinCall, F.newKind, F.newSplit, F.newRow]
  repeat (first
    | refine wpAny_loadPart_at hC ?_
    | (refine wpAny_isSubtype_exc hC ?_; rw [z1])
    | refine wpAny_staticBase_exc hC ?_
    | refine wpAny_madeBy_exc hC ?_
    | simp only [bne_self_eq_false, Bool.false_eq_true, if_false]
    | wp_step)
  exact hq
theorem xnew (F : ExcBaseFacts B newId initId bmB) (o : BmOk B bm) {rest : List Value} (hC : h.get? C = some (excClassObj nm q C N bs bm hdct sn sub ab col dd k0 k1 k2 k3 k5 newId)) (hrest : rest.length ≤ sizeLine)
    (hq : R (.ok (.ret (.ref (h.objs.size + 1)))) ⟨(h.push (W.kdv_tup rest)).push (PySem.HandSPX.excO C h.objs.size), g, d, t, os⟩) :
    codeAny (model prog w) A (.builtin newId ⟨.ref C :: rest, kws⟩) R ⟨h, g, d, t, os⟩ := by
  have z0 := F.ends
  have z1 := o.b' (C := C)
  have z2 := o.a' (C := C)
  have z3 := o.n' (C := C)
  refine codeAny_builtinAt F.entry ?_
  unfold Builtin.«BaseException.__new__»
  refine wpAt_bind ?_
  show wpAt _ _ _ (stack >>= _) _ _ _
  refine wpAt_bind (wpAt_stack fun p below => wpAt_of_wpAny ?_)
  wp_walk
  refine wpAt_of_wpAny ?_
  rw [F.owner]
  repeat (first
    | with_reducible refine wpAny_madeHere_exc F.canon hC ?_
    | with_reducible refine wpAny_loadPart_at hC ?_
    | (with_reducible refine wpAny_isSubtype_exc hC ?_; first | rw [z1] | rw [z2] | rw [z3])
    | wp_step)
  show R _ _
  rw [Heap.size_push]
  exact hq
theorem xtype_call (F : ExcBaseFacts B newId initId bmB) (o : BmOk B bm) {rest : List Value} {fI : Addr} {Q : Fin → Shared → Prop} {E : Value → Shared → Prop} (hC : h.get? C = some (excClassObj nm q C N bs bm hdct sn sub ab col dd k0 k1 k2 k3 k5 newId))
    (hi : W.Looks (model prog w) h (typeLookup (.ref C) "__init__") (some (.ref fI))) (hb : ∀ self, W.Looks (model prog w) h (bindSpecial (.ref fI) self) (.ref fI, [self])) (hrest : rest.length ≤ sizeLine)
    (hq : codeAny (model prog w) A (.call (.ref fI) ⟨.ref (h.objs.size + 1) :: rest, kws⟩) (fun r s' => match r with | .ok (.ret v) => v = .none ∧ Q (.done (.ret (.ref (h.objs.size + 1)))) s' | .ok _ => False | .error e => E e s')
      ⟨(h.push (W.kdv_tup rest)).push (PySem.HandSPX.excO C h.objs.size), g, d, t, os⟩) :
    wpAny (model prog w) A (Builtin.«type.__call__» ⟨.ref C :: rest, kws⟩) Q E ⟨h, g, d, t, os⟩ := by
  repeat (first
    | with_reducible refine wpAny_loadPart_at hC ?_
    | with_reducible refine wpAny_madeBy_exc hC ?_
    | wp_step)
  refine codeAny_call_builtin_code (Code.quiet_builtin _ F.quiet) (xcheck_new F o hC ?_)
  refine xnew F o hC hrest ?_
  show wpAny _ _ _ _ _ _
  have kk : ∀ b u, h.get? b = some u → ((h.push (W.kdv_tup rest)).push (PySem.HandSPX.excO C h.objs.size)).get? b = some u := fun b u e => Heap.get?_push_of_some _ (Heap.get?_push_of_some _ e)
  have c1 := kk _ _ hC
  have gt : ((h.push (W.kdv_tup rest)).push (PySem.HandSPX.excO C h.objs.size)).get? (h.objs.size + 1) = some (PySem.HandSPX.excO C h.objs.size) := by heap_get
  have zC : (Value.ref C :: bm).contains (.ref C) = true := by
    rw [List.contains_cons, beq_self_eq_true, Bool.true_or]
  have j1 := hi.keeps kk
  have j2 := (hb (.ref (h.objs.size + 1))).keeps kk
  unfold isInstance
  repeat (first
    | with_reducible refine wpAny_loadPart_at gt ?_
    | (with_reducible refine wpAny_isSubtype_exc c1 ?_; rw [zC])
    | wp_step)
  show wpAny _ _ (typeLookup (.ref C) _) _ _ _
  refine j1.at (wpAny_holding (wpAny_bind (j2.at (wpAny_bind (wpAny_call (codeAny_mono hq fun r s' z => ?_))))))
  rcases r with e | (v | _ | _ | _) <;> first | exact z | exact z.elim | skip
  obtain ⟨rfl, z⟩ := z
  first
    | exact wpAny_pure (wpAny_pure z)
    | (wp_walk; exact z)

theorem xcall (F : ExcBaseFacts B newId initId bmB) (o : BmOk B bm) {rest : List Value} {fI : Addr} (hC : h.get? C = some (excClassObj nm q C N bs bm hdct sn sub ab col dd k0 k1 k2 k3 k5 newId))
    (hi : W.Looks (model prog w) h (typeLookup (.ref C) "__init__") (some (.ref fI))) (hb : ∀ self, W.Looks (model prog w) h (bindSpecial (.ref fI) self) (.ref fI, [self])) (hrest : rest.length ≤ sizeLine)
    (hq : codeAny (model prog w) (A.under (.builtin "type.__call__" ⟨.ref C :: rest, kws⟩)) (.call (.ref fI) ⟨.ref (h.objs.size + 1) :: rest, kws⟩) (W.InitBack (h.objs.size + 1) R) ⟨(h.push (W.kdv_tup rest)).push (PySem.HandSPX.excO C h.objs.size), g, d, t, os⟩) :
    codeAny (model prog w) A (.call (.ref C) ⟨rest, kws⟩) R ⟨h, g, d, t, os⟩ := by
  have z1 := tc_lookup
  have z2 := tc_bind (.ref C)
  have zT : (⟨h, g, d, t, os⟩ : Shared).TypeIs (.ref C) "type" := ⟨_, hC, rfl⟩
  refine codeAny_of_tree ?_
  show wpAny _ _ (callAny (.ref C) _) _ _ _
  repeat (any_goals (first
    | assumption
    | with_reducible refine wpAny_loadPart_at hC ?_
    | wp_step))
  refine ⟨rfl, codeAny_call_builtin_at (Code.quiet_builtin _ (by decide +kernel)) entry_typeCall (wpAny_check_type_call_sub hC (xtype_call F o hC hi hb hrest (codeAny_mono hq fun r s' z => ?_)))⟩
  rcases r with e | (v | _ | _ | _) <;> exact z

open Builtin.ObjectAttr in
theorem xosa {K : W.Frag} {name : Str} {tk : Tok} {v : Value} {x C : Addr} {fv : Array Value} {cd : ClassData} (XK : K.In h) (hx : h.get? x = some { cls := .ref C, data := .fields fv }) (hcd : W.clsIn K C = some cd) (hne : cd.mro.isEmpty = false)
    (hob : cd.mro.contains (.type "object") = true) (hps : refuseLoop (.ref x) "__setattr__" cd.mro = pure ()) (hh : cd.hasDict = true) (ha : W.findIn K (.ref C) name = some none)
    (hq : ∀ h' tk' dx, (∀ b u, b ≠ x → h.get? b = some u → h'.get? b = some u) → h.objs.size ≤ dx → dx ≠ x → h'.get? x = some { cls := .ref C, dict := some dx, data := .fields fv } → h'.Ns1 dx (fun y => if y = name then some v else none) → R (.ok (.ret .none)) ⟨h', g, d, tk', os⟩) :
    codeAny (model prog w) A (.call (.builtin "object.__setattr__") ⟨[.ref x, .str name tk, v], []⟩) R ⟨h, g, d, t, os⟩ := by
  have iT : W.InstAt h x { cls := .ref C, data := .fields fv } C none := ⟨hx, rfl, rfl, trivial⟩
  have sF := PySem.F.store_object
  have nx : x ≠ h.objs.size := Nat.ne_of_lt (Heap.lt_size hx)
  have isO : W.Looks (model prog w) h (isInstance (.ref x) (.type "object")) true := by
    refine iT.type.andThen (W.looks_mroIn XK ?_)
    unfold W.mroIn
    rw [hcd, Option.bind_some, if_neg (by rw [hne]; decide), hob]
  refine codeAny_call_builtin sF.slot.plain sF.entry (@W.check_slot (model prog w) _ _ ⟨h, g, d, t, os⟩ "object.__setattr__" "object" "__setattr__" (.ref x)
    [.str name tk, v] [] _ sF.kind sF.split isO (sF.args (.ref x) (.str name tk) v) ?_)
  have y1 : W.Looks (model prog w) h (mroOf (.ref C)) cd.mro := (W.looks_clsIn XK hcd).andThen .now
  have y2 : W.Looks (model prog w) h (storeTaker? none) none := .now
  have y3 : W.Looks (model prog w) h (classData C) cd := W.looks_clsIn XK hcd
  rw [W.osa_eq, refuse_eq]
  refine wpAny_bind (wpAny_bind (iT.type.at (wpAny_bind (y1.at ?_))))
  rw [hps]
  refine wpAny_pure (wpAny_bind (iT.type.at (wpAny_bind ((W.looks_findIn XK ha).at (wpAny_bind (y2.at ?_))))))
  show wpAny _ _ (storeInOwnDict (.ref x) (.ref C) (.str name tk) name v false) _ _ _
  obtain ⟨z1, z2, z3, z4, z5, hd, z6, z7, z8, z9, z10⟩ := cd
  dsimp only at hh
  subst hh
  unfold storeInOwnDict ownDictForStores
  repeat (first
    | with_reducible refine PySem.HandSPX.store_in_new ?_ ?_
    | with_reducible refine wpAny_loadPart_at hx ?_
    | with_reducible refine y3.at ?_
    | wp_step)
  · exact ⟨_, #[], _, (Heap.get?_update_ne _ _ _ _ nx.symm).trans (Heap.get?_push_at rfl rfl), rfl, fun e he => absurd he (by simp), fun _ => rfl⟩
  · intro h' tk' hn' hs
    have hx' : (h.push { cls := .type "dict", data := .dict #[] }).get? x = some { cls := .ref C, data := .fields fv } := Heap.get?_push_of_some _ hx
    refine hq h' tk' h.objs.size (fun b u hb hu => ?_) (Nat.le_refl _) nx.symm ?_ hn'
    · exact (hs.2 b (Nat.ne_of_lt (Heap.lt_size hu))).trans ((Heap.get?_update_ne _ _ _ _ hb).trans (Heap.get?_push_of_some _ hu))
    · exact (hs.2 x nx).trans (Heap.get?_update_self _ hx' rfl)
end
end Fk

set_option maxHeartbeats 4000000
namespace Fk
open PySem PySem.Spec L2
/-- what the written part says of an error's class, whose __init__ stands at fI -/
structure XC (K : PySem.W.Frag) (C fI : Addr) : Prop where
  cls : ∃ (B newId initId : String) (bmB : List Value) (nm q : Str) (N : Addr) (bs bm : List Value) (sn : List Str) (sub : List Value) (ab : Bool) (col : Option Bool) (dd : Option Addr) (k0 k1 k2 k3 k5 : Option Value),
    ExcBaseFacts B newId initId bmB ∧ BmOk B bm ∧ (∀ self, refuseLoop self "__setattr__" bm = pure ()) ∧ bm.contains (.type "object") = true ∧ K.lookup C = some (excClassObj nm q C N bs bm true sn sub ab col dd k0 k1 k2 k3 k5 newId)
  sa : PySem.W.findIn K (.ref C) "__setattr__" = some (some (.builtin "object.__setattr__"))
  kC : PySem.W.keepIn K (.ref C) = true
  iC : PySem.W.findIn K (.ref C) "__init__" = some (some (.ref fI))
  tI : PySem.W.typeIn K (.ref fI) = some (.type "function")
  ga : PySem.W.findIn K (.ref C) "__getattribute__" = some (some (.builtin "BaseException.__getattribute__"))
  gg : PySem.W.findIn K (.ref C) "__getattr__" = some none
  su : PySem.W.subIn K (.ref C) (.type "BaseException") = some true
  hd : PySem.W.hasDictIn K C = true
  ha : PySem.W.findIn K (.ref C) "__class__" = some (some (.builtin "object.__class__"))
  hn : PySem.W.specialIn K (.builtin "object.__class__") "__get__" = some (some (.builtin "getset_descriptor.__get__"))
  ht : PySem.W.takesIn K (.builtin "object.__class__") = some true
  hm : PySem.W.mroIn K C (.type "object") = some true
section
variable {X : Cx} {CX : CXT} {k : Nat} {fI C : Addr} {fd : FuncData} {ps : List Str} {sp : Sp}
theorem run_mkv {pins : List (Addr × Obj)} {σ : L2.St} {H : Hp} {s : Shared} {Q : VK} {us vals : List Value} {kz : List (Str × Value)} {vvs : List V} (T : XC X.K C fI) (F1 : FnOk X.prog X.w X.K X.mg X.base CX k fI fd ps sp) (hr : Room (k + 1) X.A)
    (hx : Passes CX X (fun _ _ _ => False)) (I : Inv X pins σ H s) (rv : Vals vvs vals) (hus : us.length ≤ 1000) (hbind : ∀ (s' : Shared) (self : Value), X.K.In s'.heap → BindsTo s' fd ⟨self :: us, kz⟩ (ps.zip (self :: vals)))
    (h : ∀ a, H a = none → sp (.ref a :: vvs) (upd H a (exo a C none)) (fun v H2 => v = .non ∧ Q (.ref a) H2) (fun _ _ _ => False)) :
    wpAny (model X.prog X.w) X.A (call (.ref C) us kz) (EP X pins σ Q) X.xe s := by
  obtain ⟨B, newId, initId, bmB, nm, q, N, bs, bm, sn, sub, ab, col, dd, k0, k1, k2, k3, k5, FB, ok, _, _, hC⟩ := T.cls
  obtain ⟨hp, g, dr, tk, os⟩ := s
  have hsz : hp.objs.size ≤ hp.objs.size + 1 := Nat.le_succ _
  have hq := h (hp.objs.size + 1) (I.hok.fresh hsz)
  have gt : ((hp.push (PySem.W.kdv_tup us)).push (PySem.HandSPX.excO C hp.objs.size)).get? (hp.objs.size + 1) = some (PySem.HandSPX.excO C hp.objs.size) := by heap_get
  have I2 : Inv X pins σ (upd H (hp.objs.size + 1) (exo (hp.objs.size + 1) C none)) ⟨(hp.push (PySem.W.kdv_tup us)).push (PySem.HandSPX.excO C hp.objs.size), g, dr, tk, os⟩ :=
    I.laid (t' := tk) (a := hp.objs.size + 1) (o := exo (hp.objs.size + 1) C none) (fun b u e => Heap.get?_push_of_some _ (Heap.get?_push_of_some _ e)) hsz (exo_ok gt)
  have r2 : Vals (V.ref (hp.objs.size + 1) :: vvs) (Value.ref (hp.objs.size + 1) :: vals) := .cons rfl rv
  have hz : us.length ≤ sizeLine := Nat.le_trans hus (by decide)
  refine wpAny_call (xcall FB ok (I.kIn _ _ hC) (PySem.W.looks_findIn I.kIn T.iC) (fun self => PySem.W.bind_fn I.kIn self T.tI) hz
    (codeAny_mono (F1.run _ X.stack _ _ ⟨Value.ref (hp.objs.size + 1) :: us, kz⟩ _ _ _ (fun _ _ _ => False) (hr.make C us kz) (I2.env0.make C us kz) (hbind _ _ I2.kIn) r2 hq) fun r s' z => ?_))
  cases r with
  | error e => exact hx pins σ _ _ e s' I2 z
  | ok fl =>
    cases fl with
    | ret u =>
      obtain ⟨v, H', I3, rv', ev, q3⟩ := I2.after z
      subst ev
      exact ⟨rv', ⟨V.ref (hp.objs.size + 1), H', I3, rfl, q3⟩⟩
    | next => exact z.elim
    | brk => exact z.elim
    | cont => exact z.elim
variable {x : Str} {p p' pos : Pos} {e o : Expr} {es : List Expr} {kws : List Keyword} {t tk : TA} {ds : List Value} {dvs : List V} {ks : List Str} {te to : TE} {f : Str}
/-- C(e, ..) as a value: an error's object stands at a, then __init__ -/
def tMkV (C : Addr) (sp : Sp) (dvs : List V) (t : TA) : TE := fun σ H Q => t σ H fun vs H1 => vs.length ≤ 1000 ∧ ∀ a, H1 a = none → sp (.ref a :: (vs ++ dvs)) (upd H1 a (exo a C none)) (fun v H2 => v = .non ∧ Q (.ref a) H2) (fun _ _ _ => False)
theorem pe_mkv (T : XC X.K C fI) (F1 : FnOk X.prog X.w X.K X.mg X.base CX k fI fd ps sp) (hr : Room (k + 1) X.A) (hb : Binds X.K fd ps ds) (hd : Vals dvs ds) (hx : Passes CX X (fun _ _ _ => False)) (hg : Gl X x) (hm : X.mg x = some (.ref C)) (ha : PA X (e :: es) t)
    (hdb : (x == ("__debug__" : Str)) = false := by decide) (he : starEach (e :: es) X.env = (false, eval e X.env) :: starEach es X.env := by rfl) (hpl : (backTo pos (starEach es X.env)).any (·.1) = false := by rfl) :
    PE X (.Call (.Name x p) (e :: es) [] pos) (tMkV C sp dvs t) := by
  refine ⟨fun pins s σ H Q I h => ?_⟩
  refine wpAny_Call_Name_kw (ld_glob I hg hm ?_ hdb)
  refine PySem.W.callWith_K (h₀ := X.base) I.ok.mod.kin T.kC (thn (ha.run pos pins s σ H _ I h) fun us s1 ⟨vs, H1, I1, r1, hz, q1⟩ => ⟨I1.kIn, ?_⟩) he hpl
  have q0 := q1 _ (I1.hok.fresh (Nat.le_refl _))
  have l0 := F1.len _ _ _ _ q0
  have l1 := (r1.append hd).length
  rw [List.length_cons] at l0
  exact run_mkv (us := us) (kz := []) T F1 hr hx I1 (r1.append hd) (by rw [← r1.length]; exact hz) (fun s' self X1 => hb s' (self :: us) X1 (by rw [List.cons_append, List.length_cons, ← l1]; exact l0)) q1
theorem pe_mkv0 (T : XC X.K C fI) (F1 : FnOk X.prog X.w X.K X.mg X.base CX k fI fd ps sp) (hr : Room (k + 1) X.A) (hb : Binds X.K fd ps ds) (hd : Vals dvs ds) (hx : Passes CX X (fun _ _ _ => False)) (hg : Gl X x) (hm : X.mg x = some (.ref C))
    (hdb : (x == ("__debug__" : Str)) = false := by decide) : PE X (.Call (.Name x p) [] [] pos) (tMkV C sp dvs tNil) := by
  refine ⟨fun pins s σ H Q I h => ?_⟩
  obtain ⟨_, q1⟩ := h
  refine wpAny_Call_Name_kw (ld_glob I hg hm ?_ hdb)
  refine PySem.W.callWith_K0 I.kIn T.kC ?_
  have q0 := q1 _ (I.hok.fresh (Nat.le_refl _))
  have l0 := F1.len _ _ _ _ q0
  rw [List.length_cons] at l0
  exact run_mkv (us := []) (kz := []) T F1 hr hx I hd (Nat.zero_le _) (fun s' self X1 => hb s' [self] X1 (by rw [List.singleton_append, List.length_cons, ← hd.length]; exact l0)) q1
/-- C(k = e, ..) as a value -/
def tMkVK (C : Addr) (n : Nat) (sp : Sp) (t : TA) : TE := fun σ H Q => t σ H fun zs H1 => zs.length = n ∧ ∀ a, H1 a = none → sp (.ref a :: zs) (upd H1 a (exo a C none)) (fun v H2 => v = .non ∧ Q (.ref a) H2) (fun _ _ _ => False)
theorem pe_mkvK (T : XC X.K C fI) (F1 : FnOk X.prog X.w X.K X.mg X.base CX k fI fd ps sp) (hr : Room (k + 1) X.A) (hb : ∀ (s : Shared) (self : Value) (ws : List Value), X.K.In s.heap → ws.length = ks.length → BindsTo s fd ⟨[self], ks.zip ws⟩ (ps.zip (self :: ws))) (hx : Passes CX X (fun _ _ _ => False))
    (hg : Gl X x) (hm : X.mg x = some (.ref C)) (hkw : PK X kws tk) (hall : (backToKw pos (keywordEach kws X.env)).all (·.1.isSome) = true := by rfl) (hks : (backToKw pos (keywordEach kws X.env)).filterMap (·.1) = ks := by rfl) (hdb : (x == ("__debug__" : Str)) = false := by decide)
    (hpl : ((backTo pos (starEach [] X.env)).any (·.1) || (backToKw pos (keywordEach kws X.env)).any (·.1.isNone)) = false := by rfl) : PE X (.Call (.Name x p) [] kws pos) (tMkVK C ks.length sp tk) := by
  refine ⟨fun pins s σ H Q I h => ?_⟩
  refine wpAny_Call_Name_kw (ld_glob I hg hm ?_ hdb)
  refine PySem.W.callWith_KW0 (h₀ := X.base) I.ok.mod.kin T.kC hall ?_ hpl
  refine thn (hkw.run pos pins s σ H _ I h) fun ws s2 ⟨zs, H2, I2, rz, l2, q2⟩ => ⟨I2.kIn, ?_⟩
  rw [hks]
  exact run_mkv (us := []) T F1 hr hx I2 rz (Nat.zero_le _) (fun s' self X1 => hb s' self ws X1 (by rw [← rz.length]; exact l2)) q2

theorem inst_v {H : Hp} {h : Heap} {P : Program} {w : World} {a d : Addr} {fs : List (Str × V)} (hok : HOk P w H h) (ea : H a = some (exo a C (some d))) (ed : H d = some (exd d fs)) :
    ∃ (ox od : Obj) (mA : Str → Option Value), PySem.W.InstAt h a ox C (some od) ∧ h.get? d = some od ∧ h.Ns1 d mA ∧ ∀ g, RelO (fs.lookup g) (mA g) := by
  obtain ⟨t1, ho⟩ := exo_at hok ea
  obtain ⟨mA, hns, rel⟩ := exd_at hok ed
  obtain ⟨od, es', ep, h1, h2, h3⟩ := id hns
  exact ⟨_, od, mA, ⟨ho, rfl, rfl, h1⟩, h1, hns, rel⟩
/-- e.f, e an error's value -/
def tFv (K : PySem.W.Frag) (f : Str) (te : TE) : TE := fun σ H Q => te σ H fun x H1 => ∃ (a C fI d : Addr) (fs : List (Str × V)) (v : V), x = .ref a ∧ XC K C fI ∧ PySem.W.findIn K (.ref C) f = some none ∧ H1 a = some (exo a C (some d)) ∧ H1 d = some (exd d fs) ∧ fs.lookup f = some v ∧ Q v H1
theorem pe_fv (he : PE X e te) (hb : attributeBase e f X.env (eval e X.env) = eval e X.env := by rfl) : PE X (.Attribute e f pos) (tFv X.K f te) := by
  refine ⟨fun pins s σ H Q I h => ?_⟩
  refine attr_of hb (thn (he.run pins s σ H _ I h) fun u s1 hh => ?_)
  obtain ⟨x, H1, I1, rx, a, C, fI, d, fs, v, ex, T, hno, ea, ed, l, q⟩ := hh
  subst ex
  obtain rfl : u = Value.ref a := rx
  obtain ⟨ox, od, mA, J, hod, hns, rel⟩ := inst_v I1.hok ea ed
  obtain ⟨od', ho', hl'⟩ := lookIn_ns hns
  rw [hod] at ho'
  cases ho'
  obtain ⟨u, hu, ru⟩ := RelO.some_of (v := v) (o := mA f) (by rw [← l]; exact rel f)
  exact PySem.HandSPX.exc_get I1.kIn J T.ga T.gg T.su (PySem.W.findObj_own T.hd hno rfl (by rw [hl', hu])) (handed_of ru) ⟨v, H1, I1.tok _, ru, q⟩
theorem kit_v {K : PySem.W.Frag} {a : Addr} {od : Option Obj} {ox : Obj} (T : XC K C fI) : PySem.W.KitX K (.ref a) (.ref C) (fun h => PySem.W.InstAt h a ox C od) := by
  refine PySem.W.kitx_exc ?_ T.ga T.gg T.su T.ha T.hn T.ht T.hm
  obtain ⟨B, newId, initId, bmB, nm, q, N, bs, bm, sn, sub, ab, col, dd, k0, k1, k2, k3, k5, FB, ok, _, _, hC⟩ := T.cls
  unfold PySem.W.clsIn
  rw [hC]
  rfl
/-- isinstance(e, c), e an error's value -/
def rIsV (K : PySem.W.Frag) : List V → Hp → VK → Prop := fun xs H Q => ∃ (a C fI d : Addr) (fs : List (Str × V)) (c : V) (u : Value) (b : Bool), xs = [.ref a, c] ∧ ClsV c u ∧ XC K C fI ∧ H a = some (exo a C (some d)) ∧ H d = some (exd d fs) ∧ PySem.W.kitOne K (.ref C) u = some b ∧ Q (.bl b) H
theorem call_isv : CallR X (.builtin "isinstance") (rIsV X.K) := by
  intro pins s σ H xs us Q I r h
  obtain ⟨a, C, fI, d, fs, c, u, b, rfl, kc, T, ea, ed, e, q⟩ := h
  obtain ⟨u1, u2, rfl, r1, r2⟩ := vals2 r
  have e2 := kc.eq r2
  subst e2
  obtain rfl : u1 = Value.ref a := r1
  obtain ⟨ox, od, mA, J, hod, hns, rel⟩ := inst_v I.hok ea ed
  exact PySem.W.kia_one (kit_v T) I.kIn J e (fun z => nomatch z) fun tk => ⟨.bl b, H, I.tok tk, rfl, q⟩
/-- isinstance(e, (c, ..)), e the error that the suite holds -/
def rIsS (K : PySem.W.Frag) (a : Addr) (cls : Value) (d : Option Addr) : List V → Hp → VK → Prop := fun xs H Q => ∃ (C fI tp dd : Addr) (fs : List (Str × V)) (cs : List V) (us : List Value) (b : Bool), xs = [.ref a, .ref tp] ∧ cls = .ref C ∧ d = some dd ∧ XC K C fI ∧ H dd = some (.xd fs) ∧
  H tp = some (.tup cs) ∧ Paired ClsV cs us ∧ PySem.W.kitAny K (.ref C) us = some b ∧ Q (.bl b) H
theorem call_isS {a : Addr} {oe : Obj} {cls : Value} {d : Option Addr} {pn : List (Addr × Obj)} (hz : Zc cls d oe) (hf : ∃ vs, oe.data = .fields vs) : CallR (X.suite a ((a, oe) :: pn)) (.builtin "isinstance") (rIsS X.K a cls d) := by
  intro pins s σ H xs us Q I r h
  obtain ⟨C, fI, tp, dd, fs, cs, ws, b, rfl, rfl, rfl, T, ed, hT, kc, e, q⟩ := h
  obtain ⟨u1, u2, rfl, r1, r2⟩ := vals2 r
  obtain rfl : u1 = Value.ref a := r1
  cases (show u2 = Value.ref tp from r2)
  obtain ⟨hget, _⟩ := I.pin (a, oe) (List.mem_append_left _ List.mem_cons_self)
  obtain ⟨vs, hv⟩ := hf
  obtain ⟨mA, hns, rel⟩ := (show ObjOk X.prog X.w H s.heap dd (.xd fs) from I.hok dd _ ed)
  obtain ⟨od, ho, hl⟩ := lookIn_ns hns
  have J : PySem.W.InstAt s.heap a oe C (some od) := ⟨hget, hz.1, by unfold PySem.W.notCls; rw [hv] <;> rfl, by rw [hz.2]; exact ho⟩
  obtain ⟨_, its, rv, o, h1, h2, n, h3⟩ := (show ObjOk X.prog X.w H s.heap tp (.tup cs) from I.hok tp _ hT)
  have e3 := ClsV.all kc rv
  subst e3
  obtain ⟨oc, od', dt, sl⟩ := o
  simp only at h2 h3
  subst h2 h3
  exact PySem.W.kia_tup (kit_v T) I.kIn J h1 e (fun z => nomatch z) fun tk => ⟨.bl b, H, I.tok tk, rfl, q⟩
theorem xost {pins : List (Addr × Obj)} {σ : L2.St} {H : Hp} {s : Shared} {a : Addr} {y : V} {u : Value} {Q : Unit → Shared → Prop} {E : Value → Shared → Prop} {A : Around} (T : XC X.K C fI) (I : Inv X pins σ H s) (ea : H a = some (exo a C none))
    (hno : PySem.W.findIn X.K (.ref C) f = some none) (ry : RelV y u)
    (h : ∀ dx s', H dx = none → dx ≠ a → Inv X pins σ (upd (upd H dx (exd dx [(f, y)])) a (exo a C (some dx))) s' → Q () s') : wpAny (model X.prog X.w) A (setAttr (.ref a) f u) Q E s := by
  obtain ⟨B, newId, initId, bmB, nm, q, N, bs, bm, sn, sub, ab, col, dd, k0, k1, k2, k3, k5, FB, ok, hps, hob, hC⟩ := T.cls
  have hcl : PySem.W.clsIn X.K C = some { name := nm, bases := bs, mro := .ref C :: bm, ns := N, qualname := q, hasDict := true, slotNames := sn, subclasses := sub, abstract := ab, collection := col, hasDel := false } := by
    unfold PySem.W.clsIn
    rw [hC]
  obtain ⟨t1, ho⟩ := exo_at I.hok ea
  obtain ⟨hp, g, d, t, os⟩ := s
  refine PySem.W.set_plain I.kIn (ox := { cls := .ref C, dict := none, data := .fields #[.ref t1, .none, .none, .none, .bool false, .none] }) (od := none) ⟨ho, rfl, rfl, trivial⟩ T.sa ?_
  refine xosa I.kIn ho hcl rfl (by rw [List.contains_cons, hob, Bool.or_true]) (by rw [refuseLoop_ref]; exact hps _) rfl hno (fun h' tk' dx kp dn dne hx hn => ?_)
  have zd : H dx = none := I.hok.fresh dn
  have nd : ∀ {b : Addr} {o : Obj}, hp.get? b = some o → b ≠ dx := fun {b o} w => Nat.ne_of_lt (Nat.lt_of_lt_of_le (Heap.lt_size w) dn)
  have na : ∀ {b : Addr}, H b = none → b ≠ a := fun {b} n z => by
    rw [z, ea] at n
    cases n
  have U : Un X.fs [] H (upd (upd H dx (exd dx [(f, y)])) a (exo a C (some dx))) hp h' := by
    refine ⟨fun b o w n _ _ => kp b o (na n) w, fun b o w n _ _ => ⟨o.slots, kp b o (na n) w⟩, fun b o w n _ => ?_, fun b o w _ => ?_, fun b xs w => ?_, fun b o v w => ?_, fun b ps w => ⟨#[], ?_⟩⟩
    · rw [upd_ne (na n), upd_ne (nd w)]
      exact n
    · by_cases hb : b = a
      · rw [hb]
        exact ⟨_, hx⟩
      · exact ⟨o, kp b o hb w⟩
    · rw [upd_ne (at_ne ea w exo_tup), upd_ne (ne_of_none w zd)]
      exact w
    · rw [upd_ne (at_ne ea w exo_frz), upd_ne (ne_of_none w zd)]
      exact w
    · rw [upd_ne (at_ne ea w exo_tbl), upd_ne (ne_of_none w zd), w]
      simp
  refine h dx _ zd dne (I.un (t' := tk') U fun b o w => ?_)
  by_cases hb : b = a
  · rw [hb, upd_same] at w
    cases w
    rw [hb]
    exact exo_ok hx
  rw [upd_ne hb] at w
  by_cases hd : b = dx
  · rw [hd, upd_same] at w
    cases w
    rw [hd]
    exact exd_ok hn (relO_put (fs := []) ry fun g => True.intro)
  rw [upd_ne hd] at w
  refine (I.hok b o w).stay (fun c v hc z => kp c v ?_ z) (fun c hc => ?_) (fun c xs hc => ?_)
  · rcases hc with hc | hc
    · rw [hc]
      exact hb
    · exact at_ne ea hc exo_own
  · rw [upd_ne (at_ne ea hc exo_own), upd_ne (ne_of_none hc zd)]
    exact hc
  · rw [upd_ne (at_ne ea hc exo_tup), upd_ne (ne_of_none hc zd)]
    exact hc
/-- self.f = e, self an error that has no field yet -/
def tOsv (K : PySem.W.Frag) (f : Str) (to te : TE) : TS := fun D σ H => te σ H fun y H1 => to σ H1 fun x H2 => ∃ a C fI : Addr, x = .ref a ∧ XC K C fI ∧ PySem.W.findIn K (.ref C) f = some none ∧ H2 a = some (exo a C none) ∧
  ∀ dx, H2 dx = none → dx ≠ a → D.nx σ (upd (upd H2 dx (exd dx [(f, y)])) a (exo a C (some dx)))
theorem ps_osv (ho : PE X o to) (he : PE X e te) (hs : swapsWith e (some (.Attribute o f p')) pos.line X.env = pure false := by rfl) : PS X (.Assign [.Attribute o f p'] e pos) (tOsv X.K f to te) := by
  refine ⟨fun pins s σ H D I h => ?_⟩
  refine plainObj_wpAny_Assign_Attribute (thn (he.run pins s σ H _ I h) fun v s1 ⟨y, H1, I1, r1, q1⟩ => thn (ho.run pins s1 σ H1 _ I1 q1) fun u s2 ⟨x, H2, I2, r2, a, C, fI, ex, T, hno, ea, q⟩ => ?_) hs
  subst ex
  obtain rfl : u = Value.ref a := r2
  exact xost T I2 ea hno r1 fun dx s' n ne J => ⟨σ, _, J, q dx n ne⟩
end
end Fk

set_option maxHeartbeats 4000000
/-! What is known of an error's class by its entry in the written part. -/
namespace Fk
open PySem PySem.Spec L2
def VE : List Value := [.type "ValueError", .type "Exception", .type "BaseException", .type "object"]
def KE : List Value := [.type "KeyError", .type "LookupError", .type "Exception", .type "BaseException", .type "object"]
structure CF (K : PySem.W.Frag) (nm : Str) (newId : String) (bm : List Value) (C : Addr) : Prop where
  x : ∃ (q : Str) (N : Addr) (bs : List Value) (sn : List Str) (sub : List Value) (ab : Bool) (col : Option Bool) (dd : Option Addr) (k0 k1 k2 k3 k5 : Option Value), K.lookup C = some (excClassObj nm q C N bs bm true sn sub ab col dd k0 k1 k2 k3 k5 newId)
section
variable {K : PySem.W.Frag} {nm nm' : Str} {newId newId' : String} {bm bm' : List Value} {C C' : Addr}
theorem CF.sub (c : CF K nm newId bm C) (u : Value) : PySem.W.subIn K (.ref C) u = some ((Value.ref C :: bm).contains u) := by
  obtain ⟨q, N, bs, sn, sub, ab, col, dd, k0, k1, k2, k3, k5, e⟩ := c.x
  show PySem.W.mroIn K C u = _
  unfold PySem.W.mroIn PySem.W.clsIn
  rw [e]
  rfl
theorem CF.mro (c : CF K nm newId bm C) (u : Value) : PySem.W.mroIn K C u = some ((Value.ref C :: bm).contains u) := c.sub u
theorem CF.typ (c : CF K nm newId bm C) : PySem.W.typeIn K (.ref C) = some (.type "type") := by
  obtain ⟨q, N, bs, sn, sub, ab, col, dd, k0, k1, k2, k3, k5, e⟩ := c.x
  show (K.lookup C).map (·.cls) = _
  rw [e]
  rfl
theorem CF.hd (c : CF K nm newId bm C) : PySem.W.hasDictIn K C = true := by
  obtain ⟨q, N, bs, sn, sub, ab, col, dd, k0, k1, k2, k3, k5, e⟩ := c.x
  unfold PySem.W.hasDictIn PySem.W.clsIn
  rw [e]
  rfl
theorem CF.isc (c : CF K nm newId bm C) : (PySem.W.clsIn K C).isSome = true := by
  obtain ⟨q, N, bs, sn, sub, ab, col, dd, k0, k1, k2, k3, k5, e⟩ := c.x
  unfold PySem.W.clsIn
  rw [e]
  rfl
theorem CF.kit (c : CF K nm newId bm C) (c' : CF K nm' newId' bm' C') : PySem.W.kitOne K (.ref C) (.ref C') = some ((Value.ref C :: bm).contains (.ref C')) := by
  unfold PySem.W.kitOne
  by_cases h : C = C'
  · subst h
    have e : (Value.ref C == .ref C) = true := beq_self_eq_true _
    rw [if_pos e, List.contains_cons, e, Bool.true_or]
  · have e : ¬ (Value.ref C == .ref C') = true := fun z => by
      have := eq_of_beq z
      cases this
      exact h rfl
    have t : ((PySem.W.clsIn K C').isSome && PySem.W.typeIn K (.ref C') == some (.type "type")) = true := by
      rw [c'.isc, c'.typ] <;> rfl
    rw [if_neg e]
    show (if ((PySem.W.clsIn K C').isSome && PySem.W.typeIn K (.ref C') == some (.type "type")) = true then PySem.W.subIn K (.ref C) (.ref C') else none) = _
    rw [if_pos t]
    exact c.sub _
theorem CF.kitT (c : CF K nm newId bm C) {n : String} (h : PySem.W.kitMeta n = true) : PySem.W.kitOne K (.ref C) (.type n) = some ((Value.ref C :: bm).contains (.type n)) := by
  unfold PySem.W.kitOne
  have e : ¬ (Value.ref C == .type n) = true := fun z => by
    have := eq_of_beq z
    cases this
  rw [if_neg e]
  show (if PySem.W.kitMeta n = true then PySem.W.subIn K (.ref C) (.type n) else none) = _
  rw [if_pos h]
  exact c.sub _
theorem CF.name (c : CF K nm newId bm C) (c' : CF K nm' newId' bm' C) : nm = nm' := by
  obtain ⟨q, N, bs, sn, sub, ab, col, dd, k0, k1, k2, k3, k5, e⟩ := c.x
  obtain ⟨q', N', bs', sn', sub', ab', col', dd', k0', k1', k2', k3', k5', e'⟩ := c'.x
  rw [e] at e'
  have z := Option.some.inj e'
  injection z with z1 z2 z3 z4
  injection z3 with z5
  injection z5
theorem CF.oex (c : CF K nm "ValueError.__new__" bm C) (h : PySem.HandSPX.refsVE bm = true) (sa : PySem.W.findIn K (.ref C) "__setattr__" = some (some (.builtin "object.__setattr__"))) (kC : PySem.W.keepIn K (.ref C) = true) (hb : bm.contains (.type "BaseException") = true) : OexC K C := by
  obtain ⟨q, N, bs, sn, sub, ab, col, dd, k0, k1, k2, k3, k5, e⟩ := id c.x
  refine { cls := ⟨nm, q, N, bs, bm, sn, sub, ab, col, dd, k0, k1, k2, k3, k5, e, h⟩, sa := sa, exC := ?_, tyC := c.typ, kC := kC }
  rw [c.sub, List.contains_cons, hb, Bool.or_true]
theorem CF.exm (c : CF K nm newId bm C) (c' : CF K nm' newId' bm' C') (hb : bm'.contains (.type "BaseException") = true) {b : Bool} (e : (Value.ref C :: bm).contains (.ref C') = b) : PySem.W.exmOne K (.ref C) (.ref C') = some b := by
  refine PySem.W.exm_ref ?_ c'.hd c'.typ ((c.sub _).trans (congrArg some e))
  rw [c'.sub, List.contains_cons, hb, Bool.or_true]
theorem CF.xc (c : CF K nm newId bm C) {B initId : String} {bmB : List Value} {fI : Addr} (FB : ExcBaseFacts B newId initId bmB) (ok : BmOk B bm) (ps : ∀ self, refuseLoop self "__setattr__" bm = pure ()) (ob : bm.contains (.type "object") = true) (hb : bm.contains (.type "BaseException") = true)
    (sa : PySem.W.findIn K (.ref C) "__setattr__" = some (some (.builtin "object.__setattr__"))) (kC : PySem.W.keepIn K (.ref C) = true) (iC : PySem.W.findIn K (.ref C) "__init__" = some (some (.ref fI))) (tI : PySem.W.typeIn K (.ref fI) = some (.type "function"))
    (ga : PySem.W.findIn K (.ref C) "__getattribute__" = some (some (.builtin "BaseException.__getattribute__"))) (gg : PySem.W.findIn K (.ref C) "__getattr__" = some none) (ha : PySem.W.findIn K (.ref C) "__class__" = some (some (.builtin "object.__class__")))
    (hn : PySem.W.specialIn K (.builtin "object.__class__") "__get__" = some (some (.builtin "getset_descriptor.__get__"))) (ht : PySem.W.takesIn K (.builtin "object.__class__") = some true) : XC K C fI := by
  obtain ⟨q, N, bs, sn, sub, ab, col, dd, k0, k1, k2, k3, k5, e⟩ := id c.x
  refine { cls := ⟨B, newId, initId, bmB, nm, q, N, bs, bm, sn, sub, ab, col, dd, k0, k1, k2, k3, k5, FB, ok, ps, ob, e⟩, sa := sa, kC := kC, iC := iC, tI := tI, ga := ga, gg := gg, su := ?_, hd := c.hd, ha := ha, hn := hn, ht := ht, hm := ?_ }
  · rw [c.sub, List.contains_cons, hb, Bool.or_true]
  · rw [c.mro, List.contains_cons, ob, Bool.or_true]
end
theorem ve_ok : BmOk "ValueError" VE := ⟨by decide +kernel, by decide +kernel, by decide +kernel⟩
theorem ke_ok : BmOk "LookupError" KE := ⟨by decide +kernel, by decide +kernel, by decide +kernel⟩
theorem rve_ok (c : Addr) : BmOk "ValueError" (.ref c :: VE) := ⟨ve_ok.b', ve_ok.a', ve_ok.n'⟩
theorem ve_pass (self : Value) : refuseLoop self "__setattr__" VE = pure () := PySem.F.store_ValueError.passes self
theorem rve_pass (c : Addr) (self : Value) : refuseLoop self "__setattr__" (.ref c :: VE) = pure () := by
  rw [refuseLoop_ref]
  exact ve_pass self
theorem ke_pass (self : Value) : refuseLoop self "__setattr__" KE = pure () := by
  kernel_rfl
end Fk

set_option maxHeartbeats 4000000
/-! Operators of an own class: ==, !=, +, unary -. -/
namespace Fk
open PySem PySem.Spec PyProof.Rows L2
/-- nothing is let out where E0 is asked -/
def NoEx (CX : CXT) : Prop := ∀ outer H s u s', CX outer H s C8.E0 u s' → False
theorem noEx0 : NoEx C8.CX0 := fun _ _ _ _ _ h => h
theorem noExL {P : Program} {w : World} : NoEx (L2.CX P w) := fun outer H s u s' h => by
  obtain ⟨_, _, _, _, _, _, _, _, _, _, _, _, e⟩ := h
  exact e
/-- a method of an own class -/
structure OwnM (P : Program) (w : World) (K : PySem.W.Frag) (mg : Str → Option Value) (base : Heap) (CX : CXT) (k : Nat) (C : Addr) (m : Str) (sp : Sp) : Prop where
  ex : ∃ (f : Addr) (fd : FuncData) (ps : List Str), PySem.W.findIn K (.ref C) m = some (some (.ref f)) ∧ PySem.W.isFn K (.ref f) = true ∧ FnOk P w K mg base CX k f fd ps sp ∧ Binds K fd ps []
section
variable {X : Cx} {CX : CXT} {k : Nat} {C a dx : Addr} {sp : Sp} {fs : List (Str × V)} {y : V} {u tb : Value} {pins : List (Addr × Obj)} {σ : L2.St} {H : Hp} {s : Shared} {Q : VK}
/-- a def runs, somewhere below the body; it lets nothing out -/
theorem run_in {f : Addr} {fd : FuncData} {ps : List Str} {us : List Value} {vs : List V} {E' : Value → Shared → Prop} {A : Around} (F : FnOk X.prog X.w X.K X.mg X.base CX k f fd ps sp) (hr : Room k A) (hA : Env0 X.prog X.w X.K X.mg X.base A X.stack s H) (hb : Binds X.K fd ps []) (hx : NoEx CX)
    (I : Inv X pins σ H s) (r : Vals vs us) (h : sp vs H Q C8.E0) : wpAny (model X.prog X.w) A (call (.ref f) us) (EP X pins σ Q) E' s := by
  have hl : us.length = ps.length := by
    rw [← r.length]
    exact F.len _ _ _ _ h
  have b := hb s us I.kIn (by rw [List.append_nil]; exact hl)
  rw [List.append_nil] at b
  refine wpAny_call (codeAny_mono (F.run A X.stack s H ⟨us, []⟩ us vs Q C8.E0 hr hA b r h) fun r s' hq => ?_)
  cases r with
  | error e => exact (hx _ _ _ _ _ hq).elim
  | ok fl =>
    cases fl with
    | ret u => exact I.after hq
    | next => exact hq.elim
    | brk => exact hq.elim
    | cont => exact hq.elim
/-- x == y, x an own object -/
def rOwnEq (K : PySem.W.Frag) (C : Addr) (sp : Sp) : R2 := fun x y H Q => ∃ (a dx : Addr) (fs : List (Str × V)) (tb : Value), x = .ref a ∧ H a = some (.ins C dx fs) ∧ TyX K H y tb ∧ PySem.W.notFirst K C tb = true ∧ sp [x, y] H (fun v H' => ∃ b, v = .bl b ∧ Q (.bl b) H') C8.E0
theorem op_ownEq (M : OwnM X.prog X.w X.K X.mg X.base CX k C "__eq__" sp) (hr : Room k X.A) (hx : NoEx CX) : OpR X (compareOp .Eq) (rOwnEq X.K C sp) := by
  intro pins s σ H x y v u Q I rx ry h
  obtain ⟨a, dx, fs, tb, rfl, ha, ty, hn, q⟩ := h
  obtain ⟨f, fd, ps, hs, hf, F, hb⟩ := M.ex
  cases (show v = Value.ref a from rx)
  obtain ⟨mA, J, _⟩ := ins_get I.hok ha
  obtain ⟨od, J, _⟩ := J.look
  obtain ⟨m, hF⟩ := I.fr
  obtain ⟨P', Z, p, _⟩ := kit_of I ry ty
  show wpAny (model X.prog X.w) X.A (richCompare .Eq (.ref a) u) (EP X pins σ Q) X.xe s
  refine PySem.W.cmp_K (op := .Eq) hr.units0 hF I.ok.mod.kin J (Z.ty _ _ I.kIn p) hn hs hf (wpAny_mono (run_in F hr I.env0 hb hx I (show Vals [V.ref a, y] [Value.ref a, u] from .cons rfl (.cons ry .nil)) q) (fun v s' z => ?_) fun _ _ x => x)
  obtain ⟨x, H', I', rv, b, rfl, q'⟩ := z
  cases (show v = Value.bool b from rv)
  exact ⟨.bl b, H', I', rfl, q'⟩
/-- x != y by object.__ne__, which asks x's own == -/
def rOwnNe (K : PySem.W.Frag) (C : Addr) (sp : Sp) : R2 := fun x y H Q => ∃ (a dx : Addr) (fs : List (Str × V)) (tb : Value), x = .ref a ∧ H a = some (.ins C dx fs) ∧ TyX K H y tb ∧ PySem.W.notFirst K C tb = true ∧ sp [x, y] H (fun v H' => ∃ b, v = .bl b ∧ Q (.bl (!b)) H') C8.E0
theorem op_ownNe (M : OwnM X.prog X.w X.K X.mg X.base CX k C "__eq__" sp) (hr : Room (k + 1) X.A) (hx : NoEx CX) (hne : PySem.W.findIn X.K (.ref C) "__ne__" = some (some (.builtin "object.__ne__"))) (hob : PySem.W.mroIn X.K C (.type "object") = some true) :
    OpR X (compareOp .NotEq) (rOwnNe X.K C sp) := by
  intro pins s σ H x y v u Q I rx ry h
  obtain ⟨a, dx, fs, tb, rfl, ha, ty, hn, q⟩ := h
  obtain ⟨f, fd, ps, hs, hf, F, hb⟩ := M.ex
  cases (show v = Value.ref a from rx)
  obtain ⟨mA, J, _⟩ := ins_get I.hok ha
  obtain ⟨od, J, _⟩ := J.look
  obtain ⟨P', Z, p, _⟩ := kit_of I ry ty
  have hbT := Z.ty (model X.prog X.w) s.heap I.kIn p
  have X0 := I.kIn
  have one : wpAny (model X.prog X.w) X.A (tryCompare (.ref a) "__ne__" u) (fun r s' => ∃ v, r = some v ∧ EP X pins σ Q v s') X.xe s := by
    unfold tryCompare
    have sp : PySem.W.Looks (model X.prog X.w) s.heap (specialOf (.ref a) "__ne__") (some (.builtin "object.__ne__")) := J.type.andThen (PySem.W.looks_findIn X0 hne)
    have iv : PySem.W.Looks (model X.prog X.w) s.heap (isInstance (.ref a) (.type "object")) true := J.type.andThen (PySem.W.looks_mroIn X0 hob)
    refine wpAny_bind (NtL.csib (E := X.xe) sp (PySem.F.cmp_object.ne.bind _) ?_)
    refine wpAny_call (codeAny_call_builtin PySem.F.cmp_object.ne.plain PySem.F.cmpEntry_ne (PySem.W.check_slot PySem.F.cmpKind_ne PySem.F.cmpSplit_ne iv (PySem.F.cmpArgs_ne _ _) ?_))
    have hu : X.A.in1.units < cLine := hr.in1.units0
    unfold Builtin.«object.__ne__»
    repeat (first
      | with_reducible refine wpAny_cRoomFor hu ?_
      | (refine wpAny_bind (m := callSpecialIfBound? (.ref a) (Str.ofString "__eq__") [u]) (PySem.W.ifBound_K X0 J hs hf (wpAny_mono (run_in (E' := fun _ _ => False) F hr.in1 I.env0.in1 hb hx I (show Vals [V.ref a, y] [Value.ref a, u] from .cons rfl (.cons ry .nil)) q) (fun v s' z => ?_) fun _ _ x => x.elim)))
      | wp_step)
    obtain ⟨x, H', I', rv, b, rfl, q'⟩ := z
    cases (show v = Value.bool b from rv)
    show wpAny _ _ (truthy (.bool b) >>= _) _ _ _
    refine wpAny_bind (wpAny_truthy_bool ?_)
    exact wpAny_pure (wpAny_pure ⟨_, rfl, .bl (!b), H', I', rfl, q'⟩)
  show wpAny (model X.prog X.w) X.A (richCompare .NotEq (.ref a) u) (EP X pins σ Q) X.xe s
  unfold richCompare
  simp only [oneThing_ref]
  refine wpAny_holding (wpAny_bind (wpAny_cRoomFor hr.units0 ?_))
  refine wpAny_bind (J.type.here (wpAny_bind (hbT.here ?_)))
  split
  · rename_i z
    have e : PySem.W.subIn X.K tb (.ref C) = some false := by
      rcases Bool.or_eq_true_iff.mp hn with e | e
      · rw [beq_iff_eq.mp e] at z
        simp at z
      · exact beq_iff_eq.mp e
    refine wpAny_bind ((PySem.W.looks_subIn X0 e).here ?_)
    simp only [Bool.false_eq_true, if_false]
    refine wpAny_bind (wpAny_mono one (fun r s' z => ?_) fun _ _ e => e)
    obtain ⟨v, rfl, hq⟩ := z
    exact wpAny_pure hq
  · refine wpAny_bind (wpAny_pure ?_)
    simp only [Bool.false_eq_true, if_false]
    refine wpAny_bind (wpAny_mono one (fun r s' z => ?_) fun _ _ e => e)
    obtain ⟨v, rfl, hq⟩ := z
    exact wpAny_pure hq
/-- -x -/
def rOwnNeg (C : Addr) (sp : Sp) : V → Hp → VK → Prop := fun x H Q => ∃ (a dx : Addr) (fs : List (Str × V)), x = .ref a ∧ H a = some (.ins C dx fs) ∧ sp [x] H Q C8.E0
theorem un_ownNeg (M : OwnM X.prog X.w X.K X.mg X.base CX k C "__neg__" sp) (hr : Room k X.A) (hx : NoEx CX) : UnR X (unaryOp .USub) (rOwnNeg C sp) := by
  intro pins s σ H x v Q I rx h
  obtain ⟨a, dx, fs, rfl, ha, q⟩ := h
  obtain ⟨f, fd, ps, hs, hf, F, hb⟩ := M.ex
  cases (show v = Value.ref a from rx)
  obtain ⟨mA, J, _⟩ := ins_get I.hok ha
  obtain ⟨od, J, _⟩ := J.look
  obtain ⟨m, hF⟩ := I.fr
  exact PySem.W.ksp_neg hF I.ok.mod.kin J hs hf (run_in F hr I.env0 hb hx I (show Vals [V.ref a] [Value.ref a] from .cons rfl .nil) q)
end
end Fk
namespace PySem.W
open PySem PySem.Spec PyProof.Rows
section
variable {prog : Program} {w : World} {A : Around} {E : Value → Shared → Prop} {s : Shared} {K : Frag} {x C L f : Addr} {h₀ : Heap} {m : Str → Option Value} {ox : Obj} {od : Option Obj} {nm T : String}
theorem fk_binT {op : Operator} {b : Value} {fo ro rc : Option Value} {Q : Value → Shared → Prop} (F : Fr h₀ L s.heap m) (X₀ : K.In h₀) (I : InstAt s.heap x ox C od) (hb : Looks (model prog w) s.heap (typeOf b) (.type T)) (hc : selfFirst K C = true)
    (hs : findIn K (.ref C) (PySem.dunder op.info.2) = some (some (.ref f))) (hf : isFn K (.ref f) = true) (hr : findIn K (.ref C) (dunderR op.info.2) = some rc) (hp : rc = none ∨ ∃ g : Addr, rc = some (.ref g))
    (h1 : findIn K (.type T) (PySem.dunder op.info.2) = some fo) (h2 : findIn K (.type T) (dunderR op.info.2) = some ro) (hsub : subIn K (.type T) (.ref C) = some false)
    (h : wpAny (model prog w) A (call (.ref f) [.ref x, b]) (CmpBack Q) E s) : wpAny (model prog w) A (binaryOp op (.ref x) b) Q E s := by
  have X := X₀.keeps F.keep
  obtain ⟨cd, rest, hcd, hm⟩ := ksp_first hc
  rcases hi : op.info with ⟨sym, nm'⟩
  rw [hi] at hs hr h1 h2
  dsimp only at hs hr h1 h2
  have one := ksp_try X I hs hf h
  obtain ⟨hh, g, d, tt, os⟩ := s
  have L1 : Looks (model prog w) hh (typeOf (.ref x)) (.ref C) := I.type
  have L2 : Looks (model prog w) hh (typeOf b) (.type T) := hb
  have L3 : Looks (model prog w) hh (fillsNumberSlot (.ref C) nm') true := fills_K X hcd hm hs
  have L4 : Looks (model prog w) hh (fillsNumberSlot (.type T) nm') ((fo.isSome && !isSeqSlot fo) || (ro.isSome && !isSeqSlot ro)) := ksp_fillsT X h1 h2
  have L5 : Looks (model prog w) hh (isSubtype (.type T) (.ref C)) false := looks_subIn X hsub
  have L6 : Looks (model prog w) hh (numberSlotInPython (.ref C) nm') true := ksp_inPy X hs hr hp
  have L7 : Looks (model prog w) hh (numberSlotInPython (.type T) nm') false := Looks.of_pure rfl
  have L8 : Looks (model prog w) hh (typeLookup (.type T) (dunderR nm')) ro := looks_findIn X h2
  generalize ((fo.isSome && !isSeqSlot fo) || (ro.isSome && !isSeqSlot ro)) = right at L4
  have hne : (Value.ref C == Value.type T) = false := Bool.eq_false_iff.mpr fun q => by cases beq_iff_eq.mp q
  simp only [binaryOp, hi]
  refine wpAny_holding (wpAny_bind ?_)
  unfold binaryOp1
  refine wpAny_bind (L1.at (wpAny_bind (L2.at (wpAny_bind (L3.at ?_)))))
  simp only [hne, Bool.false_eq_true, if_false]
  cases right with
  | false =>
    ksp_lk
    refine wpAny_mono one (fun r s' hr' => ?_) fun _ _ e => e
    obtain ⟨v, rfl, hq⟩ := hr'
    ksp_lk
    exact hq
  | true =>
    ksp_lk
    refine wpAny_mono one (fun r s' hr' => ?_) fun _ _ e => e
    obtain ⟨v, rfl, hq⟩ := hr'
    ksp_lk
    exact hq
end
end PySem.W
namespace Fk
open PySem PySem.Spec PyProof.Rows L2
/-- what is asked of a class for its + -/
structure AddF (K : PySem.W.Frag) (C : Addr) : Prop where
  first : PySem.W.selfFirst K C = true
  noR : PySem.W.findIn K (.ref C) "__radd__" = some none
/-- what may stand on the right of an own + -/
inductive RightOf (K : PySem.W.Frag) (H : Hp) (C : Addr) : V → Prop where
  | ins {b dy : Addr} {gs : List (Str × V)} (h : H b = some (.ins C dy gs)) : RightOf K H C (.ref b)
  | ty {y : V} {T : String} {fo ro : Option Value} (h : TyX K H y (.type T)) (h1 : PySem.W.findIn K (.type T) "__add__" = some fo) (h2 : PySem.W.findIn K (.type T) "__radd__" = some ro) (hs : PySem.W.subIn K (.type T) (.ref C) = some false) : RightOf K H C y
/-- x + y by x's own +: what may be let out is E, at the slots; the answer is an object -/
def tOwnAdd (K : PySem.W.Frag) (C : Addr) (sp : Sp) (E : L2.St → XK) (ta tb : TE) : TE := fun σ H Q => ta σ H fun x H1 => tb σ H1 fun y H2 => ∃ (a dx : Addr) (fs : List (Str × V)), x = .ref a ∧ H2 a = some (.ins C dx fs) ∧ RightOf K H2 C y ∧
  sp [x, y] H2 (fun v H' => ∃ b, v = .ref b ∧ Q v H') (E σ)
theorem pe_ownAdd {X : Cx} {CX : CXT} {k : Nat} {C : Addr} {sp : Sp} {E : L2.St → XK} {a b : Expr} {ta tb : TE} {pos : Pos} (M : OwnM X.prog X.w X.K X.mg X.base CX k C "__add__" sp) (T : AddF X.K C) (hr : Room k X.A) (hx : ∀ σ, PassesAt CX X σ (E σ)) (ha : PE X a ta) (hb : PE X b tb) :
    PE X (.BinOp a .Add b pos) (tOwnAdd X.K C sp E ta tb) := by
  refine ⟨fun pins s σ H Q I h => ?_⟩
  refine wpAny_BinOp (binT ha hb I h fun v u s2 x y H2 I2 rx ry q => ?_)
  obtain ⟨a, dx, fs, rfl, ea, ri, q⟩ := q
  obtain ⟨f, fd, ps, hs, hf, F, hb⟩ := M.ex
  cases (show v = Value.ref a from rx)
  obtain ⟨mA, J, _⟩ := ins_get I2.hok ea
  obtain ⟨od, J, _⟩ := J.look
  obtain ⟨m, hF⟩ := I2.fr
  have go : wpAny (model X.prog X.w) X.A (call (.ref f) [.ref a, u]) (PySem.W.CmpBack (EP X pins σ Q)) X.xe s2 := by
    refine wpAny_mono (run_fnS F hr hb (hx σ) I2 (show Vals [V.ref a, y] [Value.ref a, u] from .cons rfl (.cons ry .nil)) q) (fun v s' z => ?_) fun _ _ e => e
    obtain ⟨x, H', I', rv, b, rfl, q'⟩ := z
    cases (show v = Value.ref b from rv)
    exact ⟨.ref b, H', I', rfl, q'⟩
  cases ri with
  | @ins b dy gs eb =>
    cases (show u = Value.ref b from ry)
    obtain ⟨mB, J', _⟩ := ins_get I2.hok eb
    obtain ⟨od', J', _⟩ := J'.look
    exact PySem.W.binop_K (op := .Add) hF I2.ok.mod.kin J J'.type T.first hs hf go
  | @ty _ T' fo ro ty h1 h2 hsb =>
    obtain ⟨P', Z, p, _⟩ := kit_of I2 ry ty
    exact PySem.W.fk_binT (op := .Add) hF I2.ok.mod.kin J (Z.ty _ _ I2.kIn p) T.first hs hf T.noR (.inl rfl) h1 h2 hsb go
end Fk

set_option maxHeartbeats 4000000
/-! len, in, [] of an own class; methods that may raise, in a try and out of it; classes made. -/
namespace Fk
open PySem PySem.Spec PyProof.Rows L2
section
variable {X : Cx} {CX : CXT} {k : Nat} {C : Addr} {sp : Sp}
/-- len(x) -/
theorem call_ownLen (M : OwnM X.prog X.w X.K X.mg X.base CX k C "__len__" sp) (hr : Room (k + 1) X.A) (hx : NoEx CX) :
    CallR X (.builtin "len") (fun xs H Q => ∃ (a dx : Addr) (fs : List (Str × V)), xs = [.ref a] ∧ H a = some (.ins C dx fs) ∧ sp xs H (fun v H' => ∃ n : Nat, v = .int n ∧ n ≤ 1000000 ∧ Q v H') C8.E0) := by
  intro pins s σ H xs us Q I r h
  obtain ⟨a, dx, fs, rfl, ha, q⟩ := h
  obtain ⟨u, rfl, ru⟩ := vals1 r
  cases (show u = Value.ref a from ru)
  obtain ⟨f, fd, ps, hs, hf, F, hb⟩ := M.ex
  obtain ⟨mA, J, _⟩ := ins_get I.hok ha
  obtain ⟨od, J, _⟩ := J.look
  obtain ⟨m, hF⟩ := I.fr
  refine PySem.W.len_K hF I.ok.mod.kin J hs hf (wpAny_mono (run_in F hr.in1 I.env0.in1 hb hx I (show Vals [V.ref a] [Value.ref a] from .cons rfl .nil) q) (fun v s' z => ?_) fun _ _ x => x)
  obtain ⟨x, H', I', rv, n, rfl, hn, q'⟩ := z
  obtain ⟨t, rfl⟩ := (show ∃ t, v = Value.int n t from rv)
  exact ⟨⟨by omega, by omega⟩, .int n, H', I'.tok _, ⟨_, rfl⟩, q'⟩
/-- y in x, y not in x -/
def rOwnIn (C : Addr) (sp : Sp) : R2 := fun y x H Q => ∃ (a dx : Addr) (fs : List (Str × V)), x = .ref a ∧ H a = some (.ins C dx fs) ∧ sp [x, y] H (fun v H' => ∃ b, v = .bl b ∧ Q (.bl b) H') C8.E0
def rOwnNotIn (C : Addr) (sp : Sp) : R2 := fun y x H Q => ∃ (a dx : Addr) (fs : List (Str × V)), x = .ref a ∧ H a = some (.ins C dx fs) ∧ sp [x, y] H (fun v H' => ∃ b, v = .bl b ∧ Q (.bl (!b)) H') C8.E0
theorem op_ownIn (M : OwnM X.prog X.w X.K X.mg X.base CX k C "__contains__" sp) (hr : Room k X.A) (hx : NoEx CX) : OpR X (compareOp .In) (rOwnIn C sp) := by
  intro pins s σ H y x u v Q I ry rx h
  obtain ⟨a, dx, fs, rfl, ha, q⟩ := h
  cases (show v = Value.ref a from rx)
  obtain ⟨f, fd, ps, hs, hf, F, hb⟩ := M.ex
  obtain ⟨mA, J, _⟩ := ins_get I.hok ha
  obtain ⟨od, J, _⟩ := J.look
  obtain ⟨m, hF⟩ := I.fr
  refine PySem.W.in_K hF I.ok.mod.kin J hs hf (wpAny_mono (run_in F hr I.env0 hb hx I (show Vals [V.ref a, y] [Value.ref a, u] from .cons rfl (.cons ry .nil)) q) (fun v s' z => ?_) fun _ _ x => x)
  obtain ⟨x, H', I', rv, b, rfl, q'⟩ := z
  cases (show v = Value.bool b from rv)
  exact wpAny_truthy_bool ⟨.bl b, H', I', rfl, q'⟩
theorem op_ownNotIn (M : OwnM X.prog X.w X.K X.mg X.base CX k C "__contains__" sp) (hr : Room k X.A) (hx : NoEx CX) : OpR X (compareOp .NotIn) (rOwnNotIn C sp) := by
  intro pins s σ H y x u v Q I ry rx h
  obtain ⟨a, dx, fs, rfl, ha, q⟩ := h
  cases (show v = Value.ref a from rx)
  obtain ⟨f, fd, ps, hs, hf, F, hb⟩ := M.ex
  obtain ⟨mA, J, _⟩ := ins_get I.hok ha
  obtain ⟨od, J, _⟩ := J.look
  obtain ⟨m, hF⟩ := I.fr
  refine PySem.W.notIn_K hF I.ok.mod.kin J hs hf (wpAny_mono (run_in F hr I.env0 hb hx I (show Vals [V.ref a, y] [Value.ref a, u] from .cons rfl (.cons ry .nil)) q) (fun v s' z => ?_) fun _ _ x => x)
  obtain ⟨x, H', I', rv, b, rfl, q'⟩ := z
  cases (show v = Value.bool b from rv)
  exact wpAny_truthy_bool ⟨.bl (!b), H', I', rfl, q'⟩
end
/-- a method of an own class with its defaults -/
structure MetX (P : Program) (w : World) (K : PySem.W.Frag) (mg : Str → Option Value) (base : Heap) (CX : CXT) (k : Nat) (C : Addr) (m : Str) (sp : Sp) (dvs : List V) : Prop where
  ex : ∃ (f : Addr) (fd : FuncData) (ps : List Str) (ds : List Value), Cls K C ∧ Meth K C m f ∧ FnOk P w K mg base CX k f fd ps sp ∧ Binds K fd ps ds ∧ Vals dvs ds
/-- a class that may be made -/
structure MakX (P : Program) (w : World) (K : PySem.W.Frag) (mg : Str → Option Value) (base : Heap) (CX : CXT) (k : Nat) (x : Str) (C : Addr) (sp : Sp) (dvs : List V) : Prop where
  ex : ∃ (f : Addr) (fd : FuncData) (ps : List Str) (ds : List Value), Mk K C f ∧ FnOk P w K mg base CX k f fd ps sp ∧ mg x = some (.ref C) ∧ Binds K fd ps ds ∧ Vals dvs ds
/-- a def that may raise -/
structure CalX (P : Program) (w : World) (K : PySem.W.Frag) (mg : Str → Option Value) (base : Heap) (CX : CXT) (k : Nat) (x : Str) (sp : Sp) (dvs : List V) : Prop where
  ex : ∃ (f : Addr) (fd : FuncData) (ps : List Str) (ds : List Value), FnOk P w K mg base CX k f fd ps sp ∧ mg x = some (.ref f) ∧ PySem.W.keepIn K (.ref f) = true ∧ Binds K fd ps ds ∧ Vals dvs ds
section
variable {X : Cx} {CX : CXT} {k j : Nat} {C : Addr} {sp : Sp} {dvs : List V} {m x : Str} {E : L2.St → XK} {o e : Expr} {es : List Expr} {ta : TE} {t : TA} {p pos apos : Pos}
theorem run_at {pins : List (Addr × Obj)} {σ : L2.St} {H : Hp} {s : Shared} {Q : VK} {f : Addr} {fd : FuncData} {ps : List Str} {us ds : List Value} {vs : List V} (F : FnOk X.prog X.w X.K X.mg X.base CX k f fd ps sp) (hr : Room k X.A) (hb : Binds X.K fd ps ds) (hd : Vals dvs ds) (hx : PassesAt CX X σ (E σ))
    (I : Inv X pins σ H s) (r : Vals vs us) (h : sp (vs ++ dvs) H Q (E σ)) : wpAny (model X.prog X.w) X.A (call (.ref f) us) (EP X pins σ Q) X.xe s := by
  have r2 : Vals (vs ++ dvs) (us ++ ds) := r.append hd
  have hl : (us ++ ds).length = ps.length := by
    rw [← r2.length]
    exact F.len _ _ _ _ h
  refine wpAny_call (codeAny_mono (F.run X.A X.stack s H ⟨us, []⟩ (us ++ ds) (vs ++ dvs) Q (E σ) hr I.env0 (hb s us I.kIn hl) r2 h) fun r s' hq => ?_)
  cases r with
  | error e => exact hx pins H s e s' I hq
  | ok fl =>
    cases fl with
    | ret u => exact I.after hq
    | next => exact hq.elim
    | brk => exact hq.elim
    | cont => exact hq.elim
/-- o.m(e, ..) -/
def tMx (C : Addr) (m : Str) (sp : Sp) (dvs : List V) (E : L2.St → XK) (ta : TE) (t : TA) : TE := fun σ H Q => ta σ H fun x H1 => ∃ (a dx : Addr) (fs : List (Str × V)), x = .ref a ∧ H1 a = some (.ins C dx fs) ∧ fs.lookup m = none ∧ t σ H1 fun vs H2 => sp (.ref a :: (vs ++ dvs)) H2 Q (E σ)
theorem pe_mx {pl : Sem Bool} (c : MetX X.prog X.w X.K X.mg X.base CX k C m sp dvs) (hr : Room j X.A) (hk : k ≤ j) (hx : ∀ σ, PassesAt CX X σ (E σ)) (he : PE X o ta) (ha : PA X (e :: es) t)
    (hst : starEach (e :: es) X.env = (false, eval e X.env) :: starEach es X.env := by rfl) (hpl : (backTo pos (starEach es X.env)).any (·.1) = false := by rfl)
    (ht : eval (.Call (.Attribute o m apos) (e :: es) [] pos) X.env = (do
      let ov ← eval o X.env
      standAt apos.atName
      let (f, first) ← holding [ov] (getMethod ov m pl)
      callWith pos f first (backTo pos (starEach (e :: es) X.env)) (backToKw pos (keywordEach [] X.env))) := by rfl) :
    PE X (.Call (.Attribute o m apos) (e :: es) [] pos) (tMx C m sp dvs E ta t) := by
  obtain ⟨f, fd, ps, ds, cl, hm, F, b, d⟩ := c.ex
  refine ⟨fun pins s σ H Q I h => ?_⟩
  refine PySem.W.methodCall_KW (pl := pl) (thn (he.run pins s σ H _ I h) fun u s1 ⟨x, H1, I1, rx, a, dx, fs, ex, ea, l, q⟩ => ?_) ht
  subst ex
  obtain rfl : u = Value.ref a := rx
  refine getmeth_ok I1 ea cl hm l ?_
  refine PySem.W.callWith_K (first := [.ref a]) (h₀ := X.base) I.ok.mod.kin hm.kp (thn (ha.run pos pins s1 σ H1 _ I1 q) fun us s2 ⟨vs, H2, I2, r, q2⟩ => ⟨I2.kIn, ?_⟩) hst hpl
  exact run_at (us := .ref a :: us) (vs := .ref a :: vs) F (hr.mono hk) b d (hx σ) I2 (.cons rfl r) q2
theorem pe_mx0 {pl : Sem Bool} (c : MetX X.prog X.w X.K X.mg X.base CX k C m sp dvs) (hr : Room j X.A) (hk : k ≤ j) (hx : ∀ σ, PassesAt CX X σ (E σ)) (he : PE X o ta)
    (ht : eval (.Call (.Attribute o m apos) [] [] pos) X.env = (do
      let ov ← eval o X.env
      standAt apos.atName
      let (f, first) ← holding [ov] (getMethod ov m pl)
      callWith pos f first (backTo pos (starEach [] X.env)) (backToKw pos (keywordEach [] X.env))) := by rfl) :
    PE X (.Call (.Attribute o m apos) [] [] pos) (tMx C m sp dvs E ta tNil) := by
  obtain ⟨f, fd, ps, ds, cl, hm, F, b, d⟩ := c.ex
  refine ⟨fun pins s σ H Q I h => ?_⟩
  refine PySem.W.methodCall_KW (pl := pl) (thn (he.run pins s σ H _ I h) fun u s1 ⟨x, H1, I1, rx, a, dx, fs, ex, ea, l, q⟩ => ?_) ht
  subst ex
  obtain rfl : u = Value.ref a := rx
  refine getmeth_ok I1 ea cl hm l ?_
  exact PySem.W.callWith_K0 (first := [.ref a]) I1.kIn hm.kp (run_at (us := [.ref a]) (vs := [.ref a]) F (hr.mono hk) b d (hx σ) I1 (.cons rfl .nil) q)
/-- a def by its name -/
def tCx (sp : Sp) (dvs : List V) (E : L2.St → XK) (t : TA) : TE := fun σ H Q => t σ H fun vs H1 => sp (vs ++ dvs) H1 Q (E σ)
theorem pe_cx (c : CalX X.prog X.w X.K X.mg X.base CX k x sp dvs) (hr : Room j X.A) (hk : k ≤ j) (hx : ∀ σ, PassesAt CX X σ (E σ)) (hg : Gl X x) (ha : PA X (e :: es) t)
    (hdb : (x == ("__debug__" : Str)) = false := by decide) (he : starEach (e :: es) X.env = (false, eval e X.env) :: starEach es X.env := by rfl) (hpl : (backTo pos (starEach es X.env)).any (·.1) = false := by rfl) :
    PE X (.Call (.Name x p) (e :: es) [] pos) (tCx sp dvs E t) := by
  obtain ⟨f, fd, ps, ds, F, hm, kp, b, d⟩ := c.ex
  refine ⟨fun pins s σ H Q I h => ?_⟩
  refine wpAny_Call_Name_kw (ld_glob I hg hm ?_ hdb)
  refine PySem.W.callWith_K (h₀ := X.base) I.ok.mod.kin kp (thn (ha.run pos pins s σ H _ I h) fun us s1 ⟨vs, H1, I1, r, q⟩ => ⟨I1.kIn, ?_⟩) he hpl
  exact run_at F (hr.mono hk) b d (hx σ) I1 r q
end
end Fk

set_option maxHeartbeats 4000000
/-! x != y of objects of one class without an own ==: whether they are two. -/
namespace Fk
open PySem PySem.Spec PyProof.Rows L2
structure PlainEq (K : PySem.W.Frag) (C : Addr) : Prop where
  ne : PySem.W.findIn K (.ref C) "__ne__" = some (some (.builtin "object.__ne__"))
  eq : PySem.W.findIn K (.ref C) "__eq__" = some (some (.builtin "object.__eq__"))
  ob : PySem.W.mroIn K C (.type "object") = some true
def rIdNe (C : Addr) : R2 := fun x y H Q => ∃ (a b dx dy : Addr) (fs gs : List (Str × V)), x = .ref a ∧ y = .ref b ∧ H a = some (.ins C dx fs) ∧ H b = some (.ins C dy gs) ∧ Q (.bl (!decide (a = b))) H
section
variable {X : Cx} {C : Addr}
theorem idEq {pins : List (Addr × Obj)} {σ : L2.St} {H : Hp} {s : Shared} {A : Around} {E : Value → Shared → Prop} {a b dx dy : Addr} {fs gs : List (Str × V)} {Q : Option Value → Shared → Prop} (T : PlainEq X.K C) (I : Inv X pins σ H s) (ha : H a = some (.ins C dx fs)) (hb : H b = some (.ins C dy gs))
    (h : Q (some (if a = b then .bool true else .notImplemented)) s) : wpAny (model X.prog X.w) A (callSpecialIfBound? (.ref a) "__eq__" [.ref b]) Q E s := by
  obtain ⟨mA, J, _⟩ := ins_get I.hok ha
  obtain ⟨od, J, _⟩ := J.look
  obtain ⟨mB, J', _⟩ := ins_get I.hok hb
  obtain ⟨od', J', _⟩ := J'.look
  have sp : PySem.W.Looks (model X.prog X.w) s.heap (specialOf (.ref a) "__eq__") (some (.builtin "object.__eq__")) := J.type.andThen (PySem.W.looks_findIn I.kIn T.eq)
  have iv : PySem.W.Looks (model X.prog X.w) s.heap (isInstance (.ref a) (.type "object")) true := J.type.andThen (PySem.W.looks_mroIn I.kIn T.ob)
  refine NtL.csib (E := E) sp (PySem.F.cmp_object.eq.bind _) ?_
  refine wpAny_call (codeAny_call_builtin PySem.F.cmp_object.eq.plain PySem.F.cmpEntry_eq (PySem.W.check_slot PySem.F.cmpKind_eq PySem.F.cmpSplit_eq iv (PySem.F.cmpArgs_eq _ _) ?_))
  by_cases e : a = b
  · subst e
    rw [if_pos rfl] at h
    exact objEq_entry_same h
  · rw [if_neg e] at h
    exact objEq_entry_other e J.at_ J'.at_ (by rw [J.cls]; intro z; cases z) h
theorem idNe {pins : List (Addr × Obj)} {σ : L2.St} {H : Hp} {s : Shared} {A : Around} {E : Value → Shared → Prop} {a b dx dy : Addr} {fs gs : List (Str × V)} {Q : Option Value → Shared → Prop} (T : PlainEq X.K C) (hu : A.units + 1 < cLine) (I : Inv X pins σ H s) (ha : H a = some (.ins C dx fs)) (hb : H b = some (.ins C dy gs))
    (h : Q (if a = b then some (.bool false) else none) s) : wpAny (model X.prog X.w) A (tryCompare (.ref a) "__ne__" (.ref b)) Q E s := by
  obtain ⟨mA, J, _⟩ := ins_get I.hok ha
  obtain ⟨od, J, _⟩ := J.look
  have sp : PySem.W.Looks (model X.prog X.w) s.heap (specialOf (.ref a) "__ne__") (some (.builtin "object.__ne__")) := J.type.andThen (PySem.W.looks_findIn I.kIn T.ne)
  have iv : PySem.W.Looks (model X.prog X.w) s.heap (isInstance (.ref a) (.type "object")) true := J.type.andThen (PySem.W.looks_mroIn I.kIn T.ob)
  have hu' : A.in1.units < cLine := hu
  unfold tryCompare
  refine wpAny_bind (NtL.csib (E := E) sp (PySem.F.cmp_object.ne.bind _) ?_)
  refine wpAny_call (codeAny_call_builtin PySem.F.cmp_object.ne.plain PySem.F.cmpEntry_ne (PySem.W.check_slot PySem.F.cmpKind_ne PySem.F.cmpSplit_ne iv (PySem.F.cmpArgs_ne _ _) ?_))
  unfold Builtin.«object.__ne__»
  repeat (first
    | with_reducible refine wpAny_cRoomFor hu' ?_
    | (refine wpAny_bind (m := callSpecialIfBound? (.ref a) (Str.ofString "__eq__") [.ref b]) (idEq T I ha hb ?_))
    | wp_step)
  by_cases e : a = b
  · rw [if_pos e] at h ⊢
    show wpAny _ _ (truthy (.bool true) >>= _) _ _ _
    refine wpAny_bind (wpAny_truthy_bool ?_)
    exact wpAny_pure (wpAny_pure h)
  · rw [if_neg e] at h ⊢
    exact wpAny_pure (wpAny_pure h)
theorem op_idNe (T : PlainEq X.K C) (hu : X.A.units + 1 < cLine) : OpR X (compareOp .NotEq) (rIdNe C) := by
  intro pins s σ H x y v u Q I rx ry h
  obtain ⟨a, b, dx, dy, fs, gs, rfl, rfl, ha, hb, q⟩ := h
  cases (show v = Value.ref a from rx)
  cases (show u = Value.ref b from ry)
  obtain ⟨mA, J, _⟩ := ins_get I.hok ha
  obtain ⟨od, J, _⟩ := J.look
  obtain ⟨mB, J', _⟩ := ins_get I.hok hb
  obtain ⟨od', J', _⟩ := J'.look
  show wpAny (model X.prog X.w) X.A (richCompare .NotEq (.ref a) (.ref b)) (EP X pins σ Q) X.xe s
  unfold richCompare
  simp only [oneThing_ref]
  refine wpAny_holding (wpAny_bind (wpAny_cRoomFor (by omega) ?_))
  refine wpAny_bind (J.type.here (wpAny_bind (J'.type.here ?_)))
  simp only [bne_self_eq_false, Bool.false_eq_true, if_false]
  refine wpAny_bind (wpAny_pure ?_)
  simp only [Bool.false_eq_true, if_false]
  refine wpAny_bind (idNe (E := X.xe) T hu I ha hb ?_)
  by_cases e : a = b
  · rw [if_pos e]
    exact wpAny_pure ⟨.bl false, H, I, rfl, by simpa [e] using q⟩
  · rw [if_neg e]
    simp only [Bool.not_false, if_true]
    refine wpAny_bind (idNe (E := X.xe) T hu I hb ha ?_)
    rw [if_neg (fun z => e z.symm)]
    refine wpAny_bind (m := isSame (.ref a) (.ref b)) (wpAny_isSame_ref_other e J.at_ J'.at_ (by rw [J.cls]; intro z; cases z) ?_)
    exact wpAny_pure ⟨.bl true, H, I, rfl, by simpa [e] using q⟩
end
end Fk

set_option maxHeartbeats 4000000
/-! dict(d); a displayed dict of ** alone. -/
namespace Fk
open PySem PySem.Spec PyProof.Rows L2
theorem call_dictC {X : Cx} : CallR X (.type "dict") (fun xs H Q => ∃ a kvs, xs = [.ref a] ∧ Rd H a (.dK kvs) ∧ ∀ p, H p = none → Q (.ref p) (upd H p (.dK kvs))) := by
  intro pins s σ H xs us Q I r h
  obtain ⟨a, kvs, rfl, e, q⟩ := h
  obtain ⟨u, rfl, ru⟩ := vals1 r
  cases (show u = Value.ref a from ru)
  exact d_copyOf I e fun p s' hp I' => ⟨.ref p, _, I', rfl, q p hp⟩
section
variable {prog : Program} {w : World} {K : Type} [DecidableEq K] {knd : KeyKind prog w K} {A : Around} {E : Value → Shared → Prop} {s : Shared}
theorem wpAny_dictPut {d : Addr} {kvs : List (K × Value)} {k : K} {key v : Value} {Q : Unit → Shared → Prop} (hkey : knd.is k key = true) (hm : s.heap.DictOf knd d kvs)
    (hQ : ∀ h', h'.DictOf knd d (stored kvs k v) → Heap.SameBut d s.heap h' → Q () { s with heap := h' }) (hsz : kvs.length ≤ sizeLine) :
    wpAny (model prog w) A (dictPut d (knd.hash k) key v) Q E s := by
  obtain ⟨o, es, ep, ho, hc, hd, hk, hp, hn⟩ := hm
  have hes : es.size ≤ sizeLine := by
    have e1 := hp.length
    have e2 : es.toList.length = es.size := by simp
    omega
  unfold dictPut
  try with_reducible refine wpAny_holding ?_
  refine wpAny_bind (wpAny_dictFind_of hkey ho hd hk ?_)
  have hidx : (es.findIdx? fun e => knd.is k e.key) = kvs.findIdx? fun kv => decide (kv.1 = k) := by
    rw [← hp.findIdx k]; obtain ⟨l⟩ := es; simp
  cases hi : es.findIdx? fun e => knd.is k e.key with
  | some i =>
    refine (wpAny_updateDict ho hd (hQ _ ⟨_, _, ep, Heap.get?_update_self _ ho (Obj.isFreed_of_dict (Obj.data_mapDict hd _)),
      hc.mapDict _, Obj.data_mapDict hd _, hk.modify _ _, ?_, ?_⟩ (Heap.SameBut.update ..)))
    · rw [stored, if_pos (any_of_findIdx_some (hidx ▸ hi))]
      have hl : (es.toList.findIdx? fun e => knd.is k e.key) = some i := by rw [← hi]; obtain ⟨l⟩ := es; simp
      have := hp.modify hn hl v
      obtain ⟨l⟩ := es
      simpa using this
    · rw [stored, if_pos (any_of_findIdx_some (hidx ▸ hi)), keys_map_store]; exact hn
  | none =>
    have hnot : k ∉ kvs.map (·.1) := not_mem_of_findIdx_none (hidx ▸ hi)
    have hany : ¬ (kvs.any fun kv => decide (kv.1 = k)) = true := by
      rw [List.any_eq_true]; rintro ⟨kv, hkv, he⟩
      exact hnot (List.mem_map.mpr ⟨kv, hkv, of_decide_eq_true he⟩)
    refine (wpAny_updateDictKeys (hz := hes) ho hd (hQ _ ⟨_, _, ep + 1, Heap.get?_update_self _ ho (Obj.isFreed_of_dict (Obj.data_mapDictKeys hd _)),
      hc.mapDictKeys _, Obj.data_mapDictKeys hd _, hk.push hkey _, ?_, ?_⟩ (Heap.SameBut.update ..)))
    · rw [stored, if_neg hany]
      have := hp.append hkey (knd.hash k) v
      obtain ⟨l⟩ := es
      simpa using this
    · rw [stored, if_neg hany, List.map_append, List.nodup_append]
      refine ⟨hn, by simp, ?_⟩
      intro a ha b hb
      simp only [List.map_cons, List.map_nil, List.mem_singleton] at hb
      subst hb
      exact fun e => hnot (e ▸ ha)
theorem dict_iter : typeLookup (.type "dict") "__iter__" = pure (some (.builtin "dict.__iter__")) := by rw [typeLookup_type, builtinLookup_eq_fast]; kernel_rfl
theorem wpAny_mergeMapping {d o : Addr} {kvs more : List (K × Value)} {Q : Unit → Shared → Prop} (hkr : ∀ (k : K) (a : Addr), knd.is k (.ref a) = false) (hdo : d ≠ o) (hoS : (o == sysModules) = false)
    (hd : s.heap.DictOf knd d kvs) (ho : s.heap.DictOf knd o more)
    (hQ : ∀ h', h'.DictOf knd d (merged kvs more) → h'.DictOf knd o more → Heap.SameBut d s.heap h' → Q () { s with heap := h' })
    (hsz : kvs.length + more.length ≤ sizeLine) :
    wpAny (model prog w) A (mergeMapping d (.ref o) false) Q E s := by
  obtain ⟨od, esd, epd, hod, hcd, hdd, hkd, hpd, hnd⟩ := id hd
  obtain ⟨oo, eso, epo, hoo, hco, hdo', hko, hpo, hno⟩ := id ho
  have hlen : more.length = eso.size := by rw [← hpo.length]; simp
  have loop : wpAny (model prog w) A (do
      let epoch ← dictEpoch o
      forIn (List.range eso.size) PUnit.unit fun i (_ : PUnit) => (do
          let l' ← dictEntries o
          match l'[i]? with
            | some e => do
              holding [e.key, e.val] (dictPut d e.hash e.key e.val)
              let ep' ← dictEpoch o
              if (ep' != epoch) = true then do
                  (unsupported "dict.changed-during-merge" : Sem PUnit)
                  pure (ForInStep.yield PUnit.unit)
                else pure (ForInStep.yield PUnit.unit)
            | _ => do
              (unsupported "dict.changed-during-merge" : Sem PUnit)
              pure (ForInStep.yield PUnit.unit) : Sem (ForInStep PUnit))
      pure ()) Q E s := by
    refine wpAny_bind (wpAny_dictEpoch hoo hdo' ?_)
    refine wpAny_bind ?_
    refine wpAny_forIn_list _
      (fun rest _ s' => ∃ h' i, s' = { s with heap := h' } ∧ rest = (List.range eso.size).drop i ∧ i ≤ eso.size ∧ h'.DictOf knd d (merged kvs (more.take i)) ∧ h'.get? o = some oo ∧ Heap.SameBut d s.heap h')
      _ ?_ ?_ _ _ ⟨s.heap, 0, rfl, rfl, Nat.zero_le _, by simpa [merged] using hd, hoo, Heap.SameBut.refl _ _⟩
    · rintro x rest b s' ⟨h', i, rfl, hr, hi, hd', hoo', hs'⟩
      have hlt : i < eso.size := by
        rcases Nat.lt_or_ge i eso.size with h | h
        · exact h
        · rw [List.drop_of_length_le (by rw [List.length_range]; exact h)] at hr; cases hr
      have hlt' : i < (List.range eso.size).length := by rw [List.length_range]; exact hlt
      rw [List.drop_eq_getElem_cons hlt', List.getElem_range] at hr
      injection hr with h1 hrest
      subst h1
      refine wpAny_bind (wpAny_dictEntries hoo' hdo' ?_)
      rw [Array.getElem?_eq_getElem hlt]
      obtain ⟨kv, hkv⟩ : ∃ kv, more[x]? = some kv := ⟨more[x]'(by rw [hlen]; exact hlt), List.getElem?_eq_getElem _⟩
      obtain ⟨k, v⟩ := kv
      obtain ⟨hkey, hval⟩ := hpo.get? (e := eso[x]) (by simp [hlt]) hkv
      obtain ⟨k', hkey', hhash⟩ := hko eso[x] (Array.getElem_mem hlt)
      obtain rfl : k' = k := knd.inj _ _ _ hkey' hkey
      show wpAny _ _ (holding [eso[x].key, eso[x].val] (dictPut d eso[x].hash eso[x].key eso[x].val) >>= _) _ _ _
      rw [hhash, hval]
      have hmx : (merged kvs (more.take x)).length ≤ sizeLine := by
        have e1 := merged_length_le kvs (more.take x)
        have e2 : (more.take x).length ≤ more.length := by rw [List.length_take]; omega
        omega
      refine wpAny_bind (wpAny_holding (wpAny_dictPut (hsz := hmx) hkey hd' fun h'' hd'' hs'' => ?_))
      have hoo'' : h''.get? o = some oo := (hs''.2 o (Ne.symm hdo)).trans hoo'
      refine wpAny_bind (wpAny_dictEpoch hoo'' hdo' ?_)
      rw [if_neg (by simp)]
      exact wpAny_pure ⟨h'', x + 1, rfl, hrest, hlt, by rw [merged_take_succ kvs more x (k', v) hkv]; exact hd'', hoo'', hs'.trans hs''⟩
    · rintro b s' ⟨h', i, rfl, hr, hi, hd', hoo', hs'⟩
      have hin : i = eso.size := by
        rcases Nat.lt_or_ge i eso.size with h | h
        · have hlt' : i < (List.range eso.size).length := by rw [List.length_range]; exact h
          rw [List.drop_eq_getElem_cons hlt'] at hr; exact nomatch hr
        · exact Nat.le_antisymm hi h
      refine wpAny_pure (hQ h' ?_ ⟨oo, eso, epo, hoo', hco, hdo', hko, hpo, hno⟩ hs')
      rw [hin, ← hlen, List.take_length] at hd'; exact hd'
  have loop2 : wpAny (model prog w) A (dictEntries o >>= fun l => (do
      let epoch ← dictEpoch o
      forIn (List.range l.size) PUnit.unit fun i (_ : PUnit) => (do
          let l' ← dictEntries o
          match l'[i]? with
            | some e => do
              holding [e.key, e.val] (dictPut d e.hash e.key e.val)
              let ep' ← dictEpoch o
              if (ep' != epoch) = true then do
                  (unsupported "dict.changed-during-merge" : Sem PUnit)
                  pure (ForInStep.yield PUnit.unit)
                else pure (ForInStep.yield PUnit.unit)
            | _ => do
              (unsupported "dict.changed-during-merge" : Sem PUnit)
              pure (ForInStep.yield PUnit.unit) : Sem (ForInStep PUnit))
      pure ())) Q E s := wpAny_bind (wpAny_dictEntries hoo hdo' loop)
  unfold mergeMapping
  refine wpAny_bind (m := isInstance (.ref o) (.type "dict")) (wpAny_isInstance ho.typeIs isSubtype_dict_dict ?_)
  simp only [if_true]
  refine wpAny_bind (m := specialOf (.ref o) "__iter__") (wpAny_specialOf ho.typeIs dict_iter ?_)
  rw [show ((some (Value.builtin "dict.__iter__") == some (Value.builtin "dict.__iter__")) = true) from beq_self_eq_true _]
  first | rw [if_neg (by rw [hoS]; exact Bool.false_ne_true)] | (refine wpAny_ite ?_; rw [if_neg (by rw [hoS]; exact Bool.false_ne_true)]) | (refine wpAny_pure ?_; rw [if_neg (by rw [hoS]; exact Bool.false_ne_true)])
  refine wpAny_bind (wpAny_dictEntries hod hdd ?_)
  split
  · refine wpAny_bind (wpAny_dictEntries hoo hdo' ?_)
    refine wpAny_bind ?_
    rw [← Array.forIn_toList]
    refine wpAny_forIn_list _ (fun rest _ s' => s' = s ∧ ∀ e ∈ rest, e ∈ eso.toList) _ ?_ ?_ _ _ ⟨rfl, fun e he => he⟩
    · rintro e rest b s' ⟨rfl, hr⟩
      obtain ⟨k, hk, _⟩ := hko e (Array.mem_toList_iff.mp (hr e List.mem_cons_self))
      have hrest : ∀ e' ∈ rest, e' ∈ eso.toList := fun e' he' => hr e' (List.mem_cons_of_mem _ he')
      cases hkey : e.key with
      | ref a =>
        rw [hkey, hkr] at hk
        cases hk
      | _ => exact wpAny_pure ⟨rfl, hrest⟩
    · rintro b s' ⟨rfl, _⟩
      exact loop2
  · exact loop2
end
end Fk

set_option maxHeartbeats 4000000
namespace Fk
open PySem PySem.Spec PyProof.Rows L2
section
variable {prog : Program} {w : World} {K : Type} [DecidableEq K] {knd : KeyKind prog w K} {A : Around} {E : Value → Shared → Prop} {s : Shared} {Q : Value → Shared → Prop}
theorem wp_stars {items : List (Option (Sem Value) × Sem Value)} (hkr : ∀ (k : K) (a : Addr), knd.is k (.ref a) = false) (hn : ∀ x ∈ items, x.1 = none) (hne : items ≠ []) (R : List (Option (Sem Value) × Sem Value) → Addr → Shared → Prop)
    (h0 : R items s.heap.objs.size { s with heap := s.heap.push { cls := .type "dict", data := .dict #[] } })
    (hs : ∀ x rest p s1, R (x :: rest) p s1 → wpAny (model prog w) A x.2 (fun m s2 => ∃ (a : Addr) (kvs more : List (K × Value)), m = .ref a ∧ p ≠ a ∧ (a == sysModules) = false ∧ s2.heap.DictOf knd p kvs ∧ s2.heap.DictOf knd a more ∧ kvs.length + more.length ≤ sizeLine ∧
      ∀ h', h'.DictOf knd p (merged kvs more) → h'.DictOf knd a more → Heap.SameBut p s2.heap h' → R rest p { s2 with heap := h' }) E s1)
    (hd : ∀ p s1, R [] p s1 → Q (.ref p) s1) : wpAny (model prog w) A (dictDisplay items) Q E s := by
  unfold dictDisplay
  dsimp only
  have turn : ∀ (x : Option (Sem Value) × Sem Value) (rest : List (Option (Sem Value) × Sem Value)) (p : Addr) (s1 : Shared) {Q' : ForInStep (Option Addr × List (Sem Value × Sem Value)) → Shared → Prop}, R (x :: rest) p s1 → (∀ s2, R rest p s2 → Q' (.yield (some p, [])) s2) →
      wpAny (model prog w) A (do
        let m ← holding [Value.ref p] x.2
        (((holding [Value.ref p, m] (mergeMapping p m false)).onRaise fun y => do
                    let _ ← holding [Value.ref p, m, y] (runValue (Code.builtin "proto.let_go" { }))
                    pure ()).tryCatch
                fun e => do
                let b ← isInstance e (Value.type "AttributeError")
                if b = true then do
                    rule "dict.display.not-a-mapping"
                    let n ← typeNameOf m
                    raiseErrorMade "TypeError"
                        (toString "'" ++ toString n ++ toString "' object is not a mapping")
                    throw e
                  else throw e).onRaise
            fun y => do
            let _ ← holding [Value.ref p, y] (runValue (Code.builtin "proto.let_go" { }))
            pure ()
        pure (ForInStep.yield (some p, ([] : List (Sem Value × Sem Value))))) Q' E s1 := by
    intro x rest p s1 Q' hr hq
    refine wpAny_bind (wpAny_holding (wpAny_mono (hs x rest p s1 hr) (fun m s2 q => ?_) fun _ _ e => e))
    obtain ⟨a, kvs, more, rfl, hpa, hoS, dp, da, hz, k⟩ := q
    refine wpAny_bind (wpAny_onRaise (wpAny_tryCatch (wpAny_onRaise (wpAny_holding (wpAny_mergeMapping hkr hpa hoS dp da (fun h' d1 d2 sb => ?_) hz)))))
    exact wpAny_pure (hq _ (k h' d1 d2 sb))
  refine wpAny_bind ?_
  refine wpAny_forIn_list _ (fun rest b s' => b.2 = [] ∧ (∀ x ∈ rest, x.1 = none) ∧ ((b.1 = none ∧ s' = s ∧ rest = items) ∨ ∃ p, b.1 = some p ∧ R rest p s')) _ ?_ ?_ _ _ ⟨rfl, hn, .inl ⟨rfl, rfl, rfl⟩⟩
  · rintro ⟨k, v⟩ rest ⟨main, run⟩ s' ⟨hb, hk, h⟩
    have hk0 : k = none := hk (k, v) List.mem_cons_self
    have hkr' : ∀ x ∈ rest, x.1 = none := fun x hx => hk x (List.mem_cons_of_mem _ hx)
    subst hk0
    dsimp only at hb h
    subst hb
    rcases h with ⟨rfl, rfl, rfl⟩ | ⟨p, rfl, hr⟩
    · refine wpAny_bind (wpAny_pure ?_)
      dsimp only
      refine wpAny_bind (wpAny_alloc ?_)
      exact turn (none, v) rest _ _ h0 fun s2 q => ⟨rfl, hkr', .inr ⟨_, rfl, q⟩⟩
    · refine wpAny_bind (wpAny_pure ?_)
      dsimp only
      refine wpAny_bind (wpAny_pure ?_)
      exact turn (none, v) rest p s' hr fun s2 q => ⟨rfl, hkr', .inr ⟨_, rfl, q⟩⟩
  · rintro ⟨main, run⟩ s' ⟨hb, _, h⟩
    dsimp only at hb h
    subst hb
    rcases h with ⟨_, _, e⟩ | ⟨p, rfl, hr⟩
    · exact (hne e.symm).elim
    · refine wpAny_bind (wpAny_pure ?_)
      exact wpAny_pure (hd p s' hr)
end
/-- the dict at p takes the dicts in turn -/
def goStars : List TE → Addr → TE
  | [], p => fun _ H Q => Q (.ref p) H
  | t :: ts, p => fun σ H Q => t σ H fun x H1 => ∃ (a : Addr) (kvs more : List (Key × V)), x = .ref a ∧ p ≠ a ∧ H1 p = some (.dK kvs) ∧ H1 a = some (.dK more) ∧ kvs.length + more.length ≤ sizeLine ∧ goStars ts p σ (upd H1 p (.dK (mergeK kvs more))) Q
def tStars (ts : List TE) : TE := fun σ H Q => ∀ p, H p = none → goStars ts p σ (upd H p (.dK [])) Q
theorem mix_noref {P : Program} {w : World} (k : Key) (a : Addr) : (mixKind P w).is k (.ref a) = false := by
  cases k <;> rfl
/-- {**e1, **e2, ..} -/
inductive StE (X : Cx) : List Expr → List TE → Prop where
  | nil : StE X [] []
  | cons {e : Expr} {es : List Expr} {t : TE} {ts : List TE} (h : PE X e t) (hs : StE X es ts) : StE X (e :: es) (t :: ts)
theorem pe_stars {X : Cx} {keys : List (Option Expr)} {values : List Expr} {pos : Pos} {ts : List TE} (h : StE X values ts) (hv : values ≠ []) (hk : keys = values.map fun _ => none) : PE X (.Dict keys values pos) (tStars ts) := by
  refine ⟨fun pins s σ H Q I q => ?_⟩
  have hn := I.hok.fresh (Nat.le_refl s.heap.objs.size)
  have I1 := I.laid (a := s.heap.objs.size) (o := .dK []) (h' := s.heap.push { cls := .type "dict", data := .dict #[] }) (t' := s.toks) (fun _ _ q => Heap.get?_push_of_some _ q) (Nat.le_refl _) (dk_empty s.heap I.big)
  rw [arm_eval_Dict]
  subst hk
  refine wpAny_bind (wpAny_standAt ?_)
  have hz : ∀ vs : List Expr, (evalEachOpt (vs.map fun _ => (none : Option Expr)) X.env).zip ((evalEach vs X.env).map fun v => do let x ← v; standAt pos; pure x) = vs.map fun e => ((none : Option (Sem Value)), (do let x ← eval e X.env; standAt pos; pure x : Sem Value)) := by
    intro vs
    induction vs with
    | nil => rfl
    | cons e r ih =>
      show ((none : Option (Sem Value)), (do let x ← eval e X.env; standAt pos; pure x : Sem Value)) :: _ = _
      rw [List.map_cons]
      congr 1
  rw [hz]
  refine wp_stars (knd := mixKind X.prog X.w) mix_noref (fun x hx => ?_) ?_ (fun rest p s' => ∃ es us H', rest = es.map (fun e => ((none : Option (Sem Value)), (do let x ← eval e X.env; standAt pos; pure x : Sem Value))) ∧ StE X es us ∧ Inv X pins σ H' s' ∧ goStars us p σ H' Q) ⟨values, ts, _, rfl, h, I1, q _ hn⟩ ?_ ?_
  · obtain ⟨e, _, rfl⟩ := List.mem_map.mp hx
    rfl
  · intro z
    exact hv (List.map_eq_nil_iff.mp z)
  · rintro x rest p s1 ⟨es, us, H', er, hs, I', g⟩
    cases hs with
    | nil => cases er
    | @cons e es t us he hs =>
      rw [List.map_cons] at er
      injection er with e1 e2
      subst e1
      subst e2
      refine wpAny_bind (wpAny_mono (he.run pins s1 σ H' _ I' g) (fun v s2 z => ?_) fun _ _ x => x)
      obtain ⟨y, H2, I2, ry, a, kvs, more, rfl, hpa, hp, ha, hz2, g2⟩ := z
      cases (show v = Value.ref a from ry)
      refine wpAny_bind (wpAny_standAt (wpAny_pure ?_))
      obtain ⟨z1, hd1, vs1, r1, d1⟩ := dk_of I2.hok hp
      obtain ⟨z2, hd2, vs2, r2, d2⟩ := dk_of I2.hok ha
      refine ⟨a, vs1, vs2, rfl, hpa, hd2, d1, d2, by rw [← r1.length, ← r2.length]; exact hz2, fun h' e1 e2 sb => ⟨es, us, _, rfl, hs, ?_, g2⟩⟩
      have he : ∃ q, h'.get? p = some q := let ⟨q, _, _, hq, _⟩ := e1; ⟨q, hq⟩
      refine d_write I2 (by rw [hp]; exact True.intro) sb he (dk_new ?_ hd1 (r2.merge r1) e1)
      have := length_mergeK more kvs
      omega
  · rintro p s1 ⟨es, us, H', er, hs, I', g⟩
    cases hs with
    | nil => exact ⟨.ref p, H', I', rfl, g⟩
    | cons => cases er
end Fk

set_option maxHeartbeats 4000000
/-! dicts of data: what they hold, == and != of them; repr. -/
namespace Fk
open PySem PySem.Spec PyProof.Rows L2
/-- a dict's entries are these data -/
def DD (K : PySem.W.Frag) (H : Hp) (kvs : List (Key × V)) (ds : List (Key × PyData)) : Prop := Paired (fun p q => p.1 = q.1 ∧ Dp K H p.2 q.2) kvs ds
def DatAt (K : PySem.W.Frag) (H : Hp) (a : Addr) (ds : List (Key × PyData)) : Prop := ∃ kvs, H a = some (.dK kvs) ∧ DD K H kvs ds
def valD (ds : List (Key × PyData)) (k : Key) : Option PyData := (ds.find? fun p => decide (p.1 = k)).map (·.2)
theorem valD_pos {p : Key × PyData} {r : List (Key × PyData)} {k : Key} (e : p.1 = k) : valD (p :: r) k = some p.2 := by simp [valD, List.find?_cons, e]
theorem valD_neg {p : Key × PyData} {r : List (Key × PyData)} {k : Key} (e : ¬ p.1 = k) : valD (p :: r) k = valD r k := by simp [valD, List.find?_cons, e]
def hitD (es : List (Key × PyData)) (p : Key × PyData) : Bool := match valD es p.1 with
  | none => false
  | some e => PyData.eqv p.2 e
def eqvDict (ds es : List (Key × PyData)) : Bool := decide (ds.length = es.length) && ds.all (hitD es)
def shapedAll (ds : List (Key × PyData)) : Prop := ∀ p ∈ ds, SeqAt.shaped p.2 = true
theorem DD.val {K : PySem.W.Frag} {H : Hp} {kvs : List (Key × V)} {ds : List (Key × PyData)} (h : DD K H kvs ds) (k : Key) : (valV kvs k = none ∧ valD ds k = none) ∨ ∃ v d, valV kvs k = some v ∧ valD ds k = some d ∧ Dp K H v d := by
  unfold DD at h
  induction h with
  | nil => exact .inl ⟨rfl, rfl⟩
  | @cons p q ps qs h t ih =>
    obtain ⟨h1, h2⟩ := h
    by_cases e : p.1 = k
    · exact .inr ⟨p.2, q.2, valV_pos e, valD_pos (h1 ▸ e), h2⟩
    · rw [valV_neg e, valD_neg (h1 ▸ e)]
      exact ih
theorem DD.len {K : PySem.W.Frag} {H : Hp} {kvs : List (Key × V)} {ds : List (Key × PyData)} (h : DD K H kvs ds) : kvs.length = ds.length := Paired.length h
mutual
theorem dp_same {K : PySem.W.Frag} {H H' : Hp} (f : Same H H') : ∀ {v : V} {d : PyData}, Dp K H v d → Dp K H' v d
  | _, _, .non => .non
  | _, _, .bl b => .bl b
  | _, _, .int i => .int i
  | _, _, .str x => .str x
  | _, _, .lst hs ha => .lst (by
      rcases hs with (h | ⟨o, h⟩) | h
      · exact .inl (.inl (f _ _ h))
      · exact .inl (.inr ⟨o, f _ _ h⟩)
      · exact .inr h) (dpAll_same f ha)
  | _, _, .tup hs ha => .tup (by
      rcases hs with (h | ⟨o, h⟩) | h
      · exact .inl (.inl (f _ _ h))
      · exact .inl (.inr ⟨o, f _ _ h⟩)
      · exact .inr h) (dpAll_same f ha)
theorem dpAll_same {K : PySem.W.Frag} {H H' : Hp} (f : Same H H') : ∀ {vs : List V} {ds : List PyData}, DpAll K H vs ds → DpAll K H' vs ds
  | _, _, .nil => .nil
  | _, _, .cons h t => .cons (dp_same f h) (dpAll_same f t)
end
theorem DD.same {K : PySem.W.Frag} {H H' : Hp} {kvs : List (Key × V)} {ds : List (Key × PyData)} (h : DD K H kvs ds) (f : Same H H') : DD K H' kvs ds := by
  unfold DD at h ⊢
  induction h with
  | nil => exact .nil
  | cons h t ih => exact .cons ⟨h.1, dp_same f h.2⟩ ih
theorem DatAt.same {K : PySem.W.Frag} {H H' : Hp} {a : Addr} {ds : List (Key × PyData)} (h : DatAt K H a ds) (f : Same H H') : DatAt K H' a ds := by
  obtain ⟨kvs, e, d⟩ := h
  exact ⟨kvs, f _ _ e, d.same f⟩
theorem room66 {k : Nat} {A : Around} (r : Room k A) : A.units + 66 < cLine := by
  have := r.un
  omega
section
variable {X : Cx}
theorem hits_data {pins : List (Addr × Obj)} {σ : L2.St} {H : Hp} {s : Shared} {A : Around} (I : Inv X pins σ H s) (hu : A.units + 64 < cLine) {ls : List (Key × V)} {es : List (Key × PyData)} {vb : List (Key × Value)} (rb : KV ls vb) (hb : DD X.K H ls es) (se : shapedAll es) {ks : List (Key × V)} {ds : List (Key × PyData)} {va : List (Key × Value)}
    (ra : KV ks va) (hd : DD X.K H ks ds) (sd : shapedAll ds) : PySem.W.KeqHits A s vb va (ds.all (hitD es)) := by
  unfold KV at ra
  unfold DD at hd
  induction ra generalizing ds with
  | nil =>
    cases hd
    exact .nil
  | @cons p q ps qs h t ih =>
    cases hd with
    | @cons _ d _ ds hd1 hds =>
      obtain ⟨h1, h2⟩ := h
      obtain ⟨e1, e2⟩ := hd1
      obtain ⟨key, v⟩ := q
      have h1' : p.1 = key := h1
      have tl := ih hds (fun x hx => sd x (List.mem_cons_of_mem _ hx))
      rw [List.all_cons]
      rcases hb.val key with ⟨n1, n2⟩ | ⟨y, e, v1, v2, dy⟩
      · have : hitD es d = false := by
          unfold hitD
          rw [← e1, h1', n2]
        rw [this, Bool.false_and]
        refine .miss ?_
        have rr : RelO none (valueAt vb key) := by rw [← n1]; exact rb.val key
        cases z : valueAt vb key with
        | none => rfl
        | some u =>
          rw [z] at rr
          cases rr
      · have : hitD es d = PyData.eqv d.2 e := by
          unfold hitD
          rw [← e1, h1', v2]
        rw [this]
        have rr : RelO (some y) (valueAt vb key) := by rw [← v1]; exact rb.val key
        obtain ⟨u, hy, ry⟩ := rr.some_of
        obtain ⟨as, r1⟩ := Dp.reads I d.2 p.2 v e2 h2
        obtain ⟨bs, r2⟩ := Dp.reads I e y u dy ry
        have s1 := sd d List.mem_cons_self
        have s2 : SeqAt.shaped e = true := by
          unfold valD at v2
          cases z : es.find? (fun p => decide (p.1 = key)) with
          | none => rw [z] at v2; cases v2
          | some w =>
            rw [z] at v2
            cases v2
            exact se _ (List.mem_of_find?_eq_some z)
        exact .hit hy (SeqAt.eqAt_reads d.2 e A s v u as bs r1 r2 (SeqAt.canLay_of_shaped s1) (SeqAt.canLay_of_shaped s2) (SeqAt.room_of_shaped s1 hu)) tl
/-- d == e of dicts of data -/
def rEqDD (K : PySem.W.Frag) : R2 := fun x y H Q => ∃ a b ds es, x = .ref a ∧ y = .ref b ∧ DatAt K H a ds ∧ DatAt K H b es ∧ shapedAll ds ∧ shapedAll es ∧ Q (.bl (eqvDict ds es)) H
def rNeDD (K : PySem.W.Frag) : R2 := fun x y H Q => ∃ a b ds es, x = .ref a ∧ y = .ref b ∧ DatAt K H a ds ∧ DatAt K H b es ∧ shapedAll ds ∧ shapedAll es ∧ Q (.bl (!eqvDict ds es)) H
theorem op_eqDD (hu : X.A.units + 66 < cLine) : OpR X (compareOp .Eq) (rEqDD X.K) := by
  intro pins s σ H x y v u Q I rx ry h
  obtain ⟨a, b, ds, es, rfl, rfl, ⟨ks, ea, da⟩, ⟨ls, eb, db⟩, sd, se, q⟩ := h
  obtain rfl : v = Value.ref a := rx
  obtain rfl : u = Value.ref b := ry
  obtain ⟨_, ya, va, ra, dda⟩ := (show ObjOk X.prog X.w H s.heap a (.dK ks) from I.hok a _ ea)
  obtain ⟨_, yb, vb, rb, ddb⟩ := (show ObjOk X.prog X.w H s.heap b (.dK ls) from I.hok b _ eb)
  have e : (va.length == vb.length && ds.all (hitD es)) = eqvDict ds es := by
    unfold eqvDict
    rw [← ra.length, ← rb.length, da.len, db.len]
    rfl
  refine PySem.W.keq_eq (knd := mixKind X.prog X.w) (r := ds.all (hitD es)) ya yb dda ddb (by omega) (fun _ => hits_data I ?_ rb db se ra da sd) ?_
  · show X.A.units + 1 + 64 < cLine
    omega
  · rw [e]
    exact ⟨.bl _, H, I, rfl, q⟩
theorem op_neDD (hu : X.A.units + 66 < cLine) : OpR X (compareOp .NotEq) (rNeDD X.K) := by
  intro pins s σ H x y v u Q I rx ry h
  obtain ⟨a, b, ds, es, rfl, rfl, ⟨ks, ea, da⟩, ⟨ls, eb, db⟩, sd, se, q⟩ := h
  obtain rfl : v = Value.ref a := rx
  obtain rfl : u = Value.ref b := ry
  obtain ⟨_, ya, va, ra, dda⟩ := (show ObjOk X.prog X.w H s.heap a (.dK ks) from I.hok a _ ea)
  obtain ⟨_, yb, vb, rb, ddb⟩ := (show ObjOk X.prog X.w H s.heap b (.dK ls) from I.hok b _ eb)
  have e : (va.length == vb.length && ds.all (hitD es)) = eqvDict ds es := by
    unfold eqvDict
    rw [← ra.length, ← rb.length, da.len, db.len]
    rfl
  refine PySem.W.keq_ne (knd := mixKind X.prog X.w) (r := ds.all (hitD es)) ya yb dda ddb (by omega) (fun _ => hits_data I ?_ rb db se ra da sd) ?_
  · show X.A.units + 1 + 64 < cLine
    omega
  · rw [e]
    exact ⟨.bl _, H, I, rfl, q⟩
end
end Fk

set_option maxHeartbeats 4000000
/-! Walks and comprehensions by an invariant, over lists, tuples, dicts; a raise within a locked walk; frames. -/
namespace Fk
open PySem PySem.Spec PyProof.Rows L2
/-! ### frames -/
/-- all that was tracked is as it was, but what stands at L -/
def FrL (L : List Addr) (H H' : Hp) : Prop := ∀ b o, b ∉ L → H b = some o → H' b = some o
theorem FrL.refl (L : List Addr) (H : Hp) : FrL L H H := fun _ _ _ h => h
theorem FrL.trans {L : List Addr} {H H1 H2 : Hp} (x : FrL L H H1) (y : FrL L H1 H2) : FrL L H H2 := fun b o n h => y b o n (x b o n h)
theorem FrL.mono {L M : List Addr} {H H' : Hp} (x : FrL L H H') (h : ∀ a ∈ L, a ∈ M) : FrL M H H' := fun b o n e => x b o (fun z => n (h b z)) e
theorem FrL.at {L : List Addr} {a : Addr} {H : Hp} {o : HO} (h : a ∈ L) : FrL L H (upd H a o) := fun b u n e => by
  have z : b ≠ a := fun z => n (by rw [z]; exact h)
  rw [upd_ne z]
  exact e
theorem FrL.same {L : List Addr} {H H' : Hp} (h : Same H H') : FrL L H H' := fun b o _ e => h b o e
theorem FrL.to {H H' : Hp} (h : FrL [] H H') : Same H H' := fun b o e => h b o (fun z => nomatch z) e
theorem FrL.of {a : Addr} {H H' : Hp} (h : Fr a H H') : FrL [a] H H' := fun b o n e => h b o (fun z => n (z ▸ List.mem_singleton_self a)) e
theorem FrL.new {L : List Addr} {p : Addr} {H : Hp} {o : HO} (h : H p = none) : FrL L H (upd H p o) := FrL.same (same_new h)
/-! ### what is yielded -/
theorem yields_keys {d : Addr} {o : Obj} {kvs : List (Key × V)} : Yields (Itk d o kvs) (kvs.map fun p => kV p.1) (fun H => H d = some (.frz o (.dK kvs))) where
  go := fun k H g h => ⟨g, by rw [List.length_map] at h; exact h⟩
  stop := fun H g => ⟨g, by rw [List.length_map]; exact Nat.le_refl _⟩
  yld := fun k H x H' _ g h => by
    obtain ⟨e, key, v, hk, hx⟩ := h
    refine ⟨e, ?_⟩
    rw [List.getElem?_map, hk, hx]
    rfl
theorem yields_tup {K : PySem.W.Frag} {a : Addr} {xs : List V} : Yields (Itt K a) xs (fun H => SqT K H a xs) where
  go := fun k H g h => ⟨xs, xs[k], g, List.getElem?_eq_getElem h⟩
  stop := fun H g => ⟨xs, g, Nat.le_refl _⟩
  yld := fun k H x H' _ g h => ⟨h.1, h.2 xs g⟩
/-! ### comprehensions -/
theorem lcG {J : It} {items : List V} {G : Hp → Prop} {H1 : Hp} {D : Addr} {σ : L2.St} {vs : List Nat} {g : TG} {tt : TT} {te : TE} {Q : Hp → Prop} (Y : Yields J items G) (I : Nat → List V → Hp → Prop)
    (hG : ∀ k acc H, I k acc H → H D = some (.lst acc) → G H) (h0 : I 0 [] (upd H1 D (.lst [])))
    (hs : ∀ k acc H x, I k acc H → H D = some (.lst acc) → items[k]? = some x → acc.length ≤ k → k < 1000000 → g x (wipe σ vs) H fun σ2 H2 => wipe σ2 vs = wipe σ vs ∧ tt σ2 H2 fun b H3 =>
      if b = true then te σ2 H3 fun y H4 => ∃ acc, H4 D = some (.lst acc) ∧ acc.length < sizeLine ∧ LcN I D (k + 1) (upd H4 D (.lst (acc ++ [y]))) else LcN I D (k + 1) H3)
    (hl : items.length ≤ 1000000) (hd : ∀ acc H, I items.length acc H → H D = some (.lst acc) → acc.length ≤ items.length → Q H) :
    ∃ W : Nat → Nat → Hp → Prop, (∃ m, W 0 m (upd H1 D (.lst []))) ∧ ∀ k m H, W k m H →
      (J.stop k H ∧ Q H) ∨ (J.go k H ∧ ∃ Nx : Hp → Prop, (∀ H', Nx H' → ∃ m', m' < m ∧ W (k + 1) m' H') ∧ ∀ x H', J.yld k H x H' → g x (wipe σ vs) H' fun σ2 H2 => wipe σ2 vs = wipe σ vs ∧ tt σ2 H2 fun b H3 =>
        if b = true then te σ2 H3 fun y H4 => ∃ acc, H4 D = some (.lst acc) ∧ acc.length < sizeLine ∧ Nx (upd H4 D (.lst (acc ++ [y]))) else Nx H3) := by
  refine ⟨fun k m H => m = items.length - k ∧ k ≤ items.length ∧ LcN I D k H, ⟨items.length, by omega, Nat.zero_le _, [], upd_same, Nat.zero_le _, h0⟩, ?_⟩
  rintro k m H ⟨rfl, hk, acc, hD, hacc, hI⟩
  by_cases hlt : k < items.length
  · refine .inr ⟨Y.go k H (hG _ _ _ hI hD) hlt, LcN I D (k + 1), fun H' q => ⟨items.length - (k + 1), by omega, rfl, hlt, q⟩, fun x H' y => ?_⟩
    obtain ⟨rfl, hx⟩ := Y.yld k H x H' hlt (hG _ _ _ hI hD) y
    exact hs k acc _ x hI hD hx hacc (by omega)
  · have e : k = items.length := by omega
    subst e
    exact .inl ⟨Y.stop H (hG _ _ _ hI hD), hd acc H hI hD hacc⟩
/-- behind k turns of a dict's comprehension -/
def DcN (I : Nat → List (Key × V) → Hp → Prop) (D : Addr) (k : Nat) (H : Hp) : Prop := ∃ kvs, H D = some (.dK kvs) ∧ kvs.length ≤ k ∧ I k kvs H
theorem dc_take {I : Nat → List (Key × V) → Hp → Prop} {D : Addr} {k : Nat} {H5 : Hp} {key : Key} {z : V} {kvs : List (Key × V)} (h : H5 D = some (.dK kvs)) (l : kvs.length ≤ k) (hk : k < 1000000) (q : I (k + 1) (putK kvs key z) (upd H5 D (.dK (putK kvs key z)))) :
    ∃ kvs k', (kV key) = kV k' ∧ H5 D = some (.dK kvs) ∧ kvs.length < sizeLine ∧ DcN I D (k + 1) (upd H5 D (.dK (putK kvs k' z))) :=
  ⟨kvs, key, rfl, h, small_lt (by omega), _, upd_same, by have := length_putK kvs key z; omega, q⟩
theorem dc_skip {I : Nat → List (Key × V) → Hp → Prop} {D : Addr} {k : Nat} {H5 : Hp} {kvs : List (Key × V)} (h : H5 D = some (.dK kvs)) (l : kvs.length ≤ k) (q : I (k + 1) kvs H5) : DcN I D (k + 1) H5 := ⟨kvs, h, by omega, q⟩
theorem dcG {J : It} {items : List V} {G : Hp → Prop} {H1 : Hp} {D : Addr} {σ : L2.St} {vs : List Nat} {g : TG} {tt : TT} {tk tv : TE} {Q : Hp → Prop} (Y : Yields J items G) (I : Nat → List (Key × V) → Hp → Prop)
    (hG : ∀ k kvs H, I k kvs H → H D = some (.dK kvs) → G H) (h0 : I 0 [] (upd H1 D (.dK [])))
    (hs : ∀ k kvs H x, I k kvs H → H D = some (.dK kvs) → items[k]? = some x → kvs.length ≤ k → k < 1000000 → g x (wipe σ vs) H fun σ2 H2 => wipe σ2 vs = wipe σ vs ∧ tt σ2 H2 fun b H3 =>
      if b = true then tk σ2 H3 fun y H4 => tv σ2 H4 fun z H5 => ∃ kvs key, y = kV key ∧ H5 D = some (.dK kvs) ∧ kvs.length < sizeLine ∧ DcN I D (k + 1) (upd H5 D (.dK (putK kvs key z))) else DcN I D (k + 1) H3)
    (hl : items.length ≤ 1000000) (hd : ∀ kvs H, I items.length kvs H → H D = some (.dK kvs) → kvs.length ≤ items.length → Q H) :
    ∃ W : Nat → Nat → Hp → Prop, (∃ m, W 0 m (upd H1 D (.dK []))) ∧ ∀ k m H, W k m H →
      (J.stop k H ∧ Q H) ∨ (J.go k H ∧ ∃ Nx : Hp → Prop, (∀ H', Nx H' → ∃ m', m' < m ∧ W (k + 1) m' H') ∧ ∀ x H', J.yld k H x H' → g x (wipe σ vs) H' fun σ2 H2 => wipe σ2 vs = wipe σ vs ∧ tt σ2 H2 fun b H3 =>
        if b = true then tk σ2 H3 fun y H4 => tv σ2 H4 fun z H5 => ∃ kvs key, y = kV key ∧ H5 D = some (.dK kvs) ∧ kvs.length < sizeLine ∧ Nx (upd H5 D (.dK (putK kvs key z))) else Nx H3) := by
  refine ⟨fun k m H => m = items.length - k ∧ k ≤ items.length ∧ DcN I D k H, ⟨items.length, by omega, Nat.zero_le _, [], upd_same, Nat.zero_le _, h0⟩, ?_⟩
  rintro k m H ⟨rfl, hk, kvs, hD, hacc, hI⟩
  by_cases hlt : k < items.length
  · refine .inr ⟨Y.go k H (hG _ _ _ hI hD) hlt, DcN I D (k + 1), fun H' q => ⟨items.length - (k + 1), by omega, rfl, hlt, q⟩, fun x H' y => ?_⟩
    obtain ⟨rfl, hx⟩ := Y.yld k H x H' hlt (hG _ _ _ hI hD) y
    exact hs k kvs _ x hI hD hx hacc (by omega)
  · have e : k = items.length := by omega
    subst e
    exact .inl ⟨Y.stop H (hG _ _ _ hI hD), hd kvs H hI hD hacc⟩
/-! ### walks -/
theorem forG {J : It} {items : List V} {G : Hp → Prop} {g : TG} {tb : TS} {D : Ends} {σ : L2.St} {H : Hp} (Y : Yields J items G) (Pv : Nat → L2.St → Hp → Prop) (h0 : Pv 0 σ H) (hG : ∀ i σ H, Pv i σ H → G H)
    (hs : ∀ i x σ H, items[i]? = some x → Pv i σ H → g x σ H fun σ2 H2 => tb { D with nx := Pv (i + 1), ct := Pv (i + 1), bk := D.nx } σ2 H2) (hd : ∀ σ H, Pv items.length σ H → D.nx σ H) :
    ∃ W : Nat → Nat → L2.St → Hp → Prop, (∃ m, W 0 m σ H) ∧ ∀ i m σ H, W i m σ H →
      (J.stop i H ∧ D.nx σ H) ∨ (J.go i H ∧ ∃ N : L2.St → Hp → Prop, (∀ σ' H', N σ' H' → ∃ m', m' < m ∧ W (i + 1) m' σ' H') ∧ ∀ x H', J.yld i H x H' → g x σ H' fun σ2 H2 => tb { D with nx := N, ct := N, bk := D.nx } σ2 H2) := by
  refine ⟨fun i m σ H => m = items.length - i ∧ i ≤ items.length ∧ Pv i σ H, ⟨items.length, by omega, Nat.zero_le _, h0⟩, ?_⟩
  rintro i m σ H ⟨rfl, hi, p⟩
  by_cases hlt : i < items.length
  · refine .inr ⟨Y.go i H (hG _ _ _ p) hlt, Pv (i + 1), fun σ' H' p' => ⟨items.length - (i + 1), by omega, rfl, hlt, p'⟩, fun x H' y => ?_⟩
    obtain ⟨rfl, hx⟩ := Y.yld i H x H' hlt (hG _ _ _ p) y
    exact hs i x σ _ hx p
  · have e : i = items.length := by omega
    subst e
    exact .inl ⟨Y.stop H (hG _ _ _ p), hd σ H p⟩
/-! ### a raise within a locked walk -/
/-- what is let out of a locked walk, told of the heap with the lock off -/
def wLock (X : Cx) (W : WX) : WX := fun cls dd σ H => ∃ (d : Addr) (od : Obj) (u : HO), H d = some (.frz od u) ∧ (∀ o' u', X.H_0 d ≠ some (.frz o' u')) ∧ W cls dd σ (upd H d u)
theorem takes_lock {X : Cx} {W : WX} (tk : Takes X W) : Takes X (wLock X W) := by
  rintro v s' ⟨a, B, sI, pins, σ, H, cls, dd, e, I, nb, up, sky, na, os, ag, d, od, u, hd, hn, w⟩
  refine tk v s' ⟨a, B, sI, pins, σ, upd H d u, cls, dd, e, I.unlock hd hn, nb, up, sky, ?_, os, ag, w⟩
  rw [upd_ne (fun z => by rw [z, hd] at na; cases na)]
  exact na
end Fk

set_option maxHeartbeats 4000000
/-! A dict's comprehension that is given a name; tables with texts as keys; texts in order. -/
namespace Fk
open PySem PySem.Spec PyProof.Rows L2
section
variable {X : Cx}
theorem sw_trueD {kx vx : Expr} {gs : List Comprehension} {scope : Scope} {pos py : Pos} {y : Str} {l : Nat} {env : Env} (hk : env.scope.kind = .function) (hy : env.scope.names.lookup y = some .local) (hl : (py.line == pos.line) = true)
    (ha : (scope.names.any fun (n, k) => n == y && (k == .local || k == .cell)) = false) : swapsWith (.DictComp kx vx gs scope pos) (some (.Name y py)) l env = pure true := by
  have ky : env.kindOf y = some .local := hy
  have hb : env.blockKind = .function := by unfold Env.blockKind; rw [hk]; rfl
  unfold swapsWith
  simp only [hb, ky, ha, Expr.pos, hl]
  rfl
/-- name = {k: v for ..} on one line, the name a local -/
theorem ps_setDc {i : Nat} {y : Str} {py : Pos} {kx vx tg iter : Expr} {ifs : List Expr} {scope : Scope} {own : List (Str × Nat)} {pos spos : Pos} {wi : TI} {g : TG} {tt : TT} {tk tv : TE} (hc : X.calm = true) (hN : X.N.Nodup) (hy : X.N[i]? = some y) (hyl : X.env.scope.names.lookup y = some .local)
    (hsw : swapsWith (.DictComp kx vx [⟨tg, iter, ifs, 0⟩] scope pos) (some (.Name y py)) spos.line X.env = pure true) (hi : PI X tg iter wi) (ok : BlkOk X.N X.env.scope scope own)
    (hg : ∀ (s : Shared) (H : Hp) (C : Addr) (cl : List (Str × Addr)) (fp : List Addr), PG (X.blk s H scope (compEnvC scope cl C X.env) fp) tg g) (ht : ∀ (s : Shared) (H : Hp) (C : Addr) (cl : List (Str × Addr)) (fp : List Addr), PTs (X.blk s H scope (compEnvC scope cl C X.env) fp) ifs tt)
    (hk : ∀ (s : Shared) (H : Hp) (C : Addr) (cl : List (Str × Addr)) (fp : List Addr), PE (X.blk s H scope (compEnvC scope cl C X.env) fp) kx tk)
    (he : ∀ (s : Shared) (H : Hp) (C : Addr) (cl : List (Str × Addr)) (fp : List Addr), PE (X.blk s H scope (compEnvC scope cl C X.env) fp) vx tv) (hs : ∀ x, foldedSetIterable iter X.env x = pure x := by intro _; rfl) :
    PS X (.Assign [.Name y py] (.DictComp kx vx [⟨tg, iter, ifs, 0⟩] scope pos) spos) (tAsg (tDc wi g tt tk tv (own.map (·.2))) (gName i)) := by
  refine ⟨fun pins s σ H D I h => ?_⟩
  rw [exec_Assign_Name_used _ _ _ _ hsw]
  refine wpAny_bind (wpAny_standAt (wpAny_bind ?_))
  show wpAny _ X.A (do let _ ← comprehension (.DictComp kx vx [⟨tg, iter, ifs, 0⟩] scope pos) scope X.env (firstIterPos [⟨tg, iter, ifs, 0⟩] pos) newDict false (eval iter X.env) (some (assign (.Name y py) X.env))) _ _ s
  have h : tDc wi g tt tk tv (own.map (·.2)) σ H (fun x H1 => gName i x σ H1 D.nx) := h
  refine wpAny_bind (thn (dc_core (Qf := fun _ s' => SP X pins D .next s') hc hN I hi ok hg ht hk he hs h fun L C s' m H' I' q hn f => ?_) fun _ s' hq => wpAny_pure (wpAny_pure hq))
  show wpAny _ _ (assign (.Name y py) X.env (.ref L)) _ _ _
  refine wpAny_assign_Name (store_ok2 (v := V.ref L) I' hN hy (.inl hyl) rfl (fun s2 I2 ⟨a, sb, ha⟩ => ?_) (.inr hyl))
  obtain ⟨f0, f1, f2, f3, f4, f5⟩ := f
  have haC : C ≠ a := by
    rcases ha with z | z
    · rw [z]; exact f1
    · exact fun e => f4 y a z e.symm
  refine ⟨m, hn.sameBut sb haC, fun h3 sb3 => ?_⟩
  exact ⟨_, H', I2.turned (t' := s2.toks) (fun b o hb e => (sb3.2 b hb).trans e) f0 f1 f3 f4 f5, q⟩
end
/-! ### tables with texts as keys -/
abbrev Tab := List (Str × V)
def kT (t : Tab) : List (Key × V) := t.map fun p => (.inr p.1, p.2)
theorem valV_kT (t : Tab) (x : Str) : valV (kT t) (.inr x) = valV t x := by
  induction t with
  | nil => rfl
  | cons p r ih =>
    show valV ((.inr p.1, p.2) :: kT r) (.inr x) = _
    by_cases h : p.1 = x
    · rw [valV_pos (show (Sum.inr p.1 : Key) = .inr x by rw [h]), valV_pos h]
    · rw [valV_neg (fun e => h (Sum.inr.inj e)), valV_neg h, ih]
theorem any_kT (t : Tab) (x : Str) : ((kT t).any fun kv => decide (kv.1 = .inr x)) = t.any fun kv => decide (kv.1 = x) := by
  rw [valV_any, valV_any, valV_kT]
theorem putK_kT (t : Tab) (x : Str) (v : V) : putK (kT t) (.inr x) v = kT (putK t x v) := by
  unfold putK
  rw [any_kT]
  split
  · unfold kT
    rw [List.map_map, List.map_map]
    refine List.map_congr_left fun p _ => ?_
    show (if (Sum.inr p.1 : Key) = .inr x then _ else _) = _
    by_cases h : p.1 = x
    · rw [if_pos (by rw [h])]
      show _ = ((Sum.inr (if p.1 = x then (p.1, v) else p).1, (if p.1 = x then (p.1, v) else p).2) : Key × V)
      rw [if_pos h]
    · rw [if_neg (fun e => h (Sum.inr.inj e))]
      show _ = ((Sum.inr (if p.1 = x then (p.1, v) else p).1, (if p.1 = x then (p.1, v) else p).2) : Key × V)
      rw [if_neg h]
  · unfold kT
    rw [List.map_append]
    rfl
theorem dropK_kT (t : Tab) (x : Str) : dropK (kT t) (.inr x) = kT (dropK t x) := by
  unfold dropK kT
  rw [List.filter_map]
  congr 1
  refine List.filter_congr fun p _ => ?_
  show decide ((Sum.inr p.1 : Key) ≠ .inr x) = decide (p.1 ≠ x)
  exact decide_eq_decide.mpr ⟨fun n e => n (by rw [e]), fun n e => n (Sum.inr.inj e)⟩
theorem keys_kT (t : Tab) : (kT t).map (·.1) = (t.map (·.1)).map Sum.inr := by
  unfold kT
  rw [List.map_map, List.map_map]
  rfl
theorem kV_kT (t : Tab) : ((kT t).map fun p => kV p.1) = (t.map (·.1)).map V.str := by
  unfold kT
  rw [List.map_map, List.map_map]
  rfl
theorem len_kT (t : Tab) : (kT t).length = t.length := List.length_map ..
/-- what a[x] is -/
theorem dget_kT {H : Hp} {a : Addr} {t : Tab} (h : Rd H a (.dK (kT t))) (x : Str) : DGet H a (.str x) (valV t x) := .inl ⟨kT t, .inr x, h, rfl, (valV_kT t x).symm⟩
theorem valV_drop {κ : Type} [DecidableEq κ] (t : List (κ × V)) (x y : κ) : valV (dropK t x) y = if y = x then none else valV t y := by
  induction t with
  | nil => split <;> rfl
  | cons p r ih =>
    by_cases h : p.1 = x
    · rw [dropK_pos h, ih]
      by_cases e : y = x
      · rw [if_pos e, if_pos e]
      · rw [if_neg e, if_neg e, valV_neg (fun z => e (by rw [← z, h]))]
    · rw [dropK_neg h]
      by_cases e : p.1 = y
      · rw [valV_pos e, valV_pos e, if_neg (fun z => h (by rw [e, z]))]
      · rw [valV_neg e, valV_neg e, ih]
/-- no key twice -/
def Nd (t : Tab) : Prop := (t.map (·.1)).Nodup
theorem nd_put {t : Tab} (h : Nd t) (x : Str) (v : V) : Nd (putK t x v) := by
  cases e : valV t x with
  | none => exact nd_putK v h e
  | some u =>
    unfold Nd putK
    rw [if_pos (by rw [valV_any, e]; rfl), List.map_map]
    have : ((fun p : Str × V => p.1) ∘ fun kv : Str × V => if kv.1 = x then (kv.1, v) else kv) = fun p => p.1 := by
      funext p
      show (if p.1 = x then (p.1, v) else p).1 = p.1
      split <;> rfl
    rw [this]
    exact h
theorem nd_drop {t : Tab} (h : Nd t) (x : Str) : Nd (dropK t x) := nd_dropK h
theorem mem_val {t : Tab} {x : Str} : x ∈ t.map (·.1) ↔ (valV t x).isSome = true := by
  rw [← valV_any, List.any_eq_true]
  constructor
  · intro m
    obtain ⟨p, hp, e⟩ := List.mem_map.mp m
    exact ⟨p, hp, decide_eq_true e⟩
  · rintro ⟨p, hp, e⟩
    exact List.mem_map.mpr ⟨p, hp, of_decide_eq_true e⟩
/-- tables with the same keys -/
theorem keys_perm {t u : Tab} (ht : Nd t) (hu : Nd u) (h : ∀ x, (valV t x).isSome = (valV u x).isSome) : (t.map (·.1)).Perm (u.map (·.1)) :=
  (List.perm_ext_iff_of_nodup ht hu).mpr fun x => by rw [mem_val, mem_val, h]
/-! ### texts in order -/
def leS (a b : Str) : Prop := ¬ b.cps.toList < a.cps.toList
theorem leS_trans {a b c : Str} (h : leS a b) (k : leS b c) : leS a c := by
  unfold leS at *
  intro z
  exact h (List.lt_of_le_of_lt (List.not_lt.mp k) z)
theorem str_ext {a b : Str} (h : a.cps.toList = b.cps.toList) : a = b := by
  cases a; cases b
  congr 1
  exact Array.toList_inj.mp h
theorem leS_anti {a b : Str} (h : leS a b) (k : leS b a) : a = b := str_ext (List.le_antisymm (List.not_lt.mp h) (List.not_lt.mp k))
theorem rising_pw : ∀ (l : List Str) (p : Str), risingS p l = true → (p :: l).Pairwise leS
  | [], p, _ => List.pairwise_singleton _ _
  | x :: r, p, h => by
    have h : (!ltCps x.cps.toList p.cps.toList && risingS x r) = true := h
    obtain ⟨h1, h2⟩ := Bool.and_eq_true_iff.mp h
    have ih := rising_pw r x h2
    have px : leS p x := fun z => by
      rw [ltCps_eq, decide_eq_true z] at h1
      exact absurd h1 (by decide)
    refine List.pairwise_cons.mpr ⟨fun y hy => ?_, ih⟩
    rcases List.mem_cons.mp hy with e | hy
    · rw [e]
      exact px
    · exact leS_trans px ((List.pairwise_cons.mp ih).1 y hy)
theorem sorted_pw {l : List Str} (h : sortedS l = true) : l.Pairwise leS := by
  cases l with
  | nil => exact List.Pairwise.nil
  | cons x r => exact rising_pw r x h
theorem pw_uniq : ∀ {l m : List Str}, l.Pairwise leS → m.Pairwise leS → l.Perm m → l = m
  | [], m, _, _, p => (List.nil_perm.mp p).symm ▸ rfl
  | a :: r, [], _, _, p => absurd (List.perm_nil.mp p) (by simp)
  | a :: r, b :: s, h, k, p => by
    obtain ⟨h1, h2⟩ := List.pairwise_cons.mp h
    obtain ⟨k1, k2⟩ := List.pairwise_cons.mp k
    have e : a = b := by
      rcases List.mem_cons.mp (p.mem_iff.mp List.mem_cons_self) with z | z
      · exact z
      · rcases List.mem_cons.mp (p.mem_iff.mpr (List.mem_cons_self (a := b))) with y | y
        · exact y.symm
        · exact leS_anti (h1 b y) (k1 a z)
    subst e
    rw [pw_uniq h2 k2 ((List.perm_cons a).mp p)]
theorem sort_uniq {l m : List Str} (h : sortedS l = true) (k : sortedS m = true) (p : l.Perm m) : l = m := pw_uniq (sorted_pw h) (sorted_pw k) p
end Fk

set_option maxHeartbeats 4000000
/-! Statements that are never come to; methods with a keyword; methods that may raise. -/
namespace Fk
open PySem PySem.Spec PyProof.Rows L2
section
variable {X : Cx}
/-- what is never come to -/
theorem ps_never {st : Stmt} : PS X st (fun _ _ _ => False) := ⟨fun _ _ _ _ _ _ h => h.elim⟩
theorem pe_never {e : Expr} : PE X e (fun _ _ _ => False) := ⟨fun _ _ _ _ _ _ h => h.elim⟩
variable {k j : Nat} {C : Addr} {m : Str} {sp : Sp} {E : L2.St → XK} {o e : Expr} {es : List Expr} {kws : List Keyword} {ta : TE} {t tk : TA} {pos apos : Pos} {ks : List Str} {gV : List V → List V → List V}
/-- a method with these keywords -/
structure MetK (P : Program) (w : World) (K : PySem.W.Frag) (mg : Str → Option Value) (base : Heap) (k : Nat) (C : Addr) (m : Str) (sp : Sp) (ks : List Str) (gV : List V → List V → List V) : Prop where
  ex : ∃ (f : Addr) (fd : FuncData) (ps : List Str) (g : List Value → List Value → List Value), Cls K C ∧ Meth K C m f ∧ FnOk P w K mg base C8.CX0 k f fd ps sp ∧ KBinds K fd ps ks g gV
def tMeK (C : Addr) (m : Str) (sp : Sp) (gV : List V → List V → List V) (ta : TE) (t tk : TA) : TE := fun σ H Q => ta σ H fun x H1 => ∃ (a dx : Addr) (fs : List (Str × V)), x = .ref a ∧ H1 a = some (.ins C dx fs) ∧ fs.lookup m = none ∧
  t σ H1 fun vs H2 => tk σ H2 fun zs H3 => sp (gV (x :: vs) zs) H3 Q C8.E0
/-- o.m(e, .., k = v, ..) -/
theorem pe_mtK {pl : Sem Bool} (c : MetK X.prog X.w X.K X.mg X.base k C m sp ks gV) (hr : Room j X.A) (hk : k ≤ j) (he : PE X o ta) (ha : PA X (e :: es) t) (hkw : PK X kws tk)
    (hall : (backToKw pos (keywordEach kws X.env)).all (·.1.isSome) = true := by rfl) (hks : (backToKw pos (keywordEach kws X.env)).filterMap (·.1) = ks := by rfl)
    (hst : starEach (e :: es) X.env = (false, eval e X.env) :: starEach es X.env := by rfl) (hpl : ((backTo pos (starEach (e :: es) X.env)).any (·.1) || (backToKw pos (keywordEach kws X.env)).any (·.1.isNone)) = false := by rfl)
    (ht : eval (.Call (.Attribute o m apos) (e :: es) kws pos) X.env = (do
      let ov ← eval o X.env
      standAt apos.atName
      let (f, first) ← holding [ov] (getMethod ov m pl)
      callWith pos f first (backTo pos (starEach (e :: es) X.env)) (backToKw pos (keywordEach kws X.env))) := by rfl) :
    PE X (.Call (.Attribute o m apos) (e :: es) kws pos) (tMeK C m sp gV ta t tk) := by
  obtain ⟨f, fd, ps, g, cl, hm, F, b⟩ := c.ex
  refine ⟨fun pins s σ H Q I h => ?_⟩
  refine PySem.W.methodCall_KW (pl := pl) (thn (he.run pins s σ H _ I h) fun u s1 ⟨x, H1, I1, rx, a, dx, fs, ex, ea, l, q⟩ => ?_) ht
  subst ex
  obtain rfl : u = Value.ref a := rx
  refine getmeth_ok I1 ea cl hm l ?_
  refine PySem.W.callWith_KW (first := [.ref a]) (h₀ := X.base) I.ok.mod.kin hm.kp hall (thn (ha.run pos pins s1 σ H1 _ I1 q) fun us s2 ⟨vs, H2, I2, r, q2⟩ => ?_) hpl hst
  refine thn (hkw.run pos pins s2 σ H2 _ I2 q2) fun ws s3 ⟨zs, H3, I3, rz, q3⟩ => ⟨I3.kIn, ?_⟩
  rw [hks]
  exact run_fnk F (hr.mono hk) b C8.pass0 I3 (show Vals (.ref a :: vs) (.ref a :: us) from .cons rfl r) rz q3
end
section
variable {P : Program} {w : World} {K : PySem.W.Frag} {mg : Str → Option Value} {base : Heap}
/-- a method of the text as it stands behind the top, with no defaults -/
structure MDef (K : PySem.W.Frag) (C : Addr) (m qual : Str) (st : Stmt) : Prop where
  ex : ∃ (f : Addr) (fd : FuncData), C8.Fun K m qual st f fd ∧ Meth K C m f ∧ fd.defaults = .none
theorem met_of {m qual : Str} {C : Addr} {st : Stmt} {N ps : List Str} {k : Nat} {sp : Sp} (c : Cls K C) (D : MDef K C m qual st) (S : FnScope N ps (C8.fnScope st))
    (hb : ∀ (kV doc pm : Value) (an : Option Addr) (cdv ct : Value) (us : List Value), us.length = ps.length → bindArgs (PySem.W.fnOf m qual (C8.fnArgs st) (C8.fnBody st) (C8.fnScope st) .none kV doc pm an cdv ct) ⟨us, []⟩ = pure (ps.zip us))
    (len : ∀ vs H Q E, sp vs H Q E → vs.length = ps.length)
    (hbody : ∀ (f : Addr) (cdv : Value) (A : Around) (outer : List Env) (s : Shared) (H : Hp) (vs : List V) (Q : VK) (E : XK), Room k (A.deeper (envOfC qual (C8.fnScope st) s.heap.objs.size f cdv)) → sp vs H Q E →
      ∃ t, PSs (cxOf C8.CX0 P w K mg base N qual (C8.fnScope st) f cdv A outer s H E).nox (C8.fnBody st) t ∧ t { nx := fun _ H' => Q .non H', rt := Q } (start N vs) H) : C8.Met P w K mg base (k + 1) C m sp [] := by
  obtain ⟨f, fd, F, M, df⟩ := D.ex
  exact C8.met0 c M F (F.binds df hb) S len (hbody f)
/-- a method that may let errors out -/
theorem metX_of {m qual : Str} {C : Addr} {st : Stmt} {N ps : List Str} {k : Nat} {sp : Sp} (c : Cls K C) (D : MDef K C m qual st) (S : FnScope N ps (C8.fnScope st))
    (hb : ∀ (kV doc pm : Value) (an : Option Addr) (cdv ct : Value) (us : List Value), us.length = ps.length → bindArgs (PySem.W.fnOf m qual (C8.fnArgs st) (C8.fnBody st) (C8.fnScope st) .none kV doc pm an cdv ct) ⟨us, []⟩ = pure (ps.zip us))
    (len : ∀ vs H Q E, sp vs H Q E → vs.length = ps.length)
    (hbody : ∀ (f : Addr) (cdv : Value) (A : Around) (outer : List Env) (s : Shared) (H : Hp) (vs : List V) (Q : VK) (E : XK), Room k (A.deeper (envOfC qual (C8.fnScope st) s.heap.objs.size f cdv)) → sp vs H Q E →
      ∃ t, PSs (cxOf (L2.CX P w) P w K mg base N qual (C8.fnScope st) f cdv A outer s H E) (C8.fnBody st) t ∧ t { nx := fun _ H' => Q .non H', rt := Q } (start N vs) H) : MetX P w K mg base (L2.CX P w) (k + 1) C m sp [] := by
  obtain ⟨f, fd, F, M, df⟩ := D.ex
  obtain ⟨oc, od, dV, kV, doc, pm, an, cdv, ct, osl, rfl, lk, hcd⟩ := F.ex
  exact ⟨f, _, ps, [], c, M, fn_of lk hcd S len fun A outer s H vs Q E hr hsp => hbody f cdv A outer s H vs Q E hr hsp, F.binds df hb, .nil⟩
end
end Fk

set_option maxHeartbeats 4000000
/-! A comprehension with two fors that changes nothing; the prefixes of paths. -/
namespace Fk
open PySem PySem.Spec PyProof.Rows L2
theorem same_frl {D : Addr} {H1 H H' : Hp} (h : H1 D = none) (s : Same H1 H) (f : FrL [D] H H') : Same H1 H' := fun b o e => f b o (fun z => by
  rw [List.mem_singleton.mp z, h] at e
  cases e) (s b o e)
theorem lc2_pure {α β : Type} {J : It} {us : List α} {g : α → V} {h : β → V} {G : Hp → Prop} {H1 : Hp} {D : Addr} {σ : L2.St} {vs : List Nat} {i j : Nat} {wi1 : TI} {te : TE} {Q : Hp → Prop} (Y : Yields J (us.map g) G) (fs : α → List β) (f : α → β → V) (hD1 : H1 D = none) (hG : ∀ H, Same H1 H → G H)
    (e1 : ∀ x, wipe ((wipe σ vs).set i (some x)) vs = wipe σ vs)
    (e2 : ∀ x y, wipe ((wipe ((wipe σ vs).set i (some x)) [j]).set j (some y)) [j] = wipe ((wipe σ vs).set i (some x)) [j])
    (hw : ∀ H u, Same H1 H → H D ≠ none → u ∈ us → ∀ (R : It → Hp → Prop), (∀ J1 G1 H3, Yields J1 ((fs u).map h) G1 → Same H H3 → (∀ H', FrL [D] H3 H' → G1 H') → R J1 H3) → wi1 ((wipe σ vs).set i (some (g u))) H R)
    (he : ∀ H u w, Same H1 H → u ∈ us → w ∈ fs u → ∀ (R : VK), (∀ H3, Same H H3 → R (f u w) H3) → te ((wipe ((wipe σ vs).set i (some (g u))) [j]).set j (some (h w))) H R)
    (hl : (us.flatMap fs).length ≤ 1000000) (hd : ∀ H, Same H1 H → H D = some (.lst (us.flatMap fun u => (fs u).map (f u))) → Q H) :
    ∃ W : Nat → Nat → Hp → Prop, (∃ m, W 0 m (upd H1 D (.lst []))) ∧ ∀ k m H, W k m H →
      (J.stop k H ∧ Q H) ∨ (J.go k H ∧ ∃ Nx : Hp → Prop, (∀ H', Nx H' → ∃ m', m' < m ∧ W (k + 1) m' H') ∧ ∀ x H', J.yld k H x H' → gName i x (wipe σ vs) H' fun σ2 H2 => wipe σ2 vs = wipe σ vs ∧ tYes σ2 H2 fun b H3 =>
        if b = true then wi1 σ2 H3 fun J1 H4 => ∃ W1 : Nat → Nat → Hp → Prop, (∃ m, W1 0 m H4) ∧ ∀ k2 m2 H, W1 k2 m2 H →
          (J1.stop k2 H ∧ Nx H) ∨ (J1.go k2 H ∧ ∃ Nx1 : Hp → Prop, (∀ H', Nx1 H' → ∃ k', k' < m2 ∧ W1 (k2 + 1) k' H') ∧ ∀ x H', J1.yld k2 H x H' → gName j x (wipe σ2 [j]) H' fun σ3 H5 => wipe σ3 [j] = wipe σ2 [j] ∧ tYes σ3 H5 fun b H6 =>
            if b = true then te σ3 H6 fun y H7 => ∃ acc, H7 D = some (.lst acc) ∧ acc.length < sizeLine ∧ Nx1 (upd H7 D (.lst (acc ++ [y]))) else Nx1 H6)
        else Nx H3) := by
  refine ⟨fun k m H => m = us.length - k ∧ k ≤ us.length ∧ Same H1 H ∧ H D = some (.lst ((us.take k).flatMap fun u => (fs u).map (f u))), ⟨us.length, by omega, Nat.zero_le _, same_new hD1, upd_same⟩, ?_⟩
  rintro k m H ⟨rfl, hk, sm, hD⟩
  by_cases hlt : k < us.length
  · refine .inr ⟨Y.go k H (hG _ sm) (by rw [List.length_map]; exact hlt), fun H' => Same H1 H' ∧ H' D = some (.lst ((us.take (k + 1)).flatMap fun u => (fs u).map (f u))), fun H' q => ⟨us.length - (k + 1), by omega, rfl, hlt, q⟩, fun x H' y => ?_⟩
    obtain ⟨rfl, hx⟩ := Y.yld k H x H' (by rw [List.length_map]; exact hlt) (hG _ sm) y
    rw [List.getElem?_map, List.getElem?_eq_getElem hlt] at hx
    obtain rfl := Option.some.inj hx
    have hu : us[k] ∈ us := List.getElem_mem hlt
    refine ⟨e1 _, ?_⟩
    dsimp only [tYes]
    first | rw [if_pos (rfl : true = true)] | skip
    refine hw _ us[k] sm (by rw [hD]; exact fun z => nomatch z) hu _ fun J1 G1 H3 Y1 s3 hG1 => ?_
    have et : us.take (k + 1) = us.take k ++ [us[k]] := by rw [List.take_add_one, List.getElem?_eq_getElem hlt]; rfl
    have total : ((us.take k).flatMap fun u => (fs u).map (f u)).length + (fs us[k]).length ≤ 1000000 := by
      have e : us.flatMap fs = ((us.take (k + 1)) ++ us.drop (k + 1)).flatMap fs := by rw [List.take_append_drop]
      rw [e, List.flatMap_append, et, List.flatMap_append, List.length_append, List.length_append] at hl
      have e2 : ∀ l : List α, (l.flatMap fun u => (fs u).map (f u)).length = (l.flatMap fs).length := fun l => by
        induction l with
        | nil => rfl
        | cons a r ih => rw [List.flatMap_cons, List.flatMap_cons, List.length_append, List.length_append, ih, List.length_map]
      rw [e2]
      have : ([us[k]].flatMap fs).length = (fs us[k]).length := by simp
      omega
    refine ⟨fun k2 m2 H => m2 = (fs us[k]).length - k2 ∧ k2 ≤ (fs us[k]).length ∧ FrL [D] H3 H ∧ H D = some (.lst (((us.take k).flatMap fun u => (fs u).map (f u)) ++ ((fs us[k]).take k2).map (f us[k]))),
      ⟨(fs us[k]).length, by omega, Nat.zero_le _, FrL.refl _ _, by rw [List.take_zero, List.map_nil, List.append_nil]; exact s3 _ _ hD⟩, ?_⟩
    rintro k2 m2 H5 ⟨rfl, hk2, f5, hD5⟩
    by_cases hlt2 : k2 < (fs us[k]).length
    · refine .inr ⟨Y1.go k2 H5 (hG1 _ f5) (by rw [List.length_map]; exact hlt2), _, fun H' q => ⟨(fs us[k]).length - (k2 + 1), by omega, rfl, hlt2, q⟩, fun x H' y => ?_⟩
      obtain ⟨rfl, hx⟩ := Y1.yld k2 H5 x H' (by rw [List.length_map]; exact hlt2) (hG1 _ f5) y
      rw [List.getElem?_map, List.getElem?_eq_getElem hlt2] at hx
      obtain rfl := Option.some.inj hx
      refine ⟨e2 _ _, ?_⟩
      first | rw [if_pos (rfl : true = true)] | skip
      have s5 : Same H1 _ := same_frl hD1 (sm.trans s3) f5
      refine he _ us[k] (fs us[k])[k2] s5 hu (List.getElem_mem hlt2) _ fun H6 s6 => ?_
      refine ⟨_, s6 _ _ hD5, small_lt (by rw [List.length_append, List.length_map, List.length_take]; omega), FrL.trans (f5.trans (FrL.same s6)) (FrL.at (List.mem_singleton_self D)), ?_⟩
      rw [upd_same, List.take_add_one, List.getElem?_eq_getElem hlt2, List.append_assoc, List.map_append]
      rfl
    · have e : k2 = (fs us[k]).length := by omega
      subst e
      refine .inl ⟨by have := Y1.stop H5 (hG1 _ f5); rw [List.length_map] at this; exact this, same_frl hD1 (sm.trans s3) f5, ?_⟩
      rw [hD5, et, List.flatMap_append, List.take_length]
      simp
  · have e : k = us.length := by omega
    subst e
    refine .inl ⟨by have := Y.stop H (hG _ sm); rw [List.length_map] at this; exact this, hd _ sm ?_⟩
    rw [hD, List.take_length]
/-! ### prefixes -/
def prefixesF (x : Str) : List Str := (List.range ((segs x).length - 1)).map fun k => Txt.join "/" ((segs x).take (k + 1))
def haveF (ks : List Str) : Bool := ks.any fun x => (prefixesF x).any fun y => decide (y ∈ ks)
theorem have_perm {ks ls : List Str} (h : ks.Perm ls) : haveF ks = haveF ls := by
  have e : ∀ a b : List Str, a.Perm b → haveF a = true → haveF b = true := fun a b p z => by
    obtain ⟨x, hx, z⟩ := List.any_eq_true.mp z
    obtain ⟨y, hy, z⟩ := List.any_eq_true.mp z
    exact List.any_eq_true.mpr ⟨x, p.mem_iff.mp hx, List.any_eq_true.mpr ⟨y, hy, decide_eq_true (p.mem_iff.mp (of_decide_eq_true z))⟩⟩
  cases c : haveF ls with
  | true => exact e ls ks h.symm c
  | false => exact Bool.eq_false_iff.mpr fun z => by rw [e ks ls h z] at c; cases c
theorem pre_len (x : Str) (h : x.length ≤ 100000) : (prefixesF x).length ≤ 100000 := by
  unfold prefixesF
  rw [List.length_map, List.length_range]
  have := (segs_len x h).1
  omega
theorem any_flat {α β : Type} (us : List α) (fs : α → List β) (f : α → β → Bool) : (us.flatMap fun u => (fs u).map (f u)).any id = us.any fun u => (fs u).any (f u) := by
  induction us with
  | nil => rfl
  | cons a r ih => rw [List.flatMap_cons, List.any_append, ih, List.any_cons, List.any_map]; rfl
end Fk
namespace Fk
open PySem PySem.Spec PyProof.Rows L2
theorem segs_lens (x : Str) : (segs x).length ≤ x.length + 1 ∧ ∀ y ∈ segs x, y.length ≤ x.length := by
  have e := TL.split_spl x "/" (by decide +kernel) (TL.kind_ok (by decide +kernel))
  have e2 : ∀ l k acc, (TL.spl (TL.tl "/") k acc l).length ≤ l.length + 1 ∧ ∀ y ∈ TL.spl (TL.tl "/") k acc l, y.length ≤ acc.length + l.length := by
    intro l
    induction l with
    | nil => intro k acc; rw [TL.spl_nil]; exact ⟨Nat.le_refl _, fun y hy => by rw [List.mem_singleton.mp hy]; simp⟩
    | cons c r ih =>
      intro k acc
      cases k with
      | zero =>
        unfold TL.spl
        split
        · obtain ⟨i1, i2⟩ := ih ((TL.tl "/").length - 1) []
          refine ⟨by simp only [List.length_cons]; omega, fun y hy => ?_⟩
          rcases List.mem_cons.mp hy with rfl | hy
          · simp only [List.length_cons]; omega
          · have := i2 y hy
            simp only [List.length_cons, List.length_nil] at this ⊢
            omega
        · obtain ⟨i1, i2⟩ := ih 0 (acc ++ [c])
          refine ⟨by simp only [List.length_cons]; omega, fun y hy => ?_⟩
          have := i2 y hy
          simp only [List.length_cons, List.length_append, List.length_nil] at this ⊢
          omega
      | succ k =>
        obtain ⟨i1, i2⟩ := ih k acc
        unfold TL.spl
        refine ⟨by simp only [List.length_cons]; omega, fun y hy => ?_⟩
        have := i2 y hy
        simp only [List.length_cons] at this ⊢
        omega
  obtain ⟨i1, i2⟩ := e2 (TL.tl x) 0 []
  rw [← e] at i1 i2
  rw [List.length_map, ← TL.len_tl] at i1
  refine ⟨?_, fun y hy => ?_⟩
  · show (Txt.split x "/").length ≤ _
    omega
  · have := i2 (TL.tl y) (List.mem_map_of_mem hy)
    rw [← TL.len_tl, ← TL.len_tl] at this
    simp at this
    omega
theorem sum_most (n : Nat) : ∀ ps : List Str, (∀ p ∈ ps, p.length ≤ n) → (ps.map (·.length)).sum ≤ ps.length * n := by
  intro ps h
  induction ps with
  | nil => exact Nat.zero_le _
  | cons p r ih =>
    rw [List.map_cons, List.sum_cons, List.length_cons, Nat.succ_mul]
    have := ih fun q hq => h q (List.mem_cons_of_mem _ hq)
    have := h p List.mem_cons_self
    omega
theorem cut_front {α : Type} (l : List α) (g : α → V) (k : Nat) : cutV (l.map g) none (some (1 + (k : Int))) = (l.take (k + 1)).map g := by
  have e : (1 + (k : Int)) = ((k + 1 : Nat) : Int) := by omega
  unfold cutV
  rw [e, HT.sIx_none, HT.sIx_nat, List.drop_zero, Nat.sub_zero, List.map_take]
  rcases Nat.le_total (k + 1) (l.map g).length with h | h
  · rw [Nat.min_eq_left h]
  · rw [Nat.min_eq_right h, List.take_length, List.take_of_length_le h]
/-! ### rules whose reading names the written part, within a comprehension -/
section
variable {X : Cx} {K : PySem.W.Frag} {o e : Expr} {to te : TE} {f : Str}
theorem slK_list (h : X.K = K) : SlR X (rSlL K) := h ▸ sl_list
theorem ixK_list (h : X.K = K) : IxR X (rIxL K) := h ▸ ix_list
theorem ixK_tup (h : X.K = K) : IxR X (rIxT K) := h ▸ ix_tup
theorem pi_listK {tg : Expr} (h : X.K = K) (he : PE X e te) : PI X tg e (iList K te) := h ▸ pi_list he
theorem pi_tupK {tg : Expr} (h : X.K = K) (he : PE X e te) : PI X tg e (iTup K te) := h ▸ pi_tup he
theorem pg_tupK {es : List Expr} {k : Nat} {t : TGs} {n : Nat} {pos : Pos} (h : X.K = K) (hc : X.calm = true) (hp : PGs X es t)
    (hn : (assignEach es X.env).length = n := by rfl) (hst : (assignEach es X.env).findIdx? (·.1) = none := by rfl) : PG X (.Tuple es k pos) (gTup K n t) := h ▸ pg_tup hc hp hn hst
theorem pe_fldK {pos : Pos} (h : X.K = K) (he : PE X e te) (hb : attributeBase e f X.env (eval e X.env) = eval e X.env) : PE X (.Attribute e f pos) (tFld K te f) := h ▸ pe_fld he hb
def rJoin (K : PySem.W.Frag) : V → List V → Hp → VK → Prop := fun x xs H Q => ∃ a p, ∃ ys : List Str, x = .str a ∧ xs = [.ref p] ∧ (SqL K H p (ys.map V.str) ∨ SqT K H p (ys.map V.str)) ∧
  (ys.map (·.length)).sum + ys.length * a.length ≤ 16777216 ∧ Q (.str (Txt.join a ys)) H
theorem pe_joinK {apos pos : Pos} (h : X.K = K) (ho : PE X o to) (he : PE X e te) (hs : starEach [e] X.env = [(false, eval e X.env)] := by rfl) (hbase : attributeBase o "join" X.env (eval o X.env) = eval o X.env := by rfl) (hline : (apos.endLine == pos.line) = true := by rfl) :
    PE X (.Call (.Attribute o "join" apos) [e] [] pos) (tM1 (rJoin K) to te) := by
  subst h
  exact pe_join ho he hs hbase hline
end
end Fk

set_option maxHeartbeats 4000000
/-! Lists and dicts that comprehensions make of tuples; tuples of tuples. -/
namespace Fk
open PySem PySem.Spec PyProof.Rows L2
/-- at these addresses stand tuples of these things -/
def Tups (H : Hp) (as : List Addr) (ls : List (List V)) : Prop := as.length = ls.length ∧ ∀ (i : Nat) (a : Addr) (l : List V), as[i]? = some a → ls[i]? = some l → H a = some (.tup l)
def TupsAt (H : Hp) (p : Addr) (ls : List (List V)) : Prop := ∃ as : List Addr, H p = some (.tup (as.map V.ref)) ∧ Tups H as ls
/-- tuples stay -/
def TupKeep (H H' : Hp) : Prop := ∀ b xs, H b = some (.tup xs) → H' b = some (.tup xs)
theorem TupKeep.of {H H' : Hp} (s : Same H H') : TupKeep H H' := fun b xs e => s b _ e
theorem TupKeep.refl (H : Hp) : TupKeep H H := fun _ _ e => e
theorem TupKeep.trans {H H1 H2 : Hp} (a : TupKeep H H1) (b : TupKeep H1 H2) : TupKeep H H2 := fun c xs e => b c xs (a c xs e)
theorem TupKeep.at {a : Addr} {H : Hp} {o : HO} (n : ∀ xs, H a ≠ some (.tup xs)) : TupKeep H (upd H a o) := fun b xs e => by
  have z : b ≠ a := fun z => n xs (by rw [← z]; exact e)
  rw [upd_ne z]
  exact e
theorem Tups.keep {H H' : Hp} {as : List Addr} {ls : List (List V)} (t : Tups H as ls) (k : TupKeep H H') : Tups H' as ls := ⟨t.1, fun i a l h1 h2 => k _ _ (t.2 i a l h1 h2)⟩
theorem TupsAt.keep {H H' : Hp} {p : Addr} {ls : List (List V)} (t : TupsAt H p ls) (k : TupKeep H H') : TupsAt H' p ls := by
  obtain ⟨as, h, t⟩ := t
  exact ⟨as, k _ _ h, t.keep k⟩
theorem Tups.nil {H : Hp} : Tups H [] [] := ⟨rfl, fun i a l h => by simp at h⟩
theorem Tups.snoc {H : Hp} {as : List Addr} {ls : List (List V)} {a : Addr} {l : List V} (t : Tups H as ls) (h : H a = some (.tup l)) : Tups H (as ++ [a]) (ls ++ [l]) := by
  obtain ⟨e, t⟩ := t
  refine ⟨by rw [List.length_append, List.length_append, e]; rfl, fun i b m h1 h2 => ?_⟩
  by_cases hi : i < as.length
  · rw [List.getElem?_append_left hi] at h1
    rw [List.getElem?_append_left (by omega)] at h2
    exact t i b m h1 h2
  · rw [List.getElem?_append_right (by omega)] at h1
    rw [List.getElem?_append_right (by omega)] at h2
    have i1 := (List.getElem?_eq_some_iff.mp h1).1
    have e0 : i - as.length = 0 := by
      rw [List.length_singleton] at i1
      omega
    rw [e0] at h1
    rw [← e, e0] at h2
    rw [← Option.some.inj h1, ← Option.some.inj h2]
    exact h
theorem Tups.get {H : Hp} {as : List Addr} {ls : List (List V)} (t : Tups H as ls) {u : Addr × List V} (h : u ∈ as.zip ls) : H u.1 = some (.tup u.2) := by
  obtain ⟨i, hi⟩ := List.mem_iff_getElem?.mp h
  rw [List.getElem?_zip_eq_some] at hi
  exact t.2 i _ _ hi.1 hi.2
theorem zip_fst {as : List Addr} {ls : List (List V)} (e : as.length = ls.length) : (as.zip ls).map (fun u => V.ref u.1) = as.map V.ref := by
  have : (fun u : Addr × List V => V.ref u.1) = V.ref ∘ Prod.fst := rfl
  rw [this, ← List.map_map, List.map_fst_zip (by omega)]
theorem zip_snd {as : List Addr} {ls : List (List V)} (e : as.length = ls.length) : (as.zip ls).map (·.2) = ls := List.map_snd_zip (by omega)
/-- a tuple of the written part -/
def KTup (K : PySem.W.Frag) (a : Addr) (xs : List V) : Prop := ∃ (o : Obj) (its : Array Value) (n : Nat), K.lookup a = some o ∧ o.cls = .type "tuple" ∧ o.data = .seq its n ∧ its.size ≤ sizeLine ∧ Vals xs its.toList
/-- a tuple, tracked or of the written part -/
def TupK (K : PySem.W.Frag) (H : Hp) (a : Addr) (xs : List V) : Prop := H a = some (.tup xs) ∨
  ∃ (o : Obj) (its : Array Value) (n : Nat), K.lookup a = some o ∧ o.cls = .type "tuple" ∧ o.data = .seq its n ∧ its.size ≤ sizeLine ∧ Vals xs its.toList
theorem TupK.sq {K : PySem.W.Frag} {H : Hp} {a : Addr} {xs : List V} (h : TupK K H a xs) : SqT K H a xs := h.imp (fun e => .inl e) id
theorem TupK.keep {K : PySem.W.Frag} {H H' : Hp} {a : Addr} {xs : List V} (h : TupK K H a xs) (k : TupKeep H H') : TupK K H' a xs := h.imp (fun e => k _ _ e) id
def TupsK (K : PySem.W.Frag) (H : Hp) (p : Addr) (ls : List (List V)) : Prop := ∃ as : List Addr, TupK K H p (as.map V.ref) ∧ Tups H as ls
theorem TupsK.of {K : PySem.W.Frag} {H : Hp} {p : Addr} {ls : List (List V)} (h : TupsAt H p ls) : TupsK K H p ls := let ⟨as, a, b⟩ := h; ⟨as, .inl a, b⟩
theorem TupsK.keep {K : PySem.W.Frag} {H H' : Hp} {p : Addr} {ls : List (List V)} (h : TupsK K H p ls) (k : TupKeep H H') : TupsK K H' p ls := let ⟨as, a, b⟩ := h; ⟨as, a.keep k, b.keep k⟩
section
variable {α : Type} {J : It} {us : List α} {val : α → V} {G : Hp → Prop} {H1 : Hp} {D : Addr} {σ : L2.St} {vs : List Nat} {g : TG} {tt : TT} {te tk tv : TE} {Q : Hp → Prop}
/-- a list of new tuples -/
theorem lc_new (Y : Yields J (us.map val) G) (f : α → List V) (p : α → Bool) (σf : α → L2.St) (hD1 : H1 D = none) (hG : ∀ H, Same H1 H → G H) (hw : ∀ u ∈ us, wipe (σf u) vs = wipe σ vs)
    (hg : ∀ H u, Same H1 H → u ∈ us → ∀ (R : L2.St → Hp → Prop), R (σf u) H → g (val u) (wipe σ vs) H R)
    (ht : ∀ H u, Same H1 H → u ∈ us → ∀ (R : Bool → Hp → Prop), (∀ H3, Same H H3 → R (p u) H3) → tt (σf u) H R)
    (he : ∀ H u, Same H1 H → u ∈ us → p u = true → ∀ (R : VK), (∀ a H3, Same H H3 → H3 a = some (.tup (f u)) → R (.ref a) H3) → te (σf u) H R)
    (hl : us.length ≤ 1000000) (hd : ∀ as H, Same H1 H → H D = some (.lst (as.map V.ref)) → Tups H as ((us.filter p).map f) → Q H) :
    ∃ W : Nat → Nat → Hp → Prop, (∃ m, W 0 m (upd H1 D (.lst []))) ∧ ∀ k m H, W k m H →
      (J.stop k H ∧ Q H) ∨ (J.go k H ∧ ∃ Nx : Hp → Prop, (∀ H', Nx H' → ∃ m', m' < m ∧ W (k + 1) m' H') ∧ ∀ x H', J.yld k H x H' → g x (wipe σ vs) H' fun σ2 H2 => wipe σ2 vs = wipe σ vs ∧ tt σ2 H2 fun b H3 =>
        if b = true then te σ2 H3 fun y H4 => ∃ acc, H4 D = some (.lst acc) ∧ acc.length < sizeLine ∧ Nx (upd H4 D (.lst (acc ++ [y]))) else Nx H3) := by
  refine lcG Y (fun k acc H => Same H1 H ∧ ∃ as : List Addr, acc = as.map V.ref ∧ Tups H as (((us.take k).filter p).map f)) (fun k acc H h _ => hG H h.1) ⟨same_new hD1, [], rfl, by simpa using Tups.nil⟩ (fun k acc H x hI hD hx hacc hk => ?_) (by rw [List.length_map]; exact hl) (fun acc H hI hD _ => ?_)
  · obtain ⟨sm, as, ea, tp⟩ := hI
    rw [List.getElem?_map] at hx
    cases hu : us[k]? with
    | none => rw [hu] at hx; cases hx
    | some u =>
      rw [hu] at hx
      cases hx
      have hm : u ∈ us := List.mem_of_getElem? hu
      have et : us.take (k + 1) = us.take k ++ [u] := by
        rw [List.take_add_one, hu]
        rfl
      refine hg H u sm hm _ ⟨hw u hm, ?_⟩
      refine ht H u sm hm _ (fun H3 s3 => ?_)
      by_cases hp : p u = true
      · rw [if_pos hp]
        refine he H3 u (sm.trans s3) hm hp _ (fun a H4 s4 h4 => ?_)
        have hD4 := s4 _ _ (s3 _ _ hD)
        have kp : TupKeep H4 (upd H4 D (.lst (acc ++ [V.ref a]))) := TupKeep.at fun xs z => by rw [hD4] at z; cases z
        refine lc_take hD4 hacc hk ⟨same_mut ((sm.trans s3).trans s4) hD1, as ++ [a], by rw [ea, List.map_append]; rfl, ?_⟩
        rw [et, List.filter_append, List.map_append, List.filter_cons, hp]
        exact ((tp.keep (TupKeep.of (s3.trans s4))).snoc h4).keep kp
      · rw [if_neg hp]
        refine lc_skip (s3 _ _ hD) hacc ⟨sm.trans s3, as, ea, ?_⟩
        rw [et, List.filter_append, List.map_append, List.filter_cons, if_neg hp]
        simpa using tp.keep (TupKeep.of s3)
  · obtain ⟨sm, as, ea, tp⟩ := hI
    rw [List.length_map, List.take_length] at tp
    rw [ea] at hD
    exact hd as H sm hD tp
/-- a dict with texts as its keys -/
theorem dc_tab (Y : Yields J (us.map val) G) (kf : α → Str) (vf : α → V) (p : α → Bool) (σf : α → L2.St) (hD1 : H1 D = none) (hG : ∀ H, Same H1 H → G H) (hw : ∀ u ∈ us, wipe (σf u) vs = wipe σ vs)
    (hg : ∀ H u, Same H1 H → u ∈ us → ∀ (R : L2.St → Hp → Prop), R (σf u) H → g (val u) (wipe σ vs) H R)
    (ht : ∀ H u, Same H1 H → u ∈ us → ∀ (R : Bool → Hp → Prop), (∀ H3, Same H H3 → R (p u) H3) → tt (σf u) H R)
    (hk : ∀ H u, Same H1 H → u ∈ us → p u = true → ∀ (R : VK), (∀ H3, Same H H3 → R (.str (kf u)) H3) → tk (σf u) H R)
    (hv : ∀ H u, Same H1 H → u ∈ us → p u = true → ∀ (R : VK), (∀ H3, Same H H3 → R (vf u) H3) → tv (σf u) H R)
    (hl : us.length ≤ 1000000) (nd : ((us.filter p).map kf).Nodup) (hd : ∀ H, Same H1 H → H D = some (.dK (kT ((us.filter p).map fun u => (kf u, vf u)))) → Q H) :
    ∃ W : Nat → Nat → Hp → Prop, (∃ m, W 0 m (upd H1 D (.dK []))) ∧ ∀ k m H, W k m H →
      (J.stop k H ∧ Q H) ∨ (J.go k H ∧ ∃ Nx : Hp → Prop, (∀ H', Nx H' → ∃ m', m' < m ∧ W (k + 1) m' H') ∧ ∀ x H', J.yld k H x H' → g x (wipe σ vs) H' fun σ2 H2 => wipe σ2 vs = wipe σ vs ∧ tt σ2 H2 fun b H3 =>
        if b = true then tk σ2 H3 fun y H4 => tv σ2 H4 fun z H5 => ∃ kvs key, y = kV key ∧ H5 D = some (.dK kvs) ∧ kvs.length < sizeLine ∧ Nx (upd H5 D (.dK (putK kvs key z))) else Nx H3) := by
  refine dcG Y (fun k kvs H => Same H1 H ∧ kvs = kT (((us.take k).filter p).map fun u => (kf u, vf u))) (fun k acc H h _ => hG H h.1) ⟨same_new hD1, rfl⟩ (fun k kvs H x hI hD hx hacc hk' => ?_) (by rw [List.length_map]; exact hl) (fun acc H hI hD _ => ?_)
  · obtain ⟨sm, ea⟩ := hI
    rw [List.getElem?_map] at hx
    cases hu : us[k]? with
    | none => rw [hu] at hx; cases hx
    | some u =>
      rw [hu] at hx
      cases hx
      have hm : u ∈ us := List.mem_of_getElem? hu
      have et : us.take (k + 1) = us.take k ++ [u] := by
        rw [List.take_add_one, hu]
        rfl
      refine hg H u sm hm _ ⟨hw u hm, ?_⟩
      refine ht H u sm hm _ (fun H3 s3 => ?_)
      by_cases hp : p u = true
      · rw [if_pos hp]
        refine hk H3 u (sm.trans s3) hm hp _ (fun H4 s4 => ?_)
        refine hv H4 u ((sm.trans s3).trans s4) hm hp _ (fun H5 s5 => ?_)
        have new : valV (((us.take k).filter p).map fun u => (kf u, vf u)) (kf u) = none := by
          cases c : valV (((us.take k).filter p).map fun u => (kf u, vf u)) (kf u) with
          | none => rfl
          | some z =>
            have m := valV_in c
            rw [List.map_map] at m
            have e : us.filter p = (us.take k).filter p ++ (u :: (us.drop (k + 1)).filter p) := by
              conv => lhs; rw [← List.take_append_drop (k + 1) us, et, List.filter_append, List.filter_append, List.filter_cons, hp]
              simp
            rw [e, List.map_append] at nd
            have := (List.nodup_append.mp nd).2.2 (kf u) m (kf u) List.mem_cons_self
            exact absurd rfl this
        refine dc_take (key := .inr (kf u)) (s5 _ _ (s4 _ _ (s3 _ _ hD))) hacc hk' ⟨same_mut (((sm.trans s3).trans s4).trans s5) hD1, ?_⟩
        rw [ea, putK_kT, putK_new _ new, et, List.filter_append, List.map_append, List.filter_cons, hp]
        rfl
      · rw [if_neg hp]
        refine dc_skip (s3 _ _ hD) hacc ⟨sm.trans s3, ?_⟩
        rw [et, List.filter_append, List.map_append, List.filter_cons, if_neg hp]
        simp [ea]
  · obtain ⟨sm, ea⟩ := hI
    rw [List.length_map, List.take_length] at ea
    rw [ea] at hD
    exact hd H sm hD
end
theorem val_keys (f : Str → V) (z : Str) : ∀ ys : List Str, valV (ys.map fun x => (x, f x)) z = if z ∈ ys then some (f z) else none
  | [] => rfl
  | y :: r => by
    show valV ((y, f y) :: r.map fun x => (x, f x)) z = _
    by_cases h : y = z
    · rw [valV_pos h, if_pos (by rw [h]; exact List.mem_cons_self), h]
    · rw [valV_neg h, val_keys f z r]
      by_cases m : z ∈ r
      · rw [if_pos m, if_pos (List.mem_cons_of_mem _ m)]
      · rw [if_neg m, if_neg (fun k => (List.mem_cons.mp k).elim (fun e => h e.symm) m)]
/-- the rows of a table in order -/
def SortOf (t u : Tab) : Prop := sortedS (u.map (·.1)) = true ∧ (u.map (·.1)).Perm (t.map (·.1)) ∧ ∀ x, valV u x = valV t x
theorem sortOf_keys {t : Tab} {ys : List Str} (hp : ys.Perm (t.map (·.1))) (hs : sortedS ys = true) : SortOf t (ys.map fun x => (x, (valV t x).getD .non)) := by
  have e : (ys.map fun x => (x, (valV t x).getD .non)).map (·.1) = ys := by
    rw [List.map_map]
    exact List.map_id' ys
  refine ⟨by rw [e]; exact hs, by rw [e]; exact hp, fun z => ?_⟩
  rw [val_keys (fun x => (valV t x).getD .non)]
  cases c : valV t z with
  | none => rw [if_neg (fun m => by have := mem_val.mp (hp.mem_iff.mp m); rw [c] at this; cases this)]
  | some v => rw [if_pos (hp.mem_iff.mpr (mem_val.mpr (by rw [c]; rfl)))]; rfl
theorem SortOf.nd {t u : Tab} (h : SortOf t u) (n : Nd t) : Nd u := h.2.1.nodup_iff.mpr n
theorem SortOf.len {t u : Tab} (h : SortOf t u) : u.length = t.length := by
  have := h.2.1.length_eq
  rw [List.length_map, List.length_map] at this
  exact this
def rowL (e : Str × V) : List V := [.str e.1, e.2]
/-! ### moves -/
def moveL (m : Str × V × V) : List V := [.str m.1, m.2.1, m.2.2]
def newsT (ms : List (Str × V × V)) : Tab := ms.map fun m => (m.1, m.2.2)
def notNon : V → Bool
  | .non => false
  | _ => true
def keptT (t n : Tab) : Tab := t.filter fun p => (valV n p.1).isNone
def madeT (n : Tab) : Tab := n.filter fun p => notNon p.2
def afterT (t : Tab) (ms : List (Str × V × V)) : Tab := keptT t (newsT ms) ++ madeT (newsT ms)
theorem zip_ms {α : Type} {as : List Addr} {ms : List α} (e : as.length = ms.length) : (as.zip ms).map (fun u => V.ref u.1) = as.map V.ref := by
  have : (fun u : Addr × α => V.ref u.1) = V.ref ∘ Prod.fst := rfl
  rw [this, ← List.map_map, List.map_fst_zip (by omega)]
theorem tups_get {α : Type} {H : Hp} {as : List Addr} {ms : List α} {f : α → List V} (tp : Tups H as (ms.map f)) {u : Addr × α} (h : u ∈ as.zip ms) : H u.1 = some (.tup (f u.2)) := by
  obtain ⟨i, hi⟩ := List.mem_iff_getElem?.mp h
  rw [List.getElem?_zip_eq_some] at hi
  refine tp.2 i _ _ hi.1 ?_
  rw [List.getElem?_map, hi.2]
  rfl
theorem ne_of_none' {H : Hp} {D a : Addr} {o : HO} (h : H D = none) (k : H a = some o) : D ≠ a := (ne_of_none k h).symm
theorem same_unlock {H H2 : Hp} {d : Addr} {od : Obj} {u : HO} (s : Same (upd H d (.frz od u)) H2) (h : H d = some u) : Same H (upd H2 d u) := fun b o e => by
  by_cases hb : b = d
  · rw [hb, upd_same, ← h, ← hb, e]
  · rw [upd_ne hb]
    exact s _ _ (by rw [upd_ne hb]; exact e)
theorem lock_ne {H : Hp} {d D : Addr} {o : HO} (h : upd H d o D = none) : D ≠ d := fun z => by
  rw [z, upd_same] at h
  cases h
theorem lock_free {H : Hp} {d D : Addr} {o : HO} (h : upd H d o D = none) : H D = none := by
  have n := lock_ne h
  rw [upd_ne n] at h
  exact h
/-- a walk over a locked table -/
theorem yields_tab {d : Addr} {o : Obj} {t : Tab} : Yields (Itk d o (kT t)) (t.map fun e => V.str e.1) (fun H => H d = some (.frz o (.dK (kT t)))) := by
  have : (t.map fun e => V.str e.1) = (kT t).map fun p => kV p.1 := by
    unfold kT
    rw [List.map_map]
    rfl
  rw [this]
  exact yields_keys
theorem yields_zip {α : Type} {K : PySem.W.Frag} {a : Addr} {as : List Addr} {ms : List α} (e : as.length = ms.length) : Yields (Itt K a) ((as.zip ms).map fun u => V.ref u.1) (fun H => SqT K H a (as.map V.ref)) := by
  rw [zip_ms e]
  exact yields_tup
theorem nd_filter {t : Tab} (h : Nd t) (p : Str × V → Bool) : Nd (t.filter p) := List.Nodup.sublist ((List.filter_sublist).map _) h
theorem nd_news {ms : List (Str × V × V)} (h : (ms.map (·.1)).Nodup) : Nd (newsT ms) := by
  unfold Nd newsT
  rw [List.map_map]
  exact h
theorem nd_after {t : Tab} {ms : List (Str × V × V)} (h : Nd t) (k : (ms.map (·.1)).Nodup) : Nd (afterT t ms) := by
  unfold Nd afterT
  rw [List.map_append]
  refine List.nodup_append.mpr ⟨nd_filter h _, nd_filter (nd_news k) _, fun x hx y hy e => ?_⟩
  obtain ⟨p, hp, rfl⟩ := List.mem_map.mp hx
  obtain ⟨q, hq, rfl⟩ := List.mem_map.mp hy
  have h1 := (List.mem_filter.mp hp).2
  have h2 := val_nodup (nd_news k) q (List.mem_filter.mp hq).1
  rw [e, h2] at h1
  cases h1
theorem len_after {t : Tab} {ms : List (Str × V × V)} : (afterT t ms).length ≤ t.length + ms.length := by
  unfold afterT
  rw [List.length_append]
  have h1 := List.length_filter_le (fun p : Str × V => (valV (newsT ms) p.1).isNone) t
  have h2 := List.length_filter_le (fun p : Str × V => notNon p.2) (newsT ms)
  have h3 : (newsT ms).length = ms.length := List.length_map ..
  unfold keptT madeT
  omega
theorem val_app {t u : Tab} (x : Str) : valV (t ++ u) x = (valV t x).or (valV u x) := by
  induction t with
  | nil => rfl
  | cons p r ih =>
    by_cases h : p.1 = x
    · rw [List.cons_append, valV_pos h, valV_pos h]
      rfl
    · rw [List.cons_append, valV_neg h, valV_neg h, ih]
theorem merge_kT : ∀ {t u : Tab}, Nd (t ++ u) → mergeK (kT t) (kT u) = kT (t ++ u)
  | t, [], _ => by rw [List.append_nil]; rfl
  | t, p :: r, h => by
    have e : t ++ p :: r = (t ++ [p]) ++ r := by rw [List.append_assoc]; rfl
    have new : valV t p.1 = none := by
      cases c : valV t p.1 with
      | none => rfl
      | some v =>
        have h : ((t ++ p :: r).map (·.1)).Nodup := h
        rw [List.map_append] at h
        exact absurd rfl ((List.nodup_append.mp h).2.2 _ (valV_in c) p.1 List.mem_cons_self)
    show mergeK (putK (kT t) (.inr p.1) p.2) (kT r) = _
    rw [putK_kT, putK_new _ new, e]
    rw [e] at h
    exact merge_kT h
/-- what a table holds behind moves -/
theorem val_filter {t : Tab} (h : Nd t) (p : Str × V → Bool) (x : Str) : valV (t.filter p) x = (valV t x).bind fun v => if p (x, v) = true then some v else none := by
  induction t with
  | nil => rfl
  | cons q r ih =>
    obtain ⟨h1, h2⟩ := List.nodup_cons.mp (show ((q :: r).map (·.1)).Nodup from h)
    have ih := ih h2
    have nr : q.1 = x → valV r x = none := fun e => by
      cases c : valV r x with
      | none => rfl
      | some v => exact absurd (show q.1 ∈ r.map (·.1) by rw [e]; exact valV_in c) h1
    rw [List.filter_cons]
    by_cases e : q.1 = x
    · rw [valV_pos e]
      have eq : q = (x, q.2) := by rw [← e]
      by_cases hp : p q = true
      · rw [if_pos hp, valV_pos e]
        show some q.2 = if p (x, q.2) = true then some q.2 else none
        rw [← eq, if_pos hp]
      · rw [if_neg hp, ih, nr e]
        show none = if p (x, q.2) = true then some q.2 else none
        rw [← eq, if_neg hp]
    · rw [valV_neg e]
      by_cases hp : p q = true
      · rw [if_pos hp, valV_neg e, ih]
      · rw [if_neg hp, ih]
theorem val_after {t : Tab} {ms : List (Str × V × V)} (h : Nd t) (k : (ms.map (·.1)).Nodup) (x : Str) : valV (afterT t ms) x = match valV (newsT ms) x with
    | none => valV t x
    | some v => if notNon v = true then some v else none := by
  unfold afterT keptT madeT
  rw [val_app, val_filter h, val_filter (nd_news k)]
  cases c : valV (newsT ms) x with
  | none =>
    cases d : valV t x with
    | none => rfl
    | some v => simp [c]
  | some v =>
    cases d : valV t x with
    | none => simp
    | some w => simp [c]
/-! ### logs -/
/-- the table tells the logs: tuples of entries -/
def LogsOk (H : Hp) (t : Tab) (L : Str → List (List V)) : Prop := ∀ x, (valV t x = none ∧ L x = []) ∨ ∃ p, (L x ≠ [] ∧ valV t x = some (.ref p)) ∧ TupsAt H p (L x)
def logPut (L : Str → List (List V)) (x : Str) (e : List V) : Str → List (List V) := fun y => if y = x then L y ++ [e] else L y
def logMoves (L : Str → List (List V)) (note : List V) (ms : List (Str × V × V)) : Str → List (List V) := ms.foldl (fun L m => logPut L m.1 ([m.2.1, m.2.2] ++ note)) L
theorem LogsOk.keep {H H' : Hp} {t : Tab} {L : Str → List (List V)} (h : LogsOk H t L) (k : TupKeep H H') : LogsOk H' t L := fun x => (h x).imp id fun ⟨p, a, b⟩ => ⟨p, a, b.keep k⟩
theorem LogsOk.of {H : Hp} {t u : Tab} {L : Str → List (List V)} (h : LogsOk H t L) (e : ∀ x, valV u x = valV t x) : LogsOk H u L := fun x => by
  rw [e]
  exact h x
theorem LogsOk.put {H : Hp} {t : Tab} {L : Str → List (List V)} (h : LogsOk H t L) {x : Str} {p : Addr} {e : List V} (tp : TupsAt H p (L x ++ [e])) : LogsOk H (putK t x (.ref p)) (logPut L x e) := fun y => by
  unfold logPut
  rw [valV_put]
  by_cases c : y = x
  · rw [if_pos c, if_pos c, c]
    exact .inr ⟨p, ⟨List.append_ne_nil_of_right_ne_nil _ (fun z => nomatch z), rfl⟩, tp⟩
  · rw [if_neg c, if_neg c]
    exact h y
theorem len_put (t : Tab) (x : Str) (v : V) : (putK t x v).length ≤ t.length + 1 := length_putK t x v
theorem logMoves_take {L : Str → List (List V)} {note : List V} {ms : List (Str × V × V)} {i : Nat} {m : Str × V × V} (h : ms[i]? = some m) : logMoves L note (ms.take (i + 1)) = logPut (logMoves L note (ms.take i)) m.1 ([m.2.1, m.2.2] ++ note) := by
  unfold logMoves
  rw [List.take_add_one, h, List.foldl_append]
  rfl
theorem catA {K : PySem.W.Frag} {H : Hp} {a b : Addr} {xs ys : List V} {Q : VK} (ha : SqT K H a xs) (hb : H b = some (.tup ys)) (ny : ys ≠ []) (hz : xs.length + ys.length ≤ 1000000) (q : ∀ p H', Same H H' → H' p = some (.tup (xs ++ ys)) → Q (.ref p) H') : rCatA K (.ref a) (.ref b) H Q :=
  ⟨a, b, xs, ys, rfl, rfl, ha, SqT.of hb, small_line hz, fun e => q b H (Same.refl H) (by rw [e]; exact hb), fun _ e => absurd e ny, fun _ _ p hp => q p _ (same_new hp) upd_same⟩
/-- an entry is put behind the log of a name -/
theorem log_step {K : PySem.W.Frag} {H : Hp} {D2 nt : Addr} {lt : Tab} {L : Str → List (List V)} {x : Str} {v1 v2 n1 n2 n3 : V} {tk t1 t2 td tn : TE} {D : Ends} {σ : L2.St} (hD : H D2 = some (.dK (kT lt))) (lk : LogsOk H lt L) (hnt : H nt = some (.tup [n1, n2, n3]))
    (b : (L x).length ≤ 100000) (hl : lt.length ≤ 1000) (ek : ∀ H' Q, Q (.str x) H' → tk σ H' Q) (e1 : ∀ H' Q, Q v1 H' → t1 σ H' Q) (e2 : ∀ H' Q, Q v2 H' → t2 σ H' Q) (ed : ∀ H' Q, Q (.ref D2) H' → td σ H' Q) (en : ∀ H' Q, Q (.ref nt) H' → tn σ H' Q)
    (q : ∀ H' p, FrL [D2] H H' → TupKeep H H' → H' D2 = some (.dK (kT (putK lt x (.ref p)))) → LogsOk H' (putK lt x (.ref p)) (logPut L x ([v1, v2] ++ [n1, n2, n3])) → D.nx σ H') :
    sDPut td tk (tOp (rCatA K) (tDGet2 td tk (tTup tNil)) (tTup (tCons (tOp (rCatA K) (tTup (tCons t1 (tCons t2 tNil))) tn) tNil))) D σ H := by
  refine ed _ _ ⟨D2, rfl, .inl ⟨_, .inl hD⟩, ek _ _ ⟨Nat.zero_le _, fun pe hpe => ⟨valV lt x, ?_, ?_⟩⟩⟩
  · exact dget_kT (.inl (by rw [upd_ne (ne_of_none hD hpe)]; exact hD)) x
  · have s0 : Same H (upd H pe (.tup [])) := same_new hpe
    have p0 : (upd H pe (.tup [])) pe = some (.tup []) := upd_same
    generalize upd H pe (.tup []) = H0 at s0 p0
    obtain ⟨a, as, ea, ha, ta⟩ : ∃ (a : Addr) (as : List Addr), (valV lt x).getD (.ref pe) = .ref a ∧ H0 a = some (.tup (as.map V.ref)) ∧ Tups H0 as (L x) := by
      rcases lk x with ⟨e, l⟩ | ⟨p, ⟨_, e⟩, as, h, t⟩
      · exact ⟨pe, [], by rw [e]; rfl, p0, by rw [l]; exact Tups.nil⟩
      · exact ⟨p, as, by rw [e]; rfl, s0 _ _ h, t.keep (TupKeep.of s0)⟩
    rw [ea]
    have la : as.length ≤ 100000 := by rw [ta.1]; exact b
    refine e1 _ _ (e2 _ _ ⟨(by show 2 ≤ sizeLine; decide), fun p2 hp2 => en _ _ ?_⟩)
    refine catA (SqT.of upd_same) ((same_new hp2) _ _ (s0 _ _ hnt)) (fun z => nomatch z) (by show 2 + 3 ≤ _; decide) fun p3 H3 s3 h3 => ?_
    refine ⟨(by show 1 ≤ sizeLine; decide), fun p4 hp4 => ?_⟩
    have s04 : Same H0 (upd H3 p4 (.tup [V.ref p3])) := ((same_new hp2).trans s3).trans (same_new hp4)
    have h3' : (upd H3 p4 (.tup [V.ref p3])) p3 = some (.tup ([v1, v2] ++ [n1, n2, n3])) := (same_new hp4) _ _ h3
    have h4' : (upd H3 p4 (.tup [V.ref p3])) p4 = some (.tup [V.ref p3]) := upd_same
    generalize upd H3 p4 (.tup [V.ref p3]) = H4 at s04 h3' h4'
    refine catA (SqT.of (s04 _ _ ha)) h4' (fun z => nomatch z) (by rw [List.length_map]; show _ + 1 ≤ _; omega) fun p5 H5 s5 h5 => ?_
    have s05 := (s0.trans s04).trans s5
    have hD5 := s05 _ _ hD
    refine ed _ _ (ek _ _ ⟨D2, _, rfl, .inl ⟨kT lt, .inr x, hD5, rfl, small_lt (by rw [len_kT]; omega), rfl⟩, ?_⟩)
    rw [putK_kT]
    have kp : TupKeep H5 (upd H5 D2 (.dK (kT (putK lt x (.ref p5))))) := TupKeep.at fun xs z => by rw [hD5] at z; cases z
    have kp2 : TupKeep H (upd H5 D2 (.dK (kT (putK lt x (.ref p5))))) := (TupKeep.of s05).trans kp
    refine q _ p5 ((FrL.same s05).trans (FrL.at (List.mem_singleton_self D2))) kp2 upd_same ?_
    refine (lk.keep kp2).put ⟨as ++ [p3], ?_, ?_⟩
    · refine kp _ _ ?_
      rw [h5, List.map_append]
      rfl
    · exact ((ta.keep (TupKeep.of (s04.trans s5))).snoc (s5 _ _ h3')).keep kp
theorem logMoves_len (L : Str → List (List V)) (note : List V) (x : Str) : ∀ ms : List (Str × V × V), (logMoves L note ms x).length ≤ (L x).length + ms.length := by
  intro ms
  induction ms generalizing L with
  | nil => exact Nat.le_refl _
  | cons m r ih =>
    have := ih (logPut L m.1 ([m.2.1, m.2.2] ++ note))
    have e : (logPut L m.1 ([m.2.1, m.2.2] ++ note) x).length ≤ (L x).length + 1 := by
      unfold logPut
      split
      · rw [List.length_append]
        exact Nat.le_refl _
      · omega
    show (logMoves (logPut L m.1 ([m.2.1, m.2.2] ++ note)) note r x).length ≤ _
    rw [List.length_cons]
    omega
theorem dp_head {K : PySem.W.Frag} {H : Hp} {p : Addr} {a b : Str} (h : TupK K H p [.str a, .str b]) : Dp K H (.ref p) (.tuple [.str a, .str b]) := .tup h.sq (.cons (.str a) (.cons (.str b) .nil))
theorem shaped_head {a b : Str} (ha : OkS a) (hb : OkS b) : SeqAt.shaped (.tuple [.str a, .str b]) = true := by
  simp [SeqAt.shaped, PyData.canLay0, PyData.canLayAll0, strOk_of ha, strOk_of hb, PyData.depth, PyData.depthAll]
theorem eqv_head (a b c d : Str) : PyData.eqv (.tuple [.str a, .str b]) (.tuple [.str c, .str d]) = decide ((c, d) = (a, b)) := by
  simp only [PyData.eqv, PyData.eqvAll]
  rw [Bool.eq_iff_iff]
  simp only [Bool.and_eq_true, beq_iff_eq, decide_eq_true_eq, Prod.mk.injEq, and_true]
  exact ⟨fun ⟨x, y⟩ => ⟨x.symm, y.symm⟩, fun ⟨x, y⟩ => ⟨x.symm, y.symm⟩⟩
def flatN : V → Prop
  | .non => True
  | .str _ => True
  | _ => False
theorem scal_flat {x y : V} (hx : flatN x) (hy : flatN y) : scal x y = true := by
  cases x <;> cases y <;> first | rfl | exact hx.elim | exact hy.elim
def ledF (t : Tab) (x n : Str) : V := if x = "id" then .str n else (valV t n).getD .non
theorem flat_val {t : Tab} (h : ∀ e ∈ t, flatN e.2) (x : Str) : flatN ((valV t x).getD .non) := by
  induction t with
  | nil => exact True.intro
  | cons p r ih =>
    by_cases e : p.1 = x
    · rw [valV_pos e]
      exact h p List.mem_cons_self
    · rw [valV_neg e]
      exact ih fun q hq => h q (List.mem_cons_of_mem _ hq)
theorem flat_led {t : Tab} (h : ∀ e ∈ t, flatN e.2) (x n : Str) : flatN (ledF t x n) := by
  unfold ledF
  split
  · exact True.intro
  · exact flat_val h n
theorem flat_after {t : Tab} {ms : List (Str × V × V)} (h : ∀ e ∈ t, flatN e.2) (k : ∀ m ∈ ms, flatN m.2.2) : ∀ e ∈ afterT t ms, flatN e.2 := fun e he => by
  rcases List.mem_append.mp he with he | he
  · exact h e (List.mem_filter.mp he).1
  · obtain ⟨m, hm, rfl⟩ := List.mem_map.mp (List.mem_filter.mp he).1
    exact k m hm
end Fk

set_option maxHeartbeats 4000000
/-! What stands where references and edits are. -/
namespace Fk
open PySem PySem.Spec PyProof.Rows L2
/-- the fields of references -/
def rf (lk tb hd lg : Addr) : List (Str × V) := [("_locks", .ref lk), ("_table", .ref tb), ("_head", .ref hd), ("_logs", .ref lg)]
/-- the fields of an edit -/
def ef (R nt cl : Addr) (nh : V) (b : Bool) : List (Str × V) := [("_refs", .ref R), ("_note", .ref nt), ("_calls", .ref cl), ("_new_head", nh), ("closed", .bl b)]
/-- the calls of an edit: names, what they shall have, what they had -/
def CallsAt (H : Hp) (cl : Addr) (cs : List (Str × V × V)) : Prop := ∃ zs : List (Addr × (Str × V × V)), zs.map (·.2) = cs ∧ H cl = some (.dK (kT (zs.map fun z => (z.2.1, .ref z.1)))) ∧ ∀ z ∈ zs, H z.1 = some (.tup [z.2.2.1, z.2.2.2])
/-- the locks: those of closed edits and those of the edit at E -/
def LocksAt (H : Hp) (CE lk E : Addr) (n : Nat) : Prop := ∃ kt : Tab, H lk = some (.dK (kT kt)) ∧ Nd kt ∧ kt.length ≤ 64 ∧ (kt.filter fun p => decide (p.2 = .ref E)).length ≤ n ∧ ∀ p ∈ kt, p.2 = .ref E ∨ ∃ e dx fs, p.2 = .ref e ∧ H e = some (.ins CE dx fs) ∧ fs.lookup ("closed" : Str) = some (.bl true)
theorem mem_putK {t : Tab} {x : Str} {v : V} {p : Str × V} (h : p ∈ putK t x v) : p ∈ t ∨ p.2 = v := by
  unfold putK at h
  split at h
  · obtain ⟨q, hq, e⟩ := List.mem_map.mp h
    by_cases c : q.1 = x
    · rw [if_pos c] at e
      exact .inr (by rw [← e])
    · rw [if_neg c] at e
      exact .inl (by rw [← e]; exact hq)
  · rcases List.mem_append.mp h with h | h
    · exact .inl h
    · exact .inr (by rw [List.mem_singleton.mp h])
theorem LocksAt.keep {H H' : Hp} {CE lk E : Addr} {n : Nat} (h : LocksAt H CE lk E n) (e : ∀ o, H lk = some o → H' lk = some o) (k : ∀ a dx fs, H a = some (.ins CE dx fs) → fs.lookup ("closed" : Str) = some (.bl true) → H' a = some (.ins CE dx fs)) : LocksAt H' CE lk E n := by
  obtain ⟨kt, a, b, c, c', d⟩ := h
  exact ⟨kt, e _ a, b, c, c', fun p hp => (d p hp).imp id fun ⟨x, dx, fs, h1, h2, h3⟩ => ⟨x, dx, fs, h1, k _ _ _ h2 h3, h3⟩⟩
theorem LocksAt.same {H H' : Hp} {CE lk E : Addr} {n : Nat} (h : LocksAt H CE lk E n) (s : Same H H') : LocksAt H' CE lk E n := h.keep (fun o e => s _ _ e) fun _ _ _ e _ => s _ _ e
theorem FrL.out {L : List Addr} {H H' : Hp} (f : FrL L H H') {b : Addr} {o : HO} (e : H b = some o) (n : ∀ a ∈ L, b ≠ a) : H' b = some o := f b o (fun z => n b z rfl) e
theorem not1 {a b : Addr} (h : b ≠ a) : ∀ c ∈ [a], b ≠ c := fun c hc => by rw [List.mem_singleton.mp hc]; exact h
theorem not2 {a c b : Addr} (h : b ≠ a) (k : b ≠ c) : ∀ d ∈ [a, c], b ≠ d := fun d hd => by
  rcases List.mem_cons.mp hd with e | hd
  · rw [e]; exact h
  · rw [List.mem_singleton.mp hd]; exact k
theorem at_ne {H : Hp} {a b : Addr} {o u : HO} (h : H a = some o) (k : H b = some u) (n : o ≠ u) : a ≠ b := fun z => by
  rw [z, k] at h
  exact n (Option.some.inj h).symm
/-- what an edit has behind a call -/
def callPut (cs : List (Str × V × V)) (x : Str) (v o : V) : List (Str × V × V) := cs.filter (fun c => decide (c.1 ≠ x)) ++ [(x, v, o)]
theorem CallsAt.keep {H H' : Hp} {cl : Addr} {cs : List (Str × V × V)} (h : CallsAt H cl cs) (k : TupKeep H H') (e : ∀ o, H cl = some o → H' cl = some o) : CallsAt H' cl cs := by
  obtain ⟨zs, a, b, c⟩ := h
  exact ⟨zs, a, e _ b, fun z hz => k _ _ (c z hz)⟩
theorem calls_drop (zs : List (Addr × (Str × V × V))) (x : Str) : dropK (zs.map fun z => (z.2.1, V.ref z.1)) x = (zs.filter fun z => decide (z.2.1 ≠ x)).map fun z => (z.2.1, V.ref z.1) := by
  unfold dropK
  rw [List.filter_map]
  rfl
theorem calls_put {H : Hp} {cl p : Addr} {zs : List (Addr × (Str × V × V))} {x : Str} {v o : V} (hc : H cl = some (.dK (kT (putK (dropK (zs.map fun z => (z.2.1, V.ref z.1)) x) x (.ref p))))) (hz : ∀ z ∈ zs, H z.1 = some (.tup [z.2.2.1, z.2.2.2])) (hp : H p = some (.tup [v, o])) :
    CallsAt H cl (callPut (zs.map (·.2)) x v o) := by
  refine ⟨zs.filter (fun z => decide (z.2.1 ≠ x)) ++ [(p, x, v, o)], ?_, ?_, fun z h => ?_⟩
  · unfold callPut
    rw [List.map_append, List.filter_map]
    rfl
  · rw [hc, calls_drop, putK_new]
    · rw [List.map_append]
      rfl
    · rw [← calls_drop, valV_drop, if_pos rfl]
  · rcases List.mem_append.mp h with h | h
    · exact hz z (List.mem_filter.mp h).1
    · rw [List.mem_singleton.mp h]
      exact hp
/-! ### errors that are raised -/
def spErr (K : PySem.W.Frag) (f : Str) : Sp := fun vs H Q _ => ∃ (a C fI : Addr) (y : V), vs = [.ref a, y] ∧ XC K C fI ∧ PySem.W.findIn K (.ref C) f = some none ∧ H a = some (exo a C none) ∧
  ∀ dx, H dx = none → dx ≠ a → Q .non (upd (upd H dx (exd dx [(f, y)])) a (exo a C (some dx)))
structure ErrC (K : PySem.W.Frag) (mg : Str → Option Value) (nm f : Str) (C fI : Addr) : Prop where
  mgc : mg nm = some (.ref C)
  ox : OexC K C
  xc : XC K C fI
  nf : PySem.W.findIn K (.ref C) f = some none
  ini : ∃ fd, (∀ (P : Program) (w : World) (base : Heap), FnOk P w K mg base C8.CX0 1 fI fd ["self", f] (spErr K f)) ∧ Binds K fd ["self", f] []
section
variable {X : Cx} {nm f : Str} {C fI : Addr} {e : Expr} {es : List Expr} {t : TA} {p pos : Pos}
theorem rs_of (T : ErrC X.K X.mg nm f C fI) (hr : Room 2 X.A) (hg : Gl X nm) (ha : PA X (e :: es) t) (hdb : (nm == ("__debug__" : Str)) = false := by decide)
    (he : starEach (e :: es) X.env = (false, eval e X.env) :: starEach es X.env := by rfl) (hpl : (backTo pos (starEach es X.env)).any (·.1) = false := by rfl) :
    PMk X (.Call (.Name nm p) (e :: es) [] pos) (tMkO C (spErr X.K f) [] t) := by
  obtain ⟨fd, F, b⟩ := T.ini
  exact pmk_oex T.ox T.xc.iC T.xc.tI (F _ _ _) hr b .nil C8.pass0 hg T.mgc ha hdb he hpl
end
/-- an error made to be raised -/
theorem do_raise {K : PySem.W.Frag} {mg : Str → Option Value} {nm f : Str} {C fI : Addr} (T : ErrC K mg nm f C fI) {Hc : Hp} {y : V} {Q : XK} (q : ∀ d H', Same Hc H' → Hc d = none → H' d = some (.xd [(f, y)]) → Q (.ref C) (some d) H') :
    ∀ a, Hc a = none → spErr K f (.ref a :: ([y] ++ [])) (upd Hc a (exo a C none)) (fun v H2 => v = .non ∧ ∃ (d : Addr) (fs : List (Str × V)), H2 a = some (exo a C (some d)) ∧ H2 d = some (exd d fs) ∧ Hc d = none ∧ Q (.ref C) (some d) (upd (del H2 a) d (.xd fs))) (fun _ _ _ => False) := by
  intro a na
  refine ⟨a, C, fI, y, rfl, T.xc, T.nf, upd_same, fun dx nd ne => ⟨rfl, dx, [(f, y)], upd_same, by rw [upd_ne ne]; exact upd_same, ?_, ?_⟩⟩
  · rw [upd_ne ne] at nd
    exact nd
  · have nd' : Hc dx = none := by rw [upd_ne ne] at nd; exact nd
    refine q dx _ (fun b o e => ?_) nd' upd_same
    have n1 : b ≠ a := ne_of_none e na
    have n2 : b ≠ dx := ne_of_none e nd'
    rw [upd_ne n2]
    unfold del
    rw [if_neg n1, upd_ne n1, upd_ne n2, upd_ne n1]
    exact e
/-! ### what an edit moves -/
def bad (t : Tab) (c : Str × V × V) : Bool := !decide (c.2.2 = .str "") && !decide (c.2.2 = (valV t c.1).getD .non)
def staleF (t : Tab) (cs : List (Str × V × V)) : Option Str := (cs.find? (bad t)).map (·.1)
def newT (cs : List (Str × V × V)) : Tab := cs.map fun c => (c.1, c.2.1)
def rowsF (t : Tab) (cs : List (Str × V × V)) (ys : List Str) : List (Str × V × V) := ys.map fun x => (x, (valV t x).getD .non, (valV (newT cs) x).getD .non)
def movesF (t : Tab) (cs : List (Str × V × V)) (ys : List Str) : List (Str × V × V) := (rowsF t cs ys).filter fun m => !decide (m.2.1 = m.2.2)
theorem stale_at {t : Tab} {cs : List (Str × V × V)} {i : Nat} {c : Str × V × V} (h : cs[i]? = some c) (g : ∀ d ∈ cs.take i, bad t d = false) (b : bad t c = true) : staleF t cs = some c.1 := by
  have e : cs = cs.take i ++ c :: cs.drop (i + 1) := by
    have hi := (List.getElem?_eq_some_iff.mp h)
    obtain ⟨hi, hc⟩ := hi
    rw [← hc, List.getElem_cons_drop, List.take_append_drop]
  unfold staleF
  rw [e, List.find?_append]
  have n : (cs.take i).find? (bad t) = none := List.find?_eq_none.mpr fun d hd z => by rw [g d hd] at z; cases z
  rw [n, List.find?_cons, b]
  rfl
theorem stale_none {t : Tab} {cs : List (Str × V × V)} (g : ∀ d ∈ cs, bad t d = false) : staleF t cs = none := by
  unfold staleF
  rw [List.find?_eq_none.mpr fun d hd z => by rw [g d hd] at z; cases z]
  rfl
theorem movesF_nd {t : Tab} {cs : List (Str × V × V)} {ys : List Str} (h : ys.Nodup) : ((movesF t cs ys).map (·.1)).Nodup := by
  refine List.Nodup.sublist ((List.filter_sublist).map _) ?_
  unfold rowsF
  rw [List.map_map]
  have : ((fun x : Str × V × V => x.1) ∘ fun x : Str => (x, (valV t x).getD V.non, (valV (newT cs) x).getD V.non)) = id := rfl
  rw [this, List.map_id]
  exact h
theorem movesF_len (t : Tab) (cs : List (Str × V × V)) (ys : List Str) : (movesF t cs ys).length ≤ ys.length := by
  have := List.length_filter_le (fun m : Str × V × V => !decide (m.2.1 = m.2.2)) (rowsF t cs ys)
  unfold rowsF at this
  rw [List.length_map] at this
  exact this
theorem flat_new {cs : List (Str × V × V)} (h : ∀ c ∈ cs, flatN c.2.1) : ∀ e ∈ newT cs, flatN e.2 := fun e he => by
  obtain ⟨c, hc, rfl⟩ := List.mem_map.mp he
  exact h c hc
theorem flat_moves {t : Tab} {cs : List (Str × V × V)} {ys : List Str} (ht : ∀ e ∈ t, flatN e.2) (h : ∀ c ∈ cs, flatN c.2.1) : ∀ m ∈ rowsF t cs ys, flatN m.2.1 ∧ flatN m.2.2 := fun m hm => by
  obtain ⟨x, _, rfl⟩ := List.mem_map.mp hm
  exact ⟨flat_val ht x, flat_val (flat_new h) x⟩
theorem have_after {t u : Tab} {ms : List (Str × V × V)} (nt : Nd t) (so : SortOf t u) (nm : (ms.map (·.1)).Nodup) : haveF ((afterT u ms).map (·.1)) = haveF ((afterT t ms).map (·.1)) :=
  have_perm (keys_perm (nd_after (so.nd nt) nm) (nd_after nt nm) fun x => by rw [val_after (so.nd nt) nm, val_after nt nm, so.2.2])
theorem yields_zipL {α : Type} {K : PySem.W.Frag} {a : Addr} {as : List Addr} {ms : List α} (e : as.length = ms.length) : Yields (Itl K a) ((as.zip ms).map fun u => V.ref u.1) (fun H => SqL K H a (as.map V.ref)) := by
  rw [zip_ms e]
  exact yields_list
end Fk

set_option maxHeartbeats 4000000
/-! x[y] of an own class. -/
namespace Fk
open PySem PySem.Spec PyProof.Rows L2
section
variable {P : Program} {w : World} {K : PySem.W.Frag} {mg : Str → Option Value} {base : Heap} {k : Nat} {C : Addr} {m : Str} {sp : Sp}
theorem ownM_of (M : C8.Met P w K mg base k C m sp []) : OwnM P w K mg base C8.CX0 k C m sp := by
  obtain ⟨f, fd, ps, ds, _, hm, F, b, d⟩ := M.ex
  cases d
  exact ⟨f, fd, ps, hm.at_, hm.fn, F, b⟩
/-- .. whose def is known as a def -/
structure GetM (P : Program) (w : World) (K : PySem.W.Frag) (mg : Str → Option Value) (base : Heap) (k : Nat) (C : Addr) (sp : Sp) : Prop where
  ex : ∃ (f : Addr) (fd : FuncData) (ps : List Str), PySem.W.findIn K (.ref C) "__getitem__" = some (some (.ref f)) ∧ PySem.W.isFn K (.ref f) = true ∧ PySem.W.fnIn K f = true ∧ FnOk P w K mg base C8.CX0 k f fd ps sp ∧ Binds K fd ps []
theorem getM_of {qual : Str} {st : Stmt} {N ps : List Str} (D : MDef K C "__getitem__" qual st) (S : FnScope N ps (C8.fnScope st))
    (hb : ∀ (kV doc pm : Value) (an : Option Addr) (cdv ct : Value) (us : List Value), us.length = ps.length → bindArgs (PySem.W.fnOf "__getitem__" qual (C8.fnArgs st) (C8.fnBody st) (C8.fnScope st) .none kV doc pm an cdv ct) ⟨us, []⟩ = pure (ps.zip us))
    (len : ∀ vs H Q E, sp vs H Q E → vs.length = ps.length)
    (hbody : ∀ (f : Addr) (cdv : Value) (A : Around) (outer : List Env) (s : Shared) (H : Hp) (vs : List V) (Q : VK) (E : XK), Room k (A.deeper (envOfC qual (C8.fnScope st) s.heap.objs.size f cdv)) → sp vs H Q E →
      ∃ t, PSs (cxOf C8.CX0 P w K mg base N qual (C8.fnScope st) f cdv A outer s H E).nox (C8.fnBody st) t ∧ t { nx := fun _ H' => Q .non H', rt := Q } (start N vs) H) : GetM P w K mg base (k + 1) C sp := by
  obtain ⟨f, fd, F, M, df⟩ := D.ex
  have G := C8.fn0 (P := P) (w := w) (mg := mg) (base := base) F S len (hbody f)
  have b := F.binds df hb
  obtain ⟨oc, od, dV, kV, doc, pm, an, cdv, ct, osl, rfl, lk, hcd⟩ := F.ex
  refine ⟨f, _, ps, M.at_, M.fn, ?_, G, b⟩
  unfold PySem.W.fnIn
  rw [lk]
end
section
variable {X : Cx} {k : Nat} {C : Addr} {sp : Sp} {o i : Expr} {td ty : TE} {pos : Pos}
def tOwnGet (C : Addr) (sp : Sp) (td ty : TE) : TE := fun σ H Q => td σ H fun x H1 => ty σ H1 fun y H2 => ∃ (a dx : Addr) (fs : List (Str × V)), x = .ref a ∧ H2 a = some (.ins C dx fs) ∧ sp [x, y] H2 Q C8.E0
theorem pe_ownGet (M : GetM X.prog X.w X.K X.mg X.base k C sp) (hr : Room (k + 1) X.A) (ho : PE X o td) (hi : PE X i ty)
    (hsl : ∀ x iv, subscripted i true (.ref x) iv = runValue (.builtin "lifetime.subscript" ⟨[.ref x, iv], []⟩) := by intro _ _; with_unfolding_all rfl) : PE X (.Subscript o i pos) (tOwnGet C sp td ty) := by
  refine ⟨fun pins s σ H Q I h => ?_⟩
  refine Subscript_ (thn (ho.run pins s σ H _ I h) fun v s1 ⟨x, H1, I1, rx, q1⟩ => thn (hi.run pins s1 σ H1 _ I1 q1) fun u s2 ⟨y, H2, I2, ry, a, dx, fs, ex, ha, q⟩ => ?_)
  subst ex
  obtain rfl : v = Value.ref a := rx
  obtain ⟨f, fd, ps, hs, hf, hfi, F, hb⟩ := M.ex
  obtain ⟨mA, J, _⟩ := ins_get I2.hok ha
  obtain ⟨od, J, _⟩ := J.look
  obtain ⟨m, hF⟩ := I2.fr
  exact PySem.W.sub_K hF I2.ok.mod.kin J hs hfi hf (run_in F hr.in1 I2.env0.in1 hb noEx0 I2 (show Vals [V.ref a, y] [Value.ref a, u] from .cons rfl (.cons ry .nil)) q) (hsl _ _)
end
end Fk

set_option maxHeartbeats 4000000
/-! xs[::-1] of a list, t[::-1] of a tuple. -/
namespace Fk
open PySem PySem.Spec PyProof.Rows L2 HT
theorem back_places (n : Nat) : Builtin.Slice.sliceAdjust none none (-1) (n : Int) = ((n : Int) - 1, -1) ∧ Builtin.Slice.slicePlaces ((n : Int) - 1) (-1) (-1) = n := by
  constructor
  · first | rfl | simp [Builtin.Slice.sliceAdjust]
  · unfold Builtin.Slice.slicePlaces
    rw [if_neg (by decide)]
    by_cases h : (n : Int) - 1 > -1
    · rw [if_pos h, show (- -1 : Int) = 1 by decide, Int.ediv_one]
      omega
    · rw [if_neg h]
      omega
theorem sliceApplied_back {prog : Program} {w : World} {A : Around} {E : Value → Shared → Prop} {s : Shared} {sl : Addr} {vk : Value} {n : Nat} {Q : Int × Int × Nat → Shared → Prop} (hs : s.heap.IsSliceOf sl .none .none vk) (pk : IsPart vk (some (-1)))
    (h : Q ((n : Int) - 1, -1, n) s) : wpAny (model prog w) A (Builtin.Slice.sliceApplied (.ref sl) (pure (n : Int))) Q E s := by
  obtain ⟨os, hos, hcs, hds⟩ := id hs
  unfold Builtin.Slice.sliceApplied Builtin.Slice.sliceFields
  refine wpAny_bind (wpAny_bind (wpAny_field hos hds (x := .none) rfl (wpAny_bind (wpAny_field hos hds (x := .none) rfl (wpAny_bind (wpAny_field hos hds (x := vk) rfl (wpAny_pure ?_)))))))
  refine wpAny_bind (slicePart_ pk ?_)
  show wpAny _ _ (if ((-1 : Int) == 0) = true then _ else _) _ _ s
  rw [if_neg (by decide)]
  refine wpAny_bind (slicePart_ .none (wpAny_bind (slicePart_ .none (wpAny_bind (wpAny_pure ?_)))))
  show wpAny _ _ (match Builtin.Slice.sliceAdjust none none (-1) (n : Int) with | (lo, hi) => pure (lo, (-1 : Int), Builtin.Slice.slicePlaces lo hi (-1))) _ _ s
  rw [(back_places n).1]
  show wpAny _ _ (pure ((n : Int) - 1, (-1 : Int), Builtin.Slice.slicePlaces ((n : Int) - 1) (-1) (-1))) _ _ s
  rw [(back_places n).2]
  exact wpAny_pure h
theorem fm_congr {α β : Type} {f g : α → Option β} : ∀ {l : List α}, (∀ x ∈ l, f x = g x) → l.filterMap f = l.filterMap g
  | [], _ => rfl
  | a :: r, h => by
    rw [List.filterMap_cons, List.filterMap_cons, h a List.mem_cons_self, fm_congr fun x hx => h x (List.mem_cons_of_mem _ hx)]
theorem pick_back (items : Array Value) : ((List.range items.size).filterMap fun (k : Nat) => items[((items.size : Int) - 1 + (k : Int) * (-1)).toNat]?) = items.toList.reverse := by
  have e : ((List.range items.size).filterMap fun (k : Nat) => items[((items.size : Int) - 1 + (k : Int) * (-1)).toNat]?) = ((List.range items.size).map fun k => items.size - 1 - k).filterMap (items[·]?) := by
    rw [List.filterMap_map]
    refine fm_congr fun k hk => ?_
    have := List.mem_range.mp hk
    show _ = items[items.size - 1 - k]?
    congr 1
    omega
  rw [e, PySem.W.krv_range, List.filterMap_reverse, PySem.W.krv_all]
theorem getItem_tuple_back {prog : Program} {w : World} {A : Around} {E : Value → Shared → Prop} {s : Shared} {t sl : Addr} {items : Array Value} {vk : Value} {Q : Value → Shared → Prop} (ht : IsTup s.heap t items) (hs : s.heap.IsSliceOf sl .none .none vk) (pk : IsPart vk (some (-1)))
    (h : Q (.ref s.heap.objs.size) { s with heap := s.heap.push { cls := .type "tuple", data := .seq items.toList.reverse.toArray } }) (hsz : items.size ≤ sizeLine) : wpAny (model prog w) A (getItem (.ref t) (.ref sl)) Q E s := by
  have htake : sizeOk (.seq items.toList.reverse.toArray) := by
    show items.toList.reverse.toArray.size ≤ sizeLine
    rw [List.size_toArray, List.length_reverse, Array.length_toList]
    exact hsz
  obtain ⟨os, hos, hcs, hds⟩ := id hs
  have hTs : s.TypeIs (.ref sl) "slice" := ⟨os, hos, hcs⟩
  unfold getItem
  try with_reducible refine wpAny_holding ?_
  first | refine wpAny_bind (wpAny_pure ?_) | skip
  refine wpAny_bind (wpAny_sequenceKey ht.typeIs (by decide) ?_)
  refine wpAny_bind (wpAny_callSpecial?_slot (name := Str.ofString "__getitem__") ht.typeIs PyProof.Rows.slot_tuple_getitem
    (wpAny_call_entry PyProof.Rows.slot_tuple_getitem ht.typeIs entry_tuple_getitem ?_ (args_tuple_getitem _ _)))
  show wpAny _ _ (Builtin.Tuple.tupleItemsOf (.ref t) >>= _) _ _ s
  refine wpAny_bind (tupleItemsOf_ ht ?_)
  refine wpAny_bind (wpAny_typeOf hTs ?_)
  rw [if_pos (by decide)]
  refine wpAny_bind (sliceApplied_back hs pk ?_)
  have hno : ¬ ((((items.size : Int) - 1) == 0 && (-1 : Int) == 1 && items.size == items.size) = true) := by
    rw [show ((-1 : Int) == 1) = false from by decide, Bool.and_false, Bool.false_and]
    exact Bool.false_ne_true
  show wpAny _ _ (if (((items.size : Int) - 1) == 0 && (-1 : Int) == 1 && items.size == items.size) = true then _ else _) _ _ s
  rw [if_neg hno, pick_back]
  first
    | exact wpAny_bind (m := Builtin.Tuple.tupleExact _) (wpAny_newObj_type (wpAny_pure ⟨_, rfl, wpAny_pure h⟩) htake)
    | exact wpAny_bind (m := Builtin.Tuple.tupleExact _) (wpAny_newObj_type (wpAny_bind (wpAny_pure (wpAny_pure ⟨_, rfl, wpAny_pure h⟩))) htake)
    | exact wpAny_bind (wpAny_bind (m := Builtin.Tuple.tupleExact _) (wpAny_newObj_type (wpAny_pure (wpAny_pure ⟨_, rfl, wpAny_pure h⟩)) htake))
    | exact wpAny_bind (wpAny_bind (m := Builtin.Tuple.tupleExact _) (wpAny_newObj_type (wpAny_pure ⟨_, rfl, wpAny_pure h⟩) htake))
def rBack (K : PySem.W.Frag) : V → Hp → VK → Prop := fun x H Q => (∃ a xs, x = .ref a ∧ SqL K H a xs ∧ ∀ p, H p = none → Q (.ref p) (upd H p (.lst xs.reverse))) ∨ ∃ a xs, x = .ref a ∧ SqT K H a xs ∧ ∀ p, H p = none → Q (.ref p) (upd H p (.tup xs.reverse))
def tBack (K : PySem.W.Frag) (te ts : TE) : TE := fun σ H Q => te σ H fun x H1 => ts σ H1 fun y H2 => y = .int (-1) ∧ rBack K x H2 Q
theorem vals_rev {xs : List V} {us : List Value} (r : Vals xs us) : Vals xs.reverse us.reverse := by
  induction r with
  | nil => exact .nil
  | cons h t ih =>
    rw [List.reverse_cons, List.reverse_cons]
    exact ih.append (.cons h .nil)
/-- e[::-1] -/
theorem pe_back {X : Cx} {e st : Expr} {te ts : TE} {p2 pos : Pos} (he : PE X e te) (hst : PE X st ts) (hp : evalPart (some st) X.env = eval st X.env := by rfl)
    (hsub : ∀ x sl : Addr, ∃ ops, subscripted (.Slice none none (some st) p2) false (.ref x) (.ref sl) = operate ops (getItem (.ref x) (.ref sl)) := by intro x sl; exact ⟨_, by with_unfolding_all rfl⟩) : PE X (.Subscript e (.Slice none none (some st) p2) pos) (tBack X.K te ts) := by
  refine ⟨fun pins s σ H Q I h => ?_⟩
  refine Subscript_ (thn (he.run pins s σ H _ I h) fun v s1 ⟨x, H1, I1, r1, q1⟩ => ?_)
  refine wpAny_Slice ?_
  rw [evalPart_none]
  refine wpAny_pure (wpAny_pure ?_)
  rw [hp]
  refine thn (hst.run pins s1 σ H1 _ I1 q1) fun vk s3 ⟨y, H3, I3, pk, ey, q3⟩ => ?_
  subst ey
  obtain ⟨tk, rfl⟩ := (show ∃ t, vk = Value.int (-1) t from pk)
  have pk' : IsPart (.int (-1) tk) (some (-1)) := .int _ _
  have I4 : Inv X pins σ H3 { s3 with heap := s3.heap.push { cls := .type "slice", data := .fields #[.none, .none, .int (-1) tk] } } := I3.kept (t' := s3.toks) fun b ob q => Heap.get?_push_of_some _ q
  have hs : Heap.IsSliceOf (s3.heap.push { cls := .type "slice", data := .fields #[.none, .none, .int (-1) tk] }) s3.heap.objs.size .none .none (.int (-1) tk) := Heap.IsSliceOf.new ..
  generalize hS : ({ s3 with heap := s3.heap.push { cls := .type "slice", data := .fields #[.none, .none, .int (-1) tk] } } : Shared) = S at I4
  have hs' : S.heap.IsSliceOf s3.heap.objs.size .none .none (.int (-1) tk) := by rw [← hS]; exact hs
  show wpAny (model X.prog X.w) X.A (subscriptTail e (.Slice none none (some st) p2) v (.ref s3.heap.objs.size)) (EP X pins σ Q) X.xe S
  rcases q3 with ⟨a, xs, rfl, hx, q⟩ | ⟨a, xs, rfl, hx, q⟩
  · cases (show v = Value.ref a from r1)
    obtain ⟨its, r, hl, hz⟩ := I4.list hx
    have hlen : its.toArray.size = xs.length := by rw [List.size_toArray]; exact r.length.symm
    obtain ⟨ops, eo⟩ := hsub a s3.heap.objs.size
    refine tail_any (T := "list") (ops := ops) hl.isList.typeIs slot_list_getitem.lookup ?_ eo
    refine wpAny_getItem_list_slice hl.isList hs' .none .none pk' (by decide) ?_ (by rw [hlen]; exact hz)
    rw [PySem.W.krv_pick]
    refine ⟨.ref S.heap.objs.size, _, I4.laid (t' := S.toks) (o := .lst xs.reverse) (fun b ob q => Heap.get?_push_of_some _ q) (Nat.le_refl _) ?_, rfl, q _ (I4.hok.fresh (Nat.le_refl _))⟩
    exact ⟨by rw [List.length_reverse]; exact hz, _, 0, (vals_rev r), Heap.get?_push_size _ rfl⟩
  · cases (show v = Value.ref a from r1)
    obtain ⟨its, r, ht, hz⟩ := I4.tuple hx
    have hlen : its.toArray.size = xs.length := by rw [List.size_toArray]; exact r.length.symm
    obtain ⟨ops, eo⟩ := hsub a s3.heap.objs.size
    refine tail_any (T := "tuple") (ops := ops) ht.typeIs PyProof.Rows.slot_tuple_getitem.lookup ?_ eo
    refine getItem_tuple_back ht hs' pk' ?_ (by rw [hlen]; exact hz)
    refine ⟨.ref S.heap.objs.size, _, I4.laid (t' := S.toks) (o := .tup xs.reverse) (fun b ob q => Heap.get?_push_of_some _ q) (Nat.le_refl _) ?_, rfl, q _ (I4.hok.fresh (Nat.le_refl _))⟩
    exact ⟨by rw [List.length_reverse]; exact hz, _, (vals_rev r), IsTup.new _ _⟩
end Fk

set_option maxHeartbeats 4000000
namespace Fk
open PySem PySem.Spec PyProof.Rows L2
def top (i : Nat) : Stmt := PySem.Challenge.pw_forkhaul_k32_states_there_and_back.main.body.getD i (.Pass ⟨0, 0, 0, 0⟩)
abbrev s__wall : Stmt := top 0
theorem sc__wall : FnScope ["k"] ["k"] (C8.fnScope s__wall) := C8.fnScope_by (by decide +kernel)

abbrev s_ForkError_init : Stmt := inClass (top 2) 0
theorem sc_ForkError_init : FnScope ["self", "why"] ["self", "why"] (C8.fnScope s_ForkError_init) := C8.fnScope_by (by decide +kernel)

abbrev s_Locked_init : Stmt := inClass (top 6) 0
theorem sc_Locked_init : FnScope ["self", "ref"] ["self", "ref"] (C8.fnScope s_Locked_init) := C8.fnScope_by (by decide +kernel)

abbrev s_Stale_init : Stmt := inClass (top 7) 0
theorem sc_Stale_init : FnScope ["self", "ref"] ["self", "ref"] (C8.fnScope s_Stale_init) := C8.fnScope_by (by decide +kernel)

abbrev s_NoRef_init : Stmt := inClass (top 8) 0
theorem sc_NoRef_init : FnScope ["self", "name"] ["self", "name"] (C8.fnScope s_NoRef_init) := C8.fnScope_by (by decide +kernel)

abbrev s_is_id : Stmt := top 16
theorem sc_is_id : FnScope ["thing"] ["thing"] (C8.fnScope s_is_id) := C8.fnScope_by (by decide +kernel)

abbrev s_is_id_or_none : Stmt := top 17
theorem sc_is_id_or_none : FnScope ["thing"] ["thing"] (C8.fnScope s_is_id_or_none) := C8.fnScope_by (by decide +kernel)

abbrev s_is_ref : Stmt := top 18
theorem sc_is_ref : FnScope ["thing", "segments", "most", "segment"] ["thing"] (C8.fnScope s_is_ref) := C8.fnScope_by (by decide +kernel)

abbrev s_is_short_ref : Stmt := top 19
theorem sc_is_short_ref : FnScope ["thing"] ["thing"] (C8.fnScope s_is_short_ref) := C8.fnScope_by (by decide +kernel)

abbrev s_is_text : Stmt := top 20
theorem sc_is_text : FnScope ["thing"] ["thing"] (C8.fnScope s_is_text) := C8.fnScope_by (by decide +kernel)

abbrev s_is_message : Stmt := top 21
theorem sc_is_message : FnScope ["thing"] ["thing"] (C8.fnScope s_is_message) := C8.fnScope_by (by decide +kernel)

abbrev s_is_time : Stmt := top 22
theorem sc_is_time : FnScope ["thing"] ["thing"] (C8.fnScope s_is_time) := C8.fnScope_by (by decide +kernel)

abbrev s_is_count : Stmt := top 23
theorem sc_is_count : FnScope ["thing"] ["thing"] (C8.fnScope s_is_count) := C8.fnScope_by (by decide +kernel)

abbrev s_ascending : Stmt := top 24
theorem sc_ascending : FnScope ["names", "name"] ["names"] (C8.fnScope s_ascending) := C8.fnScope_by (by decide +kernel)

abbrev s_prefixes : Stmt := top 25
theorem sc_prefixes : FnScope ["path", "segments", "many"] ["path"] (C8.fnScope s_prefixes) := C8.fnScope_by (by decide +kernel)

abbrev s_have_prefixes : Stmt := top 26
theorem sc_have_prefixes : FnScope ["paths", "path", "prefix"] ["paths"] (C8.fnScope s_have_prefixes) := C8.fnScope_by (by decide +kernel)

abbrev s__is_word : Stmt := top 27
theorem sc__is_word : FnScope ["thing", "signs"] ["thing", "signs"] (C8.fnScope s__is_word) := C8.fnScope_by (by decide +kernel)

abbrev s_is_state : Stmt := top 30
theorem sc_is_state : FnScope ["thing", "rows", "head", "logs", "ids", "ref", "name", "entries"] ["thing"] (C8.fnScope s_is_state) := C8.fnScope_by (by decide +kernel)

abbrev s_is_head : Stmt := top 31
theorem sc_is_head : FnScope ["thing", "word", "name"] ["thing"] (C8.fnScope s_is_head) := C8.fnScope_by (by decide +kernel)

abbrev s_is_log_name : Stmt := top 32
theorem sc_is_log_name : FnScope ["thing"] ["thing"] (C8.fnScope s_is_log_name) := C8.fnScope_by (by decide +kernel)

abbrev s_touch : Stmt := top 33
theorem sc_touch : FnScope ["one", "other"] ["one", "other"] (C8.fnScope s_touch) := C8.fnScope_by (by decide +kernel)

abbrev s_led_to : Stmt := top 34
theorem sc_led_to : FnScope ["ids", "head", "word", "name"] ["ids", "head"] (C8.fnScope s_led_to) := C8.fnScope_by (by decide +kernel)

abbrev s_moved : Stmt := top 35
theorem sc_moved : FnScope ["state", "moves", "head", "note", "rows", "old_head", "logs", "old_ids", "ref", "name", "ids", "entries", "log", "old", "new", "before", "behind"] ["state", "moves", "head", "note"] (C8.fnScope s_moved) := C8.fnScope_by (by decide +kernel)

abbrev s_after_moves : Stmt := top 36
theorem sc_after_moves : FnScope ["ids", "moves", "news", "ref", "_", "new", "kept", "made"] ["ids", "moves"] (C8.fnScope s_after_moves) := C8.fnScope_by (by decide +kernel)

abbrev s_sorted_rows : Stmt := top 37
theorem sc_sorted_rows : FnScope ["table", "name"] ["table"] (C8.fnScope s_sorted_rows) := C8.fnScope_by (by decide +kernel)

abbrev s_are_rows : Stmt := top 38
theorem sc_are_rows : FnScope ["thing", "row", "after"] ["thing"] (C8.fnScope s_are_rows) := C8.fnScope_by (by decide +kernel)

abbrev s__are_entries : Stmt := top 39
theorem sc__are_entries : FnScope ["thing", "entry"] ["thing"] (C8.fnScope s__are_entries) := C8.fnScope_by (by decide +kernel)

abbrev s__is_entry : Stmt := top 40
theorem sc__is_entry : FnScope ["thing", "old", "new", "who", "time", "message"] ["thing"] (C8.fnScope s__is_entry) := C8.fnScope_by (by decide +kernel)

abbrev s_Edit_init : Stmt := inClass (top 42) 0
theorem sc_Edit_init : FnScope ["self", "refs", "note"] ["self", "refs", "note"] (C8.fnScope s_Edit_init) := C8.fnScope_by (by decide +kernel)

abbrev s_Edit_point : Stmt := inClass (top 42) 1
theorem sc_Edit_point : FnScope ["self", "ref", "new", "old"] ["self", "ref", "new", "old"] (C8.fnScope s_Edit_point) := C8.fnScope_by (by decide +kernel)

abbrev s_Edit_delete : Stmt := inClass (top 42) 2
theorem sc_Edit_delete : FnScope ["self", "ref", "old"] ["self", "ref", "old"] (C8.fnScope s_Edit_delete) := C8.fnScope_by (by decide +kernel)

abbrev s_Edit_stand : Stmt := inClass (top 42) 3
theorem sc_Edit_stand : FnScope ["self", "word", "name"] ["self", "word", "name"] (C8.fnScope s_Edit_stand) := C8.fnScope_by (by decide +kernel)

abbrev s_Edit_finish : Stmt := inClass (top 42) 4
theorem sc_Edit_finish : FnScope ["self"] ["self"] (C8.fnScope s_Edit_finish) := C8.fnScope_by (by decide +kernel)

abbrev s_Edit_drop : Stmt := inClass (top 42) 5
theorem sc_Edit_drop : FnScope ["self"] ["self"] (C8.fnScope s_Edit_drop) := C8.fnScope_by (by decide +kernel)

abbrev s_Edit_moves : Stmt := inClass (top 42) 6
theorem sc_Edit_moves : FnScope ["self", "ids", "ref", "old", "rows", "moves", "new"] ["self"] (C8.fnScope s_Edit_moves) := C8.fnScope_by (by decide +kernel)

abbrev s_Edit_behind : Stmt := inClass (top 42) 7
theorem sc_Edit_behind : FnScope ["self", "moves", "state", "head"] ["self"] (C8.fnScope s_Edit_behind) := C8.fnScope_by (by decide +kernel)

abbrev s_Edit_enter : Stmt := inClass (top 42) 8
theorem sc_Edit_enter : FnScope ["self"] ["self"] (C8.fnScope s_Edit_enter) := C8.fnScope_by (by decide +kernel)

abbrev s_Edit_exit : Stmt := inClass (top 42) 9
theorem sc_Edit_exit : FnScope ["self", "kind", "value", "trace"] ["self", "kind", "value", "trace"] (C8.fnScope s_Edit_exit) := C8.fnScope_by (by decide +kernel)

abbrev s_Editcheck_open : Stmt := inClass (top 42) 10
theorem sc_Editcheck_open : FnScope ["self"] ["self"] (C8.fnScope s_Editcheck_open) := C8.fnScope_by (by decide +kernel)

abbrev s_Editcall : Stmt := inClass (top 42) 11
theorem sc_Editcall : FnScope ["self", "ref", "new", "old"] ["self", "ref", "new", "old"] (C8.fnScope s_Editcall) := C8.fnScope_by (by decide +kernel)

abbrev s_Editids : Stmt := inClass (top 42) 12
theorem sc_Editids : FnScope ["self", "ref", "name"] ["self"] (C8.fnScope s_Editids) := C8.fnScope_by (by decide +kernel)

abbrev s_Refs_init : Stmt := inClass (top 44) 0
theorem sc_Refs_init : FnScope ["self", "state"] ["self", "state"] (C8.fnScope s_Refs_init) := C8.fnScope_by (by decide +kernel)

abbrev s_Refs_getitem : Stmt := inClass (top 44) 1
theorem sc_Refs_getitem : FnScope ["self", "ref"] ["self", "ref"] (C8.fnScope s_Refs_getitem) := C8.fnScope_by (by decide +kernel)

abbrev s_Refs_contains : Stmt := inClass (top 44) 2
theorem sc_Refs_contains : FnScope ["self", "ref"] ["self", "ref"] (C8.fnScope s_Refs_contains) := C8.fnScope_by (by decide +kernel)

abbrev s_Refs_len : Stmt := inClass (top 44) 3
theorem sc_Refs_len : FnScope ["self"] ["self"] (C8.fnScope s_Refs_len) := C8.fnScope_by (by decide +kernel)

abbrev s_Refs_iter : Stmt := inClass (top 44) 4
theorem sc_Refs_iter : FnScope ["self"] ["self"] (C8.fnScope s_Refs_iter) := C8.fnScope_by (by decide +kernel)

abbrev s_Refs_names : Stmt := inClass (top 44) 5
theorem sc_Refs_names : FnScope ["self"] ["self"] (C8.fnScope s_Refs_names) := C8.fnScope_by (by decide +kernel)

abbrev s_Refs_head : Stmt := inClass (top 44) 6
theorem sc_Refs_head : FnScope ["self"] ["self"] (C8.fnScope s_Refs_head) := C8.fnScope_by (by decide +kernel)

abbrev s_Refs_at_head : Stmt := inClass (top 44) 7
theorem sc_Refs_at_head : FnScope ["self"] ["self"] (C8.fnScope s_Refs_at_head) := C8.fnScope_by (by decide +kernel)

abbrev s_Refs_state : Stmt := inClass (top 44) 8
theorem sc_Refs_state : FnScope ["self"] ["self"] (C8.fnScope s_Refs_state) := C8.fnScope_by (by decide +kernel)

abbrev s_Refs_log : Stmt := inClass (top 44) 9
theorem sc_Refs_log : FnScope ["self", "name"] ["self", "name"] (C8.fnScope s_Refs_log) := C8.fnScope_by (by decide +kernel)

abbrev s_Refs_back : Stmt := inClass (top 44) 10
theorem sc_Refs_back : FnScope ["self", "name", "n"] ["self", "name", "n"] (C8.fnScope s_Refs_back) := C8.fnScope_by (by decide +kernel)

abbrev s_Refs_expire : Stmt := inClass (top 44) 11
theorem sc_Refs_expire : FnScope ["self", "now", "age"] ["self", "now", "age"] (C8.fnScope s_Refs_expire) := C8.fnScope_by (by decide +kernel)

abbrev s_Refs_edit : Stmt := inClass (top 44) 12
theorem sc_Refs_edit : FnScope ["self", "who", "time", "message"] ["self", "who", "time", "message"] (C8.fnScope s_Refs_edit) := C8.fnScope_by (by decide +kernel)

abbrev s_Refs_lock : Stmt := inClass (top 44) 13
theorem sc_Refs_lock : FnScope ["self", "ref", "edit", "held", "name", "barring"] ["self", "ref", "edit"] (C8.fnScope s_Refs_lock) := C8.fnScope_by (by decide +kernel)

abbrev s_Refs_become : Stmt := inClass (top 44) 14
theorem sc_Refs_become : FnScope ["self", "state"] ["self", "state"] (C8.fnScope s_Refs_become) := C8.fnScope_by (by decide +kernel)

abbrev s_Refs_copied : Stmt := inClass (top 44) 15
theorem sc_Refs_copied : FnScope ["self"] ["self"] (C8.fnScope s_Refs_copied) := C8.fnScope_by (by decide +kernel)

abbrev s_Refstake_over : Stmt := inClass (top 44) 16
theorem sc_Refstake_over : FnScope ["self", "state", "rows", "head", "logs", "ref", "name", "entries"] ["self", "state"] (C8.fnScope s_Refstake_over) := C8.fnScope_by (by decide +kernel)

abbrev s_Refscount_entries : Stmt := inClass (top 44) 17
theorem sc_Refscount_entries : FnScope ["self"] ["self"] (C8.fnScope s_Refscount_entries) := C8.fnScope_by (by decide +kernel)

abbrev s_l_cell_at : Stmt := top 46
theorem sc_l_cell_at : FnScope ["_law_script", "_law_k"] ["_law_script", "_law_k"] (C8.fnScope s_l_cell_at) := C8.fnScope_by (by decide +kernel)

abbrev s_l_source : Stmt := top 47
theorem sc_l_source : FnScope ["_law_cell"] ["_law_cell"] (C8.fnScope s_l_source) := C8.fnScope_by (by decide +kernel)

abbrev s_l_draw : Stmt := top 48
theorem sc_l_draw : FnScope ["_law_source_here", "_law_size", "_law_digit", "_law_number"] ["_law_source_here", "_law_size"] (C8.fnScope s_l_draw) := C8.fnScope_by (by decide +kernel)

abbrev s_l_pick : Stmt := top 49
theorem sc_l_pick : FnScope ["_law_source_here", "_law_items"] ["_law_source_here", "_law_items"] (C8.fnScope s_l_pick) := C8.fnScope_by (by decide +kernel)

abbrev s_l_ref : Stmt := top 50
theorem sc_l_ref : FnScope ["_law_source_here", "_law_some"] ["_law_source_here"] (C8.fnScope s_l_ref) := C8.fnScope_by (by decide +kernel)

abbrev s_l_id : Stmt := top 51
theorem sc_l_id : FnScope ["_law_source_here"] ["_law_source_here"] (C8.fnScope s_l_id) := C8.fnScope_by (by decide +kernel)

abbrev s_l_new : Stmt := top 52
theorem sc_l_new : FnScope [] [] (C8.fnScope s_l_new) := C8.fnScope_by (by decide +kernel)

abbrev s_l_at_head : Stmt := top 53
theorem sc_l_at_head : FnScope ["_law_m"] ["_law_m"] (C8.fnScope s_l_at_head) := C8.fnScope_by (by decide +kernel)

abbrev s_l_above : Stmt := top 54
theorem sc_l_above : FnScope ["_law_ref_here", "_law_parts", "_law_k"] ["_law_ref_here"] (C8.fnScope s_l_above) := C8.fnScope_by (by decide +kernel)

abbrev s_l_behind : Stmt := top 55
theorem sc_l_behind : FnScope ["_law_m", "_law_calls", "_law_stands_here", "_law_signed", "_law_ref_here", "_law_value", "_law_had", "_law_new_here", "_law_prefix", "_law_call", "_law_entry"] ["_law_m", "_law_calls", "_law_stands_here", "_law_signed"] (C8.fnScope s_l_behind) := C8.fnScope_by (by decide +kernel)

abbrev s_l_stands : Stmt := top 56
theorem sc_l_stands : FnScope ["_law_refs", "_law_m", "_law_ref_here", "_law_name"] ["_law_refs", "_law_m"] (C8.fnScope s_l_stands) := C8.fnScope_by (by decide +kernel)

abbrev s_l_noted : Stmt := top 57
theorem sc_l_noted : FnScope ["_law_source_here", "_law_edit", "_law_m", "_law_calls", "_law_stands_here", "_law_k", "_law_way", "_law_ref_here", "_law_had", "_law_call"] ["_law_source_here", "_law_edit", "_law_m"] (C8.fnScope s_l_noted) := C8.fnScope_by (by decide +kernel)

abbrev s_l_finished : Stmt := top 58
theorem sc_l_finished : FnScope ["_law_edit", "e"] ["_law_edit"] (C8.fnScope s_l_finished) := C8.fnScope_by (by decide +kernel)

abbrev s_l_edited : Stmt := top 59
theorem sc_l_edited : FnScope ["_law_source_here", "_law_refs", "_law_m", "_law_signed", "_law_edit", "_law_calls", "_law_stands_here", "_law_due", "_law_told"] ["_law_source_here", "_law_refs", "_law_m"] (C8.fnScope s_l_edited) := C8.fnScope_by (by decide +kernel)

abbrev s_l_moves : Stmt := top 60
theorem sc_l_moves : FnScope ["_law_m", "_law_new_here", "_law_names", "_law_found", "_law_ref_here", "_law_row"] ["_law_m", "_law_new_here"] (C8.fnScope s_l_moves) := C8.fnScope_by (by decide +kernel)

abbrev s_l_asked : Stmt := top 61
theorem sc_l_asked : FnScope ["_law_ask", "e"] ["_law_ask"] (C8.fnScope s_l_asked) := C8.fnScope_by (by decide +kernel)

abbrev s_l_previewed : Stmt := top 62
theorem sc_l_previewed : FnScope ["_law_source_here", "_law_refs", "_law_m", "_law_signed", "_law_edit", "_law_calls", "_law_stands_here", "_law_due", "_law_before", "_law_moves_here", "_law_behind_here"] ["_law_source_here", "_law_refs", "_law_m"] (C8.fnScope s_l_previewed) := C8.fnScope_by (by decide +kernel)

abbrev s_law : Stmt := top 63
theorem sc_law : FnScope ["_law_script", "_law_cell", "_law_source_here", "_law_refs", "_law_m", "_law_turn", "_law_kept", "_law_new_here"] ["_law_script"] (C8.fnScope s_law) := C8.fnScope_by (by decide +kernel)

structure Top (K : PySem.W.Frag) (mg : Str → Option Value) : Prop where
  d_is_id : IsDef K mg "is_id" s_is_id
  d_is_id_or_none : IsDef K mg "is_id_or_none" s_is_id_or_none
  d_is_ref : IsDef K mg "is_ref" s_is_ref
  d_is_short_ref : IsDef K mg "is_short_ref" s_is_short_ref
  d_is_text : IsDef K mg "is_text" s_is_text
  d_is_message : IsDef K mg "is_message" s_is_message
  d_is_time : IsDef K mg "is_time" s_is_time
  d_is_count : IsDef K mg "is_count" s_is_count
  d_ascending : IsDef K mg "ascending" s_ascending
  d_prefixes : IsDef K mg "prefixes" s_prefixes
  d_have_prefixes : IsDef K mg "have_prefixes" s_have_prefixes
  d__is_word : IsDef K mg "_is_word" s__is_word
  d_is_state : IsDef K mg "is_state" s_is_state
  d_is_head : IsDef K mg "is_head" s_is_head
  d_is_log_name : IsDef K mg "is_log_name" s_is_log_name
  d_touch : IsDef K mg "touch" s_touch
  d_led_to : IsDef K mg "led_to" s_led_to
  d_moved : IsDef K mg "moved" s_moved
  d_after_moves : IsDef K mg "after_moves" s_after_moves
  d_sorted_rows : IsDef K mg "sorted_rows" s_sorted_rows
  d_are_rows : IsDef K mg "are_rows" s_are_rows
  d__are_entries : IsDef K mg "_are_entries" s__are_entries
  d__is_entry : IsDef K mg "_is_entry" s__is_entry
  d_l_cell_at : IsDef K mg "_law_cell_at" s_l_cell_at
  d_l_source : IsDef K mg "_law_source" s_l_source
  d_l_draw : IsDef K mg "_law_draw" s_l_draw
  d_l_pick : IsDef K mg "_law_pick" s_l_pick
  d_l_ref : IsDef K mg "_law_ref" s_l_ref
  d_l_id : IsDef K mg "_law_id" s_l_id
  d_l_new : IsDef K mg "_law_new" s_l_new
  d_l_at_head : IsDef K mg "_law_at_head" s_l_at_head
  d_l_above : IsDef K mg "_law_above" s_l_above
  d_l_behind : IsDef K mg "_law_behind" s_l_behind
  d_l_stands : IsDef K mg "_law_stands" s_l_stands
  d_l_noted : IsDef K mg "_law_noted" s_l_noted
  d_l_finished : IsDef K mg "_law_finished" s_l_finished
  d_l_moves : IsDef K mg "_law_moves" s_l_moves
  d_l_asked : IsDef K mg "_law_asked" s_l_asked
  d_l_previewed : IsDef K mg "_law_previewed" s_l_previewed
  d_law : IsDef K mg "law" s_law
  z_KeyError : mg "KeyError" = none
  z_TypeError : mg "TypeError" = none
  z_ValueError : mg "ValueError" = none
  z_all : mg "all" = none
  z_any : mg "any" = none
  z_bool : mg "bool" = none
  z_dict : mg "dict" = none
  z_int : mg "int" = none
  z_isinstance : mg "isinstance" = none
  z_len : mg "len" = none
  z_list : mg "list" = none
  z_range : mg "range" = none
  z_set : mg "set" = none
  z_sorted : mg "sorted" = none
  z_str : mg "str" = none
  z_tuple : mg "tuple" = none
  z_zip : mg "zip" = none
  g_HEX_DIGITS : ∃ u, mg "HEX_DIGITS" = some u ∧ RelV (V.str (Str.ofString "0123456789abcdef")) u
  g_REF_SIGNS : ∃ u, mg "REF_SIGNS" = some u ∧ RelV (V.str (Str.ofString "abcdefghijklmnopqrstuvwxyz0123456789-")) u
  g_LONGEST_WORD : ∃ u, mg "LONGEST_WORD" = some u ∧ RelV (V.int 12) u
  g_LONGEST_TEXT : ∃ u, mg "LONGEST_TEXT" = some u ∧ RelV (V.int 2000) u
  g_LONGEST_MESSAGE : ∃ u, mg "LONGEST_MESSAGE" = some u ∧ RelV (V.int 200) u
  g_LATEST : ∃ u, mg "LATEST" = some u ∧ RelV (V.int 1000000000000) u
section
variable {P : Program} {w : World} {K : PySem.W.Frag} {mg : Str → Option Value} {base : Heap}
def spIsWord : Sp := fun vs H Q _ => ∃ (v : V) (y : Str), vs = [v, .str y] ∧ Thing H v ∧ ∀ H', Same H H' → Q (.bl (evalV (isWordF y) v)) H'
theorem c__is_word (T : Top K mg) : C8.Cal P w K mg base 2 "_is_word" spIsWord [] := by
  refine cal_of T.d__is_word sc__is_word (fun _ _ _ _ _ _ us hl => match us, hl with | [_, _], _ => rfl) (fun vs H Q E h => ?_) (fun f cdv A outer s H vs Q E hr h => ?_)
  · obtain ⟨x, y, rfl, _⟩ := h
    rfl
  · obtain ⟨v, y, rfl, t, q⟩ := h
    refine ⟨_, (pss_one (ps_ret (pe_and (pe_callB call_isi (by rfl) T.z_isinstance (by decide +kernel) (pa_cons (pv 0) (pa_cons (pe_bltn (v := .ty "str") (by rfl) T.z_str (by decide +kernel) rfl) pa_nil))) (pe_and (pe_chain op_le op_le pe_int (pe_callB call_len_str (by rfl) T.z_len (by decide +kernel) (pa_cons (pv 0) pa_nil)) (C8.pe_gc (by rfl) T.g_LONGEST_WORD)) (pe_one (pe_cmpR op_eq (pe_bm PySem.F.plainAttrs_str PySem.F.slot_str_strip PySem.F.type_str_strip mt_stripChars (pv 0) (pa_cons (pv 1) pa_nil)) pe_str (nomark _))))))), ?_⟩
    refine ⟨v, rfl, ?_⟩
    dsimp only [tCons, tC, tNil]
    refine t.isi ?_
    refine ⟨_, rfl, ?_⟩
    rcases t.cases with ⟨x, rfl, hx, ho⟩ | hn
    · refine iteT ⟨.str x, rfl, x, rfl, small_line (by omega), _, _, rfl, rfl, _, rfl, ite2 (fun h1 => ?_) (fun h1 => ?_)⟩
      · have h1 := of_decide_eq_true h1
        refine ⟨_, _, rfl, rfl, _, rfl, ite2 (fun h2 => ?_) (fun h2 => ?_)⟩
        · have h2 := of_decide_eq_true h2
          refine ⟨.str x, rfl, rfl, .str y, rfl, x, y, rfl, rfl, small_line (by omega), rfl, of_ev (q _ (Same.refl _)) (Eq.trans ?_ (strip_none x y).symm)⟩
          unfold isWordF
          rw [decide_eq_true (by omega), decide_eq_true (by omega)]
          rfl
        · have h2 : ¬ x.length ≤ 12 := fun z => h2 (decide_eq_true (by omega))
          refine of_ev (q _ (Same.refl _)) ?_
          unfold isWordF
          rw [decide_eq_false h2, Bool.false_and, Bool.and_false]
      · have h1 : ¬ 1 ≤ x.length := fun z => h1 (decide_eq_true (by omega))
        refine ⟨_, rfl, iteF (of_ev (q _ (Same.refl _)) ?_)⟩
        unfold isWordF
        rw [decide_eq_false h1, Bool.false_and]
    · rw [hn]
      exact iteF (of_ev0 hn (q _ (Same.refl _)))
theorem evalV_split {f : Str → Bool} : evalV f = fun v => match v with | .str x => f x | _ => false := rfl
theorem c_is_id (T : Top K mg) : C8.Cal P w K mg base 2 "is_id" (spWord isIdF) [] := by
  refine cal_of T.d_is_id sc_is_id (fun _ _ _ _ _ _ us hl => match us, hl with | [_], _ => rfl) (fun vs H Q E h => ?_) (fun f cdv A outer s H vs Q E hr h => ?_)
  · obtain ⟨x, rfl, _⟩ := h
    rfl
  · obtain ⟨v, rfl, t, q⟩ := h
    refine ⟨_, (pss_one (ps_ret (pe_and (pe_callB call_isi (by rfl) T.z_isinstance (by decide +kernel) (pa_cons (pv 0) (pa_cons (pe_bltn (v := .ty "str") (by rfl) T.z_str (by decide +kernel) rfl) pa_nil))) (pe_and (pe_cmpR op_eq (pe_callB call_len_str (by rfl) T.z_len (by decide +kernel) (pa_cons (pv 0) pa_nil)) pe_int (nomark _)) (pe_one (pe_cmpR op_eq (pe_bm PySem.F.plainAttrs_str PySem.F.slot_str_strip PySem.F.type_str_strip mt_stripChars (pv 0) (pa_cons (C8.pe_gc (by rfl) T.g_HEX_DIGITS) pa_nil)) pe_str (nomark _))))))), ?_⟩
    refine ⟨v, rfl, ?_⟩
    dsimp only [tCons, tC, tNil]
    refine t.isi ?_
    refine ⟨_, rfl, ?_⟩
    rcases t.cases with ⟨x, rfl, hx, ho⟩ | hn
    · refine iteT ⟨.str x, rfl, x, rfl, small_line (by omega), rfl, _, rfl, ite2 (fun h1 => ?_) (fun h1 => ?_)⟩
      · have h1 := V.int.inj (of_decide_eq_true h1)
        refine ⟨.str x, rfl, rfl, x, HEX, rfl, rfl, small_line (by omega), rfl, of_ev (q _ (Same.refl _)) (Eq.trans ?_ (strip_none x HEX).symm)⟩
        unfold isIdF
        rw [decide_eq_true (by omega)]
        rfl
      · have h1 : ¬ x.length = 16 := fun z => h1 (decide_eq_true (by rw [z]; rfl))
        refine of_ev (q _ (Same.refl _)) ?_
        unfold isIdF
        rw [decide_eq_false h1, Bool.false_and]
    · rw [hn]
      exact iteF (of_ev0 hn (q _ (Same.refl _)))
theorem c_is_ref (T : Top K mg) : C8.Cal P w K mg base 3 "is_ref" (spWord isRefF) [] := by
  refine cal_of T.d_is_ref sc_is_ref (fun _ _ _ _ _ _ us hl => match us, hl with | [_], _ => rfl) (fun vs H Q E h => ?_) (fun f cdv A outer s H vs Q E hr h => ?_)
  · obtain ⟨x, rfl, _⟩ := h
    rfl
  · obtain ⟨v, rfl, t, q⟩ := h
    refine ⟨_, (pss_cons (ps_if (pt_not (pt_val (pe_callB call_isi (by rfl) T.z_isinstance (by decide +kernel) (pa_cons (pv 0) (pa_cons (pe_bltn (v := .ty "str") (by rfl) T.z_str (by decide +kernel) rfl) pa_nil)))))
      (pss_one (ps_ret pe_bl))
      pss_nil)
      (pss_cons (ps_set (i := 1) sc_is_ref.nd rfl (Or.inl rfl) (pe_split (pv 0) pe_str))
      (pss_cons (ps_set (i := 2) sc_is_ref.nd rfl (Or.inl rfl) (pe_ifExp (pt_cmpR op_eq (pe_ix ix_list (pv 1) pe_int (fun _ _ => rfl)) pe_str (nomark _)) pe_int pe_int))
      (pss_one (ps_ret (pe_and (pe_cmpR op_le (pe_callB call_len_seq (by rfl) T.z_len (by decide +kernel) (pa_cons (pv 1) pa_nil)) (pv 2) (nomark _)) (pe_one (pe_callB (cr_all rfl) (by rfl) T.z_all (by decide +kernel) (pa_cons (pe_lc (own := [("segment", 3)]) (g := gName 3) (by rfl) sc_is_ref.nd (pi_list (pv 1)) (blkOk_by (own := [("segment", 3)]) (N := ["thing", "segments", "most", "segment"]) (sc := C8.fnScope s_is_ref) (by decide +kernel)) (fun _ _ _ _ _ => (pg_name (i := 3) sc_is_ref.nd rfl (Or.inl rfl))) (fun _ _ _ _ _ => pts_nil) (fun _ _ _ _ _ => (C8.pe_c (c__is_word T) hr (by decide) (by rfl) (pa_cons (pv 3) (pa_cons (C8.pe_gc (by rfl) T.g_REF_SIGNS) pa_nil))))) pa_nil))))))))), ?_⟩
    refine ⟨v, rfl, ?_⟩
    dsimp only [tCons, tC, tNil]
    refine t.isi ?_
    refine ⟨_, rfl, ?_⟩
    rcases t.cases with ⟨x, rfl, hx, ho⟩ | hn
    · obtain ⟨hl1, hl2⟩ := segs_len x hx
      have ho2 := segs_ok x ho
      refine iteF ⟨.str x, rfl, ⟨x, rfl⟩, x, _, rfl, rfl, rfl, small_line (by omega), fun p hp => ?_⟩
      have sm := same_new (o := .lst ((segs x).map V.str)) hp
      obtain ⟨y0, hy0⟩ : ∃ y0, (segs x)[0]? = some y0 := by
        cases e : segs x with
        | nil => exact absurd e (segs_ne x)
        | cons y r => exact ⟨y, rfl⟩
      refine ⟨.ref p, rfl, p, (segs x).map V.str, 0, .str y0, rfl, rfl, .inl (.inl upd_same), atI_nat (j := 0) (by rw [List.getElem?_map, hy0]; rfl), rfl, _, rfl, ?_⟩
      have key : ∀ n : Nat, mostF x = n → isRefF x = (decide ((segs x).length ≤ n) && (segs x).all (isWordF RSG)) := fun n e => by
        rw [← e]
        rfl
      refine ite2 (fun hc => ?_) (fun hc => ?_)
      · have hm := key 7 (by
          unfold mostF
          rw [hy0, if_pos (by rw [V.str.inj (of_decide_eq_true hc)])])
        refine ⟨.ref p, rfl, p, (segs x).map V.str, rfl, .inl (.inl (.inl upd_same)), _, rfl, _, _, rfl, rfl, _, rfl, ite2 (fun h1 => ?_) (fun h1 => ?_)⟩
        · have h1 : (segs x).length ≤ 7 := by
            have h1 := of_decide_eq_true h1
            rw [List.length_map] at h1
            omega
          refine ⟨.ref p, rfl, p, rfl, ⟨_, .inl (.inl upd_same)⟩, fun D hD => ?_⟩
          refine lc_pure (i := 3) (us := segs x) (g := V.str) yields_list (fun u => .bl (isWordF RSG u)) (fun _ => true) hD (fun H s => .inl (.inl (s _ _ upd_same))) (fun H u _ hu R r => r H (Same.refl H))
            (fun H u _ hu _ R r => ⟨.str u, rfl, .str u, RSG, rfl, .str u (hl2 u hu) (ho2 u hu), fun H' s' => r H' s'⟩) (by omega) (fun H2 s2 h2 => ?_)
          refine ⟨D, (segs x).map (isWordF RSG), rfl, .inl (.inl ?_), of_ev (q _ (sm.trans s2)) ?_⟩
          · rw [h2, filt_all, List.map_map]
            rfl
          · rw [hm, decide_eq_true h1, List.all_map]
            rfl
        · have h1 : ¬ (segs x).length ≤ 7 := fun z => h1 (decide_eq_true (by rw [List.length_map]; omega))
          refine of_ev (q _ sm) ?_
          rw [hm, decide_eq_false h1, Bool.false_and]
      · have hm := key 5 (by
          unfold mostF
          rw [hy0, if_neg (fun z => hc (decide_eq_true (by rw [Option.some.inj z])))])
        refine ⟨.ref p, rfl, p, (segs x).map V.str, rfl, .inl (.inl (.inl upd_same)), _, rfl, _, _, rfl, rfl, _, rfl, ite2 (fun h1 => ?_) (fun h1 => ?_)⟩
        · have h1 : (segs x).length ≤ 5 := by
            have h1 := of_decide_eq_true h1
            rw [List.length_map] at h1
            omega
          refine ⟨.ref p, rfl, p, rfl, ⟨_, .inl (.inl upd_same)⟩, fun D hD => ?_⟩
          refine lc_pure (i := 3) (us := segs x) (g := V.str) yields_list (fun u => .bl (isWordF RSG u)) (fun _ => true) hD (fun H s => .inl (.inl (s _ _ upd_same))) (fun H u _ hu R r => r H (Same.refl H))
            (fun H u _ hu _ R r => ⟨.str u, rfl, .str u, RSG, rfl, .str u (hl2 u hu) (ho2 u hu), fun H' s' => r H' s'⟩) (by omega) (fun H2 s2 h2 => ?_)
          refine ⟨D, (segs x).map (isWordF RSG), rfl, .inl (.inl ?_), of_ev (q _ (sm.trans s2)) ?_⟩
          · rw [h2, filt_all, List.map_map]
            rfl
          · rw [hm, decide_eq_true h1, List.all_map]
            rfl
        · have h1 : ¬ (segs x).length ≤ 5 := fun z => h1 (decide_eq_true (by rw [List.length_map]; omega))
          refine of_ev (q _ sm) ?_
          rw [hm, decide_eq_false h1, Bool.false_and]
    · rw [hn]
      exact iteT (of_ev0 hn (q _ (Same.refl _)))
theorem c_is_text (T : Top K mg) : C8.Cal P w K mg base 1 "is_text" (spWord isTextF) [] := by
  refine cal_ofT T.d_is_text sc_is_text (by decide +kernel) (by decide) (fun _ _ _ _ _ _ us hl => match us, hl with | [_], _ => rfl) (fun vs H Q E h => ?_) (fun f cdv A outer s H vs Q E hr h => ?_)
  · obtain ⟨x, rfl, _⟩ := h
    rfl
  · obtain ⟨v, rfl, t, q⟩ := h
    refine ⟨_, (psst_cons (PST.of (ps_if (PW.pt (pw_or (pt_not (pt_val (pe_callB call_isi (by rfl) T.z_isinstance (by decide +kernel) (pa_cons (pv 0) (pa_cons (pe_bltn (v := .ty "str") (by rfl) T.z_str (by decide +kernel) rfl) pa_nil))))) (pw_or1 (pt_cmpR op_gt (pe_callB call_len_str (by rfl) T.z_len (by decide +kernel) (pa_cons (pv 0) pa_nil)) (C8.pe_gc (by rfl) T.g_LONGEST_TEXT) (nomark _)))))
      (pss_one (ps_ret pe_bl))
      pss_nil))
      (CwR.psst_one (CwR.pst_ret (pet_and (pe_bm0 PySem.F.plainAttrs_str PySem.F.slot_str_isascii PySem.F.type_str_isascii mt_isascii (pv 0)) (pet_one (pet_bm0 PySem.F.plainAttrs_str PySem.F.slot_str_isprintable PySem.F.type_str_isprintable mt_isprintable (CwR.pet_replC (pv 0)))))))), ?_⟩
    refine ⟨v, rfl, ?_⟩
    dsimp only [tCons, tC, tNil]
    refine t.isi ?_
    refine ⟨_, rfl, ?_⟩
    rcases t.cases with ⟨x, rfl, hx, ho⟩ | hn
    · refine iteF ⟨.str x, rfl, x, rfl, small_line (by omega), _, _, rfl, rfl, _, rfl, ite2 (fun h1 => ?_) (fun h1 => ?_)⟩
      · have h1 := of_decide_eq_true h1
        refine of_ev (q _ (Same.refl _)) ?_
        unfold isTextF
        rw [decide_eq_false (by omega), Bool.false_and]
      · have h1 : x.length ≤ 2000 := by
          have : ¬ (2000 : Int) < (x.length : Nat) := fun z => h1 (decide_eq_true z)
          omega
        have key : isTextF x = plainT x := by
          unfold isTextF
          rw [decide_eq_true h1, plain_text]
          rfl
        refine ⟨.str x, rfl, rfl, x, rfl, rfl, trivial, _, rfl, ite2 (fun h2 => ?_) (fun h2 => ?_)⟩
        · refine ⟨.str x, rfl, x, rfl, by have : (Str.ofString "").length = 0 := by decide +kernel
                                          rw [this]; omega, rfl, _, rfl, rfl, trivial, of_ev (q _ (Same.refl _)) ?_⟩
          rw [key]
          unfold plainT
          rw [h2, Bool.true_and]
        · refine of_ev (q _ (Same.refl _)) ?_
          rw [key]
          unfold plainT
          rw [Bool.eq_false_iff.mpr h2, Bool.false_and]
    · rw [hn]
      exact iteT (of_ev0 hn (q _ (Same.refl _)))
theorem c_is_short_ref (T : Top K mg) : C8.Cal P w K mg base 3 "is_short_ref" (spWord (isWordF RSG)) [] := by
  refine cal_of T.d_is_short_ref sc_is_short_ref (fun _ _ _ _ _ _ us hl => match us, hl with | [_], _ => rfl) (fun vs H Q E h => ?_) (fun f cdv A outer s H vs Q E hr h => ?_)
  · obtain ⟨x, rfl, _⟩ := h
    rfl
  · obtain ⟨v, rfl, t, q⟩ := h
    refine ⟨_, (pss_one (ps_ret (C8.pe_c (c__is_word T) hr (by decide) (by rfl) (pa_cons (pv 0) (pa_cons (C8.pe_gc (by rfl) T.g_REF_SIGNS) pa_nil))))), ?_⟩
    exact ⟨v, rfl, v, RSG, rfl, t, q⟩
def spMsg : Sp := fun vs H Q _ => ∃ x : Str, vs = [.str x] ∧ isTextF x = true ∧ x.length ≤ 200 ∧ ∀ H', Same H H' → Q (.bl true) H'
theorem c_is_message (T : Top K mg) : C8.Cal P w K mg base 2 "is_message" spMsg [] := by
  refine cal_of T.d_is_message sc_is_message (fun _ _ _ _ _ _ us hl => match us, hl with | [_], _ => rfl) (fun vs H Q E h => ?_) (fun f cdv A outer s H vs Q E hr h => ?_)
  · obtain ⟨x, rfl, _⟩ := h
    rfl
  · obtain ⟨x, rfl, ht, hl, q⟩ := h
    refine ⟨_, (pss_one (ps_ret (pe_and (C8.pe_c (c_is_text T) hr (by decide) (by rfl) (pa_cons (pv 0) pa_nil)) (pe_one (pe_cmpR op_le (pe_callB call_len_str (by rfl) T.z_len (by decide +kernel) (pa_cons (pv 0) pa_nil)) (C8.pe_gc (by rfl) T.g_LONGEST_MESSAGE) (nomark _)))))), ?_⟩
    refine ⟨.str x, rfl, .str x, rfl, .str x (by omega) (ok_text ht), fun H1 s1 => ⟨_, rfl, ?_⟩⟩
    rw [show evalV isTextF (.str x) = true from ht]
    refine iteT ⟨.str x, rfl, x, rfl, small_line (by omega), _, _, rfl, rfl, ?_⟩
    show Q (.bl (decide ((x.length : Int) ≤ 200))) H1
    rw [decide_eq_true (by omega)]
    exact q H1 s1
theorem isi_int {n : Int} {C : String} {b : Bool} {Q : VK} {H : Hp} (hk : (PySem.W.kitOne K (.type "int") (.type C)) = some b) (k : Q (.bl b) H) : rIsi K [.int n, .ty C] H Q :=
  ⟨_, _, .type "int", .type C, b, rfl, .ty C, .base (.int n), hk, k⟩
def spTimeI : Sp := fun vs H Q _ => ∃ n : Int, vs = [.int n] ∧ 0 ≤ n ∧ n ≤ 1000 ∧ ∀ H', Same H H' → Q (.bl true) H'
theorem c_is_count (T : Top K mg) : C8.Cal P w K mg base 1 "is_count" spTimeI [] := by
  refine cal_of T.d_is_count sc_is_count (fun _ _ _ _ _ _ us hl => match us, hl with | [_], _ => rfl) (fun vs H Q E h => ?_) (fun f cdv A outer s H vs Q E hr h => ?_)
  · obtain ⟨x, rfl, _⟩ := h
    rfl
  · obtain ⟨n, rfl, h0, h1, q⟩ := h
    refine ⟨_, (pss_one (ps_ret (pe_and (pe_callB call_isi (by rfl) T.z_isinstance (by decide +kernel) (pa_cons (pv 0) (pa_cons (pe_bltn (v := .ty "int") (by rfl) T.z_int (by decide +kernel) rfl) pa_nil))) (pe_and (pe_not (pe_callB call_isi (by rfl) T.z_isinstance (by decide +kernel) (pa_cons (pv 0) (pa_cons (pe_bltn (v := .ty "bool") (by rfl) T.z_bool (by decide +kernel) rfl) pa_nil)))) (pe_one (pe_cmpR op_ge (pv 0) pe_int (nomark _))))))), ?_⟩
    refine ⟨.int n, rfl, ?_⟩
    dsimp only [tCons, tC, tNil]
    refine isi_int (b := true) (kit_ty (by decide +kernel)) ⟨_, rfl, iteT ?_⟩
    refine ⟨.int n, rfl, ?_⟩
    dsimp only [tCons, tC, tNil]
    refine isi_int (b := false) (kit_ty (by decide +kernel)) ⟨_, rfl, _, rfl, iteT ⟨_, rfl, _, _, rfl, rfl, ?_⟩⟩
    show Q (.bl (decide (0 ≤ n))) H
    rw [decide_eq_true h0]
    exact q H (Same.refl H)
theorem c_is_time (T : Top K mg) : C8.Cal P w K mg base 2 "is_time" spTimeI [] := by
  refine cal_of T.d_is_time sc_is_time (fun _ _ _ _ _ _ us hl => match us, hl with | [_], _ => rfl) (fun vs H Q E h => ?_) (fun f cdv A outer s H vs Q E hr h => ?_)
  · obtain ⟨x, rfl, _⟩ := h
    rfl
  · obtain ⟨n, rfl, h0, h1, q⟩ := h
    refine ⟨_, (pss_one (ps_ret (pe_and (C8.pe_c (c_is_count T) hr (by decide) (by rfl) (pa_cons (pv 0) pa_nil)) (pe_one (pe_cmpR op_le (pv 0) (C8.pe_gc (by rfl) T.g_LATEST) (nomark _)))))), ?_⟩
    refine ⟨.int n, rfl, n, rfl, h0, h1, fun H1 s1 => ⟨_, rfl, iteT ⟨_, rfl, _, _, rfl, rfl, ?_⟩⟩⟩
    show Q (.bl (decide (n ≤ 1000000000000))) H1
    rw [decide_eq_true (by omega)]
    exact q H1 s1
/-- a table's keys in order -/
def spAsc : Sp := fun vs H Q _ => ∃ (a : Addr) (t : Tab), vs = [.ref a] ∧ H a = some (.dK (kT t)) ∧ t.length < 64 ∧ ∀ (ys : List Str) (p : Addr) (H' : Hp), ys.Perm (t.map (·.1)) → sortedS ys = true → H p = none → Same H H' → H' p = some (.tup (ys.map V.str)) → Q (.ref p) H'
theorem c_ascending (T : Top K mg) : C8.Cal P w K mg base 1 "ascending" spAsc [] := by
  refine cal_of T.d_ascending sc_ascending (fun _ _ _ _ _ _ us hl => match us, hl with | [_], _ => rfl) (fun vs H Q E h => ?_) (fun f cdv A outer s H vs Q E hr h => ?_)
  · obtain ⟨a, t, rfl, _⟩ := h
    rfl
  · obtain ⟨a, t, rfl, ha, hl, q⟩ := h
    refine ⟨_, (pss_one (ps_ret (pe_callTy call_tuple_of (by rfl) T.z_tuple (by decide +kernel) (pa_cons (pe_callB (cr_sortedS) (by rfl) T.z_sorted (by decide +kernel) (pa_cons (pe_lock (pe_lc (own := [("name", 1)]) (g := gName 1) (by rfl) sc_ascending.nd (pi_keys (pv 0)) (blkOk_by (own := [("name", 1)]) (N := ["names", "name"]) (sc := C8.fnScope s_ascending) (by decide +kernel)) (fun _ _ _ _ _ => (pg_name (i := 1) sc_ascending.nd rfl (Or.inl rfl))) (fun _ _ _ _ _ => pts_nil) (fun _ _ _ _ _ => (pe_callTy SkE.call_str_str (by rfl) T.z_str (by decide +kernel) (pa_cons (pv 1) pa_nil))))) pa_nil)) pa_nil)))), ?_⟩
    refine ⟨a, _, ha, trivial, fun od => ⟨.ref a, rfl, a, od, rfl, .inl ⟨kT t, upd_same, fun D hD => ?_⟩⟩⟩
    have na : D ≠ a := fun z => by
      rw [z, upd_same] at hD
      cases hD
    have Y : Yields (Itk a od (kT t)) ((t.map (·.1)).map V.str) (fun H => H a = some (.frz od (.dK (kT t)))) := by
      rw [← kV_kT]
      exact yields_keys
    refine lc_pure (i := 1) (us := t.map (·.1)) (g := V.str) Y V.str (fun _ => true) hD (fun H s => s _ _ upd_same) (fun H u _ hu R r => r H (Same.refl H))
      (fun H u _ hu _ R r => ⟨_, rfl, u, rfl, r H (Same.refl H)⟩) (by rw [List.length_map]; omega) (fun H2 s2 h2 => ?_)
    rw [filt_all] at h2
    have sm : Same H (upd H2 a (.dK (kT t))) := fun b o e => by
      by_cases hb : b = a
      · rw [hb, upd_same, ← ha, ← hb, e]
      · rw [upd_ne hb]
        exact s2 _ _ (by rw [upd_ne hb]; exact e)
    have hD' : H D = none := by rw [upd_ne na] at hD; exact hD
    refine ⟨s2 _ _ upd_same, D, t.map (·.1), rfl, .inl (.inl ?_), by rw [List.length_map]; exact hl, fun ys p hp hs hn => ?_⟩
    · rw [upd_ne na]
      exact h2
    · refine ⟨p, _, rfl, .inl ⟨.inl (.inl upd_same), fun l hl => ?_⟩⟩
      have np : H p = none := sm.free hn
      have nl : H l = none := (sm.trans (same_new hn)).free hl
      exact q ys l _ hp hs nl ((sm.trans (same_new hn)).trans (same_new hl)) upd_same
def spPre : Sp := fun vs H Q _ => ∃ x : Str, vs = [.str x] ∧ x.length ≤ 1000 ∧ OkS x ∧ ∀ D H', H D = none → Same H H' → H' D = some (.lst ((prefixesF x).map V.str)) → Q (.ref D) H'
theorem c_prefixes (T : Top K mg) : C8.Cal P w K mg base 1 "prefixes" spPre [] := by
  refine cal_of T.d_prefixes sc_prefixes (fun _ _ _ _ _ _ us hl => match us, hl with | [_], _ => rfl) (fun vs H Q E h => ?_) (fun f cdv A outer s H vs Q E hr h => ?_)
  · obtain ⟨x, rfl, _⟩ := h
    rfl
  · obtain ⟨x, rfl, hx, ho, q⟩ := h
    refine ⟨_, (pss_cons (ps_set (i := 1) sc_prefixes.nd rfl (Or.inr rfl) (pe_split (pv 0) pe_str))
      (pss_one (ps_ret (pe_lc (own := [("many", 2)]) (g := gName 2) (by rfl) sc_prefixes.nd (pi_range2 (by rfl) T.z_range (pa_cons pe_int (pa_cons (pe_callB call_len_seq (by rfl) T.z_len (by decide +kernel) (pa_cons (pv 1) pa_nil)) pa_nil))) (blkOk_by (own := [("many", 2)]) (N := ["path", "segments", "many"]) (sc := C8.fnScope s_prefixes) (by decide +kernel)) (fun _ _ _ _ _ => (pg_name (i := 2) sc_prefixes.nd rfl (Or.inl rfl))) (fun _ _ _ _ _ => pts_nil) (fun _ _ _ _ _ => (pe_joinK (K := K) rfl pe_str (pe_slice (slK_list (K := K) rfl) (pv 1) po_none (po_some (pv 2))))))))), ?_⟩
    obtain ⟨hl1, hl2⟩ := segs_len x (by omega)
    refine ⟨.str x, rfl, ⟨x, rfl⟩, x, _, rfl, rfl, rfl, small_line (by omega), fun p hp => ?_⟩
    have sm := same_new (o := .lst ((segs x).map V.str)) hp
    refine ⟨.ref p, rfl, p, (segs x).map V.str, rfl, .inl (.inl (.inl upd_same)), ?_⟩
    refine ⟨1, ((segs x).length : Nat), by rw [List.length_map], ⟨by decide, by decide, by omega, by omega⟩, fun D hD => ?_⟩
    have en : (((segs x).length : Nat) - (1 : Int)).toNat = (segs x).length - 1 := by omega
    rw [en]
    refine lc_pure (i := 2) (us := List.range ((segs x).length - 1)) (g := fun (k : Nat) => V.int (1 + (k : Int))) yields_range (fun k => V.str (Txt.join "/" ((segs x).take (k + 1)))) (fun _ => true) hD (fun H _ => trivial) (fun H u _ hu R r => r H (Same.refl H))
      (fun H2 k s2 hk _ R r => ?_) (by rw [List.length_range]; omega) (fun H2 s2 h2 => ?_)
    · have hk : k < (segs x).length - 1 := List.mem_range.mp hk
      have cut : cutV ((segs x).map V.str) none (some (1 + (k : Int))) = ((segs x).take (k + 1)).map V.str := cut_front _ _ _
      refine ⟨⟨_, rfl⟩, .ref p, rfl, .int (1 + k), rfl, 1 + k, rfl, p, _, rfl, .inl (.inl (s2 _ _ upd_same)), fun p2 hp2 => ?_⟩
      have cut2 : cutV ((Txt.split x "/").map V.str) none (some (1 + (k : Int))) = ((segs x).take (k + 1)).map V.str := cut
      rw [cut2]
      refine ⟨_, p2, (segs x).take (k + 1), rfl, rfl, .inl (.inl (.inl upd_same)), ?_, r _ (same_new hp2)⟩
      obtain ⟨m1, m2⟩ := segs_lens x
      have s1 := sum_most 1000 ((segs x).take (k + 1)) fun y hy => Nat.le_trans (m2 y (List.mem_of_mem_take hy)) hx
      have l1 : ((segs x).take (k + 1)).length ≤ 1001 := by rw [List.length_take]; omega
      have e1 : (Str.ofString "/").length = 1 := by decide +kernel
      rw [e1]
      omega
    · refine q D H2 (sm.free hD) (sm.trans s2) ?_
      rw [h2, filt_all]
      unfold prefixesF
      rw [List.map_map]
      rfl
def spHave : Sp := fun vs H Q _ => ∃ (a : Addr) (t : Tab), vs = [.ref a] ∧ H a = some (.dK (kT t)) ∧ t.length ≤ 64 ∧ (∀ x ∈ t.map (·.1), x.length ≤ 1000 ∧ OkS x) ∧ ∀ H', Same H H' → Q (.bl (haveF (t.map (·.1)))) H'
theorem c_have_prefixes (T : Top K mg) : C8.Cal P w K mg base 2 "have_prefixes" spHave [] := by
  refine cal_of T.d_have_prefixes sc_have_prefixes (fun _ _ _ _ _ _ us hl => match us, hl with | [_], _ => rfl) (fun vs H Q E h => ?_) (fun f cdv A outer s H vs Q E hr h => ?_)
  · obtain ⟨a, t, rfl, _⟩ := h
    rfl
  · obtain ⟨a, t, rfl, ha, hl, hx, q⟩ := h
    refine ⟨_, (pss_one (ps_ret (pe_callB (cr_any rfl) (by rfl) T.z_any (by decide +kernel) (pa_cons (pe_lock (pe_lc2 (vs1 := [2]) (own := [("path", 1), ("prefix", 2)]) (g := gName 1) (by rfl) sc_have_prefixes.nd (pi_keys (pv 0)) (blkOk_by (own := [("path", 1), ("prefix", 2)]) (N := ["paths", "path", "prefix"]) (sc := C8.fnScope s_have_prefixes) (by decide +kernel)) (by decide) (fun _ _ _ _ _ => (pg_name (i := 1) sc_have_prefixes.nd rfl (Or.inl rfl))) (fun _ _ _ _ _ => pts_nil) (fun _ _ _ _ _ => (pi_listK (K := K) rfl (C8.pe_c (c_prefixes T) hr (by decide) (by rfl) (pa_cons (pv 1) pa_nil)))) (fun _ _ _ _ _ => (pg_name (i := 2) sc_have_prefixes.nd rfl (Or.inl rfl))) (fun _ _ _ _ _ => pts_nil) (fun _ _ _ _ _ => (pe_cmp (pc_din (hu_of hr) (pv 2) (pv 0)))))) pa_nil)))), ?_⟩
    refine ⟨a, _, ha, trivial, fun od => ⟨.ref a, rfl, a, od, rfl, .inl ⟨kT t, upd_same, fun D hD => ?_⟩⟩⟩
    have na : D ≠ a := fun z => by
      rw [z, upd_same] at hD
      cases hD
    have Y : Yields (Itk a od (kT t)) ((t.map (·.1)).map V.str) (fun H => H a = some (.frz od (.dK (kT t)))) := by
      rw [← kV_kT]
      exact yields_keys
    refine lc2_pure (us := t.map (·.1)) (g := V.str) (h := V.str) Y prefixesF (fun _ y => V.bl (decide (y ∈ t.map (·.1)))) hD (fun H s => s _ _ upd_same) (fun _ => rfl) (fun _ _ => rfl)
      (fun H2 u s2 nD hu R r => ?_) (fun H2 u y s2 hu hy R r => ?_) ?_ (fun H2 s2 h2 => ?_)
    · obtain ⟨ux, uo⟩ := hx u hu
      refine ⟨.str u, rfl, u, rfl, ux, uo, fun P H3 hP s3 hP3 => ⟨P, rfl, ⟨_, .inl (.inl hP3)⟩, r _ _ H3 yields_list s3 fun H' f => .inl (.inl (f P _ (fun z => ?_) hP3))⟩⟩
      rw [List.mem_singleton.mp z] at hP
      exact nD hP
    · refine ⟨.str y, rfl, .ref a, rfl, a, _, rfl, dget_kT (.inr ⟨od, s2 _ _ upd_same⟩) y, ?_⟩
      have e : (valV t y).isSome = decide (y ∈ t.map (·.1)) := by
        cases c : (valV t y).isSome with
        | true => rw [decide_eq_true (mem_val.mpr c)]
        | false => rw [decide_eq_false (fun z => by rw [mem_val.mp z] at c; cases c)]
      rw [e]
      exact r H2 (Same.refl H2)
    · have e : ∀ l : List Str, (∀ x ∈ l, x.length ≤ 1000) → (l.flatMap prefixesF).length ≤ l.length * 1000 := fun l => by
        induction l with
        | nil => intro _; exact Nat.zero_le _
        | cons y r ih =>
          intro h
          rw [List.flatMap_cons, List.length_append, List.length_cons, Nat.succ_mul]
          have := ih fun z hz => h z (List.mem_cons_of_mem _ hz)
          have h1 := h y List.mem_cons_self
          have h2 : (prefixesF y).length ≤ 1000 := by
            unfold prefixesF
            rw [List.length_map, List.length_range]
            have := (segs_lens y).1
            omega
          omega
      have := e (t.map (·.1)) fun x h => (hx x h).1
      rw [List.length_map] at this
      omega
    · have sm : Same H (upd H2 a (.dK (kT t))) := fun b o e => by
        by_cases hb : b = a
        · rw [hb, upd_same, ← ha, ← hb, e]
        · rw [upd_ne hb]
          exact s2 _ _ (by rw [upd_ne hb]; exact e)
      refine ⟨s2 _ _ upd_same, D, (t.map (·.1)).flatMap (fun u => (prefixesF u).map fun y => decide (y ∈ t.map (·.1))), rfl, .inl (.inl ?_), ?_⟩
      · rw [upd_ne na, h2, List.map_flatMap]
        simp only [List.map_map]
        rfl
      · have := q _ sm
        unfold haveF at this
        rw [← any_flat] at this
        exact this
end

end Fk

set_option maxHeartbeats 4000000
namespace Fk
open PySem PySem.Spec PyProof.Rows L2
section
variable {P : Program} {w : World} {K : PySem.W.Frag} {mg : Str → Option Value} {base : Heap}
theorem isi_tup {a : Addr} {xs : List V} {H : Hp} {C : String} {b : Bool} {Q : VK} (e : H a = some (.tup xs)) (hk : (PySem.W.kitOne K (.type "tuple") (.type C)) = some b) (k : Q (.bl b) H) : rIsi K [.ref a, .ty C] H Q :=
  ⟨_, _, .type "tuple", .type C, b, rfl, .ty C, .base (.tup e), hk, k⟩
/-- a head that may stand -/
def HeadOk (x n : Str) : Prop := (x = "ref" ∧ isRefF n = true ∨ x = "id" ∧ isIdF n = true) ∧ n.length ≤ 1000 ∧ OkS n
def spIsHead : Sp := fun vs H Q _ => ∃ (p : Addr) (x n : Str), vs = [.ref p] ∧ H p = some (.tup [.str x, .str n]) ∧ HeadOk x n ∧ ∀ H', Same H H' → Q (.bl true) H'
theorem c_is_head (T : Top K mg) : C8.Cal P w K mg base 4 "is_head" spIsHead [] := by
  refine cal_of T.d_is_head sc_is_head (fun _ _ _ _ _ _ us hl => match us, hl with | [_], _ => rfl) (fun vs H Q E h => ?_) (fun f cdv A outer s H vs Q E hr h => ?_)
  · obtain ⟨p, x, n, rfl, _⟩ := h
    rfl
  · obtain ⟨p, x, n, rfl, hp, ho, q⟩ := h
    refine ⟨_, (pss_cons (ps_if (PW.pt (pw_or (pt_not (pt_val (pe_callB call_isi (by rfl) T.z_isinstance (by decide +kernel) (pa_cons (pv 0) (pa_cons (pe_bltn (v := .ty "tuple") (by rfl) T.z_tuple (by decide +kernel) rfl) pa_nil))))) (pw_or1 (pt_cmpR op_ne (pe_callB call_len_seq (by rfl) T.z_len (by decide +kernel) (pa_cons (pv 0) pa_nil)) pe_int (nomark _)))))
      (pss_one (ps_ret pe_bl))
      pss_nil)
      (pss_cons (ps_asg (pv 0) (pg_tup rfl (pgs_cons (pg_name (i := 1) sc_is_head.nd rfl (Or.inl rfl)) (pgs_cons (pg_name (i := 2) sc_is_head.nd rfl (Or.inl rfl)) pgs_nil))))
      (pss_one (ps_ret (pe_or (pe_and (pe_cmpR op_eq (pv 1) pe_str (nomark _)) (pe_one (C8.pe_c (c_is_ref T) hr (by decide) (by rfl) (pa_cons (pv 2) pa_nil)))) (pe_one (pe_and (pe_cmpR op_eq (pv 1) pe_str (nomark _)) (pe_one (C8.pe_c (c_is_id T) hr (by decide) (by rfl) (pa_cons (pv 2) pa_nil)))))))))), ?_⟩
    refine ⟨.ref p, rfl, ?_⟩
    dsimp only [tCons, tC, tNil]
    refine isi_tup hp (b := true) (kit_ty (by decide +kernel)) ⟨_, rfl, iteF ⟨.ref p, rfl, p, _, rfl, .inr (SqT.of hp), rfl, _, rfl, iteF ⟨.ref p, rfl, p, _, rfl, SqT.of hp, rfl, _, _, rfl, _, _, rfl, rfl, ?_⟩⟩⟩
    obtain ⟨hv, hl, hk⟩ := ho
    rcases hv with ⟨rfl, hv⟩ | ⟨rfl, hv⟩
    · refine ⟨.str "ref", rfl, rfl, _, rfl, iteT ⟨.str n, rfl, .str n, rfl, .str n (by omega) hk, fun H1 s1 => ?_⟩⟩
      rw [show evalV isRefF (.str n) = true from hv]
      exact ⟨_, rfl, iteT (q _ s1)⟩
    · refine ⟨.str "id", rfl, rfl, _, rfl, iteF ⟨_, rfl, iteF ⟨.str "id", rfl, rfl, _, rfl, iteT ⟨.str n, rfl, .str n, rfl, .str n (by omega) hk, fun H1 s1 => ?_⟩⟩⟩⟩
      rw [show evalV isIdF (.str n) = true from hv]
      exact q _ s1
def spIsLog : Sp := fun vs H Q _ => ∃ x : Str, vs = [.str x] ∧ (isRefF x = true ∨ x = "HEAD") ∧ x.length ≤ 1000 ∧ OkS x ∧ ∀ H', Same H H' → Q (.bl true) H'
theorem c_is_log_name (T : Top K mg) : C8.Cal P w K mg base 4 "is_log_name" spIsLog [] := by
  refine cal_of T.d_is_log_name sc_is_log_name (fun _ _ _ _ _ _ us hl => match us, hl with | [_], _ => rfl) (fun vs H Q E h => ?_) (fun f cdv A outer s H vs Q E hr h => ?_)
  · obtain ⟨x, rfl, _⟩ := h
    rfl
  · obtain ⟨x, rfl, hx, hl, ho, q⟩ := h
    refine ⟨_, (pss_one (ps_ret (pe_or (C8.pe_c (c_is_ref T) hr (by decide) (by rfl) (pa_cons (pv 0) pa_nil)) (pe_one (pe_cmpR op_eq (pv 0) pe_str (nomark _)))))), ?_⟩
    refine ⟨.str x, rfl, .str x, rfl, .str x (by omega) ho, fun H1 s1 => ⟨_, rfl, ite2 (fun _ => q _ s1) (fun h => ⟨_, rfl, ?_⟩)⟩⟩
    rcases hx with hx | rfl
    · exact absurd hx h
    · exact ⟨rfl, by rw [decide_eq_true rfl]; exact q _ s1⟩
def spLed (K : PySem.W.Frag) : Sp := fun vs H Q _ => ∃ (a h : Addr) (t : Tab) (x n : Str), vs = [.ref a, .ref h] ∧ H a = some (.dK (kT t)) ∧ TupK K H h [.str x, .str n] ∧ Q (ledF t x n) H
theorem c_led_to (T : Top K mg) : C8.Cal P w K mg base 1 "led_to" (spLed K) [] := by
  refine cal_of T.d_led_to sc_led_to (fun _ _ _ _ _ _ us hl => match us, hl with | [_, _], _ => rfl) (fun vs H Q E h => ?_) (fun f cdv A outer s H vs Q E hr h => ?_)
  · obtain ⟨a, h, t, x, n, rfl, _⟩ := h
    rfl
  · obtain ⟨a, h, t, x, n, rfl, ha, hh, q⟩ := h
    refine ⟨_, (pss_cons (ps_asg (pv 1) (pg_tup rfl (pgs_cons (pg_name (i := 2) sc_led_to.nd rfl (Or.inl rfl)) (pgs_cons (pg_name (i := 3) sc_led_to.nd rfl (Or.inl rfl)) pgs_nil))))
      (pss_one (ps_ret (pe_ifExp (pt_cmpR op_eq (pv 2) pe_str (nomark _)) (pv 3) (pe_dget1 (hu_of hr) (pv 0) (pv 3) ⟨rfl, rfl, rfl, rfl⟩))))), ?_⟩
    refine ⟨.ref h, rfl, h, _, rfl, hh.sq, rfl, _, _, rfl, _, _, rfl, rfl, ?_⟩
    refine ⟨.str x, rfl, rfl, _, rfl, ite2 (fun h1 => ⟨.str n, rfl, ?_⟩) (fun h1 => ⟨.ref a, rfl, a, rfl, .inl ⟨_, .inl ha⟩, .str n, rfl, valV t n, dget_kT (.inl ha) n, ?_⟩)⟩
    · unfold ledF at q
      rw [if_pos (V.str.inj (of_decide_eq_true h1))] at q
      exact q
    · unfold ledF at q
      rw [if_neg (fun z => h1 (decide_eq_true (by rw [z])))] at q
      exact q
def spRows : Sp := fun vs H Q _ => ∃ (a : Addr) (t : Tab), vs = [.ref a] ∧ H a = some (.dK (kT t)) ∧ Nd t ∧ t.length < 64 ∧ ∀ p u H', Same H H' → H p = none → SortOf t u → TupsAt H' p (u.map rowL) → Q (.ref p) H'
theorem c_sorted_rows (T : Top K mg) : C8.Cal P w K mg base 2 "sorted_rows" spRows [] := by
  refine cal_of T.d_sorted_rows sc_sorted_rows (fun _ _ _ _ _ _ us hl => match us, hl with | [_], _ => rfl) (fun vs H Q E h => ?_) (fun f cdv A outer s H vs Q E hr h => ?_)
  · obtain ⟨a, t, rfl, _⟩ := h
    rfl
  · obtain ⟨a, t, rfl, ha, nd, hl, q⟩ := h
    refine ⟨_, (pss_one (ps_ret (pe_callTy call_tuple_of (by rfl) T.z_tuple (by decide +kernel) (pa_cons (pe_lc (own := [("name", 1)]) (g := gName 1) (by rfl) sc_sorted_rows.nd (pi_tup (C8.pe_c (c_ascending T) hr (by decide) (by rfl) (pa_cons (pv 0) pa_nil))) (blkOk_by (own := [("name", 1)]) (N := ["table", "name"]) (sc := C8.fnScope s_sorted_rows) (by decide +kernel)) (fun _ _ _ _ _ => (pg_name (i := 1) sc_sorted_rows.nd rfl (Or.inl rfl))) (fun _ _ _ _ _ => pts_nil) (fun _ _ _ _ _ => (pe_tup (pa_cons (pv 1) (pa_cons (pe_dget (hu_of hr) (pv 0) (pv 1) (fun _ _ => rfl)) pa_nil))))) pa_nil)))), ?_⟩
    refine ⟨.ref a, rfl, a, t, rfl, ha, hl, fun ys p H1 hp hs hn s1 h1 => ⟨p, rfl, ⟨_, SqT.of h1⟩, fun D hD => ?_⟩⟩
    refine lc_new (us := ys) (val := V.str) yields_tup (fun x => [.str x, (valV t x).getD .non]) (fun _ => true) (fun x => [some (.ref a), some (.str x)]) hD (fun H s => SqT.of (s _ _ h1)) (fun _ _ => rfl) (fun H u _ _ R r => r) (fun H u _ _ R r => r H (Same.refl H))
      (fun H2 x s2 hx _ R r => ?_) ?_ (fun as H2 s2 h2 tp => ?_)
    · have hv : valV t x = some ((valV t x).getD .non) := by
        have m := mem_val.mp (hp.mem_iff.mp hx)
        cases c : valV t x with
        | none => rw [c] at m; cases m
        | some v => rfl
      refine ⟨.str x, rfl, .ref a, rfl, .str x, rfl, a, (valV t x).getD .non, rfl, ?_, (by show 2 ≤ sizeLine; decide), fun pt hpt => r pt _ (same_new hpt) upd_same⟩
      have d := dget_kT (.inl (s2 _ _ (s1 _ _ ha))) x
      rw [hv] at d
      exact d
    · have := hp.length_eq
      rw [List.length_map] at this
      omega
    · refine ⟨D, _, rfl, .inl ⟨.inl (.inl h2), fun l hl => ?_⟩⟩
      have s3 : Same H (upd H2 l (.tup (as.map V.ref))) := (s1.trans s2).trans (same_new hl)
      refine q l _ _ s3 ((s1.trans s2).free hl) (sortOf_keys hp hs) ⟨as, upd_same, ?_⟩
      rw [filt_all] at tp
      rw [List.map_map]
      exact tp.keep (TupKeep.of (same_new hl))
end

end Fk

set_option maxHeartbeats 4000000
namespace Fk
open PySem PySem.Spec PyProof.Rows L2
section
variable {P : Program} {w : World} {K : PySem.W.Frag} {mg : Str → Option Value} {base : Heap}
def spAfter : Sp := fun vs H Q _ => ∃ (a m : Addr) (t : Tab) (ms : List (Str × V × V)), vs = [.ref a, .ref m] ∧ H a = some (.dK (kT t)) ∧ Nd t ∧ t.length ≤ 64 ∧ TupsAt H m (ms.map moveL) ∧ (ms.map (·.1)).Nodup ∧ ms.length ≤ 64 ∧
  ∀ D H', H D = none → Same H H' → H' D = some (.dK (kT (afterT t ms))) → Q (.ref D) H'
theorem c_after_moves (T : Top K mg) : C8.Cal P w K mg base 1 "after_moves" spAfter [] := by
  refine cal_of T.d_after_moves sc_after_moves (fun _ _ _ _ _ _ us hl => match us, hl with | [_, _], _ => rfl) (fun vs H Q E h => ?_) (fun f cdv A outer s H vs Q E hr h => ?_)
  · obtain ⟨a, m, t, ms, rfl, _⟩ := h
    rfl
  · obtain ⟨a, m, t, ms, rfl, ha, nd, hl, ⟨as, hm, el, tp⟩, nm, hl2, q⟩ := h
    refine ⟨_, (pss_cons (ps_set (i := 2) sc_after_moves.nd rfl (Or.inr rfl) (pe_dc (own := [("ref", 3), ("_", 4), ("new", 5)]) (g := _) (by rfl) sc_after_moves.nd (pi_tup (pv 1)) (blkOk_by (own := [("ref", 3), ("_", 4), ("new", 5)]) (N := ["ids", "moves", "news", "ref", "_", "new", "kept", "made"]) (sc := C8.fnScope s_after_moves) (by decide +kernel)) (fun _ _ _ _ _ => (pg_tupK (K := K) (n := 3) rfl rfl (pgs_cons (pg_name (i := 3) sc_after_moves.nd rfl (Or.inl rfl)) (pgs_cons (pg_name (i := 4) sc_after_moves.nd rfl (Or.inl rfl)) (pgs_cons (pg_name (i := 5) sc_after_moves.nd rfl (Or.inl rfl)) pgs_nil))))) (fun _ _ _ _ _ => pts_nil) (fun _ _ _ _ _ => (pv 3)) (fun _ _ _ _ _ => (pv 5))))
      (pss_cons (ps_lock (ps_setDc (i := 6) (own := [("ref", 3)]) (g := gName 3) (by rfl) sc_after_moves.nd rfl rfl (sw_trueD rfl rfl rfl (by decide +kernel)) (pi_keys (pv 0)) (blkOk_by (own := [("ref", 3)]) (N := ["ids", "moves", "news", "ref", "_", "new", "kept", "made"]) (sc := C8.fnScope s_after_moves) (by decide +kernel)) (fun _ _ _ _ _ => (pg_name (i := 3) sc_after_moves.nd rfl (Or.inl rfl))) (fun _ _ _ _ _ => pts_one (pt_cmp (pc_dnotin (hu_of hr) (pv 3) (pv 2)))) (fun _ _ _ _ _ => (pv 3)) (fun _ _ _ _ _ => (pe_dget (hu_of hr) (pv 0) (pv 3) (fun _ _ => rfl)))))
      (pss_cons (ps_lock (ps_setDc (i := 7) (own := [("ref", 3)]) (g := gName 3) (by rfl) sc_after_moves.nd rfl rfl (sw_trueD rfl rfl rfl (by decide +kernel)) (pi_keys (pv 2)) (blkOk_by (own := [("ref", 3)]) (N := ["ids", "moves", "news", "ref", "_", "new", "kept", "made"]) (sc := C8.fnScope s_after_moves) (by decide +kernel)) (fun _ _ _ _ _ => (pg_name (i := 3) sc_after_moves.nd rfl (Or.inl rfl))) (fun _ _ _ _ _ => pts_one (pt_cmpR op_notN (pe_dget (hu_of hr) (pv 2) (pv 3) (fun _ _ => rfl)) pe_non (nomark _))) (fun _ _ _ _ _ => (pv 3)) (fun _ _ _ _ _ => (pe_dget (hu_of hr) (pv 2) (pv 3) (fun _ _ => rfl)))))
      (pss_one (ps_ret (pe_stars (.cons (pv 6) (.cons (pv 7) .nil)) (by decide) rfl)))))), ?_⟩
    rw [List.length_map] at el
    refine ⟨.ref m, rfl, m, rfl, ⟨_, SqT.of hm⟩, fun D hD => ?_⟩
    refine dc_tab (us := as.zip ms) (val := fun u => V.ref u.1) (yields_zip el) (fun u => u.2.1) (fun u => u.2.2.2) (fun _ => true) (fun u => [some (.ref a), some (.ref m), none, some (.str u.2.1), some u.2.2.1, some u.2.2.2, none, none]) hD (fun H s => SqT.of (s _ _ hm)) (fun _ _ => rfl)
      (fun H2 u s2 hu R r => ⟨u.1, _, rfl, SqT.of (s2 _ _ (tups_get ⟨by rw [List.length_map]; exact el, tp⟩ hu)), rfl, _, _, rfl, _, _, rfl, _, _, rfl, rfl, r⟩) (fun H u _ _ R r => r H (Same.refl H)) (fun H u _ _ _ R r => ⟨_, rfl, r H (Same.refl H)⟩) (fun H u _ _ _ R r => ⟨_, rfl, r H (Same.refl H)⟩) ?_ ?_ (fun H2 s2 h2 => ?_)
    · rw [List.length_zip]
      omega
    · rw [filt_all, show (fun u : Addr × (Str × V × V) => u.2.1) = (fun m : Str × V × V => m.1) ∘ Prod.snd from rfl, ← List.map_map, List.map_snd_zip (by omega)]
      exact nm
    · have en : ((as.zip ms).filter fun _ => true).map (fun u => (u.2.1, u.2.2.2)) = newsT ms := by
        rw [filt_all, show (fun u : Addr × (Str × V × V) => (u.2.1, u.2.2.2)) = (fun m : Str × V × V => (m.1, m.2.2)) ∘ Prod.snd from rfl, ← List.map_map, List.map_snd_zip (by omega)]
        rfl
      rw [en] at h2
      have nDa : D ≠ a := ne_of_none' hD ha
      refine ⟨a, _, s2 _ _ ha, trivial, fun od => ⟨.ref a, rfl, a, od, rfl, .inl ⟨kT t, upd_same, fun D2 hD2 => ?_⟩⟩⟩
      have h2' : (upd H2 a (.frz od (.dK (kT t)))) D = some (.dK (kT (newsT ms))) := by rw [upd_ne nDa]; exact h2
      refine dc_tab (us := t) (val := fun e => V.str e.1) yields_tab (fun e => e.1) (fun e => e.2) (fun e => (valV (newsT ms) e.1).isNone) (fun e => [some (.ref a), some (.ref m), some (.ref D), some (.str e.1), none, none, none, none]) hD2 (fun H s => s _ _ upd_same) (fun _ _ => rfl)
        (fun H u _ _ R r => r) (fun H3 e s3 he R r => ?_) (fun H u _ _ _ R r => ⟨_, rfl, r H (Same.refl H)⟩) (fun H3 e s3 he _ R r => ?_) (by omega) (nd_filter nd _) (fun H3 s3 h3 => ?_)
      · refine ⟨.str e.1, rfl, .ref D, rfl, D, _, rfl, dget_kT (.inl (s3 _ _ h2')) e.1, _, rfl, ?_⟩
        rw [Option.not_isSome]
        exact r H3 (Same.refl H3)
      · refine ⟨.ref a, rfl, .str e.1, rfl, a, e.2, rfl, ?_, r H3 (Same.refl H3)⟩
        have d := dget_kT (.inr ⟨od, s3 _ _ upd_same⟩) e.1
        rw [val_nodup nd e he] at d
        exact d
      · have s23 : Same H2 (upd H3 a (.dK (kT t))) := same_unlock s3 (s2 _ _ ha)
        have hD2n : D2 ≠ a := lock_ne hD2
        have nD2D : D2 ≠ D := ne_of_none' (lock_free hD2) h2
        have h3' : (upd H3 a (.dK (kT t))) D2 = some (.dK (kT (keptT t (newsT ms)))) := by
          rw [upd_ne hD2n, h3]
          congr 3
          exact List.map_id' _
        have hD2f : H2 D2 = none := lock_free hD2
        refine ⟨s3 _ _ upd_same, ?_⟩
        generalize upd H3 a (.dK (kT t)) = H4 at s23 h3'
        refine ⟨D, _, s23 _ _ h2, trivial, fun od2 => ⟨.ref D, rfl, D, od2, rfl, .inl ⟨kT (newsT ms), upd_same, fun D3 hD3 => ?_⟩⟩⟩
        refine dc_tab (us := newsT ms) (val := fun e => V.str e.1) yields_tab (fun e => e.1) (fun e => e.2) (fun e => notNon e.2) (fun e => [some (.ref a), some (.ref m), some (.ref D), some (.str e.1), none, none, some (.ref D2), none]) hD3 (fun H s => s _ _ upd_same) (fun _ _ => rfl)
          (fun H u _ _ R r => r) (fun H5 e s5 he R r => ?_) (fun H u _ _ _ R r => ⟨_, rfl, r H (Same.refl H)⟩) (fun H5 e s5 he _ R r => ?_) (by have : (newsT ms).length = ms.length := List.length_map ..; omega) (nd_filter (nd_news nm) _) (fun H5 s5 h5 => ?_)
        · have d := dget_kT (.inr ⟨od2, s5 _ _ upd_same⟩) e.1
          rw [val_nodup (nd_news nm) e he] at d
          refine ⟨.ref D, rfl, .str e.1, rfl, D, e.2, rfl, d, rfl, _, rfl, ?_⟩
          have en : (!decide (e.2 = V.non)) = notNon e.2 := by cases e.2 <;> rfl
          rw [en]
          exact r H5 (Same.refl H5)
        · have d := dget_kT (.inr ⟨od2, s5 _ _ upd_same⟩) e.1
          rw [val_nodup (nd_news nm) e he] at d
          exact ⟨.ref D, rfl, .str e.1, rfl, D, e.2, rfl, d, r H5 (Same.refl H5)⟩
        · have s45 : Same H4 (upd H5 D (.dK (kT (newsT ms)))) := same_unlock s5 (s23 _ _ h2)
          have h5' : (upd H5 D (.dK (kT (newsT ms)))) D3 = some (.dK (kT (madeT (newsT ms)))) := by
            rw [upd_ne (lock_ne hD3), h5]
            congr 3
            exact List.map_id' _
          refine ⟨s5 _ _ upd_same, ?_⟩
          generalize upd H5 D (.dK (kT (newsT ms))) = H6 at s45 h5'
          have na := nd_after nd nm
          have lk := List.length_filter_le (fun p : Str × V => (valV (newsT ms) p.1).isNone) t
          have lm := List.length_filter_le (fun p : Str × V => notNon p.2) (newsT ms)
          have ln : (newsT ms).length = ms.length := List.length_map ..
          have h6 := s45 _ _ h3'
          intro p hp
          have np2 : p ≠ D2 := ne_of_none' hp h6
          have np3 : p ≠ D3 := ne_of_none' hp h5'
          refine ⟨.ref D2, rfl, D2, [], kT (keptT t (newsT ms)), rfl, np2, upd_same, by rw [upd_ne np2.symm]; exact h6, small_line (by rw [len_kT]; unfold keptT; simp; omega), ?_⟩
          have m1 : mergeK [] (kT (keptT t (newsT ms))) = kT (keptT t (newsT ms)) := merge_kT (t := []) (nd_filter nd _)
          rw [m1]
          refine ⟨.ref D3, rfl, D3, kT (keptT t (newsT ms)), kT (madeT (newsT ms)), rfl, np3, upd_same, by rw [upd_ne np3.symm, upd_ne np3.symm]; exact h5', small_line (by rw [len_kT, len_kT]; unfold keptT madeT; omega), ?_⟩
          rw [merge_kT na]
          have s06 := (s2.trans s23).trans s45
          refine q p _ (s06.free hp) (fun b o e => ?_) upd_same
          have nb : b ≠ p := ne_of_none (s06 _ _ e) hp
          rw [upd_ne nb, upd_ne nb, upd_ne nb]
          exact s06 _ _ e
end

end Fk

set_option maxHeartbeats 4000000
namespace Fk
open PySem PySem.Spec PyProof.Rows L2
section
variable {P : Program} {w : World} {K : PySem.W.Frag} {mg : Str → Option Value} {base : Heap}
def logsBehind (L : Str → List (List V)) (note : List V) (ms : List (Str × V × V)) (b : Bool) (v1 v2 : V) : Str → List (List V) := if b = true then logPut (logMoves L note ms) "HEAD" ([v1, v2] ++ note) else logMoves L note ms
def spMoved (K : PySem.W.Frag) : Sp := fun vs H Q _ => ∃ (st m hd nt r oh lg : Addr) (u lu : Tab) (L : Str → List (List V)) (ms : List (Str × V × V)) (ox on hx hn : Str) (n1 n2 n3 : V), vs = [.ref st, .ref m, .ref hd, .ref nt] ∧ H st = some (.tup [.ref r, .ref oh, .ref lg]) ∧
  TupsAt H r (u.map rowL) ∧ Nd u ∧ TupsAt H lg (lu.map rowL) ∧ Nd lu ∧ LogsOk H lu L ∧ TupK K H oh [.str ox, .str on] ∧ TupK K H hd [.str hx, .str hn] ∧ OkS ox ∧ OkS on ∧ OkS hx ∧ OkS hn ∧ H nt = some (.tup [n1, n2, n3]) ∧
  TupsAt H m (ms.map moveL) ∧ (ms.map (·.1)).Nodup ∧ (∀ e ∈ u, flatN e.2) ∧ (∀ e ∈ ms, flatN e.2.1 ∧ flatN e.2.2) ∧ u.length + ms.length < 64 ∧ lu.length + ms.length + 1 < 64 ∧ (∀ x, (L x).length ≤ 1000) ∧
  ∀ p r' lg' H' u' lu', H p = none → Same H H' → H' p = some (.tup [.ref r', .ref hd, .ref lg']) → TupsAt H' r' (u'.map rowL) → SortOf (afterT u ms) u' → TupsAt H' lg' (lu'.map rowL) → (Nd lu' ∧ sortedS (lu'.map (·.1)) = true) → lu'.length ≤ lu.length + ms.length + 1 →
    LogsOk H' lu' (logsBehind L [n1, n2, n3] ms (decide ((ox, on) ≠ (hx, hn)) || decide (ledF u ox on ≠ ledF (afterT u ms) hx hn)) (ledF u ox on) (ledF (afterT u ms) hx hn)) → Q (.ref p) H'
theorem c_moved (T : Top K mg) : C8.Cal P w K mg base 3 "moved" (spMoved K) [] := by
  refine cal_of T.d_moved sc_moved (fun _ _ _ _ _ _ us hl => match us, hl with | [_, _, _, _], _ => rfl) (fun vs H Q E h => ?_) (fun f cdv A outer s H vs Q E hr h => ?_)
  · obtain ⟨st, m, hd, nt, r, oh, lg, u, lu, L, ms, ox, on, hx, hn, n1, n2, n3, rfl, _⟩ := h
    rfl
  · obtain ⟨st, m, hd, nt, r, oh, lg, u, lu, L, ms, ox, on, hx, hn, n1, n2, n3, rfl, hst, ⟨rs, hr1, er, tr⟩, ndu, ⟨ls, hl1, el, tl⟩, ndl, lk, hoh, hhd, ko1, ko2, ko3, ko4, hnt, hms, nm, fu, fm, b1, b2, b3, q⟩ := h
    refine ⟨_, (pss_cons (ps_asg (pv 0) (pg_tup rfl (pgs_cons (pg_name (i := 4) sc_moved.nd rfl (Or.inl rfl)) (pgs_cons (pg_name (i := 5) sc_moved.nd rfl (Or.inl rfl)) (pgs_cons (pg_name (i := 6) sc_moved.nd rfl (Or.inl rfl)) pgs_nil)))))
      (pss_cons (ps_setDc (i := 7) (own := [("ref", 8), ("name", 9)]) (g := _) (by rfl) sc_moved.nd rfl rfl (sw_trueD rfl rfl rfl (by decide +kernel)) (pi_tup (pv 4)) (blkOk_by (own := [("ref", 8), ("name", 9)]) (N := ["state", "moves", "head", "note", "rows", "old_head", "logs", "old_ids", "ref", "name", "ids", "entries", "log", "old", "new", "before", "behind"]) (sc := C8.fnScope s_moved) (by decide +kernel)) (fun _ _ _ _ _ => (pg_tupK (K := K) (n := 2) rfl rfl (pgs_cons (pg_name (i := 8) sc_moved.nd rfl (Or.inl rfl)) (pgs_cons (pg_name (i := 9) sc_moved.nd rfl (Or.inl rfl)) pgs_nil)))) (fun _ _ _ _ _ => pts_nil) (fun _ _ _ _ _ => (pv 8)) (fun _ _ _ _ _ => (pv 9)))
      (pss_cons (ps_set (i := 10) sc_moved.nd rfl (Or.inl rfl) (C8.pe_c (c_after_moves T) hr (by decide) (by rfl) (pa_cons (pv 7) (pa_cons (pv 1) pa_nil))))
      (pss_cons (ps_setDc (i := 11) (own := [("name", 9), ("log", 12)]) (g := _) (by rfl) sc_moved.nd rfl rfl (sw_trueD rfl rfl rfl (by decide +kernel)) (pi_tup (pv 6)) (blkOk_by (own := [("name", 9), ("log", 12)]) (N := ["state", "moves", "head", "note", "rows", "old_head", "logs", "old_ids", "ref", "name", "ids", "entries", "log", "old", "new", "before", "behind"]) (sc := C8.fnScope s_moved) (by decide +kernel)) (fun _ _ _ _ _ => (pg_tupK (K := K) (n := 2) rfl rfl (pgs_cons (pg_name (i := 9) sc_moved.nd rfl (Or.inl rfl)) (pgs_cons (pg_name (i := 12) sc_moved.nd rfl (Or.inl rfl)) pgs_nil)))) (fun _ _ _ _ _ => pts_nil) (fun _ _ _ _ _ => (pv 9)) (fun _ _ _ _ _ => (pv 12)))
      (pss_cons (ps_for PassesOwn.never rfl (pi_tup (pv 1)) (pg_tup rfl (pgs_cons (pg_name (i := 8) sc_moved.nd rfl (Or.inl rfl)) (pgs_cons (pg_name (i := 13) sc_moved.nd rfl (Or.inl rfl)) (pgs_cons (pg_name (i := 14) sc_moved.nd rfl (Or.inl rfl)) pgs_nil))))
      (pss_one (ps_dput (hu_of hr) (pv 11) (pv 8) (pe_op op_catA (pe_dget2 (hu_of hr) (pv 11) (pv 8) (pe_tup pa_nil) ⟨rfl, rfl, rfl, rfl⟩) (pe_tup (pa_cons (pe_op op_catA (pe_tup (pa_cons (pv 13) (pa_cons (pv 14) pa_nil))) (pv 3)) pa_nil))) rfl)))
      (pss_cons (ps_set (i := 15) sc_moved.nd rfl (Or.inl rfl) (C8.pe_c (c_led_to T) hr (by decide) (by rfl) (pa_cons (pv 7) (pa_cons (pv 5) pa_nil))))
      (pss_cons (ps_set (i := 16) sc_moved.nd rfl (Or.inl rfl) (C8.pe_c (c_led_to T) hr (by decide) (by rfl) (pa_cons (pv 10) (pa_cons (pv 2) pa_nil))))
      (C8.pss_cut (ps_if (PW.pt (pw_or (pt_cmpR (op_neD hr.units) (pv 2) (pv 5) (nomark _)) (pw_or1 (pt_cmpR op_ne (pv 15) (pv 16) (nomark _)))))
      (pss_one (ps_dput (hu_of hr) (pv 11) pe_str (pe_op op_catA (pe_dget2 (hu_of hr) (pv 11) pe_str (pe_tup pa_nil) ⟨rfl, rfl, rfl, rfl⟩) (pe_tup (pa_cons (pe_op op_catA (pe_tup (pa_cons (pv 15) (pa_cons (pv 16) pa_nil))) (pv 3)) pa_nil))) rfl))
      pss_nil)
      (pss_one (ps_ret (pe_tup (pa_cons (C8.pe_c (c_sorted_rows T) hr (by decide) (by rfl) (pa_cons (pv 10) pa_nil)) (pa_cons (pv 2) (pa_cons (C8.pe_c (c_sorted_rows T) hr (by decide) (by rfl) (pa_cons (pv 11) pa_nil)) pa_nil)))))))))))))), ?_⟩
    rw [List.length_map] at er el
    refine ⟨.ref st, rfl, st, _, rfl, SqT.of hst, rfl, _, _, rfl, _, _, rfl, _, _, rfl, rfl, ?_⟩
    refine ⟨.ref r, rfl, r, rfl, ⟨_, SqT.of hr1⟩, fun D0 hD0 => ?_⟩
    refine dc_tab (us := rs.zip u) (val := fun z => V.ref z.1) (yields_zip er) (fun z => z.2.1) (fun z => z.2.2) (fun _ => true) (fun z => [some (.ref st), some (.ref m), some (.ref hd), some (.ref nt), some (.ref r), some (.ref oh), some (.ref lg), none, some (.str z.2.1), some z.2.2, none, none, none, none, none, none, none]) hD0 (fun H s => SqT.of (s _ _ hr1)) (fun _ _ => rfl)
      (fun H2 z s2 hz R k => ⟨z.1, _, rfl, SqT.of (s2 _ _ (tups_get ⟨by rw [List.length_map]; exact er, tr⟩ hz)), rfl, _, _, rfl, _, _, rfl, rfl, k⟩) (fun H u _ _ R k => k H (Same.refl H)) (fun H u _ _ _ R k => ⟨_, rfl, k H (Same.refl H)⟩) (fun H u _ _ _ R k => ⟨_, rfl, k H (Same.refl H)⟩) (by rw [List.length_zip]; omega) ?_ (fun H1 s1 h1 => ?_)
    · rw [filt_all, show (fun z : Addr × (Str × V) => z.2.1) = (fun m : Str × V => m.1) ∘ Prod.snd from rfl, ← List.map_map, List.map_snd_zip (by omega)]
      exact ndu
    have e0 : ((rs.zip u).filter fun _ => true).map (fun z => (z.2.1, z.2.2)) = u := by
      rw [filt_all, show (fun z : Addr × (Str × V) => (z.2.1, z.2.2)) = Prod.snd from rfl, List.map_snd_zip (by omega)]
    rw [e0] at h1
    refine ⟨.ref D0, rfl, .ref m, rfl, D0, m, u, ms, rfl, h1, ndu, by omega, hms.keep (TupKeep.of s1), nm, by omega, fun D1 H2 hD1 s2 h2 => ?_⟩
    have s12 := s1.trans s2
    refine ⟨.ref lg, rfl, lg, rfl, ⟨_, SqT.of (s12 _ _ hl1)⟩, fun D2 hD2 => ?_⟩
    refine dc_tab (us := ls.zip lu) (val := fun z => V.ref z.1) (yields_zip el) (fun z => z.2.1) (fun z => z.2.2) (fun _ => true) (fun z => [some (.ref st), some (.ref m), some (.ref hd), some (.ref nt), some (.ref r), some (.ref oh), some (.ref lg), some (.ref D0), none, some (.str z.2.1), some (.ref D1), none, some z.2.2, none, none, none, none]) hD2 (fun H s => SqT.of ((s12.trans s) _ _ hl1)) (fun _ _ => rfl)
      (fun H2 z s2 hz R k => ⟨z.1, _, rfl, SqT.of ((s12.trans s2) _ _ (tups_get ⟨by rw [List.length_map]; exact el, tl⟩ hz)), rfl, _, _, rfl, _, _, rfl, rfl, k⟩) (fun H u _ _ R k => k H (Same.refl H)) (fun H u _ _ _ R k => ⟨_, rfl, k H (Same.refl H)⟩) (fun H u _ _ _ R k => ⟨_, rfl, k H (Same.refl H)⟩) (by rw [List.length_zip]; omega) ?_ (fun H3 s3 h3 => ?_)
    · rw [filt_all, show (fun z : Addr × (Str × V) => z.2.1) = (fun m : Str × V => m.1) ∘ Prod.snd from rfl, ← List.map_map, List.map_snd_zip (by omega)]
      exact ndl
    have e1 : ((ls.zip lu).filter fun _ => true).map (fun z => (z.2.1, z.2.2)) = lu := by
      rw [filt_all, show (fun z : Addr × (Str × V) => (z.2.1, z.2.2)) = Prod.snd from rfl, List.map_snd_zip (by omega)]
    rw [e1] at h3
    have s13 := s12.trans s3
    obtain ⟨mss, hmm, em, tm⟩ := hms
    rw [List.length_map] at em
    refine ⟨.ref m, rfl, m, rfl, ⟨_, SqT.of (s13 _ _ hmm)⟩, ?_⟩
    refine forG (items := (mss.zip ms).map fun z => V.ref z.1) (yields_zip em) (fun i σ H' => FrL [D2] H3 H' ∧ TupKeep H3 H' ∧ ∃ (lt : Tab) (x8 x13 x14 : Option V), H' D2 = some (.dK (kT lt)) ∧ Nd lt ∧ lt.length ≤ lu.length + i ∧ LogsOk H' lt (logMoves L [n1, n2, n3] (ms.take i)) ∧
      σ = [some (.ref st), some (.ref m), some (.ref hd), some (.ref nt), some (.ref r), some (.ref oh), some (.ref lg), some (.ref D0), x8, none, some (.ref D1), some (.ref D2), none, x13, x14, none, none]) ?_ ?_ ?_ ?_
    · exact ⟨FrL.refl _ _, TupKeep.refl _, lu, none, none, none, h3, ndl, Nat.le_refl _, lk.keep (TupKeep.of s13), rfl⟩
    · rintro i σ H' ⟨_, k, _⟩
      exact SqT.of (k _ _ (s13 _ _ hmm))
    · rintro i x σ H4 hx' ⟨fr, kp, lt, x8, x13, x14, hD, nd, hl, lk4, rfl⟩
      rw [List.getElem?_map] at hx'
      cases hz : (mss.zip ms)[i]? with
      | none => rw [hz] at hx'; cases hx'
      | some z =>
        rw [hz] at hx'
        cases hx'
        have hz2 : ms[i]? = some z.2 := (List.getElem?_zip_eq_some.mp hz).2
        have ht : H4 z.1 = some (.tup (moveL z.2)) := kp _ _ (s13 _ _ (tups_get ⟨by rw [List.length_map]; exact em, tm⟩ (List.mem_of_getElem? hz)))
        have hi : i < ms.length := (List.getElem?_eq_some_iff.mp hz2).1
        refine ⟨z.1, _, rfl, SqT.of ht, rfl, _, _, rfl, _, _, rfl, _, _, rfl, rfl, ?_⟩
        refine log_step (x := z.2.1) (v1 := z.2.2.1) (v2 := z.2.2.2) hD lk4 (kp _ _ (s13 _ _ hnt)) ?_ (by omega) (fun H' Q q => ⟨_, rfl, q⟩) (fun H' Q q => ⟨_, rfl, q⟩) (fun H' Q q => ⟨_, rfl, q⟩) (fun H' Q q => ⟨_, rfl, q⟩) (fun H' Q q => ⟨_, rfl, q⟩) (fun H5 p f k h5 l => ?_)
        · have := logMoves_len L [n1, n2, n3] z.2.1 (ms.take i)
          have := b3 z.2.1
          rw [List.length_take] at *
          omega
        · refine ⟨fr.trans f, kp.trans k, _, _, _, _, h5, nd_put nd _ _, ?_, ?_, rfl⟩
          · have := len_put lt z.2.1 (.ref p)
            omega
          · rw [logMoves_take hz2]
            exact l
    · rintro σ H4 ⟨fr, kp, lt, x8, x13, x14, hD, nd, hl, lk4, rfl⟩
      rw [List.length_map, List.length_zip, em, Nat.min_self] at hl lk4
      rw [List.take_length] at lk4
      have s24 : Same H2 H4 := same_frl hD2 s3 fr
      have s4 := s12.trans s24
      have h04 := s24 _ _ (s2 _ _ h1)
      have h14 := s24 _ _ h2
      have fa := flat_after fu (fun e he => (fm e he).2)
      refine ⟨.ref D0, rfl, .ref oh, rfl, D0, oh, u, ox, on, rfl, h04, hoh.keep (TupKeep.of s4), ?_⟩
      refine ⟨.ref D1, rfl, .ref hd, rfl, D1, hd, afterT u ms, hx, hn, rfl, h14, hhd.keep (TupKeep.of s4), ?_⟩
      refine ⟨fun σ H' => Same H H' ∧ H' D1 = some (.dK (kT (afterT u ms))) ∧ ∃ lt2, H' D2 = some (.dK (kT lt2)) ∧ Nd lt2 ∧ lt2.length ≤ lu.length + ms.length + 1 ∧ LogsOk H' lt2 (logsBehind L [n1, n2, n3] ms (decide ((ox, on) ≠ (hx, hn)) || decide (ledF u ox on ≠ ledF (afterT u ms) hx hn)) (ledF u ox on) (ledF (afterT u ms) hx hn)) ∧
        σ[2]? = some (some (.ref hd)) ∧ σ[10]? = some (some (.ref D1)) ∧ σ[11]? = some (some (.ref D2)), ?_, ?_⟩
      · have put : ∀ {b : Bool}, b = true → logsBehind L [n1, n2, n3] ms b (ledF u ox on) (ledF (afterT u ms) hx hn) = logPut (logMoves L [n1, n2, n3] ms) "HEAD" ([ledF u ox on, ledF (afterT u ms) hx hn] ++ [n1, n2, n3]) := fun h => if_pos h
        have yes : ∀ {D : Ends} {σ : L2.St}, σ[3]? = some (some (.ref nt)) → σ[11]? = some (some (.ref D2)) → σ[15]? = some (some (ledF u ox on)) → σ[16]? = some (some (ledF (afterT u ms) hx hn)) → (∀ H' p, FrL [D2] H4 H' → TupKeep H4 H' → H' D2 = some (.dK (kT (putK lt "HEAD" (.ref p)))) → LogsOk H' (putK lt "HEAD" (.ref p)) (logPut (logMoves L [n1, n2, n3] ms) "HEAD" ([ledF u ox on, ledF (afterT u ms) hx hn] ++ [n1, n2, n3])) → D.nx σ H') →
            sDPut (tVar 11) (tC (.str "HEAD")) (tOp (rCatA K) (tDGet2 (tVar 11) (tC (.str "HEAD")) (tTup tNil)) (tTup (tCons (tOp (rCatA K) (tTup (tCons (tVar 15) (tCons (tVar 16) tNil))) (tVar 3)) tNil))) D σ H4 := fun a3 a11 a15 a16 k => by
          refine log_step hD lk4 (kp _ _ (s13 _ _ hnt)) ?_ (by omega) (fun H' Q q => q) (fun H' Q q => ⟨_, a15, q⟩) (fun H' Q q => ⟨_, a16, q⟩) (fun H' Q q => ⟨_, a11, q⟩) (fun H' Q q => ⟨_, a3, q⟩) k
          have := logMoves_len L [n1, n2, n3] "HEAD" ms
          have := b3 "HEAD"
          omega
        have mid : ∀ H' p, FrL [D2] H4 H' → TupKeep H4 H' → H' D2 = some (.dK (kT (putK lt "HEAD" (.ref p)))) → Same H H' ∧ H' D1 = some (.dK (kT (afterT u ms))) ∧ (putK lt "HEAD" (.ref p)).length ≤ lu.length + ms.length + 1 := fun H' p f k h =>
          ⟨same_frl (s12.free hD2) s4 f, same_frl hD2 s24 f _ _ h2, by have := len_put lt "HEAD" (.ref p); omega⟩
        refine ⟨.ref hd, rfl, .ref oh, rfl, _, _, dp_head (hhd.keep (TupKeep.of s4)), dp_head (hoh.keep (TupKeep.of s4)), shaped_head ko3 ko4, shaped_head ko1 ko2, _, rfl, ?_⟩
        rw [eqv_head, ← decide_not]
        by_cases c1 : ¬ (ox, on) = (hx, hn)
        · rw [decide_eq_true c1]
          refine iteT (yes rfl rfl rfl rfl fun H' p f k h l => ?_)
          obtain ⟨m1, m2, m3⟩ := mid H' p f k h
          exact ⟨m1, m2, _, h, nd_put nd _ _, m3, l, rfl, rfl, rfl⟩
        · rw [decide_eq_false c1]
          refine iteF ⟨ledF u ox on, rfl, ledF (afterT u ms) hx hn, rfl, scal_flat (flat_led fu _ _) (flat_led fa _ _), _, rfl, ?_⟩
          rw [← decide_not]
          by_cases c2 : ¬ ledF u ox on = ledF (afterT u ms) hx hn
          · rw [decide_eq_true c2]
            refine iteT (yes rfl rfl rfl rfl fun H' p f k h l => ?_)
            obtain ⟨m1, m2, m3⟩ := mid H' p f k h
            exact ⟨m1, m2, _, h, nd_put nd _ _, m3, l, rfl, rfl, rfl⟩
          · rw [decide_eq_false c2]
            exact iteF ⟨s4, h14, lt, hD, nd, by omega, lk4, rfl, rfl, rfl⟩
      · rintro σ H5 ⟨s5, h15, lt2, h25, nd2, l2, lk5, a2, a10, a11⟩
        refine ⟨.ref D1, a10, D1, afterT u ms, rfl, h15, nd_after ndu nm, by have := len_after (t := u) (ms := ms); omega, fun p1 u' H6 s6 hp1 so1 t1 => ?_⟩
        refine ⟨.ref hd, a2, .ref D2, a11, D2, lt2, rfl, s6 _ _ h25, nd2, by omega, fun p2 lu' H7 s7 hp2 so2 t2 => ?_⟩
        refine ⟨(by show 3 ≤ sizeLine; decide), fun p hp => ?_⟩
        have s57 := (s5.trans s6).trans s7
        have s8 : Same H (upd H7 p (.tup [.ref p1, .ref hd, .ref p2])) := s57.trans (same_new hp)
        refine q p p1 p2 _ u' lu' (s57.free hp) s8 upd_same (t1.keep (TupKeep.of (s7.trans (same_new hp)))) so1 (t2.keep (TupKeep.of (same_new hp))) ⟨so2.nd nd2, so2.1⟩ (by rw [so2.len]; exact l2) ?_
        exact (lk5.keep (TupKeep.of ((s6.trans s7).trans (same_new hp)))).of so2.2.2
end

end Fk

set_option maxHeartbeats 4000000
namespace Fk
open PySem PySem.Spec PyProof.Rows L2
/-- the two classes and the errors -/
structure TopR (K : PySem.W.Frag) (mg : Str → Option Value) (CE CR cS cB iS iB ns r0 h0 l0 : Addr) : Prop extends Top K mg where
  cE : Cls K CE
  cR : Cls K CR
  pEdit : PlainEq K CE
  ne : CE ≠ CR
  mE : mg "Edit" = some (.ref CE)
  mR : mg "Refs" = some (.ref CR)
  m_Edit_stand : MDef K CE "stand" "Edit.stand" s_Edit_stand
  m_Edit_finish : MDef K CE "finish" "Edit.finish" s_Edit_finish
  m_Edit_drop : MDef K CE "drop" "Edit.drop" s_Edit_drop
  m_Edit_moves : MDef K CE "moves" "Edit.moves" s_Edit_moves
  m_Edit_behind : MDef K CE "behind" "Edit.behind" s_Edit_behind
  m_Editcheck_open : MDef K CE "_check_open" "Edit._check_open" s_Editcheck_open
  m_Editcall : MDef K CE "_call" "Edit._call" s_Editcall
  m_Editids : MDef K CE "_ids" "Edit._ids" s_Editids
  m_Refs_getitem : MDef K CR "__getitem__" "Refs.__getitem__" s_Refs_getitem
  m_Refs_contains : MDef K CR "__contains__" "Refs.__contains__" s_Refs_contains
  m_Refs_len : MDef K CR "__len__" "Refs.__len__" s_Refs_len
  m_Refs_names : MDef K CR "names" "Refs.names" s_Refs_names
  m_Refs_head : MDef K CR "head" "Refs.head" s_Refs_head
  m_Refs_at_head : MDef K CR "at_head" "Refs.at_head" s_Refs_at_head
  m_Refs_state : MDef K CR "state" "Refs.state" s_Refs_state
  m_Refs_log : MDef K CR "log" "Refs.log" s_Refs_log
  m_Refs_edit : MDef K CR "edit" "Refs.edit" s_Refs_edit
  m_Refs_lock : MDef K CR "lock" "Refs.lock" s_Refs_lock
  m_Refstake_over : MDef K CR "_take_over" "Refs._take_over" s_Refstake_over
  m_Refs_become : MDef K CR "become" "Refs.become" s_Refs_become
  nE_refs : NoAttr K CE "_refs"
  nE_note : NoAttr K CE "_note"
  nE_calls : NoAttr K CE "_calls"
  nE_new_head : NoAttr K CE "_new_head"
  nEclosed : NoAttr K CE "closed"
  nR_locks : NoAttr K CR "_locks"
  nR_table : NoAttr K CR "_table"
  nR_head : NoAttr K CR "_head"
  nR_logs : NoAttr K CR "_logs"
  eS : ErrC K mg "Stale" "ref" cS iS
  eB : ErrC K mg "BadRef" "why" cB iB
  iE : ∃ f fd, Mk K CE f ∧ C8.Fun K "__init__" "Edit.__init__" s_Edit_init f fd ∧ fd.defaults = .none
  iR : ∃ f fd ds, Mk K CR f ∧ C8.Fun K "__init__" "Refs.__init__" s_Refs_init f fd ∧ Vals [V.non] ds ∧ Binds K fd ["self", "state"] ds
  kP : ∃ f fd, Meth K CE "point" f ∧ C8.Fun K "point" "Edit.point" s_Edit_point f fd ∧ fd.defaults = .none
  kD : ∃ f fd, Meth K CE "delete" f ∧ C8.Fun K "delete" "Edit.delete" s_Edit_delete f fd ∧ fd.defaults = .none
  g_NEW_STATE : ∃ u, mg "NEW_STATE" = some u ∧ RelV (V.ref ns) u
  kS : KTup K ns [.ref r0, .ref h0, .ref l0]
  kr : KTup K r0 []
  kh : KTup K h0 [.str "ref", .str "main"]
  kl : KTup K l0 []
  exSS : PySem.W.exmOne K (.ref cS) (.ref cS) = some true
  exBS : PySem.W.exmOne K (.ref cB) (.ref cS) = some false
  exBB : PySem.W.exmOne K (.ref cB) (.ref cB) = some true
section
variable {P : Program} {w : World} {K : PySem.W.Frag} {mg : Str → Option Value} {base : Heap} {CE CR cS cB iS iB ns r0 h0 l0 : Addr}
def spOpen (CE : Addr) : Sp := fun vs H Q _ => ∃ (E dx R nt cl : Addr) (nh : V), vs = [.ref E] ∧ H E = some (.ins CE dx (ef R nt cl nh false)) ∧ Q .non H
theorem m_Editcheck_open (T : TopR K mg CE CR cS cB iS iB ns r0 h0 l0) : C8.Met P w K mg base 1 CE "_check_open" (spOpen CE) [] := by
  refine met_of T.cE T.m_Editcheck_open sc_Editcheck_open (fun _ _ _ _ _ _ us hl => match us, hl with | [_], _ => rfl) (fun vs H Q E h => ?_) (fun f cdv A outer s H vs Q E hr h => ?_)
  · obtain ⟨E, dx, R, nt, cl, nh, rfl, _⟩ := h
    rfl
  · obtain ⟨e, dx, R, nt, cl, nh, rfl, he, q⟩ := h
    refine ⟨_, (pss_one (ps_if (pt_val (pe_fld (pv 0) rfl))
      (pss_one ps_never)
      pss_nil)), ?_⟩
    refine ⟨.ref e, rfl, e, CE, dx, _, .bl false, rfl, he, T.cE, T.nEclosed, rfl, _, rfl, iteF q⟩
/-- what the references tell -/
def spState (CR : Addr) : Sp := fun vs H Q _ => ∃ (R dx lk tb hd lg : Addr) (t lt : Tab), vs = [.ref R] ∧ H R = some (.ins CR dx (rf lk tb hd lg)) ∧ H tb = some (.dK (kT t)) ∧ Nd t ∧ t.length < 64 ∧ H lg = some (.dK (kT lt)) ∧ Nd lt ∧ lt.length < 64 ∧
  ∀ p r l u lu H', H p = none → Same H H' → H' p = some (.tup [.ref r, .ref hd, .ref l]) → TupsAt H' r (u.map rowL) → SortOf t u → TupsAt H' l (lu.map rowL) → SortOf lt lu → Q (.ref p) H'
theorem m_Refs_state (T : TopR K mg CE CR cS cB iS iB ns r0 h0 l0) : C8.Met P w K mg base 3 CR "state" (spState CR) [] := by
  refine met_of T.cR T.m_Refs_state sc_Refs_state (fun _ _ _ _ _ _ us hl => match us, hl with | [_], _ => rfl) (fun vs H Q E h => ?_) (fun f cdv A outer s H vs Q E hr h => ?_)
  · obtain ⟨R, dx, lk, tb, hd, lg, t, lt, rfl, _⟩ := h
    rfl
  · obtain ⟨R, dx, lk, tb, hd, lg, t, lt, rfl, hR, ht, nd, l1, hl, nl, l2, q⟩ := h
    refine ⟨_, (pss_one (ps_ret (pe_tup (pa_cons (C8.pe_c (c_sorted_rows T.toTop) hr (by decide) (by rfl) (pa_cons (pe_fld (pv 0) rfl) pa_nil)) (pa_cons (pe_fld (pv 0) rfl) (pa_cons (C8.pe_c (c_sorted_rows T.toTop) hr (by decide) (by rfl) (pa_cons (pe_fld (pv 0) rfl) pa_nil)) pa_nil)))))), ?_⟩
    refine ⟨.ref R, rfl, R, CR, dx, _, _, rfl, hR, T.cR, T.nR_table, rfl, tb, t, rfl, ht, nd, l1, fun p1 u H1 s1 hp1 so1 t1 => ?_⟩
    refine ⟨.ref R, rfl, R, CR, dx, _, _, rfl, s1 _ _ hR, T.cR, T.nR_head, rfl, .ref R, rfl, R, CR, dx, _, _, rfl, s1 _ _ hR, T.cR, T.nR_logs, rfl, lg, lt, rfl, s1 _ _ hl, nl, l2, fun p2 lu H2 s2 hp2 so2 t2 => ?_⟩
    have s12 := s1.trans s2
    exact ⟨(by show 3 ≤ sizeLine; decide), fun p hp => q p p1 p2 u lu _ (s12.free hp) (s12.trans (same_new hp)) upd_same (t1.keep (TupKeep.of (s2.trans (same_new hp)))) so1 (t2.keep (TupKeep.of (same_new hp))) so2⟩
/-- the dict of the references -/
def spIds (CE CR : Addr) : Sp := fun vs H Q _ => ∃ (E ex R nt cl dx lk tb hd lg : Addr) (nh : V) (b : Bool) (t lt : Tab), vs = [.ref E] ∧ H E = some (.ins CE ex (ef R nt cl nh b)) ∧ H R = some (.ins CR dx (rf lk tb hd lg)) ∧ H tb = some (.dK (kT t)) ∧ Nd t ∧ t.length < 64 ∧ H lg = some (.dK (kT lt)) ∧ Nd lt ∧ lt.length < 64 ∧
  ∀ D u H', H D = none → Same H H' → H' D = some (.dK (kT u)) → SortOf t u → Q (.ref D) H'
theorem m_Editids (T : TopR K mg CE CR cS cB iS iB ns r0 h0 l0) : C8.Met P w K mg base 4 CE "_ids" (spIds CE CR) [] := by
  refine met_of T.cE T.m_Editids sc_Editids (fun _ _ _ _ _ _ us hl => match us, hl with | [_], _ => rfl) (fun vs H Q E h => ?_) (fun f cdv A outer s H vs Q E hr h => ?_)
  · obtain ⟨E, ex, R, nt, cl, dx, lk, tb, hd, lg, nh, b, t, lt, rfl, _⟩ := h
    rfl
  · obtain ⟨e, ex, R, nt, cl, dx, lk, tb, hd, lg, nh, b, t, lt, rfl, he, hR, ht, nd, l1, hl, nl, l2, q⟩ := h
    refine ⟨_, (pss_one (ps_ret (pe_dc (own := [("ref", 1), ("name", 2)]) (g := _) (by rfl) sc_Editids.nd (pi_tup (pe_ix ix_tup (C8.pe_mt0 (m_Refs_state T) hr (by decide) (pe_fld (pv 0) rfl)) pe_int (fun _ _ => rfl))) (blkOk_by (own := [("ref", 1), ("name", 2)]) (N := ["self", "ref", "name"]) (sc := C8.fnScope s_Editids) (by decide +kernel)) (fun _ _ _ _ _ => (pg_tupK (K := K) (n := 2) rfl rfl (pgs_cons (pg_name (i := 1) sc_Editids.nd rfl (Or.inl rfl)) (pgs_cons (pg_name (i := 2) sc_Editids.nd rfl (Or.inl rfl)) pgs_nil)))) (fun _ _ _ _ _ => pts_nil) (fun _ _ _ _ _ => (pv 1)) (fun _ _ _ _ _ => (pv 2))))), ?_⟩
    refine ⟨.ref e, rfl, e, CE, ex, _, _, rfl, he, T.cE, T.nE_refs, rfl, R, dx, _, rfl, hR, rfl, R, dx, lk, tb, hd, lg, t, lt, rfl, hR, ht, nd, l1, hl, nl, l2, fun p r l u lu H1 hp s1 h1 t1 so1 t2 so2 => ?_⟩
    obtain ⟨rs, hr1, er, tr⟩ := t1
    rw [List.length_map] at er
    refine ⟨p, _, 0, .ref r, rfl, rfl, SqT.of h1, rfl, r, rfl, ⟨_, SqT.of hr1⟩, fun D hD => ?_⟩
    have lu1 := so1.len
    refine dc_tab (us := rs.zip u) (val := fun z => V.ref z.1) (yields_zip er) (fun z => z.2.1) (fun z => z.2.2) (fun _ => true) (fun z => [some (.ref e), some (.str z.2.1), some z.2.2]) hD (fun H s => SqT.of (s _ _ hr1)) (fun _ _ => rfl)
      (fun H2 z s2 hz R k => ⟨z.1, _, rfl, SqT.of (s2 _ _ (tups_get ⟨by rw [List.length_map]; exact er, tr⟩ hz)), rfl, _, _, rfl, _, _, rfl, rfl, k⟩) (fun H u _ _ R k => k H (Same.refl H)) (fun H u _ _ _ R k => ⟨_, rfl, k H (Same.refl H)⟩) (fun H u _ _ _ R k => ⟨_, rfl, k H (Same.refl H)⟩) (by rw [List.length_zip]; omega) ?_ (fun H2 s2 h2 => ?_)
    · rw [filt_all, show (fun z : Addr × (Str × V) => z.2.1) = (fun m : Str × V => m.1) ∘ Prod.snd from rfl, ← List.map_map, List.map_snd_zip (by omega)]
      exact so1.nd nd
    · have e0 : ((rs.zip u).filter fun _ => true).map (fun z => (z.2.1, z.2.2)) = u := by
        rw [filt_all, show (fun z : Addr × (Str × V) => (z.2.1, z.2.2)) = Prod.snd from rfl, List.map_snd_zip (by omega)]
      rw [e0] at h2
      exact q D u H2 (s1.free hD) (s1.trans s2) h2 so1
end

end Fk

set_option maxHeartbeats 4000000
namespace Fk
open PySem PySem.Spec PyProof.Rows L2
section
variable {P : Program} {w : World} {K : PySem.W.Frag} {mg : Str → Option Value} {base : Heap} {CE CR cS cB iS iB ns r0 h0 l0 : Addr}
def spBecome (K : PySem.W.Frag) (CR : Addr) : Sp := fun vs H Q _ => ∃ (R st r hd l lk dx : Addr) (fs : List (Str × V)) (u lu : Tab), vs = [.ref R, .ref st] ∧ H R = some (.ins CR dx fs) ∧ (fs = ([(("_locks" : Str), V.ref lk)] : List (Str × V)) ∨ ∃ a b c, fs = rf lk a b c) ∧ TupK K H st [.ref r, .ref hd, .ref l] ∧
  TupsK K H r (u.map rowL) ∧ Nd u ∧ u.length < 64 ∧ TupsK K H l (lu.map rowL) ∧ Nd lu ∧ lu.length < 64 ∧
  ∀ tb lg H', FrL [R] H H' → TupKeep H H' → H' R = some (.ins CR dx (rf lk tb hd lg)) → H' tb = some (.dK (kT u)) → H' lg = some (.dK (kT lu)) → H tb = none → H lg = none → Q .non H'
theorem m_Refstake_over (T : TopR K mg CE CR cS cB iS iB ns r0 h0 l0) : C8.Met P w K mg base 1 CR "_take_over" (spBecome K CR) [] := by
  refine met_of T.cR T.m_Refstake_over sc_Refstake_over (fun _ _ _ _ _ _ us hl => match us, hl with | [_, _], _ => rfl) (fun vs H Q E h => ?_) (fun f cdv A outer s H vs Q E hr h => ?_)
  · obtain ⟨R, st, r, hd, l, lk, dx, fs, u, lu, rfl, _⟩ := h
    rfl
  · obtain ⟨R, st, r, hd, l, lk, dx, fs, u, lu, rfl, hR, hfs, hst, ⟨rs, hr1, er, tr⟩, ndu, l1, ⟨ls, hl1, el, tl⟩, ndl, l2, q⟩ := h
    refine ⟨_, (pss_cons (ps_asg (pv 1) (pg_tup rfl (pgs_cons (pg_name (i := 2) sc_Refstake_over.nd rfl (Or.inl rfl)) (pgs_cons (pg_name (i := 3) sc_Refstake_over.nd rfl (Or.inl rfl)) (pgs_cons (pg_name (i := 4) sc_Refstake_over.nd rfl (Or.inl rfl)) pgs_nil)))))
      (pss_cons (ps_fld (pv 0) (pe_dc (own := [("ref", 5), ("name", 6)]) (g := _) (by rfl) sc_Refstake_over.nd (pi_tup (pv 2)) (blkOk_by (own := [("ref", 5), ("name", 6)]) (N := ["self", "state", "rows", "head", "logs", "ref", "name", "entries"]) (sc := C8.fnScope s_Refstake_over) (by decide +kernel)) (fun _ _ _ _ _ => (pg_tupK (K := K) (n := 2) rfl rfl (pgs_cons (pg_name (i := 5) sc_Refstake_over.nd rfl (Or.inl rfl)) (pgs_cons (pg_name (i := 6) sc_Refstake_over.nd rfl (Or.inl rfl)) pgs_nil)))) (fun _ _ _ _ _ => pts_nil) (fun _ _ _ _ _ => (pv 5)) (fun _ _ _ _ _ => (pv 6))) rfl)
      (pss_cons (ps_fld (pv 0) (pv 3) rfl)
      (pss_one (ps_fld (pv 0) (pe_dc (own := [("name", 6), ("entries", 7)]) (g := _) (by rfl) sc_Refstake_over.nd (pi_tup (pv 4)) (blkOk_by (own := [("name", 6), ("entries", 7)]) (N := ["self", "state", "rows", "head", "logs", "ref", "name", "entries"]) (sc := C8.fnScope s_Refstake_over) (by decide +kernel)) (fun _ _ _ _ _ => (pg_tupK (K := K) (n := 2) rfl rfl (pgs_cons (pg_name (i := 6) sc_Refstake_over.nd rfl (Or.inl rfl)) (pgs_cons (pg_name (i := 7) sc_Refstake_over.nd rfl (Or.inl rfl)) pgs_nil)))) (fun _ _ _ _ _ => pts_nil) (fun _ _ _ _ _ => (pv 6)) (fun _ _ _ _ _ => (pv 7))) rfl))))), ?_⟩
    rw [List.length_map] at er el
    refine ⟨.ref st, rfl, st, _, rfl, hst.sq, rfl, _, _, rfl, _, _, rfl, _, _, rfl, rfl, ?_⟩
    refine ⟨.ref r, rfl, r, rfl, ⟨_, hr1.sq⟩, fun D0 hD0 => ?_⟩
    refine dc_tab (us := rs.zip u) (val := fun z => V.ref z.1) (yields_zip er) (fun z => z.2.1) (fun z => z.2.2) (fun _ => true) (fun z => [some (.ref R), some (.ref st), some (.ref r), some (.ref hd), some (.ref l), some (.str z.2.1), some z.2.2, none]) hD0 (fun H s => (hr1.keep (TupKeep.of s)).sq) (fun _ _ => rfl)
      (fun H2 z s2 hz R k => ⟨z.1, _, rfl, SqT.of (s2 _ _ (tups_get ⟨by rw [List.length_map]; exact er, tr⟩ hz)), rfl, _, _, rfl, _, _, rfl, rfl, k⟩) (fun H u _ _ R k => k H (Same.refl H)) (fun H u _ _ _ R k => ⟨_, rfl, k H (Same.refl H)⟩) (fun H u _ _ _ R k => ⟨_, rfl, k H (Same.refl H)⟩) (by rw [List.length_zip]; omega) ?_ (fun H1 s1 h1 => ?_)
    · rw [filt_all, show (fun z : Addr × (Str × V) => z.2.1) = (fun m : Str × V => m.1) ∘ Prod.snd from rfl, ← List.map_map, List.map_snd_zip (by omega)]
      exact ndu
    have e0 : ((rs.zip u).filter fun _ => true).map (fun z => (z.2.1, z.2.2)) = u := by
      rw [filt_all, show (fun z : Addr × (Str × V) => (z.2.1, z.2.2)) = Prod.snd from rfl, List.map_snd_zip (by omega)]
    rw [e0] at h1
    have lf : ∀ {n : Nat}, fs.length ≤ 4 := fun {_} => by
      rcases hfs with rfl | ⟨a, b, c, rfl⟩
      · exact (by decide : 1 ≤ 4)
      · exact Nat.le_refl 4
    have lp : ∀ (y : Str) (v : V) (gs : List (Str × V)), (putF y v gs).length ≤ gs.length + 1 := fun y v gs => length_putF y v gs
    refine ⟨.ref R, rfl, R, CR, dx, fs, rfl, s1 _ _ hR, T.cR, T.nR_table, (by have := lf (n := 0); omega), ?_⟩
    have l4 := lf (n := 0)
    have l5 := lp "_table" (.ref D0) fs
    have l6 := lp "_head" (.ref hd) (putF "_table" (.ref D0) fs)
    refine ⟨.ref hd, rfl, .ref R, rfl, R, CR, dx, _, rfl, upd_same, T.cR, T.nR_head, (by omega), ?_⟩
    have nRD : D0 ≠ R := ne_of_none' hD0 hR
    have hR1 := s1 _ _ hR
    have k1 : TupKeep H1 (upd (upd H1 R (.ins CR dx (putF "_table" (.ref D0) fs))) R (.ins CR dx (putF "_head" (.ref hd) (putF "_table" (.ref D0) fs)))) :=
      (TupKeep.at fun xs z => by rw [hR1] at z; cases z).trans (TupKeep.at fun xs z => by rw [upd_same] at z; cases z)
    have f1 : FrL [R] H1 (upd (upd H1 R (.ins CR dx (putF "_table" (.ref D0) fs))) R (.ins CR dx (putF "_head" (.ref hd) (putF "_table" (.ref D0) fs)))) := (FrL.at (List.mem_singleton_self R)).trans (FrL.at (List.mem_singleton_self R))
    have hR3 : (upd (upd H1 R (.ins CR dx (putF "_table" (.ref D0) fs))) R (.ins CR dx (putF "_head" (.ref hd) (putF "_table" (.ref D0) fs)))) R = some (.ins CR dx (putF "_head" (.ref hd) (putF "_table" (.ref D0) fs))) := upd_same
    generalize upd (upd H1 R (.ins CR dx (putF "_table" (.ref D0) fs))) R (.ins CR dx (putF "_head" (.ref hd) (putF "_table" (.ref D0) fs))) = H3 at k1 f1 hR3
    have k03 := (TupKeep.of s1).trans k1
    have hD03 := f1 D0 _ (fun z => nRD (List.mem_singleton.mp z)) h1
    refine ⟨.ref l, rfl, l, rfl, ⟨_, (hl1.keep k03).sq⟩, fun D1 hD1 => ?_⟩
    refine dc_tab (us := ls.zip lu) (val := fun z => V.ref z.1) (yields_zip el) (fun z => z.2.1) (fun z => z.2.2) (fun _ => true) (fun z => [some (.ref R), some (.ref st), some (.ref r), some (.ref hd), some (.ref l), none, some (.str z.2.1), some z.2.2]) hD1 (fun H s => (hl1.keep (k03.trans (TupKeep.of s))).sq) (fun _ _ => rfl)
      (fun H2 z s2 hz R k => ⟨z.1, _, rfl, SqT.of (s2 _ _ (k03 _ _ (tups_get ⟨by rw [List.length_map]; exact el, tl⟩ hz))), rfl, _, _, rfl, _, _, rfl, rfl, k⟩) (fun H u _ _ R k => k H (Same.refl H)) (fun H u _ _ _ R k => ⟨_, rfl, k H (Same.refl H)⟩) (fun H u _ _ _ R k => ⟨_, rfl, k H (Same.refl H)⟩) (by rw [List.length_zip]; omega) ?_ (fun H4 s4 h4 => ?_)
    · rw [filt_all, show (fun z : Addr × (Str × V) => z.2.1) = (fun m : Str × V => m.1) ∘ Prod.snd from rfl, ← List.map_map, List.map_snd_zip (by omega)]
      exact ndl
    have e1 : ((ls.zip lu).filter fun _ => true).map (fun z => (z.2.1, z.2.2)) = lu := by
      rw [filt_all, show (fun z : Addr × (Str × V) => (z.2.1, z.2.2)) = Prod.snd from rfl, List.map_snd_zip (by omega)]
    rw [e1] at h4
    have hR4 := s4 _ _ hR3
    have nRD1 : D1 ≠ R := ne_of_none' hD1 hR3
    have n01 : D1 ≠ D0 := ne_of_none' hD1 hD03
    refine ⟨.ref R, rfl, R, CR, dx, _, rfl, hR4, T.cR, T.nR_logs, (by omega), ?_⟩
    have efs : putF "_logs" (.ref D1) (putF "_head" (.ref hd) (putF "_table" (.ref D0) fs)) = rf lk D0 hd D1 := by
      rcases hfs with rfl | ⟨a, b, c, rfl⟩ <;> rfl
    rw [efs]
    have f14 := (f1.trans (FrL.same s4)).trans (FrL.at (H := H4) (o := .ins CR dx (rf lk D0 hd D1)) (List.mem_singleton_self R))
    have k4 : TupKeep H4 (upd H4 R (.ins CR dx (rf lk D0 hd D1))) := TupKeep.at fun xs z => by rw [hR4] at z; cases z
    have fH1 : H D1 = none := by
      cases c : H D1 with
      | none => rfl
      | some o =>
        have := f1 D1 o (fun z => nRD1 (List.mem_singleton.mp z)) (s1 _ _ c)
        rw [hD1] at this
        cases this
    refine q D0 D1 _ ((FrL.same s1).trans f14) ((k03.trans (TupKeep.of s4)).trans k4) upd_same ?_ ?_ hD0 fH1
    · rw [upd_ne nRD]
      exact s4 _ _ hD03
    · rw [upd_ne nRD1]
      exact h4
theorem m_Refs_become (T : TopR K mg CE CR cS cB iS iB ns r0 h0 l0) : C8.Met P w K mg base 2 CR "become" (spBecome K CR) [] := by
  refine met_of T.cR T.m_Refs_become sc_Refs_become (fun _ _ _ _ _ _ us hl => match us, hl with | [_, _], _ => rfl) (fun vs H Q E h => ?_) (fun f cdv A outer s H vs Q E hr h => ?_)
  · obtain ⟨R, st, r, hd, l, lk, dx, fs, u, lu, rfl, _⟩ := h
    rfl
  · obtain ⟨R, st, r, hd, l, lk, dx, fs, u, lu, rfl, hR, hfs, rest⟩ := h
    refine ⟨_, (pss_one (ps_expr (C8.pe_mt (m_Refstake_over T) hr (by decide) (pv 0) (pa_cons (pv 1) pa_nil)))), ?_⟩
    refine ⟨.ref R, rfl, R, dx, fs, rfl, hR, ?_, .ref st, rfl, R, st, r, hd, l, lk, dx, fs, u, lu, rfl, hR, hfs, rest⟩
    rcases hfs with rfl | ⟨a, b, c, rfl⟩ <;> rfl
/-- a reference, or HEAD, is locked for an edit; all other edits are closed -/
def spLock (CE CR : Addr) : Sp := fun vs H Q _ => ∃ (R E dx ex lk tb hd lg : Addr) (fs : List (Str × V)) (x : Str) (n : Nat), vs = [.ref R, .str x, .ref E] ∧ H R = some (.ins CR dx (rf lk tb hd lg)) ∧ H E = some (.ins CE ex fs) ∧ fs.lookup ("closed" : Str) = some (.bl false) ∧ LocksAt H CE lk E n ∧ n < 64 ∧
  ∀ lk' H', H lk' = none → FrL [R] H H' → TupKeep H H' → H' R = some (.ins CR dx (rf lk' tb hd lg)) → LocksAt H' CE lk' E (n + 1) → Q .non H'
theorem m_Refs_lock (T : TopR K mg CE CR cS cB iS iB ns r0 h0 l0) : C8.Met P w K mg base 3 CR "lock" (spLock CE CR) [] := by
  refine met_of T.cR T.m_Refs_lock sc_Refs_lock (fun _ _ _ _ _ _ us hl => match us, hl with | [_, _, _], _ => rfl) (fun vs H Q E h => ?_) (fun f cdv A outer s H vs Q E hr h => ?_)
  · obtain ⟨R, E, dx, ex, lk, tb, hd, lg, fs, x, n, rfl, _⟩ := h
    rfl
  · obtain ⟨R, e, dx, ex, lk, tb, hd, lg, fs, x, n, rfl, hR, he, hc, ⟨kt, hk, nd, hl, hl', al⟩, hn, q⟩ := h
    refine ⟨_, (pss_cons (ps_set (i := 3) sc_Refs_lock.nd rfl (Or.inr rfl) (pe_lock (pe_dc (own := [("name", 4)]) (g := gName 4) (by rfl) sc_Refs_lock.nd (pi_keys (pe_fld (pv 0) rfl)) (blkOk_by (own := [("name", 4)]) (N := ["self", "ref", "edit", "held", "name", "barring"]) (sc := C8.fnScope s_Refs_lock) (by decide +kernel)) (fun _ _ _ _ _ => (pg_name (i := 4) sc_Refs_lock.nd rfl (Or.inl rfl))) (fun _ _ _ _ _ => pts_one (pt_not (pt_val (pe_fldK (K := K) rfl (pe_dget (hu_of hr) (pe_fldK (K := K) rfl (pv 0) rfl) (pv 4) (fun _ _ => rfl)) rfl)))) (fun _ _ _ _ _ => (pv 4)) (fun _ _ _ _ _ => (pe_dget (hu_of hr) (pe_fldK (K := K) rfl (pv 0) rfl) (pv 4) (fun _ _ => rfl))))))
      (pss_cons (ps_lock (ps_setLc (i := 5) (own := [("name", 4)]) (g := gName 4) (by rfl) sc_Refs_lock.nd rfl rfl (sw_true rfl rfl rfl (by decide +kernel)) (pi_keys (pv 3)) (blkOk_by (own := [("name", 4)]) (N := ["self", "ref", "edit", "held", "name", "barring"]) (sc := C8.fnScope s_Refs_lock) (by decide +kernel)) (fun _ _ _ _ _ => (pg_name (i := 4) sc_Refs_lock.nd rfl (Or.inl rfl))) (fun _ _ _ _ _ => pts_one (PW.pt (pw_and (pt_cmpR (op_idNe T.pEdit (hu_of hr)) (pe_dget (hu_of hr) (pv 3) (pv 4) (fun _ _ => rfl)) (pv 2) (nomark _)) (pw_and1 (pt_val pe_never))))) (fun _ _ _ _ _ => (pv 4))))
      (pss_cons (ps_if (pt_truth (pv 5) (by intro _; rfl))
      (pss_one ps_never)
      pss_nil)
      (pss_cons (ps_dput (hu_of hr) (pv 3) (pv 1) (pv 2) rfl)
      (pss_one (ps_fld (pv 0) (pv 3) rfl)))))), ?_⟩
    have nkR : lk ≠ R := fun z => by rw [z, hR] at hk; cases hk
    have hR1 : ∀ {o : HO}, (upd H lk o) R = some (.ins CR dx (rf lk tb hd lg)) := fun {o} => by rw [upd_ne nkR.symm]; exact hR
    have nke : lk ≠ e := fun z => by rw [z, he] at hk; cases hk
    refine ⟨lk, _, hk, trivial, fun od => ⟨.ref R, rfl, R, CR, dx, _, .ref lk, rfl, hR1, T.cR, T.nR_locks, rfl, lk, od, rfl, .inl ⟨kT kt, upd_same, fun D hD => ?_⟩⟩⟩
    refine dc_tab (us := kt) (val := fun z => V.str z.1) yields_tab (fun z => z.1) (fun z => z.2) (fun z => decide (z.2 = .ref e)) (fun z => [some (.ref R), some (.str x), some (.ref e), none, some (.str z.1), none]) hD (fun H s => s _ _ upd_same) (fun _ _ => rfl)
      (fun H2 z s2 hz R k => k) (fun H2 z s2 hz R' k => ?_) (fun H u _ _ _ R k => ⟨_, rfl, k H (Same.refl H)⟩) (fun H2 z s2 hz _ R' k => ?_) (by omega) (nd_filter nd _) (fun H2 s2 h2 => ?_)
    · have d := dget_kT (.inr ⟨od, s2 _ _ upd_same⟩) z.1
      rw [val_nodup nd z hz] at d
      obtain ⟨e', dx', fs', b, e1, e2, e3, e4⟩ : ∃ (e' dx' : Addr) (fs' : List (Str × V)) (b : Bool), z.2 = .ref e' ∧ H e' = some (.ins CE dx' fs') ∧ fs'.lookup ("closed" : Str) = some (.bl b) ∧ (!b) = decide (z.2 = .ref e) := by
        rcases al z hz with h | ⟨e', dx', fs', h1, h2, h3⟩
        · exact ⟨e, ex, fs, false, h, he, hc, by rw [decide_eq_true h]; rfl⟩
        · refine ⟨e', dx', fs', true, h1, h2, h3, ?_⟩
          rw [decide_eq_false]
          · rfl
          · intro z1
            rw [h1] at z1
            cases z1
            rw [he] at h2
            cases h2
            rw [hc] at h3
            cases h3
      have nk' : e' ≠ lk := fun z => by rw [z, hk] at e2; cases e2
      have e2' := s2 _ _ (show (upd H lk (.frz od (.dK (kT kt)))) e' = some (.ins CE dx' fs') by rw [upd_ne nk']; exact e2)
      refine ⟨.ref R, rfl, R, CR, dx, _, .ref lk, rfl, s2 _ _ hR1, T.cR, T.nR_locks, rfl, .str z.1, rfl, lk, z.2, rfl, d, e', CE, dx', fs', .bl b, e1, e2', T.cE, T.nEclosed, e3, b, rfl, ?_⟩
      show R' (!b) H2
      rw [e4]
      exact k H2 (Same.refl H2)
    · have d := dget_kT (.inr ⟨od, s2 _ _ upd_same⟩) z.1
      rw [val_nodup nd z hz] at d
      exact ⟨.ref R, rfl, R, CR, dx, _, .ref lk, rfl, s2 _ _ hR1, T.cR, T.nR_locks, rfl, .str z.1, rfl, lk, z.2, rfl, d, k H2 (Same.refl H2)⟩
    have hf : ∃ ht : Tab, ht = kt.filter fun z => decide (z.2 = .ref e) := ⟨_, rfl⟩
    obtain ⟨ht, eht⟩ := hf
    have h2' : H2 D = some (.dK (kT ht)) := by
      rw [h2, eht]
      congr 3
      exact List.map_id' _
    have s3 : Same H (upd H2 lk (.dK (kT kt))) := same_unlock s2 hk
    have h3 : (upd H2 lk (.dK (kT kt))) D = some (.dK (kT ht)) := by rw [upd_ne (lock_ne hD)]; exact h2'
    have fD : H D = none := lock_free hD
    refine ⟨s2 _ _ upd_same, ?_⟩
    generalize upd H2 lk (.dK (kT kt)) = H3 at s3 h3
    have aht : ∀ z ∈ ht, z.2 = .ref e := fun z hz => by
      rw [eht] at hz
      exact of_decide_eq_true (List.mem_filter.mp hz).2
    have ndh : Nd ht := by rw [eht]; exact nd_filter nd _
    have lht : ht.length ≤ n := by rw [eht]; exact hl'
    refine ⟨D, _, h3, trivial, fun od2 => ⟨.ref D, rfl, D, od2, rfl, .inl ⟨kT ht, upd_same, fun D2 hD2 => ?_⟩⟩⟩
    have nDe : e ≠ D := fun z => by rw [z, fD] at he; cases he
    refine lc_pure (i := 4) (us := ht) (g := fun z => V.str z.1) yields_tab (fun z => V.str z.1) (fun _ => false) hD2 (fun H s => s _ _ upd_same) (fun H4 z s4 hz R' k => ?_) (fun H4 z s4 hz hp R' k => by cases hp) (by omega) (fun H4 s4 h4 => ?_)
    · have d := dget_kT (.inr ⟨od2, s4 _ _ upd_same⟩) z.1
      rw [val_nodup ndh z hz] at d
      have he4 := s4 _ _ (show (upd H3 D (.frz od2 (.dK (kT ht)))) e = some (.ins CE ex fs) by rw [upd_ne nDe]; exact s3 _ _ he)
      refine ⟨.ref D, rfl, .str z.1, rfl, D, z.2, rfl, d, .ref e, rfl, e, e, ex, ex, fs, fs, aht z hz, rfl, he4, he4, _, rfl, ?_⟩
      rw [decide_eq_true rfl]
      exact iteF (k H4 (Same.refl H4))
    have ef0 : ht.filter (fun _ => false) = [] := by simp
    rw [ef0] at h4
    have s5 : Same H3 (upd H4 D (.dK (kT ht))) := same_unlock s4 h3
    have h5 : (upd H4 D (.dK (kT ht))) D2 = some (.lst []) := by rw [upd_ne (lock_ne hD2)]; exact h4
    have h5D : (upd H4 D (.dK (kT ht))) D = some (.dK (kT ht)) := upd_same
    refine ⟨s4 _ _ upd_same, ?_⟩
    generalize upd H4 D (.dK (kT ht)) = H5 at s5 h5 h5D
    refine ⟨.ref D2, rfl, false, .inl ⟨[], SqL.of h5, rfl⟩, iteF ?_⟩
    refine ⟨.ref e, rfl, .ref D, rfl, .str x, rfl, D, _, rfl, .inl ⟨kT ht, .inr x, h5D, rfl, small_lt (by rw [len_kT]; omega), rfl⟩, ?_⟩
    rw [putK_kT]
    have s05 := s3.trans s5
    have nDR : R ≠ D := fun z => by rw [z, fD] at hR; cases hR
    have hR6 : (upd H5 D (.dK (kT (putK ht x (.ref e))))) R = some (.ins CR dx (rf lk tb hd lg)) := by rw [upd_ne nDR]; exact s05 _ _ hR
    refine ⟨.ref D, rfl, .ref R, rfl, R, CR, dx, _, rfl, hR6, T.cR, T.nR_locks, (by show 4 < 1000; decide), ?_⟩
    have s06 : Same H (upd H5 D (.dK (kT (putK ht x (.ref e))))) := fun b o eb => by
      rw [upd_ne (ne_of_none eb fD)]
      exact s05 _ _ eb
    have ktk : TupKeep (upd H5 D (.dK (kT (putK ht x (.ref e))))) (upd (upd H5 D (.dK (kT (putK ht x (.ref e))))) R (.ins CR dx (rf D tb hd lg))) := TupKeep.at fun xs z => by rw [hR6] at z; cases z
    refine q D _ fD ((FrL.same s06).trans (FrL.at (List.mem_singleton_self R))) ((TupKeep.of s06).trans ktk) upd_same ⟨putK ht x (.ref e), by rw [upd_ne nDR.symm, upd_same], nd_put ndh _ _, by have := len_put ht x (.ref e); omega, Nat.le_trans (List.length_filter_le _ _) (by have := len_put ht x (.ref e); omega), fun p hp => .inl ?_⟩
    rcases mem_putK hp with hp | hp
    · exact aht p hp
    · exact hp
end

end Fk

set_option maxHeartbeats 4000000
namespace Fk
open PySem PySem.Spec PyProof.Rows L2
section
variable {P : Program} {w : World} {K : PySem.W.Frag} {mg : Str → Option Value} {base : Heap} {CE CR cS cB iS iB ns r0 h0 l0 : Addr}
/-- a value that a reference may have had -/
def HadOk (v : V) : Prop := v = .non ∨ v = .str "" ∨ ∃ y, v = .str y ∧ isIdF y = true ∧ y.length ≤ 1000 ∧ OkS y
def spCall (CE CR : Addr) : Sp := fun vs H Q _ => ∃ (E ex R nt cl dx lk tb hd lg : Addr) (nh : V) (x : Str) (v o : V) (cs : List (Str × V × V)) (n : Nat), vs = [.ref E, .str x, v, o] ∧ H E = some (.ins CE ex (ef R nt cl nh false)) ∧ H R = some (.ins CR dx (rf lk tb hd lg)) ∧ LocksAt H CE lk E n ∧ n < 64 ∧ CallsAt H cl cs ∧ cs.length < 64 ∧ HadOk o ∧
  ∀ lk' H', FrL [R, cl] H H' → TupKeep H H' → H' R = some (.ins CR dx (rf lk' tb hd lg)) → LocksAt H' CE lk' E (n + 1) → CallsAt H' cl (callPut cs x v o) → Q .non H'
theorem m_Editcall (T : TopR K mg CE CR cS cB iS iB ns r0 h0 l0) : C8.Met P w K mg base 4 CE "_call" (spCall CE CR) [] := by
  refine met_of T.cE T.m_Editcall sc_Editcall (fun _ _ _ _ _ _ us hl => match us, hl with | [_, _, _, _], _ => rfl) (fun vs H Q E h => ?_) (fun f cdv A outer s H vs Q E hr h => ?_)
  · obtain ⟨E, ex, R, nt, cl, dx, lk, tb, hd, lg, nh, x, v, o, cs, n, rfl, _⟩ := h
    rfl
  · obtain ⟨e, ex, R, nt, cl, dx, lk, tb, hd, lg, nh, x, v, o, cs, n, rfl, he, hR, hk, hn, ⟨zs, ez, hc, hz⟩, hl, ho, q⟩ := h
    refine ⟨_, (C8.pss_cut (ps_if (PW.pt (pw_and (pt_cmpR op_notN (pv 3) pe_non (nomark _)) (pw_and (pt_cmpR op_ne (pv 3) pe_str (nomark _)) (pw_and1 (pt_not (pt_val (C8.pe_c (c_is_id T.toTop) hr (by decide) (by rfl) (pa_cons (pv 3) pa_nil))))))))
      (pss_one ps_never)
      pss_nil)
      (pss_cons (ps_expr (C8.pe_mt (m_Refs_lock T) hr (by decide) (pe_fld (pv 0) rfl) (pa_cons (pv 1) (pa_cons (pv 0) pa_nil))))
      (pss_cons (ps_expr (pe_dpop2 (pe_fld (pv 0) rfl) (pv 1) pe_non ⟨rfl, rfl, rfl, rfl⟩))
      (pss_one (ps_dput (hu_of hr) (pe_fld (pv 0) rfl) (pv 1) (pe_tup (pa_cons (pv 2) (pa_cons (pv 3) pa_nil))) rfl))))), ?_⟩
    have nRe : e ≠ R := at_ne he hR fun z => by injection z with z; exact T.ne z
    have ncR : cl ≠ R := at_ne hc hR fun z => nomatch z
    have nce : cl ≠ e := at_ne hc he fun z => nomatch z
    refine ⟨fun σ H' => Same H H' ∧ σ = [some (.ref e), some (.str x), some v, some o], ?_, ?_⟩
    · rcases ho with rfl | rfl | ⟨y, rfl, hy, hyl, hyo⟩
      · exact ⟨.non, rfl, rfl, _, rfl, iteF (iteF ⟨Same.refl H, rfl⟩)⟩
      · exact ⟨.str "", rfl, rfl, _, rfl, iteT ⟨.str "", rfl, rfl, _, rfl, iteF (iteF ⟨Same.refl H, rfl⟩)⟩⟩
      · refine ⟨.str y, rfl, rfl, _, rfl, iteT ⟨.str y, rfl, rfl, _, rfl, ?_⟩⟩
        have ny : (!decide (V.str y = V.str "")) = true := by
          rw [decide_eq_false]
          · rfl
          · intro z
            rw [V.str.inj z] at hy
            exact absurd hy (by decide +kernel)
        rw [ny]
        refine iteT ⟨.str y, rfl, .str y, rfl, .str y (by omega) hyo, fun H1 s1 => ⟨_, rfl, ?_⟩⟩
        rw [show evalV isIdF (.str y) = true from hy]
        exact iteF ⟨s1, rfl⟩
    · rintro σ H1 ⟨s1, rfl⟩
      refine ⟨.ref e, rfl, e, CE, ex, _, _, rfl, s1 _ _ he, T.cE, T.nE_refs, rfl, R, dx, _, rfl, s1 _ _ hR, rfl, .str x, rfl, .ref e, rfl, R, e, dx, ex, lk, tb, hd, lg, _, x, n, rfl, s1 _ _ hR, s1 _ _ he, rfl, hk.same s1, hn, fun lk' H2 nlk f2 k2 hR2 hk2 => ?_⟩
      have he2 := f2.out (s1 _ _ he) (not1 nRe)
      have hc2 := f2.out (s1 _ _ hc) (not1 ncR)
      have k02 := (TupKeep.of s1).trans k2
      have f02 : FrL [R, cl] H H2 := (FrL.same s1).trans (f2.mono fun a ha => by rw [List.mem_singleton.mp ha]; exact List.mem_cons_self)
      have rest : ∀ H3, FrL [cl] H2 H3 → TupKeep H2 H3 → H3 cl = some (.dK (kT (dropK (zs.map fun z => (z.2.1, V.ref z.1)) x))) →
          sDPut (tFld K (tVar 0) "_calls") (tVar 1) (tTup (tCons (tVar 2) (tCons (tVar 3) tNil))) { nx := fun x H' => Q V.non H', rt := Q } [some (.ref e), some (.str x), some v, some o] H3 := fun H3 f3 k3 hc3 => by
        have he3 := f3.out he2 (not1 nce.symm)
        have hR3 := f3.out hR2 (not1 ncR.symm)
        refine ⟨v, rfl, o, rfl, (by show 2 ≤ sizeLine; decide), fun p hp => ?_⟩
        have s4 := same_new (o := .tup [v, o]) hp
        refine ⟨.ref e, rfl, e, CE, ex, _, _, rfl, s4 _ _ he3, T.cE, T.nE_calls, rfl, .str x, rfl, cl, _, rfl, .inl ⟨_, .inr x, s4 _ _ hc3, rfl, small_lt ?_, rfl⟩, ?_⟩
        · rw [len_kT]
          have := dropK_le (zs.map fun z => (z.2.1, V.ref z.1)) x
          rw [List.length_map] at this
          have : zs.length = cs.length := by rw [← ez, List.length_map]
          omega
        rw [putK_kT]
        have hc4 := s4 _ _ hc3
        have ph : (upd H3 p (.tup [v, o])) p = some (.tup [v, o]) := upd_same
        generalize upd H3 p (.tup [v, o]) = H4 at s4 hc4 ph
        have k5 : TupKeep H4 (upd H4 cl (.dK (kT (putK (dropK (zs.map fun z => (z.2.1, V.ref z.1)) x) x (.ref p))))) := TupKeep.at fun xs z => by rw [hc4] at z; cases z
        have f25 : FrL [cl] H2 (upd H4 cl (.dK (kT (putK (dropK (zs.map fun z => (z.2.1, V.ref z.1)) x) x (.ref p))))) := (f3.trans (FrL.same s4)).trans (FrL.at (List.mem_singleton_self cl))
        have k05 := ((k02.trans k3).trans (TupKeep.of s4)).trans k5
        refine q lk' _ (f02.trans (f25.mono fun a ha => by rw [List.mem_singleton.mp ha]; exact List.mem_cons_of_mem _ List.mem_cons_self)) k05 (f25.out hR2 (not1 ncR.symm)) ?_ ?_
        · refine hk2.keep (fun o' eo => f25.out eo (not1 (fun z => by rw [z, s1 _ _ hc] at nlk; cases nlk))) fun a da fa ea _ => f25.out ea (not1 (at_ne ea hc2 fun z => nomatch z))
        · rw [← ez]
          exact calls_put upd_same (fun z h => k05 _ _ (hz z h)) (k5 _ _ ph)
      refine ⟨.ref e, rfl, e, CE, ex, _, _, rfl, he2, T.cE, T.nE_calls, rfl, cl, rfl, .inl ⟨_, .inl hc2⟩, .str x, rfl, _, .inr x, hc2, rfl, fun v' _ => ?_, fun hv => ?_⟩
      · rw [dropK_kT]
        exact rest _ (FrL.at (List.mem_singleton_self cl)) (TupKeep.at fun xs z => by rw [hc2] at z; cases z) upd_same
      · refine rest H2 (FrL.refl _ _) (TupKeep.refl _) ?_
        rw [valV_kT] at hv
        rw [dropK_no (valV_not hv)]
        exact hc2
def spDrop (CE : Addr) : Sp := fun vs H Q _ => ∃ (E ex R nt cl : Addr) (nh : V), vs = [.ref E] ∧ H E = some (.ins CE ex (ef R nt cl nh false)) ∧ Q .non (upd H E (.ins CE ex (ef R nt cl nh true)))
theorem m_Edit_drop (T : TopR K mg CE CR cS cB iS iB ns r0 h0 l0) : C8.Met P w K mg base 2 CE "drop" (spDrop CE) [] := by
  refine met_of T.cE T.m_Edit_drop sc_Edit_drop (fun _ _ _ _ _ _ us hl => match us, hl with | [_], _ => rfl) (fun vs H Q E h => ?_) (fun f cdv A outer s H vs Q E hr h => ?_)
  · obtain ⟨E, ex, R, nt, cl, nh, rfl, _⟩ := h
    rfl
  · obtain ⟨e, ex, R, nt, cl, nh, rfl, he, q⟩ := h
    refine ⟨_, (pss_cons (ps_expr (C8.pe_mt0 (m_Editcheck_open T) hr (by decide) (pv 0)))
      (pss_one (ps_fld (pv 0) pe_bl rfl))), ?_⟩
    exact ⟨.ref e, rfl, e, ex, _, rfl, he, rfl, e, ex, R, nt, cl, nh, rfl, he, .ref e, rfl, e, CE, ex, _, rfl, he, T.cE, T.nEclosed, (by show 5 < 1000; decide), q⟩
def spStand (CE CR : Addr) : Sp := fun vs H Q _ => ∃ (E ex R nt cl dx lk tb hd lg : Addr) (nh : V) (x y : Str) (n : Nat), vs = [.ref E, .str x, .str y] ∧ H E = some (.ins CE ex (ef R nt cl nh false)) ∧ H R = some (.ins CR dx (rf lk tb hd lg)) ∧ LocksAt H CE lk E n ∧ n < 64 ∧ HeadOk x y ∧
  ∀ lk' h H', FrL [R, E] H H' → TupKeep H H' → H' R = some (.ins CR dx (rf lk' tb hd lg)) → H' E = some (.ins CE ex (ef R nt cl (.ref h) false)) → H' h = some (.tup [.str x, .str y]) → LocksAt H' CE lk' E (n + 1) → Q .non H'
theorem m_Edit_stand (T : TopR K mg CE CR cS cB iS iB ns r0 h0 l0) : C8.Met P w K mg base 5 CE "stand" (spStand CE CR) [] := by
  refine met_of T.cE T.m_Edit_stand sc_Edit_stand (fun _ _ _ _ _ _ us hl => match us, hl with | [_, _, _], _ => rfl) (fun vs H Q E h => ?_) (fun f cdv A outer s H vs Q E hr h => ?_)
  · obtain ⟨E, ex, R, nt, cl, dx, lk, tb, hd, lg, nh, x, y, n, rfl, _⟩ := h
    rfl
  · obtain ⟨e, ex, R, nt, cl, dx, lk, tb, hd, lg, nh, x, y, n, rfl, he, hR, hk, hn, hh, q⟩ := h
    refine ⟨_, (pss_cons (ps_expr (C8.pe_mt0 (m_Editcheck_open T) hr (by decide) (pv 0)))
      (pss_cons (ps_if (PW.pt (pw_and (pt_cmpR op_eq (pv 1) pe_str (nomark _)) (pw_and1 (pt_not (pt_val (C8.pe_c (c_is_ref T.toTop) hr (by decide) (by rfl) (pa_cons (pv 2) pa_nil)))))))
      (pss_one ps_never)
      pss_nil)
      (pss_cons (ps_if (pt_not (pt_val (C8.pe_c (c_is_head T.toTop) hr (by decide) (by rfl) (pa_cons (pe_tup (pa_cons (pv 1) (pa_cons (pv 2) pa_nil))) pa_nil))))
      (pss_one ps_never)
      pss_nil)
      (pss_cons (ps_expr (C8.pe_mt (m_Refs_lock T) hr (by decide) (pe_fld (pv 0) rfl) (pa_cons pe_str (pa_cons (pv 0) pa_nil))))
      (pss_one (ps_fld (pv 0) (pe_tup (pa_cons (pv 1) (pa_cons (pv 2) pa_nil))) rfl)))))), ?_⟩
    have nRe : e ≠ R := at_ne he hR fun z => by injection z with z; exact T.ne z
    obtain ⟨hv, hyl, hyo⟩ := id hh
    refine ⟨.ref e, rfl, e, ex, _, rfl, he, rfl, e, ex, R, nt, cl, nh, rfl, he, ?_⟩
    have rest : ∀ H1, Same H H1 → (tSeq
        (tIfS (tNot (tB (tCall spIsHead [] C8.E0 (tCons (tTup (tCons (tVar 1) (tCons (tVar 2) tNil))) tNil))))
          (fun x x_1 x_2 => False) tNext)
        (tSeq
          (tDrop
            (tMeth CR (Str.ofString "lock") (spLock CE CR) [] C8.E0
              (tFld K (tVar 0) (Str.ofString "_refs"))
              (tCons (tC (V.str (Str.ofString "HEAD"))) (tCons (tVar 0) tNil))))
          (sFld K (tVar 0) (tTup (tCons (tVar 1) (tCons (tVar 2) tNil))) (Str.ofString "_new_head")))) { nx := fun x H' => Q V.non H', rt := Q } [some (.ref e), some (.str x), some (.str y)] H1 := fun H1 s1 => by
      refine ⟨.str x, rfl, .str y, rfl, (by show 2 ≤ sizeLine; decide), fun p hp => ⟨p, x, y, rfl, upd_same, hh, fun H2 s2 => ⟨_, rfl, iteF ?_⟩⟩⟩
      have s3 := (s1.trans (same_new hp)).trans s2
      refine ⟨.ref e, rfl, e, CE, ex, _, _, rfl, s3 _ _ he, T.cE, T.nE_refs, rfl, R, dx, _, rfl, s3 _ _ hR, rfl, .ref e, rfl, R, e, dx, ex, lk, tb, hd, lg, _, "HEAD", n, rfl, s3 _ _ hR, s3 _ _ he, rfl, hk.same s3, hn, fun lk' H4 nlk f4 k4 hR4 hk4 => ?_⟩
      have he4 := f4.out (s3 _ _ he) (not1 nRe)
      refine ⟨.str x, rfl, .str y, rfl, (by show 2 ≤ sizeLine; decide), fun h hh' => ?_⟩
      have s5 := same_new (o := .tup [.str x, .str y]) hh'
      refine ⟨.ref e, rfl, e, CE, ex, _, rfl, s5 _ _ he4, T.cE, T.nE_new_head, (by show 5 < 1000; decide), ?_⟩
      have k5 : TupKeep (upd H4 h (.tup [.str x, .str y])) (upd (upd H4 h (.tup [.str x, .str y])) e (.ins CE ex (ef R nt cl (.ref h) false))) := TupKeep.at fun xs z => by rw [s5 _ _ he4] at z; cases z
      have f5 : FrL [e] H4 (upd (upd H4 h (.tup [.str x, .str y])) e (.ins CE ex (ef R nt cl (.ref h) false))) := (FrL.same s5).trans (FrL.at (List.mem_singleton_self e))
      refine q lk' h _ ((FrL.same s3).trans ((f4.mono fun a ha => by rw [List.mem_singleton.mp ha]; exact List.mem_cons_self).trans (f5.mono fun a ha => by rw [List.mem_singleton.mp ha]; exact List.mem_cons_of_mem _ List.mem_cons_self)))
        (((TupKeep.of s3).trans k4).trans ((TupKeep.of s5).trans k5)) (f5.out hR4 (not1 nRe.symm)) upd_same (k5 _ _ upd_same) ?_
      refine hk4.keep (fun o' eo => f5.out eo (not1 ?_)) fun a da fa ea ca => f5.out ea (not1 fun z => ?_)
      · obtain ⟨kt, hkt, _⟩ := hk4
        exact at_ne hkt he4 fun z => nomatch z
      · rw [z, he4] at ea
        cases ea
        cases ca
    by_cases c : x = "ref"
    · subst c
      rcases hv with ⟨_, hv⟩ | ⟨z, _⟩
      · refine ⟨.str "ref", rfl, rfl, _, rfl, iteT ⟨.str y, rfl, .str y, rfl, .str y (by omega) hyo, fun H1 s1 => ⟨_, rfl, ?_⟩⟩⟩
        rw [show evalV isRefF (.str y) = true from hv]
        exact iteF (rest H1 s1)
      · exact absurd z (by decide +kernel)
    · refine ⟨.str x, rfl, rfl, _, rfl, ?_⟩
      rw [decide_eq_false (fun z => c (V.str.inj z))]
      exact iteF (iteF (rest H (Same.refl H)))
def spNames (CR : Addr) : Sp := fun vs H Q _ => ∃ (R dx lk tb hd lg : Addr) (t : Tab), vs = [.ref R] ∧ H R = some (.ins CR dx (rf lk tb hd lg)) ∧ H tb = some (.dK (kT t)) ∧ t.length < 64 ∧
  ∀ ys p H', ys.Perm (t.map (·.1)) → sortedS ys = true → H p = none → Same H H' → H' p = some (.tup (ys.map V.str)) → Q (.ref p) H'
theorem m_Refs_names (T : TopR K mg CE CR cS cB iS iB ns r0 h0 l0) : C8.Met P w K mg base 2 CR "names" (spNames CR) [] := by
  refine met_of T.cR T.m_Refs_names sc_Refs_names (fun _ _ _ _ _ _ us hl => match us, hl with | [_], _ => rfl) (fun vs H Q E h => ?_) (fun f cdv A outer s H vs Q E hr h => ?_)
  · obtain ⟨R, dx, lk, tb, hd, lg, t, rfl, _⟩ := h
    rfl
  · obtain ⟨R, dx, lk, tb, hd, lg, t, rfl, hR, ht, hl, q⟩ := h
    refine ⟨_, (pss_one (ps_ret (C8.pe_c (c_ascending T.toTop) hr (by decide) (by rfl) (pa_cons (pe_fld (pv 0) rfl) pa_nil)))), ?_⟩
    exact ⟨.ref R, rfl, R, CR, dx, _, _, rfl, hR, T.cR, T.nR_table, rfl, tb, t, rfl, ht, hl, q⟩
def spHead (CR : Addr) : Sp := fun vs H Q _ => ∃ (R dx lk tb hd lg : Addr), vs = [.ref R] ∧ H R = some (.ins CR dx (rf lk tb hd lg)) ∧ Q (.ref hd) H
theorem m_Refs_head (T : TopR K mg CE CR cS cB iS iB ns r0 h0 l0) : C8.Met P w K mg base 1 CR "head" (spHead CR) [] := by
  refine met_of T.cR T.m_Refs_head sc_Refs_head (fun _ _ _ _ _ _ us hl => match us, hl with | [_], _ => rfl) (fun vs H Q E h => ?_) (fun f cdv A outer s H vs Q E hr h => ?_)
  · obtain ⟨R, dx, lk, tb, hd, lg, rfl, _⟩ := h
    rfl
  · obtain ⟨R, dx, lk, tb, hd, lg, rfl, hR, q⟩ := h
    refine ⟨_, (pss_one (ps_ret (pe_fld (pv 0) rfl))), ?_⟩
    exact ⟨.ref R, rfl, R, CR, dx, _, _, rfl, hR, T.cR, T.nR_head, rfl, q⟩
def spAtHead (K : PySem.W.Frag) (CR : Addr) : Sp := fun vs H Q _ => ∃ (R dx lk tb hd lg : Addr) (t : Tab) (x n : Str), vs = [.ref R] ∧ H R = some (.ins CR dx (rf lk tb hd lg)) ∧ H tb = some (.dK (kT t)) ∧ TupK K H hd [.str x, .str n] ∧ Q (ledF t x n) H
theorem m_Refs_at_head (T : TopR K mg CE CR cS cB iS iB ns r0 h0 l0) : C8.Met P w K mg base 2 CR "at_head" (spAtHead K CR) [] := by
  refine met_of T.cR T.m_Refs_at_head sc_Refs_at_head (fun _ _ _ _ _ _ us hl => match us, hl with | [_], _ => rfl) (fun vs H Q E h => ?_) (fun f cdv A outer s H vs Q E hr h => ?_)
  · obtain ⟨R, dx, lk, tb, hd, lg, t, x, n, rfl, _⟩ := h
    rfl
  · obtain ⟨R, dx, lk, tb, hd, lg, t, x, n, rfl, hR, ht, hh, q⟩ := h
    refine ⟨_, (pss_one (ps_ret (C8.pe_c (c_led_to T.toTop) hr (by decide) (by rfl) (pa_cons (pe_fld (pv 0) rfl) (pa_cons (pe_fld (pv 0) rfl) pa_nil))))), ?_⟩
    exact ⟨.ref R, rfl, R, CR, dx, _, _, rfl, hR, T.cR, T.nR_table, rfl, .ref R, rfl, R, CR, dx, _, _, rfl, hR, T.cR, T.nR_head, rfl, tb, hd, t, x, n, rfl, ht, hh, q⟩
def spLog (CR : Addr) : Sp := fun vs H Q _ => ∃ (R dx lk tb hd lg : Addr) (lt : Tab) (L : Str → List (List V)) (x : Str), vs = [.ref R, .str x] ∧ H R = some (.ins CR dx (rf lk tb hd lg)) ∧ H lg = some (.dK (kT lt)) ∧ LogsOk H lt L ∧ (isRefF x = true ∨ x = "HEAD") ∧ x.length ≤ 1000 ∧ OkS x ∧
  ∀ D as H', H D = none → Same H H' → H' D = some (.lst (as.map V.ref)) → Tups H' as (L x) → Q (.ref D) H'
theorem m_Refs_log (T : TopR K mg CE CR cS cB iS iB ns r0 h0 l0) : C8.Met P w K mg base 5 CR "log" (spLog CR) [] := by
  refine met_of T.cR T.m_Refs_log sc_Refs_log (fun _ _ _ _ _ _ us hl => match us, hl with | [_, _], _ => rfl) (fun vs H Q E h => ?_) (fun f cdv A outer s H vs Q E hr h => ?_)
  · obtain ⟨R, dx, lk, tb, hd, lg, lt, L, x, rfl, _⟩ := h
    rfl
  · obtain ⟨R, dx, lk, tb, hd, lg, lt, L, x, rfl, hR, hlg, hL, hx, hl, ho, q⟩ := h
    refine ⟨_, (pss_cons (ps_if (pt_not (pt_val (C8.pe_c (c_is_log_name T.toTop) hr (by decide) (by rfl) (pa_cons (pv 1) pa_nil))))
      (pss_one ps_never)
      pss_nil)
      (pss_one (ps_ret (pe_callTy call_list_of (by rfl) T.z_list (by decide +kernel) (pa_cons (pe_dget2 (hu_of hr) (pe_fld (pv 0) rfl) (pv 1) (pe_tup pa_nil) ⟨rfl, rfl, rfl, rfl⟩) pa_nil))))), ?_⟩
    refine ⟨.str x, rfl, x, rfl, hx, hl, ho, fun H1 s1 => ⟨_, rfl, iteF ?_⟩⟩
    refine ⟨.ref R, rfl, R, CR, dx, _, _, rfl, s1 _ _ hR, T.cR, T.nR_logs, rfl, lg, rfl, .inl ⟨_, .inl (s1 _ _ hlg)⟩, .str x, rfl, Nat.zero_le _, fun pe hpe => ⟨valV lt x, ?_, ?_⟩⟩
    · exact dget_kT (.inl (by rw [upd_ne (ne_of_none (s1 _ _ hlg) hpe)]; exact s1 _ _ hlg)) x
    · have s0 : Same H1 (upd H1 pe (.tup [])) := same_new hpe
      have p0 : (upd H1 pe (.tup [])) pe = some (.tup []) := upd_same
      have f0 : H pe = none := s1.free hpe
      generalize upd H1 pe (.tup []) = H0 at s0 p0
      have s01 := s1.trans s0
      obtain ⟨a, as, ea, ha, ta⟩ : ∃ (a : Addr) (as : List Addr), (valV lt x).getD (.ref pe) = .ref a ∧ H0 a = some (.tup (as.map V.ref)) ∧ Tups H0 as (L x) := by
        rcases hL x with ⟨e, l⟩ | ⟨p, ⟨_, e⟩, as, h, t⟩
        · exact ⟨pe, [], by rw [e]; rfl, p0, by rw [l]; exact Tups.nil⟩
        · exact ⟨p, as, by rw [e]; rfl, s01 _ _ h, t.keep (TupKeep.of s01)⟩
      rw [ea]
      exact ⟨a, _, rfl, .inr (SqT.of ha), fun D hD => q D as _ (s01.free hD) (s01.trans (same_new hD)) upd_same (ta.keep (TupKeep.of (same_new hD)))⟩
def spHas (CR : Addr) : Sp := fun vs H Q _ => ∃ (R dx lk tb hd lg : Addr) (t : Tab) (x : Str), vs = [.ref R, .str x] ∧ H R = some (.ins CR dx (rf lk tb hd lg)) ∧ H tb = some (.dK (kT t)) ∧ x.length ≤ 1000 ∧ OkS x ∧ Q (.bl (valV t x).isSome) H
theorem m_Refs_contains (T : TopR K mg CE CR cS cB iS iB ns r0 h0 l0) : C8.Met P w K mg base 1 CR "__contains__" (spHas CR) [] := by
  refine met_of T.cR T.m_Refs_contains sc_Refs_contains (fun _ _ _ _ _ _ us hl => match us, hl with | [_, _], _ => rfl) (fun vs H Q E h => ?_) (fun f cdv A outer s H vs Q E hr h => ?_)
  · obtain ⟨R, dx, lk, tb, hd, lg, t, x, rfl, _⟩ := h
    rfl
  · obtain ⟨R, dx, lk, tb, hd, lg, t, x, rfl, hR, ht, hx, ho, q⟩ := h
    refine ⟨_, (pss_one (ps_ret (pe_and (pe_callB call_isi (by rfl) T.z_isinstance (by decide +kernel) (pa_cons (pv 1) (pa_cons (pe_bltn (v := .ty "str") (by rfl) T.z_str (by decide +kernel) rfl) pa_nil))) (pe_one (pe_cmp (pc_din (hu_of hr) (pv 1) (pe_fld (pv 0) rfl))))))), ?_⟩
    refine ⟨.str x, rfl, ?_⟩
    dsimp only [tCons, tC, tNil]
    refine (Thing.str x (by omega) ho).isi ⟨_, rfl, iteT ?_⟩
    exact ⟨.str x, rfl, .ref R, rfl, R, CR, dx, _, _, rfl, hR, T.cR, T.nR_table, rfl, tb, _, rfl, dget_kT (.inl ht) x, q⟩
def spGet (CR : Addr) : Sp := fun vs H Q _ => ∃ (R dx lk tb hd lg : Addr) (t : Tab) (x : Str) (v : V), vs = [.ref R, .str x] ∧ H R = some (.ins CR dx (rf lk tb hd lg)) ∧ H tb = some (.dK (kT t)) ∧ x.length ≤ 1000 ∧ OkS x ∧ valV t x = some v ∧ Q v H
theorem m_Refs_getitem (T : TopR K mg CE CR cS cB iS iB ns r0 h0 l0) : GetM P w K mg base 2 CR (spGet CR) := by
  refine getM_of T.m_Refs_getitem sc_Refs_getitem (fun _ _ _ _ _ _ us hl => match us, hl with | [_, _], _ => rfl) (fun vs H Q E h => ?_) (fun f cdv A outer s H vs Q E hr h => ?_)
  · obtain ⟨R, dx, lk, tb, hd, lg, t, x, v, rfl, _⟩ := h
    rfl
  · obtain ⟨R, dx, lk, tb, hd, lg, t, x, v, rfl, hR, ht, hx, ho, hv, q⟩ := h
    refine ⟨_, (pss_cons (ps_if (pt_cmpR (op_ownNotIn (ownM_of (m_Refs_contains T)) (hr.mono (by decide)) noEx0) (pv 1) (pv 0) rfl)
      (pss_one ps_never)
      pss_nil)
      (pss_one (ps_ret (pe_dget (hu_of hr) (pe_fld (pv 0) rfl) (pv 1) (fun _ _ => rfl))))), ?_⟩
    refine ⟨.str x, rfl, .ref R, rfl, R, dx, _, rfl, hR, R, dx, lk, tb, hd, lg, t, x, rfl, hR, ht, hx, ho, _, rfl, _, rfl, ?_⟩
    rw [hv]
    refine iteF ⟨.ref R, rfl, R, CR, dx, _, _, rfl, hR, T.cR, T.nR_table, rfl, .str x, rfl, tb, v, rfl, ?_, q⟩
    have d := dget_kT (.inl ht) x
    rw [hv] at d
    exact d
def spLen (CR : Addr) : Sp := fun vs H Q _ => ∃ (R dx lk tb hd lg : Addr) (t : Tab), vs = [.ref R] ∧ H R = some (.ins CR dx (rf lk tb hd lg)) ∧ H tb = some (.dK (kT t)) ∧ Q (.int t.length) H
theorem m_Refs_len (T : TopR K mg CE CR cS cB iS iB ns r0 h0 l0) : C8.Met P w K mg base 1 CR "__len__" (spLen CR) [] := by
  refine met_of T.cR T.m_Refs_len sc_Refs_len (fun _ _ _ _ _ _ us hl => match us, hl with | [_], _ => rfl) (fun vs H Q E h => ?_) (fun f cdv A outer s H vs Q E hr h => ?_)
  · obtain ⟨R, dx, lk, tb, hd, lg, t, rfl, _⟩ := h
    rfl
  · obtain ⟨R, dx, lk, tb, hd, lg, t, rfl, hR, ht, q⟩ := h
    refine ⟨_, (pss_one (ps_ret (pe_callB call_lenD (by rfl) T.z_len (by decide +kernel) (pa_cons (pe_fld (pv 0) rfl) pa_nil)))), ?_⟩
    refine ⟨.ref R, rfl, R, CR, dx, _, _, rfl, hR, T.cR, T.nR_table, rfl, tb, _, rfl, ht, ?_⟩
    rw [len_kT]
    exact q
end

end Fk

set_option maxHeartbeats 4000000
namespace Fk
open PySem PySem.Spec PyProof.Rows L2
section
variable {P : Program} {w : World} {K : PySem.W.Frag} {mg : Str → Option Value} {base : Heap} {CE CR cS cB iS iB ns r0 h0 l0 : Addr}
def spEditInit (CE : Addr) : Sp := fun vs H Q _ => ∃ (E dx R nt : Addr), vs = [.ref E, .ref R, .ref nt] ∧ H E = some (.ins CE dx []) ∧
  ∀ cl H', H cl = none → FrL [E] H H' → TupKeep H H' → H' E = some (.ins CE dx (ef R nt cl .non false)) → H' cl = some (.dK []) → Q .non H'
theorem k_Edit (T : TopR K mg CE CR cS cB iS iB ns r0 h0 l0) : C8.Mak P w K mg base 1 "Edit" CE (spEditInit CE) [] := by
  obtain ⟨f, fd, M, F, df⟩ := T.iE
  refine C8.mak0 M T.mE F (F.binds (ps := ["self", "refs", "note"]) df fun _ _ _ _ _ _ us hl => match us, hl with | [_, _, _], _ => rfl) .nil sc_Edit_init (fun vs H Q E h => ?_) (fun cdv A outer s H vs Q E hr h => ?_)
  · obtain ⟨E, dx, R, nt, rfl, _⟩ := h
    rfl
  · obtain ⟨e, dx, R, nt, rfl, he, q⟩ := h
    refine ⟨_, (pss_cons (ps_fld (pv 0) (pv 1) rfl)
      (pss_cons (ps_fld (pv 0) (pv 2) rfl)
      (pss_cons (ps_fld (pv 0) pe_dnewK rfl)
      (pss_cons (ps_fld (pv 0) pe_non rfl)
      (pss_one (ps_fld (pv 0) pe_bl rfl)))))), ?_⟩
    refine ⟨.ref R, rfl, .ref e, rfl, e, CE, dx, _, rfl, he, T.cE, T.nE_refs, (by decide), ?_⟩
    refine ⟨.ref nt, rfl, .ref e, rfl, e, CE, dx, _, rfl, upd_same, T.cE, T.nE_note, (by show 1 < 1000; decide), ?_⟩
    intro cl hcl
    have ncl : e ≠ cl := fun z => by rw [z, upd_same] at hcl; cases hcl
    have fcl : H cl = none := by rw [upd_ne ncl.symm, upd_ne ncl.symm] at hcl; exact hcl
    have hE3 : (upd (upd (upd H e (.ins CE dx (putF "_refs" (.ref R) []))) e (.ins CE dx (putF "_note" (.ref nt) (putF "_refs" (.ref R) [])))) cl (.dK [])) e = some (.ins CE dx (putF "_note" (.ref nt) (putF "_refs" (.ref R) []))) := by rw [upd_ne ncl, upd_same]
    have hC3 : (upd (upd (upd H e (.ins CE dx (putF "_refs" (.ref R) []))) e (.ins CE dx (putF "_note" (.ref nt) (putF "_refs" (.ref R) [])))) cl (.dK [])) cl = some (.dK []) := upd_same
    have f3 : FrL [e] H (upd (upd (upd H e (.ins CE dx (putF "_refs" (.ref R) []))) e (.ins CE dx (putF "_note" (.ref nt) (putF "_refs" (.ref R) [])))) cl (.dK [])) :=
      ((FrL.at (List.mem_singleton_self e)).trans (FrL.at (List.mem_singleton_self e))).trans (FrL.new hcl)
    have k3 : TupKeep H (upd (upd (upd H e (.ins CE dx (putF "_refs" (.ref R) []))) e (.ins CE dx (putF "_note" (.ref nt) (putF "_refs" (.ref R) [])))) cl (.dK [])) :=
      ((TupKeep.at fun xs z => by rw [he] at z; cases z).trans (TupKeep.at fun xs z => by rw [upd_same] at z; cases z)).trans (TupKeep.of (same_new hcl))
    generalize upd (upd (upd H e (.ins CE dx (putF "_refs" (.ref R) []))) e (.ins CE dx (putF "_note" (.ref nt) (putF "_refs" (.ref R) [])))) cl (.dK []) = H3 at hE3 hC3 f3 k3
    refine ⟨.ref e, rfl, e, CE, dx, _, rfl, hE3, T.cE, T.nE_calls, (by show 2 < 1000; decide), ?_⟩
    refine ⟨.ref e, rfl, e, CE, dx, _, rfl, upd_same, T.cE, T.nE_new_head, (by show 3 < 1000; decide), ?_⟩
    refine ⟨.ref e, rfl, e, CE, dx, _, rfl, upd_same, T.cE, T.nEclosed, (by show 4 < 1000; decide), ?_⟩
    refine q cl _ fcl (((f3.trans (FrL.at (List.mem_singleton_self e))).trans (FrL.at (List.mem_singleton_self e))).trans (FrL.at (List.mem_singleton_self e)))
      (((k3.trans (TupKeep.at fun xs z => by rw [hE3] at z; cases z)).trans (TupKeep.at fun xs z => by rw [upd_same] at z; cases z)).trans (TupKeep.at fun xs z => by rw [upd_same] at z; cases z)) upd_same ?_
    rw [upd_ne ncl.symm, upd_ne ncl.symm, upd_ne ncl.symm]
    exact hC3
def spEdit (CE CR : Addr) : Sp := fun vs H Q _ => ∃ (R dx lk tb hd lg : Addr) (who msg : Str) (tm : Int), vs = [.ref R, .str who, .int tm, .str msg] ∧ H R = some (.ins CR dx (rf lk tb hd lg)) ∧ isWordF RSG who = true ∧ who.length ≤ 1000 ∧ OkS who ∧ 0 ≤ tm ∧ tm ≤ 1000 ∧ isTextF msg = true ∧ msg.length ≤ 200 ∧
  ∀ E ex nt cl H', H E = none → H cl = none → Same H H' → H' E = some (.ins CE ex (ef R nt cl .non false)) → H' nt = some (.tup [.str who, .int tm, .str msg]) → H' cl = some (.dK []) → Q (.ref E) H'
theorem m_Refs_edit (T : TopR K mg CE CR cS cB iS iB ns r0 h0 l0) : C8.Met P w K mg base 4 CR "edit" (spEdit CE CR) [] := by
  refine met_of T.cR T.m_Refs_edit sc_Refs_edit (fun _ _ _ _ _ _ us hl => match us, hl with | [_, _, _, _], _ => rfl) (fun vs H Q E h => ?_) (fun f cdv A outer s H vs Q E hr h => ?_)
  · obtain ⟨R, dx, lk, tb, hd, lg, who, msg, tm, rfl, _⟩ := h
    rfl
  · obtain ⟨R, dx, lk, tb, hd, lg, who, msg, tm, rfl, hR, w1, w2, w3, t1, t2, m1, m2, q⟩ := h
    refine ⟨_, (pss_cons (ps_if (PW.pt (pw_or (pt_not (pt_val (C8.pe_c (c_is_short_ref T.toTop) hr (by decide) (by rfl) (pa_cons (pv 1) pa_nil)))) (pw_or (pt_not (pt_val (C8.pe_c (c_is_time T.toTop) hr (by decide) (by rfl) (pa_cons (pv 2) pa_nil)))) (pw_or1 (pt_not (pt_val (C8.pe_c (c_is_message T.toTop) hr (by decide) (by rfl) (pa_cons (pv 3) pa_nil))))))))
      (pss_one ps_never)
      pss_nil)
      (pss_one (ps_ret (C8.pe_mk (k_Edit T) hr (by decide) (by rfl) (pa_cons (pv 0) (pa_cons (pe_tup (pa_cons (pv 1) (pa_cons (pv 2) (pa_cons (pv 3) pa_nil)))) pa_nil)))))), ?_⟩
    refine ⟨.str who, rfl, .str who, rfl, .str who (by omega) w3, fun H1 s1 => ⟨_, rfl, ?_⟩⟩
    rw [show evalV (isWordF RSG) (.str who) = true from w1]
    refine iteF ⟨.int tm, rfl, tm, rfl, t1, t2, fun H2 s2 => ⟨_, rfl, iteF ⟨.str msg, rfl, msg, rfl, m1, m2, fun H3 s3 => ⟨_, rfl, iteF ?_⟩⟩⟩⟩
    have s03 := (s1.trans s2).trans s3
    refine ⟨.ref R, rfl, .str who, rfl, .int tm, rfl, .str msg, rfl, (by show 3 ≤ sizeLine; decide), fun nt hnt => ?_⟩
    have s4 := same_new (o := .tup [.str who, .int tm, .str msg]) hnt
    have ht : (upd H3 nt (.tup [.str who, .int tm, .str msg])) nt = some (.tup [.str who, .int tm, .str msg]) := upd_same
    generalize upd H3 nt (.tup [.str who, .int tm, .str msg]) = H4 at s4 ht
    intro x ex hx hex nex
    have s5 : Same H4 (upd (upd H4 ex (.own x)) x (.ins CE ex [])) := fun b o e => by
      rw [upd_ne (ne_of_none e hx), upd_ne (ne_of_none e hex)]
      exact e
    refine ⟨x, ex, R, nt, rfl, upd_same, fun cl H5 hcl f5 k5 he5 hc5 => ⟨rfl, ?_⟩⟩
    have s05 := s03.trans s4
    have sF : Same H H5 := fun b o e => f5.out (s5 _ _ (s05 _ _ e)) (not1 (ne_of_none (s05 _ _ e) hx))
    exact q x ex nt cl H5 (s05.free hx) (s05.free (s5.free hcl)) sF he5 (k5 _ _ (s5 _ _ ht)) hc5
/-- references, made new -/
def spRefsInit (K : PySem.W.Frag) (CR h0 : Addr) : Sp := fun vs H Q _ => ∃ (R dx : Addr), vs = [.ref R, .non] ∧ H R = some (.ins CR dx []) ∧
  ∀ lk tb lg H', H lk = none → H tb = none → H lg = none → FrL [R] H H' → TupKeep H H' → H' R = some (.ins CR dx (rf lk tb h0 lg)) → H' lk = some (.dK []) → H' tb = some (.dK []) → H' lg = some (.dK []) → Q .non H'
theorem k_Refs (T : TopR K mg CE CR cS cB iS iB ns r0 h0 l0) : C8.Mak P w K mg base 2 "Refs" CR (spRefsInit K CR h0) [V.non] := by
  obtain ⟨f, fd, ds, M, F, d, b⟩ := T.iR
  refine C8.mak0 M T.mR F b d sc_Refs_init (fun vs H Q E h => ?_) (fun cdv A outer s H vs Q E hr h => ?_)
  · obtain ⟨R, dx, rfl, _⟩ := h
    rfl
  · obtain ⟨R, dx, rfl, hR, q⟩ := h
    refine ⟨_, (pss_cons (ps_if (PW.pt (pw_and (pt_cmpR op_notN (pv 1) pe_non (nomark _)) (pw_and1 (pt_not (pt_val pe_never)))))
      (pss_one ps_never)
      pss_nil)
      (pss_cons (ps_fld (pv 0) pe_dnewK rfl)
      (pss_one (ps_expr (C8.pe_mt (m_Refstake_over T) hr (by decide) (pv 0) (pa_cons (pe_ifExp (pt_cmpR op_isN (pv 1) pe_non (nomark _)) (C8.pe_gc (by rfl) T.g_NEW_STATE) (pv 1)) pa_nil)))))), ?_⟩
    refine ⟨.non, rfl, rfl, _, rfl, iteF (iteF ?_)⟩
    intro lk hlk
    have nlk : R ≠ lk := ne_of_none hR hlk
    have hR1 : (upd H lk (.dK [])) R = some (.ins CR dx []) := by rw [upd_ne nlk]; exact hR
    refine ⟨.ref R, rfl, R, CR, dx, _, rfl, hR1, T.cR, T.nR_locks, (by decide), ?_⟩
    refine ⟨.ref R, rfl, R, dx, _, rfl, upd_same, rfl, .non, rfl, rfl, _, rfl, iteT ?_⟩
    have k1 : TupKeep H (upd (upd H lk (.dK [])) R (.ins CR dx (putF "_locks" (.ref lk) []))) := (TupKeep.of (same_new hlk)).trans (TupKeep.at fun xs z => by rw [hR1] at z; cases z)
    have f1 : FrL [R] H (upd (upd H lk (.dK [])) R (.ins CR dx (putF "_locks" (.ref lk) []))) := (FrL.new hlk).trans (FrL.at (List.mem_singleton_self R))
    have hl1 : (upd (upd H lk (.dK [])) R (.ins CR dx (putF "_locks" (.ref lk) []))) lk = some (.dK []) := by rw [upd_ne nlk.symm, upd_same]
    have hR2 : (upd (upd H lk (.dK [])) R (.ins CR dx (putF "_locks" (.ref lk) []))) R = some (.ins CR dx (putF "_locks" (.ref lk) [])) := upd_same
    generalize upd (upd H lk (.dK [])) R (.ins CR dx (putF "_locks" (.ref lk) [])) = H2 at k1 f1 hl1 hR2
    refine ⟨R, ns, r0, h0, l0, lk, dx, _, [], [], rfl, hR2, .inl rfl, .inr T.kS, ⟨[], .inr T.kr, Tups.nil⟩, List.nodup_nil, (by decide), ⟨[], .inr T.kl, Tups.nil⟩, List.nodup_nil, (by decide), fun tb lg H3 f3 k3 hR3 ht3 hl3 ntb nlg => ?_⟩
    have fr : ∀ b, H2 b = none → H b = none := fun b e => by
      cases c : H b with
      | none => rfl
      | some o =>
        have nb : b ≠ R := fun z => by rw [z, hR2] at e; cases e
        rw [f1.out c (not1 nb)] at e
        cases e
    exact q lk tb lg H3 hlk (fr _ ntb) (fr _ nlg) (f1.trans f3) (k1.trans k3) hR3 (f3.out hl1 (not1 nlk.symm)) ht3 hl3
/-! ### point and delete -/
def kwG (n : Nat) {α : Type} (us ws : List α) : List α := if us.length = n ∧ ws.length = 1 then us ++ ws else []
theorem kwG_rel {n : Nat} {vs : List V} {us : List Value} {zs : List V} {ws : List Value} (r : Vals vs us) (k : Vals zs ws) : Vals (kwG n vs zs) (kwG n us ws) := by
  unfold kwG
  rw [r.length, k.length]
  split
  · exact r.append k
  · exact .nil
def spPoint (CE CR : Addr) : Sp := fun vs H Q _ => ∃ (E ex R nt cl dx lk tb hd lg : Addr) (nh : V) (x y : Str) (o : V) (cs : List (Str × V × V)) (n : Nat), vs = [.ref E, .str x, .str y, o] ∧ H E = some (.ins CE ex (ef R nt cl nh false)) ∧ H R = some (.ins CR dx (rf lk tb hd lg)) ∧ LocksAt H CE lk E n ∧ n < 64 ∧ CallsAt H cl cs ∧ cs.length < 64 ∧ HadOk o ∧
  isRefF x = true ∧ x.length ≤ 1000 ∧ OkS x ∧ isIdF y = true ∧ y.length ≤ 1000 ∧ OkS y ∧
  ∀ lk' H', FrL [R, cl] H H' → TupKeep H H' → H' R = some (.ins CR dx (rf lk' tb hd lg)) → LocksAt H' CE lk' E (n + 1) → CallsAt H' cl (callPut cs x (.str y) o) → Q .non H'
theorem m_Edit_point (T : TopR K mg CE CR cS cB iS iB ns r0 h0 l0) : MetK P w K mg base 5 CE "point" (spPoint CE CR) ["old"] (kwG 3) := by
  obtain ⟨f, fd, M, F, df⟩ := T.kP
  refine ⟨f, fd, ["self", "ref", "new", "old"], kwG 3, T.cE, M, C8.fn0 F sc_Edit_point (fun vs H Q E h => ?_) (fun cdv A outer s H vs Q E hr h => ?_), ⟨fun s us ws Xs hl => ?_, kwG_rel⟩⟩
  · obtain ⟨E, ex, R, nt, cl, dx, lk, tb, hd, lg, nh, x, y, o, cs, n, rfl, _⟩ := h
    rfl
  · obtain ⟨e, ex, R, nt, cl, dx, lk, tb, hd, lg, nh, x, y, o, cs, n, rfl, he, hR, hk, hn, hc, hl, ho, x1, x2, x3, y1, y2, y3, q⟩ := h
    refine ⟨_, (pss_cons (ps_expr (C8.pe_mt0 (m_Editcheck_open T) hr (by decide) (pv 0)))
      (pss_cons (ps_if (pt_not (pt_val (C8.pe_c (c_is_ref T.toTop) hr (by decide) (by rfl) (pa_cons (pv 1) pa_nil))))
      (pss_one ps_never)
      pss_nil)
      (pss_cons (ps_if (pt_not (pt_val (C8.pe_c (c_is_id T.toTop) hr (by decide) (by rfl) (pa_cons (pv 2) pa_nil))))
      (pss_one ps_never)
      pss_nil)
      (pss_one (ps_expr (C8.pe_mt (m_Editcall T) hr (by decide) (pv 0) (pa_cons (pv 1) (pa_cons (pv 2) (pa_cons (pv 3) pa_nil))))))))), ?_⟩
    refine ⟨.ref e, rfl, e, ex, _, rfl, he, rfl, e, ex, R, nt, cl, nh, rfl, he, ?_⟩
    refine ⟨.str x, rfl, .str x, rfl, .str x (by omega) x3, fun H1 s1 => ⟨_, rfl, ?_⟩⟩
    rw [show evalV isRefF (.str x) = true from x1]
    refine iteF ⟨.str y, rfl, .str y, rfl, .str y (by omega) y3, fun H2 s2 => ⟨_, rfl, ?_⟩⟩
    rw [show evalV isIdF (.str y) = true from y1]
    have s12 := s1.trans s2
    refine iteF ⟨.ref e, rfl, e, ex, _, rfl, s12 _ _ he, rfl, .str x, rfl, .str y, rfl, o, rfl, e, ex, R, nt, cl, dx, lk, tb, hd, lg, nh, x, .str y, o, cs, n, rfl, s12 _ _ he, s12 _ _ hR, hk.same s12, hn, hc.keep (TupKeep.of s12) (fun o eo => s12 _ _ eo), hl, ho, fun lk' H3 f3 k3 hR3 hk3 hc3 => ?_⟩
    exact q lk' H3 ((FrL.same s12).trans f3) ((TupKeep.of s12).trans k3) hR3 hk3 hc3
  · obtain ⟨oc, od, dV, kV, doc, pm, an, cdv, ct, osl, rfl, lk, hcd⟩ := F.ex
    have e : dV = .none := df
    subst e
    by_cases c : us.length = 3 ∧ ws.length = 1
    · match us, ws, c with
      | [a, b, d], [g], _ => exact .of_eq rfl
    · unfold kwG at hl
      rw [if_neg c] at hl
      exact absurd hl (by decide)
def spDelete (CE CR : Addr) : Sp := fun vs H Q _ => ∃ (E ex R nt cl dx lk tb hd lg : Addr) (nh : V) (x : Str) (o : V) (cs : List (Str × V × V)) (n : Nat), vs = [.ref E, .str x, o] ∧ H E = some (.ins CE ex (ef R nt cl nh false)) ∧ H R = some (.ins CR dx (rf lk tb hd lg)) ∧ LocksAt H CE lk E n ∧ n < 64 ∧ CallsAt H cl cs ∧ cs.length < 64 ∧ HadOk o ∧
  isRefF x = true ∧ x.length ≤ 1000 ∧ OkS x ∧
  ∀ lk' H', FrL [R, cl] H H' → TupKeep H H' → H' R = some (.ins CR dx (rf lk' tb hd lg)) → LocksAt H' CE lk' E (n + 1) → CallsAt H' cl (callPut cs x .non o) → Q .non H'
theorem m_Edit_delete (T : TopR K mg CE CR cS cB iS iB ns r0 h0 l0) : MetK P w K mg base 5 CE "delete" (spDelete CE CR) ["old"] (kwG 2) := by
  obtain ⟨f, fd, M, F, df⟩ := T.kD
  refine ⟨f, fd, ["self", "ref", "old"], kwG 2, T.cE, M, C8.fn0 F sc_Edit_delete (fun vs H Q E h => ?_) (fun cdv A outer s H vs Q E hr h => ?_), ⟨fun s us ws Xs hl => ?_, kwG_rel⟩⟩
  · obtain ⟨E, ex, R, nt, cl, dx, lk, tb, hd, lg, nh, x, o, cs, n, rfl, _⟩ := h
    rfl
  · obtain ⟨e, ex, R, nt, cl, dx, lk, tb, hd, lg, nh, x, o, cs, n, rfl, he, hR, hk, hn, hc, hl, ho, x1, x2, x3, q⟩ := h
    refine ⟨_, (pss_cons (ps_expr (C8.pe_mt0 (m_Editcheck_open T) hr (by decide) (pv 0)))
      (pss_cons (ps_if (pt_not (pt_val (C8.pe_c (c_is_ref T.toTop) hr (by decide) (by rfl) (pa_cons (pv 1) pa_nil))))
      (pss_one ps_never)
      pss_nil)
      (pss_one (ps_expr (C8.pe_mt (m_Editcall T) hr (by decide) (pv 0) (pa_cons (pv 1) (pa_cons pe_non (pa_cons (pv 2) pa_nil)))))))), ?_⟩
    refine ⟨.ref e, rfl, e, ex, _, rfl, he, rfl, e, ex, R, nt, cl, nh, rfl, he, ?_⟩
    refine ⟨.str x, rfl, .str x, rfl, .str x (by omega) x3, fun H1 s12 => ⟨_, rfl, ?_⟩⟩
    rw [show evalV isRefF (.str x) = true from x1]
    refine iteF ⟨.ref e, rfl, e, ex, _, rfl, s12 _ _ he, rfl, .str x, rfl, o, rfl, e, ex, R, nt, cl, dx, lk, tb, hd, lg, nh, x, .non, o, cs, n, rfl, s12 _ _ he, s12 _ _ hR, hk.same s12, hn, hc.keep (TupKeep.of s12) (fun o eo => s12 _ _ eo), hl, ho, fun lk' H3 f3 k3 hR3 hk3 hc3 => ?_⟩
    exact q lk' H3 ((FrL.same s12).trans f3) ((TupKeep.of s12).trans k3) hR3 hk3 hc3
  · obtain ⟨oc, od, dV, kV, doc, pm, an, cdv, ct, osl, rfl, lk, hcd⟩ := F.ex
    have e : dV = .none := df
    subst e
    by_cases c : us.length = 2 ∧ ws.length = 1
    · match us, ws, c with
      | [a, b], [g], _ => exact .of_eq rfl
    · unfold kwG at hl
      rw [if_neg c] at hl
      exact absurd hl (by decide)
end

end Fk

set_option maxHeartbeats 4000000
namespace Fk
open PySem PySem.Spec PyProof.Rows L2
section
variable {P : Program} {w : World} {K : PySem.W.Frag} {mg : Str → Option Value} {base : Heap} {CE CR cS cB iS iB ns r0 h0 l0 : Addr}
/-- an edit with calls, over references -/
def Ready (CE CR : Addr) (H : Hp) (e ex R nt cl dx lk tb hd lg : Addr) (nh : V) (t lt : Tab) (cs : List (Str × V × V)) : Prop :=
  H e = some (.ins CE ex (ef R nt cl nh false)) ∧ H R = some (.ins CR dx (rf lk tb hd lg)) ∧ H tb = some (.dK (kT t)) ∧ Nd t ∧ H lg = some (.dK (kT lt)) ∧ Nd lt ∧ t.length + cs.length < 64 ∧ lt.length + cs.length + 1 < 64 ∧
  CallsAt H cl cs ∧ (cs.map (·.1)).Nodup ∧ (∀ e ∈ t, flatN e.2) ∧ (∀ c ∈ cs, flatN c.2.1 ∧ flatN c.2.2) ∧ (∀ x ∈ t.map (·.1), x.length ≤ 1000 ∧ OkS x) ∧ (∀ x ∈ cs.map (·.1), x.length ≤ 1000 ∧ OkS x)
def spMoves (CE CR cS cB : Addr) : Sp := fun vs H Q E => ∃ (e ex R nt cl dx lk tb hd lg : Addr) (nh : V) (t lt : Tab) (cs : List (Str × V × V)), vs = [.ref e] ∧ Ready CE CR H e ex R nt cl dx lk tb hd lg nh t lt cs ∧
  (∀ x, staleF t cs = some x → ∀ d H', Same H H' → H' d = some (.xd [("ref", .str x)]) → E (.ref cS) (some d) H') ∧
  (staleF t cs = none → ∀ ys, ys.Perm (cs.map (·.1)) → sortedS ys = true → haveF ((afterT t (movesF t cs ys)).map (·.1)) = true → ∀ d H', Same H H' → E (.ref cB) (some d) H') ∧
  (staleF t cs = none → ∀ ys, ys.Perm (cs.map (·.1)) → sortedS ys = true → haveF ((afterT t (movesF t cs ys)).map (·.1)) = false → ∀ p H', Same H H' → TupsAt H' p ((movesF t cs ys).map moveL) → Q (.ref p) H')
theorem m_Edit_moves (T : TopR K mg CE CR cS cB iS iB ns r0 h0 l0) : MetX P w K mg base (L2.CX P w) 5 CE "moves" (spMoves CE CR cS cB) [] := by
  refine metX_of T.cE T.m_Edit_moves sc_Edit_moves (fun _ _ _ _ _ _ us hl => match us, hl with | [_], _ => rfl) (fun vs H Q E h => ?_) (fun f cdv A outer s H vs Q E hr h => ?_)
  · obtain ⟨e, ex, R, nt, cl, dx, lk, tb, hd, lg, nh, t, lt, cs, rfl, _⟩ := h
    rfl
  · obtain ⟨e, ex, R, nt, cl, dx, lk, tb, hd, lg, nh, t, lt, cs, rfl, ⟨he, hR, ht, nd, hl, nl, b1, b2, ⟨zs, ez, hc, hz⟩, nc, ft, fc, kt, kc⟩, q1, q2, q3⟩ := h
    refine ⟨_, (pss_cons (ps_expr (C8.pe_mt0 (m_Editcheck_open T) hr (by decide) (pv 0)))
      (pss_cons (ps_set (i := 1) sc_Edit_moves.nd rfl (Or.inr rfl) (C8.pe_mt0 (m_Editids T) hr (by decide) (pv 0)))
      (pss_cons (ps_lock (ps_for (passes_of rfl) rfl (pi_keys (pe_fld (pv 0) rfl)) (pg_name (i := 2) sc_Edit_moves.nd rfl (Or.inl rfl))
      (pss_cons (ps_set (i := 3) sc_Edit_moves.nd rfl (Or.inl rfl) (pe_ix ix_tup (pe_dget (hu_of hr) (pe_fld (pv 0) rfl) (pv 2) (fun _ _ => rfl)) pe_int (fun _ _ => rfl)))
      (pss_one (ps_if (PW.pt (pw_and (pt_cmpR op_ne (pv 3) pe_str (nomark _)) (pw_and1 (pt_cmpR op_ne (pv 3) (pe_dget1 (hu_of hr) (pv 1) (pv 2) ⟨rfl, rfl, rfl, rfl⟩) (nomark _)))))
      (pss_one (ps_raise rfl (takes_lock (takes_of rfl rfl rfl rfl)) (rs_of T.eS (hr.mono (by decide)) (by rfl) (pa_cons (pv 2) pa_nil))))
      pss_nil)))))
      (pss_cons (ps_setLc (i := 4) (own := [("ref", 2)]) (g := gName 2) (by rfl) sc_Edit_moves.nd rfl rfl (sw_true rfl rfl rfl (by decide +kernel)) (pi_tup (C8.pe_c (c_ascending T.toTop) hr (by decide) (by rfl) (pa_cons (pe_fld (pv 0) rfl) pa_nil))) (blkOk_by (own := [("ref", 2)]) (N := ["self", "ids", "ref", "old", "rows", "moves", "new"]) (sc := C8.fnScope s_Edit_moves) (by decide +kernel)) (fun _ _ _ _ _ => (pg_name (i := 2) sc_Edit_moves.nd rfl (Or.inl rfl))) (fun _ _ _ _ _ => pts_nil) (fun _ _ _ _ _ => (pe_tup (pa_cons (pv 2) (pa_cons (pe_dget1 (hu_of hr) (pv 1) (pv 2) ⟨rfl, rfl, rfl, rfl⟩) (pa_cons (pe_ix (ixK_tup (K := K) rfl) (pe_dget (hu_of hr) (pe_fldK (K := K) rfl (pv 0) rfl) (pv 2) (fun _ _ => rfl)) pe_int (fun _ _ => rfl)) pa_nil))))))
      (pss_cons (ps_set (i := 5) sc_Edit_moves.nd rfl (Or.inl rfl) (pe_callTy call_tuple_of (by rfl) T.z_tuple (by decide +kernel) (pa_cons (pe_lc (own := [("ref", 2), ("old", 3), ("new", 6)]) (g := _) (by rfl) sc_Edit_moves.nd (pi_list (pv 4)) (blkOk_by (own := [("ref", 2), ("old", 3), ("new", 6)]) (N := ["self", "ids", "ref", "old", "rows", "moves", "new"]) (sc := C8.fnScope s_Edit_moves) (by decide +kernel)) (fun _ _ _ _ _ => (pg_tupK (K := K) (n := 3) rfl rfl (pgs_cons (pg_name (i := 2) sc_Edit_moves.nd rfl (Or.inl rfl)) (pgs_cons (pg_name (i := 3) sc_Edit_moves.nd rfl (Or.inl rfl)) (pgs_cons (pg_name (i := 6) sc_Edit_moves.nd rfl (Or.inl rfl)) pgs_nil))))) (fun _ _ _ _ _ => pts_one (pt_cmpR op_ne (pv 3) (pv 6) (nomark _))) (fun _ _ _ _ _ => (pe_tup (pa_cons (pv 2) (pa_cons (pv 3) (pa_cons (pv 6) pa_nil)))))) pa_nil)))
      (pss_cons (ps_if (pt_val (C8.pe_c (c_have_prefixes T.toTop) hr (by decide) (by rfl) (pa_cons (C8.pe_c (c_after_moves T.toTop) hr (by decide) (by rfl) (pa_cons (pv 1) (pa_cons (pv 5) pa_nil))) pa_nil)))
      (pss_one (ps_raise rfl (takes_of rfl rfl rfl rfl) (rs_of T.eB (hr.mono (by decide)) (by rfl) (pa_cons pe_str pa_nil))))
      pss_nil)
      (pss_one (ps_ret (pv 5))))))))), ?_⟩
    have lz : zs.length = cs.length := by rw [← ez, List.length_map]
    refine ⟨.ref e, rfl, e, ex, _, rfl, he, rfl, e, ex, R, nt, cl, nh, rfl, he, ?_⟩
    refine ⟨.ref e, rfl, e, ex, _, rfl, he, rfl, e, ex, R, nt, cl, dx, lk, tb, hd, lg, nh, false, t, lt, rfl, he, hR, ht, nd, by omega, hl, nl, by omega, fun D u H1 hD s1 h1 so => ?_⟩
    have hct : ∃ ct : Tab, ct = zs.map fun z => (z.2.1, V.ref z.1) := ⟨_, rfl⟩
    obtain ⟨ct, ect⟩ := hct
    rw [← ect] at hc
    have lct : ct.length = cs.length := by rw [ect, List.length_map, lz]
    have kct : ct.map (·.1) = cs.map (·.1) := by rw [ect, ← ez, List.map_map, List.map_map]; rfl
    have ndc : Nd ct := by unfold Nd; rw [kct]; exact nc
    have get : ∀ z ∈ zs, valV ct z.2.1 = some (.ref z.1) := fun z hz => val_nodup ndc (z.2.1, V.ref z.1) (by rw [ect]; exact List.mem_map_of_mem hz)
    have nec : e ≠ cl := at_ne he hc fun z => nomatch z
    have nDc : D ≠ cl := ne_of_none' hD hc
    refine ⟨cl, _, s1 _ _ hc, trivial, fun od => ?_⟩
    have he1 : (upd H1 cl (.frz od (.dK (kT ct)))) e = some (.ins CE ex (ef R nt cl nh false)) := by rw [upd_ne nec]; exact s1 _ _ he
    have hD1 : (upd H1 cl (.frz od (.dK (kT ct)))) D = some (.dK (kT u)) := by rw [upd_ne nDc]; exact h1
    have hcf : (upd H1 cl (.frz od (.dK (kT ct)))) cl = some (.frz od (.dK (kT ct))) := upd_same
    have ncl0 : ∀ o' u', H cl ≠ some (.frz o' u') := fun o' u' z => by rw [hc] at z; cases z
    have sun : ∀ {H2}, Same (upd H1 cl (.frz od (.dK (kT ct)))) H2 → Same H1 (upd H2 cl (.dK (kT ct))) := fun s => same_unlock s (s1 _ _ hc)
    have hz1 : ∀ z ∈ zs, (upd H1 cl (.frz od (.dK (kT ct)))) z.1 = some (.tup [z.2.2.1, z.2.2.2]) := fun z h => by
      rw [upd_ne (at_ne (hz z h) hc fun z => nomatch z)]
      exact s1 _ _ (hz z h)
    generalize upd H1 cl (.frz od (.dK (kT ct))) = HL at he1 hD1 hcf sun hz1
    refine ⟨.ref e, rfl, e, CE, ex, _, .ref cl, rfl, he1, T.cE, T.nE_calls, rfl, cl, od, rfl, .inl ⟨kT ct, hcf, ?_⟩⟩
    refine forG (items := ct.map fun e => V.str e.1) yields_tab (fun i σ H' => Same HL H' ∧ (∀ d ∈ cs.take i, bad t d = false) ∧ ∃ x2 x3, σ = [some (.ref e), some (.ref D), x2, x3, none, none, none]) ⟨Same.refl _, fun d hd => (List.not_mem_nil hd).elim, none, none, rfl⟩ (fun i σ H' ⟨s, _⟩ => s _ _ hcf) ?_ ?_
    · rintro i x σ H2 hx ⟨s2, g, x2, x3, rfl⟩
      rw [ect, List.map_map, List.getElem?_map] at hx
      cases hzi : zs[i]? with
      | none => rw [hzi] at hx; cases hx
      | some z =>
        rw [hzi] at hx
        cases hx
        have hm : z ∈ zs := List.mem_of_getElem? hzi
        have hci : cs[i]? = some z.2 := by rw [← ez, List.getElem?_map, hzi]; rfl
        have hcm : z.2 ∈ cs := List.mem_of_getElem? hci
        have hzL := hz1 z hm
        have d1 := dget_kT (.inr ⟨od, s2 _ _ hcf⟩) z.2.1
        rw [get z hm] at d1
        have fo := (fc z.2 hcm).2
        refine ⟨.ref e, rfl, e, CE, ex, _, .ref cl, rfl, s2 _ _ he1, T.cE, T.nE_calls, rfl, .str z.2.1, rfl, cl, .ref z.1, rfl, d1, z.1, _, 1, z.2.2.2, rfl, rfl, SqT.of (s2 _ _ hzL), rfl, ?_⟩
        have etk : cs.take (i + 1) = cs.take i ++ [z.2] := by rw [List.take_add_one, hci]; rfl
        have next : bad t z.2 = false → ∀ d ∈ cs.take (i + 1), bad t d = false := fun b d hd => by
          rw [etk] at hd
          rcases List.mem_append.mp hd with hd | hd
          · exact g d hd
          · rw [List.mem_singleton.mp hd]
            exact b
        have fu : flatN ((valV u z.2.1).getD .non) := by rw [so.2.2]; exact flat_val ft z.2.1
        refine ⟨z.2.2.2, rfl, scal_flat fo True.intro, _, rfl, ?_⟩
        by_cases c1 : z.2.2.2 = .str ""
        · rw [decide_eq_true c1]
          refine iteF (iteF ⟨s2, next ?_, _, _, rfl⟩)
          unfold bad
          rw [decide_eq_true c1]
          rfl
        · rw [decide_eq_false c1]
          refine iteT ⟨z.2.2.2, rfl, .ref D, rfl, D, rfl, .inl ⟨_, .inl (s2 _ _ hD1)⟩, .str z.2.1, rfl, valV u z.2.1, dget_kT (.inl (s2 _ _ hD1)) z.2.1, scal_flat fo fu, _, rfl, ?_⟩
          by_cases c2 : z.2.2.2 = (valV u z.2.1).getD .non
          · rw [decide_eq_true c2]
            refine iteF ⟨s2, next ?_, _, _, rfl⟩
            unfold bad
            rw [so.2.2] at c2
            rw [decide_eq_true c2]
            simp
          · rw [decide_eq_false c2]
            have hb : bad t z.2 = true := by
              unfold bad
              rw [so.2.2] at c2
              rw [decide_eq_false c1, decide_eq_false c2]
              rfl
            refine iteT ⟨.str z.2.1, rfl, (by show 1 ≤ 1000; decide), ?_⟩
            refine do_raise (Hc := H2) (y := .str z.2.1) (Q := fun cls d H' => wLock (cxOf (L2.CX P w) P w K mg base _ _ _ f cdv A outer s H E) (fun cls d _ H => E cls d H) cls d ([some (.ref e), some (.ref D), some (.str z.2.1), some z.2.2.2, none, none, none]) H') T.eS ?_
            intro d H3 s3 hd h3
            have ndc' : d ≠ cl := fun z => by rw [z, s2 _ _ hcf] at hd; cases hd
            refine ⟨cl, od, _, s3 _ _ (s2 _ _ hcf), ncl0, q1 _ (stale_at hci g hb) d _ (s1.trans (sun (s2.trans s3))) ?_⟩
            rw [upd_ne ndc']
            exact h3
    · rintro σ H2 ⟨s2, g, x2, x3, rfl⟩
      rw [List.length_map, lct, List.take_length] at g
      have sn := stale_none g
      have s12 := sun s2
      have s02 := s1.trans s12
      refine ⟨s2 _ _ hcf, ?_⟩
      have hD2 : (upd H2 cl (.dK (kT ct))) D = some (.dK (kT u)) := s12 _ _ h1
      generalize upd H2 cl (.dK (kT ct)) = H3 at s12 s02 hD2
      have hc3 := s02 _ _ hc
      have he3 := s02 _ _ he
      refine ⟨.ref e, rfl, e, CE, ex, _, .ref cl, rfl, he3, T.cE, T.nE_calls, rfl, cl, ct, rfl, hc3, by omega, fun ys p H4 hp hs hn s4 h4 => ?_⟩
      rw [kct] at hp
      have nys : ys.Nodup := hp.nodup_iff.mpr nc
      have lys : ys.length = cs.length := by have := hp.length_eq; rw [List.length_map] at this; exact this
      refine ⟨p, rfl, ⟨_, SqT.of h4⟩, fun D2 hD2' => ?_⟩
      have s04 := s02.trans s4
      have hcn : ∀ x ∈ ys, ∃ z ∈ zs, z.2.1 = x := fun x hx => by
        have := hp.mem_iff.mp hx
        rw [← ez, List.map_map] at this
        exact List.mem_map.mp this
      have newv : ∀ z ∈ zs, valV (newT cs) z.2.1 = some z.2.2.1 := fun z hz => by
        have nn : Nd (newT cs) := by
          unfold Nd newT
          rw [List.map_map]
          exact nc
        exact val_nodup nn (z.2.1, z.2.2.1) (by rw [← ez]; exact List.mem_map_of_mem (List.mem_map_of_mem hz))
      refine lc_new (us := ys) (val := V.str) yields_tup (fun x => [.str x, (valV t x).getD .non, (valV (newT cs) x).getD .non]) (fun _ => true) (fun x => [some (.ref e), some (.ref D), some (.str x), x3, none, none, none]) hD2' (fun H s => SqT.of (s _ _ h4)) (fun _ _ => rfl) (fun H u _ _ R r => r) (fun H u _ _ R r => r H (Same.refl H))
        (fun H5 x s5 hx _ R' r => ?_) (by omega) (fun as H5 s5 h5 tp => ?_)
      · obtain ⟨z, hzm, ezx⟩ := hcn x hx
        subst ezx
        have s05 := s04.trans s5
        have d1 := dget_kT (.inl (s05 _ _ hc)) z.2.1
        rw [get z hzm] at d1
        have hD5 := s5 _ _ (s4 _ _ hD2)
        refine ⟨.str z.2.1, rfl, .ref D, rfl, D, rfl, .inl ⟨_, .inl hD5⟩, .str z.2.1, rfl, valV u z.2.1, dget_kT (.inl hD5) z.2.1, ?_⟩
        refine ⟨.ref e, rfl, e, CE, ex, _, .ref cl, rfl, s05 _ _ he, T.cE, T.nE_calls, rfl, .str z.2.1, rfl, cl, .ref z.1, rfl, d1, z.1, _, 0, z.2.2.1, rfl, rfl, SqT.of (s05 _ _ (hz z hzm)), rfl, (by show 3 ≤ sizeLine; decide), fun pt hpt => ?_⟩
        refine r pt _ (same_new hpt) ?_
        rw [upd_same, so.2.2, newv z hzm]
        rfl
      · have s05 := s04.trans s5
        rw [filt_all, show (fun x : Str => [V.str x, (valV t x).getD .non, (valV (newT cs) x).getD .non]) = moveL ∘ (fun x : Str => (x, (valV t x).getD .non, (valV (newT cs) x).getD .non)) from rfl, ← List.map_map] at tp
        have tp : Tups H5 as ((rowsF t cs ys).map moveL) := tp
        have el : as.length = (rowsF t cs ys).length := by have := tp.1; rw [List.length_map] at this; exact this
        have lr : (rowsF t cs ys).length = ys.length := by unfold rowsF; rw [List.length_map]
        refine ⟨.ref D2, rfl, D2, rfl, ⟨_, .inl (.inl h5)⟩, fun D3 hD3 => ?_⟩
        have fr := flat_moves (ys := ys) ft fun c h => (fc c h).1
        refine lc_new (us := as.zip (rowsF t cs ys)) (val := fun u => V.ref u.1) (yields_zipL el) (fun u => moveL u.2) (fun u => !decide (u.2.2.1 = u.2.2.2)) (fun u => [some (.ref e), some (.ref D), some (.str u.2.1), some u.2.2.1, some (.ref D2), none, some u.2.2.2]) hD3 (fun H s => .inl (.inl (s _ _ h5))) (fun _ _ => rfl)
          (fun H6 u s6 hu R k => ⟨u.1, _, rfl, SqT.of (s6 _ _ (tups_get tp hu)), rfl, _, _, rfl, _, _, rfl, _, _, rfl, rfl, k⟩) (fun H6 u s6 hu R k => ?_) (fun H6 u s6 hu _ R k => ?_) (by rw [List.length_zip]; omega) (fun bs H6 s6 h6 tq => ?_)
        · have hm : u.2 ∈ rowsF t cs ys := (List.of_mem_zip hu).2
          exact ⟨_, rfl, _, rfl, scal_flat (fr _ hm).1 (fr _ hm).2, _, rfl, k H6 (Same.refl H6)⟩
        · exact ⟨_, rfl, _, rfl, _, rfl, (by show 3 ≤ sizeLine; decide), fun pt hpt => k pt _ (same_new hpt) upd_same⟩
        · have eqm : ((as.zip (rowsF t cs ys)).filter fun u => !decide (u.2.2.1 = u.2.2.2)).map (fun u => moveL u.2) = (movesF t cs ys).map moveL := by
            unfold movesF
            rw [show (fun u : Addr × (Str × V × V) => moveL u.2) = moveL ∘ Prod.snd from rfl, ← List.map_map]
            congr 1
            have := List.filter_map (f := (Prod.snd : Addr × (Str × V × V) → Str × V × V)) (p := fun m => !decide (m.2.1 = m.2.2)) (l := as.zip (rowsF t cs ys))
            rw [List.map_snd_zip (by omega)] at this
            exact this.symm
          rw [eqm] at tq
          refine ⟨D3, _, rfl, .inl ⟨.inl (.inl h6), fun pm hpm => ?_⟩⟩
          have s06 := s05.trans s6
          have s7 := same_new (o := .tup (bs.map V.ref)) hpm
          have tm : TupsAt (upd H6 pm (.tup (bs.map V.ref))) pm ((movesF t cs ys).map moveL) := ⟨bs, upd_same, tq.keep (TupKeep.of s7)⟩
          have hD7 := s7 _ _ (s6 _ _ (s5 _ _ (s4 _ _ hD2)))
          generalize upd H6 pm (.tup (bs.map V.ref)) = H7 at s7 tm hD7
          have s07 := s06.trans s7
          have nm : ((movesF t cs ys).map (·.1)).Nodup := movesF_nd nys
          have lm := movesF_len t cs ys
          have lu := so.len
          refine ⟨.ref D, rfl, .ref pm, rfl, D, pm, u, movesF t cs ys, rfl, hD7, so.nd nd, by omega, tm, nm, by omega, fun D4 H8 hD4 s8 h8 => ?_⟩
          refine ⟨D4, afterT u (movesF t cs ys), rfl, h8, by have := len_after (t := u) (ms := movesF t cs ys); omega, fun x hx => ?_, fun H9 s9 => ⟨_, rfl, ?_⟩⟩
          · have hv := mem_val.mp hx
            rw [val_after (so.nd nd) nm] at hv
            cases c : valV (newsT (movesF t cs ys)) x with
            | none =>
              rw [c, so.2.2] at hv
              exact kt x (mem_val.mpr hv)
            | some v =>
              have hm := valV_in c
              obtain ⟨q, hq, eq⟩ := List.mem_map.mp hm
              obtain ⟨m, hm2, rfl⟩ := List.mem_map.mp hq
              obtain ⟨y, hy, rfl⟩ := List.mem_map.mp (List.mem_filter.mp hm2).1
              rw [← eq]
              exact kc y (hp.mem_iff.mp hy)
          · have s09 := (s07.trans s8).trans s9
            rw [have_after nd so nm]
            refine ite2 (fun hv => ?_) (fun hv => ?_)
            · exact ⟨(by show 1 ≤ 1000; decide), do_raise T.eB fun d H10 s10 _ _ => q2 sn ys hp hs hv d H10 (s09.trans s10)⟩
            · exact ⟨.ref pm, rfl, q3 sn ys hp hs (Bool.eq_false_iff.mpr hv) pm H9 s09 (tm.keep (TupKeep.of (s8.trans s9)))⟩
end

end Fk

set_option maxHeartbeats 4000000
namespace Fk
open PySem PySem.Spec PyProof.Rows L2
section
variable {P : Program} {w : World} {K : PySem.W.Frag} {mg : Str → Option Value} {base : Heap} {CE CR cS cB iS iB ns r0 h0 l0 : Addr}
/-- where HEAD shall stand -/
def Stand (K : PySem.W.Frag) (H : Hp) (nh : V) (hd hd2 : Addr) (ox on hx hn : Str) : Prop := TupK K H hd [.str ox, .str on] ∧ OkS ox ∧ OkS on ∧ ((nh = .non ∧ hd2 = hd ∧ hx = ox ∧ hn = on) ∨ (nh = .ref hd2 ∧ TupK K H hd2 [.str hx, .str hn] ∧ OkS hx ∧ OkS hn))
theorem Stand.both {H : Hp} {nh : V} {hd hd2 : Addr} {ox on hx hn : Str} (h : Stand K H nh hd hd2 ox on hx hn) : TupK K H hd2 [.str hx, .str hn] ∧ OkS hx ∧ OkS hn := by
  obtain ⟨a, b, c, d⟩ := h
  rcases d with ⟨_, rfl, rfl, rfl⟩ | ⟨_, d⟩
  · exact ⟨a, b, c⟩
  · exact d
def logsNew (t : Tab) (L : Str → List (List V)) (note : List V) (ms : List (Str × V × V)) (ox on hx hn : Str) : Str → List (List V) :=
  logsBehind L note ms (decide ((ox, on) ≠ (hx, hn)) || decide (ledF t ox on ≠ ledF (afterT t ms) hx hn)) (ledF t ox on) (ledF (afterT t ms) hx hn)
theorem led_of {t u : Tab} (h : ∀ x, valV u x = valV t x) (x n : Str) : ledF u x n = ledF t x n := by
  unfold ledF
  rw [h]
theorem sort_after {t u v : Tab} {ms : List (Str × V × V)} (nt : Nd t) (so : SortOf t u) (nm : (ms.map (·.1)).Nodup) (h : SortOf (afterT u ms) v) : SortOf (afterT t ms) v := by
  have e : ∀ x, valV (afterT u ms) x = valV (afterT t ms) x := fun x => by rw [val_after (so.nd nt) nm, val_after nt nm, so.2.2]
  exact ⟨h.1, h.2.1.trans (keys_perm (nd_after (so.nd nt) nm) (nd_after nt nm) fun x => by rw [e]), fun x => by rw [h.2.2, e]⟩
def spBehind (K : PySem.W.Frag) (CE CR cS cB : Addr) : Sp := fun vs H Q E => ∃ (e ex R nt cl dx lk tb hd lg hd2 : Addr) (nh : V) (t lt : Tab) (cs : List (Str × V × V)) (L : Str → List (List V)) (ox on hx hn : Str) (n1 n2 n3 : V), vs = [.ref e] ∧ Ready CE CR H e ex R nt cl dx lk tb hd lg nh t lt cs ∧ Stand K H nh hd hd2 ox on hx hn ∧ LogsOk H lt L ∧ H nt = some (.tup [n1, n2, n3]) ∧ (∀ x, (L x).length ≤ 1000) ∧
  (∀ x, staleF t cs = some x → ∀ d H', Same H H' → H' d = some (.xd [("ref", .str x)]) → E (.ref cS) (some d) H') ∧
  (staleF t cs = none → ∀ ys, ys.Perm (cs.map (·.1)) → sortedS ys = true → haveF ((afterT t (movesF t cs ys)).map (·.1)) = true → ∀ d H', Same H H' → E (.ref cB) (some d) H') ∧
  (staleF t cs = none → ∀ ys, ys.Perm (cs.map (·.1)) → sortedS ys = true → haveF ((afterT t (movesF t cs ys)).map (·.1)) = false → ∀ p r' l' u' lu' H', Same H H' → H' p = some (.tup [.ref r', .ref hd2, .ref l']) → TupsAt H' r' (u'.map rowL) → SortOf (afterT t (movesF t cs ys)) u' →
    TupsAt H' l' (lu'.map rowL) → (Nd lu' ∧ sortedS (lu'.map (·.1)) = true) → lu'.length ≤ lt.length + cs.length + 1 → LogsOk H' lu' (logsNew t L [n1, n2, n3] (movesF t cs ys) ox on hx hn) → Q (.ref p) H')
theorem m_Edit_behind (T : TopR K mg CE CR cS cB iS iB ns r0 h0 l0) : MetX P w K mg base (L2.CX P w) 6 CE "behind" (spBehind K CE CR cS cB) [] := by
  refine metX_of T.cE T.m_Edit_behind sc_Edit_behind (fun _ _ _ _ _ _ us hl => match us, hl with | [_], _ => rfl) (fun vs H Q E h => ?_) (fun f cdv A outer s H vs Q E hr h => ?_)
  · obtain ⟨e, ex, R, nt, cl, dx, lk, tb, hd, lg, hd2, nh, t, lt, cs, L, ox, on, hx, hn, n1, n2, n3, rfl, _⟩ := h
    rfl
  · obtain ⟨e, ex, R, nt, cl, dx, lk, tb, hd, lg, hd2, nh, t, lt, cs, L, ox, on, hx, hn, n1, n2, n3, rfl, rd, hst, hL, hnt, b3, q1, q2, q3⟩ := h
    obtain ⟨he, hR, ht, nd, hl, nl, b1, b2, hc, nc, ft, fc, kt, kc⟩ := id rd
    refine ⟨_, (pss_cons (ps_set (i := 1) sc_Edit_behind.nd rfl (Or.inl rfl) (pe_mx0 (m_Edit_moves T) hr (by decide) (fun _ => passAt (takes_of rfl rfl rfl rfl) _) (pv 0)))
      (pss_cons (ps_set (i := 2) sc_Edit_behind.nd rfl (Or.inl rfl) (C8.pe_mt0 (m_Refs_state T) hr (by decide) (pe_fld (pv 0) rfl)))
      (pss_cons (ps_set (i := 3) sc_Edit_behind.nd rfl (Or.inl rfl) (pe_ifExp (pt_cmpR op_isN (pe_fld (pv 0) rfl) pe_non (nomark _)) (pe_ix ix_tup (pv 2) pe_int (fun _ _ => rfl)) (pe_fld (pv 0) rfl)))
      (pss_one (ps_ret (C8.pe_c (c_moved T.toTop) hr (by decide) (by rfl) (pa_cons (pv 2) (pa_cons (pv 1) (pa_cons (pv 3) (pa_cons (pe_fld (pv 0) rfl) pa_nil)))))))))), ?_⟩
    refine ⟨.ref e, rfl, e, ex, _, rfl, he, rfl, e, ex, R, nt, cl, dx, lk, tb, hd, lg, nh, t, lt, cs, rfl, rd, q1, q2, fun sn ys hp hs hv p H1 s1 t1 => ?_⟩
    have nys : ys.Nodup := hp.nodup_iff.mpr nc
    have lys : ys.length = cs.length := by have := hp.length_eq; rw [List.length_map] at this; exact this
    have lm := movesF_len t cs ys
    have nm : ((movesF t cs ys).map (·.1)).Nodup := movesF_nd nys
    refine ⟨.ref e, rfl, e, CE, ex, _, .ref R, rfl, s1 _ _ he, T.cE, T.nE_refs, rfl, R, dx, _, rfl, s1 _ _ hR, rfl, R, dx, lk, tb, hd, lg, t, lt, rfl, s1 _ _ hR, s1 _ _ ht, nd, by omega, s1 _ _ hl, nl, by omega, fun st r l u lu H2 hst' s2 h2 tr so tl sol => ?_⟩
    have s12 := s1.trans s2
    have done : ∀ {σ : L2.St}, σ[0]? = some (some (.ref e)) → σ[1]? = some (some (.ref p)) → σ[2]? = some (some (.ref st)) → σ[3]? = some (some (.ref hd2)) →
        (tRet (tCall (spMoved K) [] C8.E0 (tCons (tVar 2) (tCons (tVar 1) (tCons (tVar 3) (tCons (tFld K (tVar 0) "_note") tNil)))))) { nx := fun x H' => Q V.non H', rt := Q } σ H2 := fun a0 a1 a2 a3 => by
      obtain ⟨h1, ko3, ko4⟩ := hst.both
      have lu1 := so.len
      have lu2 := sol.len
      have eqL : ∀ x n, ledF u x n = ledF t x n := led_of so.2.2
      have eqA : ∀ x n, ledF (afterT u (movesF t cs ys)) x n = ledF (afterT t (movesF t cs ys)) x n := led_of fun x => by rw [val_after (so.nd nd) nm, val_after nd nm, so.2.2]
      refine ⟨.ref st, a2, .ref p, a1, .ref hd2, a3, .ref e, a0, e, CE, ex, _, .ref nt, rfl, s12 _ _ he, T.cE, T.nE_note, rfl, st, p, hd2, nt, r, hd, l, u, lu, L, movesF t cs ys, ox, on, hx, hn, n1, n2, n3, rfl, h2, tr, so.nd nd, tl, sol.nd nl, ?_, ?_⟩
      · exact (hL.keep (TupKeep.of s12)).of sol.2.2
      refine ⟨hst.1.keep (TupKeep.of s12), h1.keep (TupKeep.of s12), hst.2.1, hst.2.2.1, ko3, ko4, s12 _ _ hnt, t1.keep (TupKeep.of s2), nm, ?_, ?_, by omega, by omega, b3, ?_⟩
      · intro z hz
        have hv := val_nodup (so.nd nd) z hz
        rw [so.2.2] at hv
        have := flat_val ft z.1
        rw [hv] at this
        exact this
      · intro m hm
        exact flat_moves (ys := ys) ft (fun c h => (fc c h).1) m (List.mem_filter.mp hm).1
      · intro p' r' lg' H' u' lu' hp' s3 h3 tr' so' tl' nd' len' lk'
        refine q3 sn ys hp hs hv p' r' lg' u' lu' H' (s12.trans s3) h3 tr' (sort_after nd so nm so') tl' nd' (by omega) ?_
        unfold logsNew
        rw [eqL, eqA] at lk'
        exact lk'
    rcases hst.2.2.2 with ⟨hn0, e2, _, _⟩ | ⟨hn0, _⟩
    · refine ⟨.ref e, rfl, e, CE, ex, _, nh, rfl, s12 _ _ he, T.cE, T.nE_new_head, rfl, rfl, _, rfl, ?_⟩
      rw [hn0, decide_eq_true rfl]
      refine iteT ⟨.ref st, rfl, st, _, 1, .ref hd, rfl, rfl, SqT.of h2, rfl, ?_⟩
      rw [← e2]
      exact done rfl rfl rfl rfl
    · refine ⟨.ref e, rfl, e, CE, ex, _, nh, rfl, s12 _ _ he, T.cE, T.nE_new_head, rfl, rfl, _, rfl, ?_⟩
      rw [decide_eq_false (by rw [hn0]; exact fun z => nomatch z)]
      refine iteF ⟨.ref e, rfl, e, CE, ex, _, nh, rfl, s12 _ _ he, T.cE, T.nE_new_head, rfl, ?_⟩
      rw [hn0]
      exact done rfl rfl rfl rfl
def spFinish (K : PySem.W.Frag) (CE CR cS cB : Addr) : Sp := fun vs H Q E => ∃ (e ex R nt cl dx lk tb hd lg hd2 : Addr) (nh : V) (t lt : Tab) (cs : List (Str × V × V)) (L : Str → List (List V)) (ox on hx hn : Str) (n1 n2 n3 : V), vs = [.ref e] ∧ Ready CE CR H e ex R nt cl dx lk tb hd lg nh t lt cs ∧ Stand K H nh hd hd2 ox on hx hn ∧ LogsOk H lt L ∧ H nt = some (.tup [n1, n2, n3]) ∧ (∀ x, (L x).length ≤ 1000) ∧
  (∀ x, staleF t cs = some x → ∀ d H', Same H H' → H' d = some (.xd [("ref", .str x)]) → E (.ref cS) (some d) H') ∧
  (staleF t cs = none → ∀ ys, ys.Perm (cs.map (·.1)) → sortedS ys = true → haveF ((afterT t (movesF t cs ys)).map (·.1)) = true → ∀ d H', Same H H' → E (.ref cB) (some d) H') ∧
  (staleF t cs = none → ∀ ys, ys.Perm (cs.map (·.1)) → sortedS ys = true → haveF ((afterT t (movesF t cs ys)).map (·.1)) = false → ∀ tb' lg' u' lu' H', FrL [R, e] H H' → TupKeep H H' → H' R = some (.ins CR dx (rf lk tb' hd2 lg')) → H' e = some (.ins CE ex (ef R nt cl nh true)) → H' tb' = some (.dK (kT u')) → SortOf (afterT t (movesF t cs ys)) u' →
    H' lg' = some (.dK (kT lu')) → Nd lu' → lu'.length ≤ lt.length + cs.length + 1 → LogsOk H' lu' (logsNew t L [n1, n2, n3] (movesF t cs ys) ox on hx hn) → H tb' = none → H lg' = none → Q .non H')
theorem m_Edit_finish (T : TopR K mg CE CR cS cB iS iB ns r0 h0 l0) : MetX P w K mg base (L2.CX P w) 7 CE "finish" (spFinish K CE CR cS cB) [] := by
  refine metX_of T.cE T.m_Edit_finish sc_Edit_finish (fun _ _ _ _ _ _ us hl => match us, hl with | [_], _ => rfl) (fun vs H Q E h => ?_) (fun f cdv A outer s H vs Q E hr h => ?_)
  · obtain ⟨e, ex, R, nt, cl, dx, lk, tb, hd, lg, hd2, nh, t, lt, cs, L, ox, on, hx, hn, n1, n2, n3, rfl, _⟩ := h
    rfl
  · obtain ⟨e, ex, R, nt, cl, dx, lk, tb, hd, lg, hd2, nh, t, lt, cs, L, ox, on, hx, hn, n1, n2, n3, rfl, rd, hst, hL, hnt, b3, q1, q2, q3⟩ := h
    obtain ⟨he, hR, ht, nd, hl, nl, b1, b2, hc, nc, ft, fc, kt, kc⟩ := id rd
    refine ⟨_, (pss_cons (ps_expr (C8.pe_mt (m_Refs_become T) hr (by decide) (pe_fld (pv 0) rfl) (pa_cons (pe_mx0 (m_Edit_behind T) hr (by decide) (fun _ => passAt (takes_of rfl rfl rfl rfl) _) (pv 0)) pa_nil)))
      (pss_one (ps_fld (pv 0) pe_bl rfl))), ?_⟩
    refine ⟨.ref e, rfl, e, CE, ex, _, .ref R, rfl, he, T.cE, T.nE_refs, rfl, R, dx, _, rfl, hR, rfl, .ref e, rfl, e, ex, _, rfl, he, rfl, e, ex, R, nt, cl, dx, lk, tb, hd, lg, hd2, nh, t, lt, cs, L, ox, on, hx, hn, n1, n2, n3, rfl, rd, hst, hL, hnt, b3, q1, q2, fun sn ys hp hs hv p r' l' u' lu' H1 s1 h1 tr so tl ⟨ndl, _⟩ len lk1 => ?_⟩
    have nys : ys.Nodup := hp.nodup_iff.mpr nc
    have lys : ys.length = cs.length := by have := hp.length_eq; rw [List.length_map] at this; exact this
    have lm := movesF_len t cs ys
    have nm : ((movesF t cs ys).map (·.1)).Nodup := movesF_nd nys
    have la := len_after (t := t) (ms := movesF t cs ys)
    have nRe : e ≠ R := at_ne he hR fun z => by injection z with z; exact T.ne z
    refine ⟨R, p, r', hd2, l', lk, dx, _, u', lu', rfl, s1 _ _ hR, .inr ⟨_, _, _, rfl⟩, .inl h1, .of tr, so.nd (nd_after nd nm), by rw [so.len]; omega, .of tl, ndl, by omega, fun tb' lg' H2 f2 k2 hR2 ht2 hl2 nt2 nl2 => ?_⟩
    have he2 := f2.out (s1 _ _ he) (not1 nRe)
    refine ⟨.ref e, rfl, e, CE, ex, _, rfl, he2, T.cE, T.nEclosed, (by show 5 < 1000; decide), ?_⟩
    have k3 : TupKeep H2 (upd H2 e (.ins CE ex (ef R nt cl nh true))) := TupKeep.at fun xs z => by rw [he2] at z; cases z
    have f3 : FrL [e] H2 (upd H2 e (.ins CE ex (ef R nt cl nh true))) := FrL.at (List.mem_singleton_self e)
    refine q3 sn ys hp hs hv tb' lg' u' lu' _ ((FrL.same s1).trans ((f2.mono fun a ha => by rw [List.mem_singleton.mp ha]; exact List.mem_cons_self).trans (f3.mono fun a ha => by rw [List.mem_singleton.mp ha]; exact List.mem_cons_of_mem _ List.mem_cons_self)))
      (((TupKeep.of s1).trans k2).trans k3) (f3.out hR2 (not1 nRe.symm)) upd_same (f3.out ht2 (not1 (at_ne ht2 he2 fun z => nomatch z))) so (f3.out hl2 (not1 (at_ne hl2 he2 fun z => nomatch z))) ndl len ((lk1.keep k2).keep k3) (s1.free nt2) (s1.free nl2)
end

end Fk

set_option maxHeartbeats 4000000
/-! What calls make of a table, one by one and by moves. -/
namespace Fk
open PySem PySem.Spec PyProof.Rows L2
def stepT (u : Tab) (c : Str × V × V) : Tab := if notNon c.2.1 = true then putK (dropK u c.1) c.1 c.2.1 else dropK u c.1
def lawT (t : Tab) (cs : List (Str × V × V)) : Tab := cs.foldl stepT t
theorem nd_step {t : Tab} (h : Nd t) (c : Str × V × V) : Nd (stepT t c) := by
  unfold stepT
  split
  · exact nd_put (nd_drop h c.1) _ _
  · exact nd_drop h c.1
theorem nd_lawT {t : Tab} (h : Nd t) : ∀ cs, Nd (lawT t cs) := fun cs => by
  unfold lawT
  induction cs generalizing t with
  | nil => exact h
  | cons c r ih => exact ih (nd_step h c)
theorem len_step (t : Tab) (c : Str × V × V) : (stepT t c).length ≤ t.length + 1 := by
  unfold stepT
  have h := dropK_le t c.1
  split
  · have := len_put (dropK t c.1) c.1 c.2.1
    omega
  · omega
theorem len_lawT (t : Tab) (cs : List (Str × V × V)) : (lawT t cs).length ≤ t.length + cs.length := by
  unfold lawT
  induction cs generalizing t with
  | nil => exact Nat.le_refl _
  | cons c r ih =>
    have := ih (stepT t c)
    have := len_step t c
    rw [List.foldl_cons, List.length_cons]
    omega
theorem val_step (t : Tab) (c : Str × V × V) (x : Str) : valV (stepT t c) x = if x = c.1 then (if notNon c.2.1 = true then some c.2.1 else none) else valV t x := by
  unfold stepT
  by_cases h : notNon c.2.1 = true
  · rw [if_pos h, valV_put, valV_drop]
    by_cases e : x = c.1
    · rw [if_pos e, if_pos e, if_pos h]
    · rw [if_neg e, if_neg e, if_neg e]
  · rw [if_neg h, valV_drop]
    by_cases e : x = c.1
    · rw [if_pos e, if_pos e, if_neg h]
    · rw [if_neg e, if_neg e]
theorem val_lawT (x : Str) : ∀ (cs : List (Str × V × V)) (t : Tab), (cs.map (·.1)).Nodup → valV (lawT t cs) x = match valV (newT cs) x with
    | none => valV t x
    | some v => if notNon v = true then some v else none
  | [], t, _ => rfl
  | c :: r, t, h => by
    obtain ⟨h1, h2⟩ := List.nodup_cons.mp (show (c.1 :: r.map (·.1)).Nodup from h)
    show valV (lawT (stepT t c) r) x = match valV ((c.1, c.2.1) :: newT r) x with
      | none => valV t x
      | some v => if notNon v = true then some v else none
    rw [val_lawT x r (stepT t c) h2]
    by_cases e : c.1 = x
    · have n : valV (newT r) x = none := by
        cases q : valV (newT r) x with
        | none => rfl
        | some v =>
          have m := valV_in q
          unfold newT at m
          rw [List.map_map] at m
          exact absurd (show c.1 ∈ r.map (·.1) by rw [e]; exact m) h1
      rw [n, valV_pos e]
      show valV (stepT t c) x = if notNon c.2.1 = true then some c.2.1 else none
      rw [val_step, if_pos e.symm]
    · rw [valV_neg e]
      cases q : valV (newT r) x with
      | none =>
        show valV (stepT t c) x = valV t x
        rw [val_step, if_neg (fun z => e z.symm)]
      | some v => rfl
theorem news_moves (t : Tab) (cs : List (Str × V × V)) {ys : List Str} (h : ys.Nodup) (x : Str) : valV (newsT (movesF t cs ys)) x = if x ∈ ys ∧ ¬ (valV t x).getD .non = (valV (newT cs) x).getD .non then some ((valV (newT cs) x).getD .non) else none := by
  have e : newsT (movesF t cs ys) = (ys.map fun x => (x, (valV (newT cs) x).getD .non)).filter fun p => !decide ((valV t p.1).getD .non = p.2) := by
    unfold newsT movesF rowsF
    rw [List.filter_map, List.filter_map, List.map_map]
    rfl
  have nd : Nd (ys.map fun x => (x, (valV (newT cs) x).getD .non)) := by
    unfold Nd
    rw [List.map_map]
    have : ((fun x : Str × V => x.1) ∘ fun x : Str => (x, (valV (newT cs) x).getD V.non)) = id := rfl
    rw [this, List.map_id]
    exact h
  rw [e, val_filter nd, val_keys (fun x => (valV (newT cs) x).getD .non)]
  by_cases m : x ∈ ys
  · rw [if_pos m]
    by_cases d : (valV t x).getD .non = (valV (newT cs) x).getD .non
    · rw [if_neg (fun z => z.2 d)]
      simp [d]
    · rw [if_pos ⟨m, d⟩]
      simp [d]
  · rw [if_neg m, if_neg (fun z => m z.1)]
    rfl
theorem notNon_some {v : V} (h : notNon v = true) : v ≠ .non := fun z => by rw [z] at h; cases h
theorem nn_of {v : V} (h : ¬ notNon v = true) : v = .non := by
  cases v <;> first | rfl | exact absurd rfl h
/-- moves and calls make the same -/
theorem after_law {t : Tab} {cs : List (Str × V × V)} {ys : List Str} (nt : Nd t) (vs : ∀ e ∈ t, notNon e.2 = true) (nc : (cs.map (·.1)).Nodup) (hp : ys.Perm (cs.map (·.1))) (x : Str) : valV (afterT t (movesF t cs ys)) x = valV (lawT t cs) x := by
  have ny : ys.Nodup := hp.nodup_iff.mpr nc
  rw [val_after nt (movesF_nd ny), news_moves t cs ny, val_lawT x cs t nc]
  have mk : x ∈ ys ↔ (valV (newT cs) x).isSome = true := by
    rw [hp.mem_iff, ← mem_val]
    unfold newT
    rw [List.map_map]
    rfl
  cases q : valV (newT cs) x with
  | none =>
    have nx : ¬ x ∈ ys := fun z => by have := mk.mp z; rw [q] at this; cases this
    rw [if_neg (fun z => nx z.1)]
  | some v =>
    have yx : x ∈ ys := mk.mpr (by rw [q]; rfl)
    by_cases d : (valV t x).getD .non = v
    · rw [if_neg (fun z => z.2 d)]
      show valV t x = if notNon v = true then some v else none
      cases c : valV t x with
      | none =>
        rw [c] at d
        rw [← d]
        rfl
      | some w =>
        rw [c] at d
        have d : w = v := d
        obtain ⟨p, hp2, ep⟩ := List.mem_map.mp (valV_in c)
        have v1 := val_nodup nt p hp2
        rw [ep, c] at v1
        have := vs p hp2
        rw [← Option.some.inj v1, d] at this
        rw [if_pos this, d]
    · rw [if_pos ⟨yx, d⟩]
      rfl
/-- moves, name by name -/
theorem movesF_snoc (t : Tab) (cs : List (Str × V × V)) (ys : List Str) (y : Str) : movesF t cs (ys ++ [y]) = movesF t cs ys ++ (if (valV t y).getD .non = (valV (newT cs) y).getD .non then [] else [(y, (valV t y).getD .non, (valV (newT cs) y).getD .non)]) := by
  unfold movesF rowsF
  rw [List.map_append, List.filter_append]
  congr 1
  by_cases d : (valV t y).getD .non = (valV (newT cs) y).getD .non
  · rw [if_pos d]
    simp [d]
  · rw [if_neg d]
    simp [d]
theorem logMoves_app (L : Str → List (List V)) (note : List V) (ms : List (Str × V × V)) (m : Str × V × V) : logMoves L note (ms ++ [m]) = logPut (logMoves L note ms) m.1 ([m.2.1, m.2.2] ++ note) := by
  unfold logMoves
  rw [List.foldl_append]
  rfl
/-- lists stay -/
def LstKeep (H H' : Hp) : Prop := ∀ b xs, H b = some (.lst xs) → H' b = some (.lst xs)
theorem LstKeep.of {H H' : Hp} (s : Same H H') : LstKeep H H' := fun b xs e => s b _ e
theorem LstKeep.trans {H H1 H2 : Hp} (a : LstKeep H H1) (b : LstKeep H1 H2) : LstKeep H H2 := fun c xs e => b c xs (a c xs e)
theorem LstKeep.at {a : Addr} {H : Hp} {o : HO} (n : ∀ xs, H a ≠ some (.lst xs)) : LstKeep H (upd H a o) := fun b xs e => by
  have z : b ≠ a := fun z => n xs (by rw [← z]; exact e)
  rw [upd_ne z]
  exact e
/-! ### the model -/
def modelT (mt mh ml : Addr) : Tab := [("table", .ref mt), ("head", .ref mh), ("logs", .ref ml)]
/-- the model's logs: lists of entries -/
def LogsL (H : Hp) (t : Tab) (L : Str → List (List V)) : Prop := ∀ x, (valV t x = none ∧ L x = []) ∨ ∃ (p : Addr) (as : List Addr), valV t x = some (.ref p) ∧ H p = some (.lst (as.map V.ref)) ∧ Tups H as (L x)
def ModAt (K : PySem.W.Frag) (H : Hp) (m mt mh ml : Addr) (t lt : Tab) (x n : Str) : Prop := H m = some (.dK (kT (modelT mt mh ml))) ∧ H mt = some (.dK (kT t)) ∧ TupK K H mh [.str x, .str n] ∧ H ml = some (.dK (kT lt))
theorem mod_get {H : Hp} {m mt mh ml : Addr} (h : H m = some (.dK (kT (modelT mt mh ml)))) : DGet H m (.str "table") (some (.ref mt)) ∧ DGet H m (.str "head") (some (.ref mh)) ∧ DGet H m (.str "logs") (some (.ref ml)) := ⟨dget_kT (.inl h) "table", dget_kT (.inl h) "head", dget_kT (.inl h) "logs"⟩
theorem ModAt.same {K : PySem.W.Frag} {H H' : Hp} {m mt mh ml : Addr} {t lt : Tab} {x n : Str} (h : ModAt K H m mt mh ml t lt x n) (s : Same H H') : ModAt K H' m mt mh ml t lt x n := ⟨s _ _ h.1, s _ _ h.2.1, h.2.2.1.keep (TupKeep.of s), s _ _ h.2.2.2⟩
theorem LogsL.same {H H' : Hp} {t : Tab} {L : Str → List (List V)} (h : LogsL H t L) (s : Same H H') : LogsL H' t L := fun x => (h x).imp id fun ⟨p, as, a, b, c⟩ => ⟨p, as, a, s _ _ b, c.keep (TupKeep.of s)⟩
theorem LogsL.keep {H H' : Hp} {t : Tab} {L : Str → List (List V)} (h : LogsL H t L) (k : TupKeep H H') (l : LstKeep H H') : LogsL H' t L := fun x => (h x).imp id fun ⟨p, as, a, b, c⟩ => ⟨p, as, a, l _ _ b, c.keep k⟩
theorem LogsL.put {H : Hp} {t : Tab} {L : Str → List (List V)} (h : LogsL H t L) {x : Str} {p : Addr} {e : List V} {as : List Addr} (hp : H p = some (.lst (as.map V.ref))) (tp : Tups H as (L x ++ [e])) : LogsL H (putK t x (.ref p)) (logPut L x e) := fun y => by
  unfold logPut
  rw [valV_put]
  by_cases c : y = x
  · rw [if_pos c, if_pos c, c]
    exact .inr ⟨p, as, rfl, hp, tp⟩
  · rw [if_neg c, if_neg c]
    exact h y
theorem log_stepL {H : Hp} {ml en : Addr} {lt : Tab} {L : Str → List (List V)} {x : Str} {ent : List V} {tk td te : TE} {D : Ends} {σ : L2.St} (hD : H ml = some (.dK (kT lt))) (ll : LogsL H lt L) (he : H en = some (.tup ent))
    (b : (L x).length ≤ 100000) (hl : lt.length ≤ 1000) (ek : ∀ H' Q, Q (.str x) H' → tk σ H' Q) (ed : ∀ H' Q, Same H H' → Q (.ref ml) H' → td σ H' Q) (ee : ∀ H' Q, Q (.ref en) H' → te σ H' Q)
    (q : ∀ H' p, FrL [ml] H H' → TupKeep H H' → LstKeep H H' → H' ml = some (.dK (kT (putK lt x (.ref p)))) → LogsL H' (putK lt x (.ref p)) (logPut L x ent) → D.nx σ H') :
    sDPut td tk (tOp rCat (tDGet2 td tk (tLst tNil)) (tLst (tCons te tNil))) D σ H := by
  refine ed _ _ (Same.refl H) ⟨ml, rfl, .inl ⟨_, .inl hD⟩, ek _ _ ⟨Nat.zero_le _, fun pe hpe => ⟨valV lt x, ?_, ?_⟩⟩⟩
  · exact dget_kT (.inl (by rw [upd_ne (ne_of_none hD hpe)]; exact hD)) x
  · have s0 : Same H (upd H pe (.lst [])) := same_new hpe
    have p0 : (upd H pe (.lst [])) pe = some (.lst []) := upd_same
    generalize upd H pe (.lst []) = H0 at s0 p0
    obtain ⟨a, as, ea, ha, ta⟩ : ∃ (a : Addr) (as : List Addr), (valV lt x).getD (.ref pe) = .ref a ∧ H0 a = some (.lst (as.map V.ref)) ∧ Tups H0 as (L x) := by
      rcases ll x with ⟨e, l⟩ | ⟨p, as, e, h, t⟩
      · exact ⟨pe, [], by rw [e]; rfl, p0, by rw [l]; exact Tups.nil⟩
      · exact ⟨p, as, by rw [e]; rfl, s0 _ _ h, t.keep (TupKeep.of s0)⟩
    rw [ea]
    have la : as.length ≤ 100000 := by rw [ta.1]; exact b
    refine ee _ _ ⟨(by show 1 ≤ sizeLine; decide), fun p2 hp2 => ⟨a, p2, _, _, rfl, rfl, (same_new hp2) _ _ ha, upd_same, small_line (by rw [List.length_map]; show _ + 1 ≤ _; omega), fun p3 hp3 => ?_⟩⟩
    have s03 : Same H0 (upd (upd H0 p2 (.lst [V.ref en])) p3 (.lst (as.map V.ref ++ [V.ref en]))) := (same_new hp2).trans (same_new hp3)
    have h3 : (upd (upd H0 p2 (.lst [V.ref en])) p3 (.lst (as.map V.ref ++ [V.ref en]))) p3 = some (.lst ((as ++ [en]).map V.ref)) := by
      rw [upd_same, List.map_append]
      rfl
    generalize upd (upd H0 p2 (.lst [V.ref en])) p3 (.lst (as.map V.ref ++ [V.ref en])) = H5 at s03 h3
    have s05 := s0.trans s03
    have hD5 := s05 _ _ hD
    refine ed _ _ s05 (ek _ _ ⟨ml, _, rfl, .inl ⟨kT lt, .inr x, hD5, rfl, small_lt (by rw [len_kT]; omega), rfl⟩, ?_⟩)
    rw [putK_kT]
    have kp : TupKeep H5 (upd H5 ml (.dK (kT (putK lt x (.ref p3))))) := TupKeep.at fun xs z => by rw [hD5] at z; cases z
    have kl : LstKeep H5 (upd H5 ml (.dK (kT (putK lt x (.ref p3))))) := LstKeep.at fun xs z => by rw [hD5] at z; cases z
    have kp2 := (TupKeep.of s05).trans kp
    have kl2 := (LstKeep.of s05).trans kl
    refine q _ p3 ((FrL.same s05).trans (FrL.at (List.mem_singleton_self ml))) kp2 kl2 upd_same ?_
    exact (ll.keep kp2 kl2).put (kl _ _ h3) (((ta.keep (TupKeep.of s03)).snoc (s05 _ _ he)).keep kp)
def callL (c : Str × V × V) : List V := [.str c.1, c.2.1, c.2.2]
/-- the law's own list of the calls -/
def CallsL (H : Hp) (lc : Addr) (cs : List (Str × V × V)) : Prop := ∃ as : List Addr, H lc = some (.lst (as.map V.ref)) ∧ Tups H as (cs.map callL)
theorem ok_prefixes {x : Str} (h : OkS x) : ∀ y ∈ prefixesF x, OkS y := fun y hy => by
  obtain ⟨k, _, rfl⟩ := List.mem_map.mp hy
  exact ok_join ok_slash fun p hp => segs_ok x h p (List.mem_of_mem_take hp)
theorem have_any {ks : List Str} (h : haveF ks = false) : ∀ x ∈ ks, ((prefixesF x).any fun y => decide (y ∈ ks)) = false := fun x hx => by
  unfold haveF at h
  exact Bool.eq_false_iff.mpr fun z => by
    rw [List.any_eq_true.mpr ⟨x, hx, z⟩] at h
    cases h
theorem law_new_at {t : Tab} {cs : List (Str × V × V)} {y : Str} (nc : (cs.map (·.1)).Nodup) (h : y ∈ cs.map (·.1)) : (valV (lawT t cs) y).getD .non = (valV (newT cs) y).getD .non := by
  rw [val_lawT y cs t nc]
  have m : (valV (newT cs) y).isSome = true := by
    rw [← mem_val]
    unfold newT
    rw [List.map_map]
    exact h
  cases c : valV (newT cs) y with
  | none => rw [c] at m; cases m
  | some v =>
    show (if notNon v = true then some v else none).getD .non = v
    by_cases d : notNon v = true
    · rw [if_pos d]
      rfl
    · rw [if_neg d, nn_of d]
      rfl
theorem mem_keys_put {t : Tab} {x y : Str} {v : V} (h : y ∈ (putK t x v).map (·.1)) : y ∈ t.map (·.1) ∨ y = x := by
  have := mem_val.mp h
  rw [valV_put] at this
  by_cases c : y = x
  · exact .inr c
  · rw [if_neg c] at this
    exact .inl (mem_val.mpr this)
theorem flat_lawT {t : Tab} {cs : List (Str × V × V)} (ht : ∀ e ∈ t, flatN e.2) (hc : ∀ c ∈ cs, flatN c.2.1) : ∀ e ∈ lawT t cs, flatN e.2 := by
  unfold lawT
  induction cs generalizing t with
  | nil => exact ht
  | cons c r ih =>
    refine ih (fun e he => ?_) fun d hd => hc d (List.mem_cons_of_mem _ hd)
    unfold stepT at he
    have dr : ∀ e ∈ dropK t c.1, flatN e.2 := fun e he => ht e (dropK_mem he)
    split at he
    · rcases mem_putK he with h | h
      · exact dr e h
      · rw [h]
        exact hc c List.mem_cons_self
    · exact dr e he
end Fk

set_option maxHeartbeats 4000000
/-! A try with several except clauses, of which any may have a name. -/
namespace Fk
open PySem PySem.Spec PyProof.Rows L2
/-- a clause with a name: slot i is the error's within the suite, and nothing's behind it -/
def asTS (i : Nat) (ts : Addr → Value → Option Addr → TS) : Addr → Value → Option Addr → TS := fun a cls d D σ H =>
  ts a cls d { nx := fun σ' H' => D.nx (σ'.set i none) H', rt := D.rt, bk := fun σ' H' => D.bk (σ'.set i none) H', ct := fun σ' H' => D.ct (σ'.set i none) H' } (σ.set i (some (.ref a))) H
inductive HdA (X : Cx) : List ExceptHandler → List (Value × (Addr → Value → Option Addr → TS)) → Prop
  | nil : HdA X [] []
  | cons {x : Str} {c : Value} {ts : Addr → Value → Option Addr → TS} {b₀ : Stmt} {suite : List Stmt} {np pos' : Pos} {hds : List ExceptHandler} {l : List (Value × (Addr → Value → Option Addr → TS))} (hc : Names X x c)
      (hsu : ∀ (a : Addr) (oe : Obj) (cls : Value) (d : Option Addr) (pn : List (Addr × Obj)), Zc cls d oe → (∃ vs, oe.data = .fields vs) → PSs (X.suite a ((a, oe) :: pn)) (b₀ :: suite) (ts a cls d)) (r : HdA X hds l) :
      HdA X (.ExceptHandler (some (.Name x np)) none (b₀ :: suite) pos' :: hds) ((c, ts) :: l)
  | as {x n : Str} {i : Nat} {c : Value} {ts : Addr → Value → Option Addr → TS} {b₀ : Stmt} {suite : List Stmt} {np pos' : Pos} {hds : List ExceptHandler} {l : List (Value × (Addr → Value → Option Addr → TS))} (hN : X.N.Nodup) (hi : X.N[i]? = some n) (hln : X.env.kindOf n = some .local) (hc : Names X x c)
      (hsu : ∀ (a : Addr) (oe : Obj) (cls : Value) (d : Option Addr) (pn : List (Addr × Obj)), Zc cls d oe → (∃ vs, oe.data = .fields vs) → PSs (X.suite a ((a, oe) :: pn)) (b₀ :: suite) (ts a cls d)) (r : HdA X hds l) :
      HdA X (.ExceptHandler (some (.Name x np)) (some n) (b₀ :: suite) pos' :: hds) ((c, asTS i ts) :: l)
section
variable {X : Cx} {body : List Stmt} {h₀ : ExceptHandler} {hds : List ExceptHandler} {l : List (Value × (Addr → Value → Option Addr → TS))} {pos : Pos} {tb : WX → TS} {Wout : WX}
theorem ps_tryA (hs : X.stack = X.env :: X.outer) (hf : X.env.frame = some X.env.locals) (tk : Takes X Wout)
    (hb : ∀ (W : WX) (pn : List (Addr × Obj)) (xe : Value → Shared → Prop), Takes (X.tr pn xe) W → PassesOwn (model X.prog X.w) X.A X.env xe → PSs (X.tr pn xe) body (tb W))
    (hh : HdA X (h₀ :: hds) l) : PS X (.Try body (h₀ :: hds) [] [] pos) (fun D σ H => tb (wMany X.K Wout D l) D σ H) := by
  refine ⟨fun pins s σ H D I h => ?_⟩
  have ok := I.ok
  have hfr : X.A.frames = some (X.env :: X.outer) := by rw [ok.frames, hs]
  refine wpAny_Try_except ?_
  refine wpAny_mono ((hb (wMany X.K Wout D l) (X.pn ++ pins) (fun e s₁ => wpAny (model X.prog X.w) X.A (noteFrame e X.env) (fun _ s₂ => wpAny (model X.prog X.w) X.A (setFlight e none) (fun _ s₃ =>
    wpAny (model X.prog X.w) X.A (handleBy e X.env (h₀ :: hds)) (SP X pins D) X.xe s₃) X.xe s₂) X.xe s₁) (fun u s' xx => ?_) PassesOwn.looking).run [] s σ H D (I.toTry _) h) (fun f s1 hsp => ?_) (fun e s1 he => he)
  · obtain ⟨a, B, sI, pins', σ', H', cls, d, rfl, J', nb, up, sky, na, os, ag, w⟩ := xx
    have J : Inv X pins σ' H' sI := J'.ofTry ok
    have sky' : Sky B (X.env :: X.outer) a (Zc cls d) X.env.locals s'.heap := by rw [← hs]; exact sky
    show wpAny (model X.prog X.w) X.A (noteFrame (.ref a) X.env) _ _ _
    refine Sky.land Zc.steady hfr hf sky' fun h3 fl3 up3 => ?_
    have J3 : Inv X pins σ' H' { s' with heap := h3 } := J.landed nb fl3.1 (up.trans up3) os ag
    obtain ⟨oe3, vs3, he3, hz3, hd3⟩ := fl3.there
    have notFr : ∀ {h : Heap} {o : Obj} {vs : Array Value}, h.FunFrames B (X.env :: X.outer) → h.get? a = some o → o.data = .fields vs → a ∉ frs (X.env :: X.outer) := fun {h o vs} ff e dd hm => by
      obtain ⟨_, o', e', hnf⟩ := ff.mem hm
      rw [e] at e'; cases e'
      exact hnf _ dd
    have nfr := notFr fl3.2.2.1 he3 hd3
    have nL : a ≠ X.env.locals := fun z => nfr (List.mem_filterMap.mpr ⟨X.env, List.mem_cons_self, by rw [hf, z]⟩)
    have nF : a ∉ X.fs := fun hm => by
      obtain ⟨e, he, q⟩ := List.mem_filterMap.mp hm
      exact nfr (List.mem_filterMap.mpr ⟨e, List.mem_cons_of_mem _ he, q⟩)
    have S3 := J3.suite he3 hd3 na nL nF
    have go : ∀ {hds' : List ExceptHandler} {l' : List (Value × (Addr → Value → Option Addr → TS))}, HdA X hds' l' → wMany X.K Wout D l' cls d σ' H' →
        wpAny (model X.prog X.w) X.A (handleBy (.ref a) X.env hds') (SP X pins D) X.xe { s' with heap := h3 } := by
      intro hds' l' hk
      induction hk with
      | nil =>
        intro w
        refine wpAny_handleBy_nil ?_
        obtain ⟨k1, k2, k3, oe, vs, T, oT, ts', he, hz, hd, h1, hr⟩ := id fl3
        unfold PySem.passOn
        refine wpAny_bind (wpAny_field he hd h1 ?_)
        rw [if_neg (show ¬ ((Value.ref T == Value.none) = true) from by simp)]
        have fin : wpAny (model X.prog X.w) X.A (setFlight (.ref a) X.env.frame) (fun _ s4 => wpAny (model X.prog X.w) X.A (throw (.ref a) : Sem Flow) (SP X pins D) X.xe s4) X.xe { s' with heap := h3 } := by
          rw [hf]
          refine HandSPX.setFlight_upZ fl3 fun h4 hh4 up4 => wpAny_throw (tk _ _ ?_)
          exact ⟨a, B, sI, pins, σ', H', cls, d, rfl, J, nb, (up.trans up3).trans up4, .inr (.inr (by rw [hs]; exact hh4)), na, os, ag, w⟩
        first
          | exact wpAny_bind (wpAny_pure (wpAny_bind fin))
          | exact wpAny_bind fin
      | @cons x c ts b₀ suite np pos' hds2 l2 hc hsu r ih =>
        intro w
        obtain ⟨b, hb1, hyes, hno⟩ := w
        refine wpAny_handleBy_cons (codeAny_handlers_test ?_) (by intro q; cases q)
        have LT : PySem.W.Looks (model X.prog X.w) h3 (typeOf (.ref a)) cls := fun A Q E s k q => wpAny_typeOf_ref (k _ _ he3) (by rw [hz3.1]; exact q)
        have LM := PySem.W.exm_one (M := model X.prog X.w) (J3.kIn) LT hb1
        have test : ∀ {Q : Value → Shared → Prop} {E : Value → Shared → Prop}, Q c { s' with heap := h3 } → wpAny (model X.prog X.w) (X.A.mark (some (.ref a))) (eval (.Name x np) X.env) Q E { s' with heap := h3 } := fun {Q E} q => by
          obtain ⟨hg, hdbg, hm | ⟨hm, hv, hnn⟩⟩ := hc
          · exact ld_glob (X := X.suite a ((a, oe3) :: (X.pn ++ pins))) S3 hg hm q hdbg
          · exact ld_blt (X := X.suite a ((a, oe3) :: (X.pn ++ pins))) S3 hg hm hv q hnn hdbg
        refine test (LM.here ?_)
        cases b with
        | true =>
          refine codeAny_handlers_suite ?_
          refine HandSPX.lands_againZ fl3 fun h4 fl4 up4 => ?_
          have J4 : Inv X pins σ' H' { s' with heap := h4 } := J.landed nb fl4.1 ((up.trans up3).trans up4) os ag
          obtain ⟨oe4, vs4, he4, hz4, hd4⟩ := fl4.there
          have S4 := J4.suite he4 hd4 na nL nF
          refine wpAny_mono ((hsu a oe4 cls d (X.pn ++ pins) hz4 ⟨_, hd4⟩).run [] _ _ H' _ S4 (hyes rfl a na)) (fun f s6 hsp => ?_) (fun _ _ z => False.elim z)
          cases f with
          | next =>
            obtain ⟨σ6, H6, S6, q6⟩ := hsp
            exact ⟨_, _, S6.unsuite ok, q6⟩
          | brk =>
            obtain ⟨σ6, H6, S6, q6⟩ := hsp
            exact ⟨_, _, S6.unsuite ok, q6⟩
          | cont =>
            obtain ⟨σ6, H6, S6, q6⟩ := hsp
            exact ⟨_, _, S6.unsuite ok, q6⟩
          | ret u =>
            obtain ⟨v6, σ6, H6, S6, r6, q6⟩ := hsp
            exact ⟨_, _, _, S6.unsuite ok, r6, q6⟩
        | false =>
          show wpAny _ X.A (handleBy (.ref a) X.env hds2) _ _ _
          exact ih (hno rfl)
      | @as x n i c ts b₀ suite np pos' hds2 l2 hN hi hln hc hsu r ih =>
        intro w
        have hloc : Loc X.env.scope n := .inl hln
        obtain ⟨b, hb1, hyes, hno⟩ := w
        refine wpAny_handleBy_cons (codeAny_handlers_test ?_) (by intro q; cases q)
        have LT : PySem.W.Looks (model X.prog X.w) h3 (typeOf (.ref a)) cls := fun A Q E s k q => wpAny_typeOf_ref (k _ _ he3) (by rw [hz3.1]; exact q)
        have LM := PySem.W.exm_one (M := model X.prog X.w) (J3.kIn) LT hb1
        have test : ∀ {Q : Value → Shared → Prop} {E : Value → Shared → Prop}, Q c { s' with heap := h3 } → wpAny (model X.prog X.w) (X.A.mark (some (.ref a))) (eval (.Name x np) X.env) Q E { s' with heap := h3 } := fun {Q E} q => by
          obtain ⟨hg, hdbg, hm | ⟨hm, hv, hnn⟩⟩ := hc
          · exact ld_glob (X := X.suite a ((a, oe3) :: (X.pn ++ pins))) S3 hg hm q hdbg
          · exact ld_blt (X := X.suite a ((a, oe3) :: (X.pn ++ pins))) S3 hg hm hv q hnn hdbg
        refine test (LM.here ?_)
        cases b with
        | true =>
          refine codeAny_handlers_suite_as ?_
          refine HandSPX.lands_againZ fl3 fun h4 fl4 up4 => ?_
          have J4 : Inv X pins σ' H' { s' with heap := h4 } := J.landed nb fl4.1 ((up.trans up3).trans up4) os ag
          obtain ⟨oe4, vs4, he4, hz4, hd4⟩ := fl4.there
          have S4 := J4.suite he4 hd4 na nL nF
          refine store_ok (X := X.suite a ((a, oe4) :: (X.pn ++ pins))) (v := .ref a) S4 hN hi hloc rfl (fun s5 S5 => ?_) (.inr hln)
          refine wpAny_mono ((hsu a oe4 cls d (X.pn ++ pins) hz4 ⟨_, hd4⟩).run [] s5 _ H' _ S5 (hyes rfl a na)) (fun f s6 hsp => ?_) (fun _ _ z => False.elim z)
          have end_ : ∀ {σ6 : L2.St} {H6 : Hp} {Q : Shared → Prop}, Inv (X.suite a ((a, oe4) :: (X.pn ++ pins))) [] σ6 H6 s6 → (∀ s7, Inv X pins (σ6.set i none) H6 s7 → Q s7) →
              wpAny (model X.prog X.w) X.A (do bindName X.env n .none; unbindBehindTheSuite X.env n pos') (fun _ s7 => Q s7) X.xe s6 := fun {σ6 H6 Q} S6 hq => gone_ok (S6.unsuite ok) hN hi hln hq
          cases f with
          | next =>
            obtain ⟨σ6, H6, S6, q6⟩ := hsp
            exact end_ S6 fun s7 J7 => ⟨_, _, J7, q6⟩
          | brk =>
            obtain ⟨σ6, H6, S6, q6⟩ := hsp
            exact end_ S6 fun s7 J7 => ⟨_, _, J7, q6⟩
          | cont =>
            obtain ⟨σ6, H6, S6, q6⟩ := hsp
            exact end_ S6 fun s7 J7 => ⟨_, _, J7, q6⟩
          | ret u =>
            obtain ⟨v6, σ6, H6, S6, r6, q6⟩ := hsp
            exact end_ S6 fun s7 J7 => ⟨_, _, _, J7, r6, q6⟩
        | false =>
          show wpAny _ X.A (handleBy (.ref a) X.env hds2) _ _ _
          exact ih (hno rfl)
    exact go hh w
  · cases f with
    | next =>
      obtain ⟨σ', H', J', q⟩ := hsp
      exact wpAny_execs_nil ⟨σ', H', J'.ofTry ok, q⟩
    | brk =>
      obtain ⟨σ', H', J', q⟩ := hsp
      exact ⟨σ', H', J'.ofTry ok, q⟩
    | cont =>
      obtain ⟨σ', H', J', q⟩ := hsp
      exact ⟨σ', H', J'.ofTry ok, q⟩
    | ret u =>
      obtain ⟨v, σ', H', J', r, q⟩ := hsp
      exact ⟨v, σ', H', J'.ofTry ok, r, q⟩
end
end Fk

set_option maxHeartbeats 4000000
namespace Fk
open PySem PySem.Spec PyProof.Rows L2
/-! ### the draws -/
/-- a source, drawn from at most so often -/
def Wm (H : Hp) (a : Addr) (c : Int) : Prop := 0 ≤ c ∧ ∃ x y : Int, 0 ≤ y ∧ y < 2147483647 ∧ H a = some (.lst [.int x, .int y, .int c])
theorem Wm.same {H H' : Hp} {a : Addr} {c : Int} (h : Wm H a c) (f : Same H H') : Wm H' a c := let ⟨h0, x, y, b1, b2, e⟩ := h; ⟨h0, x, y, b1, b2, f _ _ e⟩
theorem Wm.out {L : List Addr} {H H' : Hp} {a : Addr} {c : Int} (h : Wm H a c) (f : FrL L H H') (n : ∀ b ∈ L, a ≠ b) : Wm H' a c := let ⟨h0, x, y, b1, b2, e⟩ := h; ⟨h0, x, y, b1, b2, f.out e n⟩
def After (a : Addr) (c d : Int) (H : Hp) (R : Hp → Prop) : Prop := ∀ H' c', FrL [a] H H' → TupKeep H H' → Wm H' a c' → c ≤ c' → c' ≤ c + d → R H'
theorem kit_sq {K : PySem.W.Frag} {H H' : Hp} {a b : Addr} {xs : List V} (h : H b = some (.lst xs)) (f : FrL [a] H H') (n : b ≠ a) : H' b = some (.lst xs) := f.out h (not1 n)
section
variable {P : Program} {w : World} {K : PySem.W.Frag} {mg : Str → Option Value} {base : Heap}
def spCellAt (K : PySem.W.Frag) : Sp := fun vs H Q _ => ∃ (a : Addr) (ns : List Int) (k : Nat), vs = [.ref a, .int k] ∧ SqL K H a (ns.map V.int) ∧ ∀ v : Int, Q (.int v) H
theorem c_l_cell_at (T : Top K mg) : C8.Cal P w K mg base 1 "_law_cell_at" (spCellAt K) [] := by
  refine cal_of T.d_l_cell_at sc_l_cell_at (fun _ _ _ _ _ _ us hl => match us, hl with | [_, _], _ => rfl) (fun vs H Q E h => ?_) (fun f cdv A outer s H vs Q E hr h => ?_)
  · obtain ⟨a, ns, k, rfl, _⟩ := h
    rfl
  · obtain ⟨a, ns, k, rfl, hS, q⟩ := h
    refine ⟨_, (pss_cons (ps_if (pt_cmpR op_lt (pv 1) (pe_callB call_len_seq (by rfl) T.z_len (by decide +kernel) (pa_cons (pv 0) pa_nil)) (nomark _))
      (pss_one (ps_ret (pe_ix ix_list (pv 0) (pv 1) (fun _ _ => rfl))))
      pss_nil)
      (pss_one (ps_ret pe_int))), ?_⟩
    refine ⟨.int k, rfl, .ref a, rfl, a, _, rfl, .inl hS, _, _, rfl, rfl, _, rfl, ite2 (fun h1 => ?_) (fun h1 => ?_)⟩
    · have h1 := of_decide_eq_true h1
      rw [List.length_map] at h1
      have h2 : k < ns.length := by omega
      exact ⟨.ref a, rfl, .int k, rfl, a, _, k, .int ns[k], rfl, rfl, hS, atI_nat (by rw [List.getElem?_map, List.getElem?_eq_getElem h2]; rfl), q _⟩
    · exact q _
def spSource : Sp := fun vs H Q _ => ∃ (x : Int), vs = [.int x] ∧ ∀ H' a, H a = none → Same H H' → Wm H' a 0 → Q (.ref a) H'
theorem c_l_source (T : Top K mg) : C8.Cal P w K mg base 1 "_law_source" spSource [] := by
  refine cal_of T.d_l_source sc_l_source (fun _ _ _ _ _ _ us hl => match us, hl with | [_], _ => rfl) (fun vs H Q E h => ?_) (fun f cdv A outer s H vs Q E hr h => ?_)
  · obtain ⟨x, rfl, _⟩ := h
    rfl
  · obtain ⟨x, rfl, q⟩ := h
    refine ⟨_, (pss_one (ps_ret (pe_lst (pa_cons (pe_op op_mul (pv 0) (pe_callTy call_int1 (by rfl) T.z_int (by decide +kernel) (pa_cons (pe_cmpR op_ge (pv 0) (pe_op op_pow pe_int pe_int) (nomark _)) pa_nil))) (pa_cons (pe_op op_mod (pe_callTy call_int1 (by rfl) T.z_int (by decide +kernel) (pa_cons (pv 0) pa_nil)) pe_int) (pa_cons pe_int pa_nil)))))), ?_⟩
    refine ⟨.int x, rfl, .int x, rfl, 10, 18, rfl, rfl, ⟨by decide, by decide, by decide⟩, _, _, rfl, rfl, .inr ⟨_, rfl, _, _, rfl, rfl, .inr ?_, .int x, rfl, .inl ⟨_, rfl, _, _, rfl, rfl, (by show (0 : Int) < _; decide), (by show 3 ≤ sizeLine; decide), fun p hp => ?_⟩⟩⟩
    · split <;> exact ⟨by decide, by decide⟩
    · exact q _ p hp (same_new hp) ⟨Int.le_refl _, _, _, Int.emod_nonneg _ (by decide), Int.emod_lt_of_pos _ (by decide), upd_same⟩
def spDraw : Sp := fun vs H Q _ => ∃ (a : Addr) (n c : Int), vs = [.ref a, .int n] ∧ Wm H a c ∧ 0 < n ∧ n < 1000000 ∧ c < 2 ^ 40 ∧ ∀ r : Int, 0 ≤ r → r < n → After a c 1 H (Q (.int r))
theorem pow_small {i : Int} (h0 : 0 ≤ i) (h : i < 2 ^ 62) : i.natAbs < 2 ^ 64 := by omega
theorem c_l_draw (T : Top K mg) : C8.Cal P w K mg base 1 "_law_draw" spDraw [] := by
  refine cal_of T.d_l_draw sc_l_draw (fun _ _ _ _ _ _ us hl => match us, hl with | [_, _], _ => rfl) (fun vs H Q E h => ?_) (fun f cdv A outer s H vs Q E hr h => ?_)
  · obtain ⟨a, n, c, rfl, _⟩ := h
    rfl
  · obtain ⟨a, n, c, rfl, ⟨hc0, x, y, y0, y1, hw⟩, hn0, hn1, hc, q⟩ := h
    have fin : ∀ r x' y' c' : Int, 0 ≤ r → r < n → 0 ≤ y' → y' < 2147483647 → c ≤ c' → c' ≤ c + 1 → Q (.int r) (upd H a (.lst [.int x', .int y', .int c'])) := fun r x' y' c' h1 h2 h3 h4 h5 h6 =>
      q r h1 h2 _ c' (FrL.at (List.mem_singleton_self a)) (TupKeep.at fun xs z => by rw [hw] at z; cases z) ⟨by omega, x', y', h3, h4, upd_same⟩ h5 h6
    refine ⟨_, (pss_cons (ps_if (pt_cmpR op_gt (pe_ix ix_list (pv 0) pe_int (fun _ _ => rfl)) pe_int (nomark _))
      (pss_cons (ps_set (i := 2) sc_l_draw.nd rfl (Or.inl rfl) (pe_op op_mod (pe_callTy call_int1 (by rfl) T.z_int (by decide +kernel) (pa_cons (pe_ix ix_list (pv 0) pe_int (fun _ _ => rfl)) pa_nil)) (pv 1)))
      (pss_cons (ps_asg (pe_op op_fdivW (pe_ix ix_list (pv 0) pe_int (fun _ _ => rfl)) (pv 1)) (pg_sub (pv 0) pe_int set_list))
      (pss_one (ps_ret (pv 2)))))
      pss_nil)
      (pss_cons (ps_asg (pe_op op_add (pe_ix ix_list (pv 0) pe_int (fun _ _ => rfl)) pe_int) (pg_sub (pv 0) pe_int set_list))
      (pss_cons (ps_set (i := 3) sc_l_draw.nd rfl (Or.inl rfl) (pe_op op_mod (pe_callTy call_int1 (by rfl) T.z_int (by decide +kernel) (pa_cons (pe_op op_pow (pe_op op_add (pe_op op_add (pe_ix ix_list (pv 0) pe_int (fun _ _ => rfl)) (pe_op op_mul pe_int (pe_ix ix_list (pv 0) pe_int (fun _ _ => rfl)))) pe_int) pe_int) pa_nil)) pe_int))
      (pss_cons (ps_set (i := 3) sc_l_draw.nd rfl (Or.inl rfl) (pe_op op_mod (pe_callTy call_int1 (by rfl) T.z_int (by decide +kernel) (pa_cons (pe_op op_mul (pv 3) (pe_op op_add (pe_op op_add (pe_op op_fdivW (pv 3) pe_int) pe_int) (pe_ix ix_list (pv 0) pe_int (fun _ _ => rfl)))) pa_nil)) pe_int))
      (pss_one (ps_ret (pe_op op_mod (pe_callTy call_int1 (by rfl) T.z_int (by decide +kernel) (pa_cons (pe_op op_fdivW (pe_op op_mod (pe_callTy call_int1 (by rfl) T.z_int (by decide +kernel) (pa_cons (pe_op op_mul (pv 3) (pe_op op_add (pe_op op_fdivW (pv 3) pe_int) pe_int)) pa_nil)) pe_int) pe_int) pa_nil)) (pv 1)))))))), ?_⟩
    refine ⟨.ref a, rfl, a, _, 0, _, rfl, rfl, SqL.of hw, rfl, _, _, rfl, rfl, _, rfl, ite2 (fun h1 => ?_) (fun h1 => ?_)⟩
    · refine ⟨.ref a, rfl, a, _, 0, _, rfl, rfl, SqL.of hw, rfl, .inl ⟨_, rfl, .int n, rfl, _, _, rfl, rfl, hn0, ?_⟩⟩
      refine ⟨.ref a, rfl, a, _, 0, _, rfl, rfl, SqL.of hw, rfl, .int n, rfl, _, _, rfl, rfl, wide_div (b := 20) hn0 (by omega) (by decide) (by decide), .ref a, rfl, a, _, 0, 0, rfl, rfl, hw, rfl, .int (x % n), rfl, ?_⟩
      exact fin _ _ _ _ (Int.emod_nonneg _ (by omega)) (Int.emod_lt_of_pos _ hn0) y0 y1 (Int.le_refl _) (by omega)
    · refine ⟨.ref a, rfl, a, _, 2, _, rfl, rfl, SqL.of hw, rfl, _, _, rfl, rfl, .ref a, rfl, a, _, 2, 2, rfl, rfl, hw, rfl, ?_⟩
      have hw2 : (upd H a (.lst [V.int x, .int y, .int (c + 1)])) a = some (.lst [V.int x, .int y, .int (c + 1)]) := upd_same
      have b1 : ∀ z m : Int, 0 < m → 0 ≤ z % m ∧ z % m < m := fun z m h => ⟨Int.emod_nonneg _ (by omega), Int.emod_lt_of_pos _ h⟩
      refine ⟨.ref a, rfl, a, _, 1, _, rfl, rfl, SqL.of hw2, rfl, .ref a, rfl, a, _, 2, _, rfl, rfl, SqL.of hw2, rfl, _, _, rfl, rfl, .inl (by decide), _, _, rfl, rfl, _, _, rfl, rfl, _, _, rfl, rfl, ⟨by decide, by decide, pow_small (by omega) (by omega)⟩, .inl ⟨_, rfl, _, _, rfl, rfl, (by show (0 : Int) < _; decide), ?_⟩⟩
      generalize ((y + 7919 * (c + 1) + 1) ^ Int.toNat 5) = big
      have m1 := b1 big 2147483629 (by decide)
      refine ⟨_, rfl, _, rfl, _, _, rfl, rfl, wide_div (b := 40) (by decide) (by decide) (by decide) (by decide), _, _, rfl, rfl, .ref a, rfl, a, _, 2, _, rfl, rfl, SqL.of hw2, rfl, _, _, rfl, rfl, _, _, rfl, rfl, .inl (by omega), .inl ⟨_, rfl, _, _, rfl, rfl, (by show (0 : Int) < _; decide), ?_⟩⟩
      generalize (big % 2147483629 * (big % 2147483629 / 1009 + 69621 + (c + 1))) = big2
      have m2 := b1 big2 2147483587 (by decide)
      refine ⟨_, rfl, _, rfl, _, _, rfl, rfl, wide_div (b := 40) (by decide) (by decide) (by decide) (by decide), _, _, rfl, rfl, _, _, rfl, rfl, .inl (by omega), .inl ⟨_, rfl, _, _, rfl, rfl, (by show (0 : Int) < _; decide), _, _, rfl, rfl, wide_div (b := 40) (by decide) (by decide) (by decide) (by decide), .inl ⟨_, rfl, .int n, rfl, _, _, rfl, rfl, hn0, ?_⟩⟩⟩
      exact fin _ _ _ _ (Int.emod_nonneg _ (by omega)) (Int.emod_lt_of_pos _ hn0) y0 y1 (by omega) (Int.le_refl _)
def spPick (K : PySem.W.Frag) : Sp := fun vs H Q _ => ∃ (a b : Addr) (xs : List V) (c : Int), vs = [.ref a, .ref b] ∧ Wm H a c ∧ H b = some (.lst xs) ∧ b ≠ a ∧ 0 < xs.length ∧ xs.length < 1000000 ∧ c < 2 ^ 40 ∧ ∀ v ∈ xs, After a c 1 H (Q v)
theorem c_l_pick (T : Top K mg) : C8.Cal P w K mg base 2 "_law_pick" (spPick K) [] := by
  refine cal_of T.d_l_pick sc_l_pick (fun _ _ _ _ _ _ us hl => match us, hl with | [_, _], _ => rfl) (fun vs H Q E h => ?_) (fun f cdv A outer s H vs Q E hr h => ?_)
  · obtain ⟨a, b, xs, c, rfl, _⟩ := h
    rfl
  · obtain ⟨a, b, xs, c, rfl, hw, hS, nb, h0, h1, hc, q⟩ := h
    refine ⟨_, (pss_one (ps_ret (pe_ix ix_list (pv 1) (C8.pe_c (c_l_draw T) hr (by decide) (by rfl) (pa_cons (pv 0) (pa_cons (pe_callB call_len_seq (by rfl) T.z_len (by decide +kernel) (pa_cons (pv 1) pa_nil)) pa_nil))) (fun _ _ => rfl)))), ?_⟩
    refine ⟨.ref b, rfl, .ref a, rfl, .ref b, rfl, b, xs, rfl, .inl (SqL.of hS), a, xs.length, c, rfl, hw, by omega, by omega, hc, fun r hr0 hr1 H' c' f k w' hc1 hc2 => ?_⟩
    obtain ⟨v, hv, _, e⟩ := atI_int hr0 hr1
    exact ⟨b, xs, r, v, rfl, rfl, SqL.of (f.out hS (not1 nb)), e, q v hv H' c' f k w' hc1 hc2⟩
/-- the references and the ids that are drawn -/
def REFS : List Str := ["main", "a", "a/b", "a/b/c", "ab", "a/bc", "x-1/0", "main/sub", "a-", "a-b", "a0", "main-2"]
def IDS : List Str := [repS "0" 16, repS "f" 16, "0123456789abcdef", "00000000000000aa"]
theorem refs_ok : ∀ x ∈ REFS, isRefF x = true ∧ x.length ≤ 1000 ∧ OkS x := fun x hx => by
  have h : REFS.all (fun x => isRefF x && (decide (x.length ≤ 1000) && (TL.tl x).all fun u => decide (u < 1114112))) = true := by decide +kernel
  have := List.all_eq_true.mp h x hx
  simp only [Bool.and_eq_true, decide_eq_true_eq] at this
  exact ⟨this.1, this.2.1, ok_by this.2.2⟩
theorem ids_ok : ∀ x ∈ IDS, isIdF x = true ∧ x.length ≤ 1000 ∧ OkS x := fun x hx => by
  have h : IDS.all (fun x => isIdF x && (decide (x.length ≤ 1000) && (TL.tl x).all fun u => decide (u < 1114112))) = true := by decide +kernel
  have := List.all_eq_true.mp h x hx
  simp only [Bool.and_eq_true, decide_eq_true_eq] at this
  exact ⟨this.1, this.2.1, ok_by this.2.2⟩
def spRefD : Sp := fun vs H Q _ => ∃ (a : Addr) (c : Int), vs = [.ref a] ∧ Wm H a c ∧ c < 2 ^ 40 ∧ ∀ x ∈ REFS, After a c 1 H (Q (.str x))
theorem c_l_ref (T : Top K mg) : C8.Cal P w K mg base 3 "_law_ref" spRefD [] := by
  refine cal_of T.d_l_ref sc_l_ref (fun _ _ _ _ _ _ us hl => match us, hl with | [_], _ => rfl) (fun vs H Q E h => ?_) (fun f cdv A outer s H vs Q E hr h => ?_)
  · obtain ⟨a, c, rfl, _⟩ := h
    rfl
  · obtain ⟨a, c, rfl, hw, hc, q⟩ := h
    refine ⟨_, (pss_cons (ps_set (i := 1) sc_l_ref.nd rfl (Or.inl rfl) (pe_lst (pa_cons pe_str (pa_cons pe_str (pa_cons pe_str (pa_cons pe_str (pa_cons pe_str (pa_cons pe_str (pa_cons pe_str (pa_cons pe_str (pa_cons pe_str (pa_cons pe_str (pa_cons pe_str (pa_cons pe_str pa_nil))))))))))))))
      (pss_one (ps_ret (C8.pe_c (c_l_pick T) hr (by decide) (by rfl) (pa_cons (pv 0) (pa_cons (pv 1) pa_nil)))))), ?_⟩
    refine ⟨(by show 12 ≤ sizeLine; decide), fun p hp => ?_⟩
    have hpa : p ≠ a := fun z => by
      obtain ⟨_, _, _, _, _, e⟩ := hw
      rw [z, e] at hp
      cases hp
    have s1 := same_new (o := .lst (REFS.map V.str)) hp
    refine ⟨.ref a, rfl, .ref p, rfl, a, p, REFS.map V.str, c, rfl, hw.same s1, upd_same, hpa, by decide, by decide, hc, fun v hv H' c' f k w' h1 h2 => ?_⟩
    obtain ⟨x, hx, rfl⟩ := List.mem_map.mp hv
    exact q x hx H' c' ((FrL.same s1).trans f) ((TupKeep.of s1).trans k) w' h1 h2
def spIdD : Sp := fun vs H Q _ => ∃ (a : Addr) (c : Int), vs = [.ref a] ∧ Wm H a c ∧ c < 2 ^ 40 ∧ ∀ x ∈ IDS, After a c 1 H (Q (.str x))
theorem c_l_id (T : Top K mg) : C8.Cal P w K mg base 3 "_law_id" spIdD [] := by
  refine cal_of T.d_l_id sc_l_id (fun _ _ _ _ _ _ us hl => match us, hl with | [_], _ => rfl) (fun vs H Q E h => ?_) (fun f cdv A outer s H vs Q E hr h => ?_)
  · obtain ⟨a, c, rfl, _⟩ := h
    rfl
  · obtain ⟨a, c, rfl, hw, hc, q⟩ := h
    refine ⟨_, (pss_one (ps_ret (C8.pe_c (c_l_pick T) hr (by decide) (by rfl) (pa_cons (pv 0) (pa_cons (pe_lst (pa_cons (pe_op op_mul_si pe_str pe_int) (pa_cons (pe_op op_mul_si pe_str pe_int) (pa_cons pe_str (pa_cons pe_str pa_nil))))) pa_nil))))), ?_⟩
    refine ⟨.ref a, rfl, "0", 16, rfl, rfl, by decide, by decide, by decide +kernel, "f", 16, rfl, rfl, by decide, by decide, by decide +kernel, (by show 4 ≤ sizeLine; decide), fun p hp => ?_⟩
    have hpa : p ≠ a := fun z => by
      obtain ⟨_, _, _, _, _, e⟩ := hw
      rw [z, e] at hp
      cases hp
    have s1 := same_new (o := .lst (IDS.map V.str)) hp
    refine ⟨a, p, IDS.map V.str, c, rfl, hw.same s1, upd_same, hpa, by decide, by decide, hc, fun v hv H' c' f k w' h1 h2 => ?_⟩
    obtain ⟨x, hx, rfl⟩ := List.mem_map.mp hv
    exact q x hx H' c' ((FrL.same s1).trans f) ((TupKeep.of s1).trans k) w' h1 h2
end

end Fk

set_option maxHeartbeats 4000000
namespace Fk
open PySem PySem.Spec PyProof.Rows L2
section
variable {P : Program} {w : World} {K : PySem.W.Frag} {mg : Str → Option Value} {base : Heap} {CE CR cS cB iS iB ns r0 h0 l0 : Addr}
theorem c_l_above (T : Top K mg) : C8.Cal P w K mg base 1 "_law_above" spPre [] := by
  refine cal_of T.d_l_above sc_l_above (fun _ _ _ _ _ _ us hl => match us, hl with | [_], _ => rfl) (fun vs H Q E h => ?_) (fun f cdv A outer s H vs Q E hr h => ?_)
  · obtain ⟨x, rfl, _⟩ := h
    rfl
  · obtain ⟨x, rfl, hx, ho, q⟩ := h
    refine ⟨_, (pss_cons (ps_set (i := 1) sc_l_above.nd rfl (Or.inr rfl) (pe_split (pv 0) pe_str))
      (pss_one (ps_ret (pe_lc (own := [("_law_k", 2)]) (g := gName 2) (by rfl) sc_l_above.nd (pi_range2 (by rfl) T.z_range (pa_cons pe_int (pa_cons (pe_callB call_len_seq (by rfl) T.z_len (by decide +kernel) (pa_cons (pv 1) pa_nil)) pa_nil))) (blkOk_by (own := [("_law_k", 2)]) (N := ["_law_ref_here", "_law_parts", "_law_k"]) (sc := C8.fnScope s_l_above) (by decide +kernel)) (fun _ _ _ _ _ => (pg_name (i := 2) sc_l_above.nd rfl (Or.inl rfl))) (fun _ _ _ _ _ => pts_nil) (fun _ _ _ _ _ => (pe_joinK (K := K) rfl pe_str (pe_slice (slK_list (K := K) rfl) (pv 1) po_none (po_some (pv 2))))))))), ?_⟩
    obtain ⟨hl1, hl2⟩ := segs_len x (by omega)
    refine ⟨.str x, rfl, ⟨x, rfl⟩, x, _, rfl, rfl, rfl, small_line (by omega), fun p hp => ?_⟩
    have sm := same_new (o := .lst ((segs x).map V.str)) hp
    refine ⟨.ref p, rfl, p, (segs x).map V.str, rfl, .inl (.inl (.inl upd_same)), ?_⟩
    refine ⟨1, ((segs x).length : Nat), by rw [List.length_map], ⟨by decide, by decide, by omega, by omega⟩, fun D hD => ?_⟩
    have en : (((segs x).length : Nat) - (1 : Int)).toNat = (segs x).length - 1 := by omega
    rw [en]
    refine lc_pure (i := 2) (us := List.range ((segs x).length - 1)) (g := fun (k : Nat) => V.int (1 + (k : Int))) yields_range (fun k => V.str (Txt.join "/" ((segs x).take (k + 1)))) (fun _ => true) hD (fun H _ => trivial) (fun H u _ hu R r => r H (Same.refl H))
      (fun H2 k s2 hk _ R r => ?_) (by rw [List.length_range]; omega) (fun H2 s2 h2 => ?_)
    · have hk : k < (segs x).length - 1 := List.mem_range.mp hk
      have cut : cutV ((segs x).map V.str) none (some (1 + (k : Int))) = ((segs x).take (k + 1)).map V.str := cut_front _ _ _
      refine ⟨⟨_, rfl⟩, .ref p, rfl, .int (1 + k), rfl, 1 + k, rfl, p, _, rfl, .inl (.inl (s2 _ _ upd_same)), fun p2 hp2 => ?_⟩
      have cut2 : cutV ((Txt.split x "/").map V.str) none (some (1 + (k : Int))) = ((segs x).take (k + 1)).map V.str := cut
      rw [cut2]
      refine ⟨_, p2, (segs x).take (k + 1), rfl, rfl, .inl (.inl (.inl upd_same)), ?_, r _ (same_new hp2)⟩
      obtain ⟨m1, m2⟩ := segs_lens x
      have s1 := sum_most 1000 ((segs x).take (k + 1)) fun y hy => Nat.le_trans (m2 y (List.mem_of_mem_take hy)) hx
      have l1 : ((segs x).take (k + 1)).length ≤ 1001 := by rw [List.length_take]; omega
      have e1 : (Str.ofString "/").length = 1 := by decide +kernel
      rw [e1]
      omega
    · refine q D H2 (sm.free hD) (sm.trans s2) ?_
      rw [h2, filt_all]
      unfold prefixesF
      rw [List.map_map]
      rfl
def spNew : Sp := fun vs H Q _ => vs = [] ∧ ∀ m mt mh ml H', H m = none → H mt = none → Same H H' → H' m = some (.dK (kT (modelT mt mh ml))) → H' mt = some (.dK []) → H' mh = some (.tup [.str "ref", .str "main"]) → H' ml = some (.dK []) → Q (.ref m) H'
theorem c_l_new (T : Top K mg) : C8.Cal P w K mg base 1 "_law_new" spNew [] := by
  refine cal_of T.d_l_new sc_l_new (fun _ _ _ _ _ _ us hl => match us, hl with | [], _ => rfl) (fun vs H Q E h => ?_) (fun f cdv A outer s H vs Q E hr h => ?_)
  · obtain ⟨rfl, _⟩ := h
    rfl
  · obtain ⟨rfl, q⟩ := h
    refine ⟨_, (pss_one (ps_ret (pe_disp (pps_cons pe_str pe_dnewK (pps_cons pe_str (pe_tup (pa_cons pe_str (pa_cons pe_str pa_nil))) (pps_cons pe_str pe_dnewK pps_nil))) (by rfl) (by rfl) (fun z => by cases z) (by decide)))), ?_⟩
    intro m hm mt hmt
    refine ⟨(by show 2 ≤ sizeLine; decide), fun mh hmh => fun ml hml => ?_⟩
    have n1 : m ≠ mt := fun z => by rw [z, upd_same] at hmt; cases hmt
    have n2 : mt ≠ mh := fun z => by rw [z, upd_same] at hmh; cases hmh
    have n3 : m ≠ mh := fun z => by rw [z, upd_ne n2.symm, ← z, upd_same] at hmh; cases hmh
    have n4 : mh ≠ ml := fun z => by rw [z, upd_same] at hml; cases hml
    have n5 : mt ≠ ml := fun z => by rw [z, upd_ne n4.symm, ← z, upd_same] at hml; cases hml
    have n6 : m ≠ ml := fun z => by rw [z, upd_ne n4.symm, upd_ne n5.symm, ← z, upd_same] at hml; cases hml
    have f1 : H mt = none := by rw [upd_ne n1.symm] at hmt; exact hmt
    have f2 : H mh = none := by rw [upd_ne n2.symm, upd_ne n3.symm] at hmh; exact hmh
    have f3 : H ml = none := by rw [upd_ne n4.symm, upd_ne n5.symm, upd_ne n6.symm] at hml; exact hml
    refine ⟨?_, [(.inr "table", .ref mt), (.inr "head", .ref mh), (.inr "logs", .ref ml)], rfl, (by show 3 ≤ 15; decide), ?_⟩
    · rw [upd_ne n6, upd_ne n3, upd_ne n1, upd_same]
    · refine q m mt mh ml _ hm f1 (fun b o e => ?_) upd_same ?_ ?_ ?_
      · rw [upd_ne (ne_of_none e hm), upd_ne (ne_of_none e f3), upd_ne (ne_of_none e f2), upd_ne (ne_of_none e f1), upd_ne (ne_of_none e hm)]
        exact e
      · rw [upd_ne n1.symm, upd_ne n5, upd_ne n2, upd_same]
      · rw [upd_ne n3.symm, upd_ne n4, upd_same]
      · rw [upd_ne n6.symm, upd_same]
def spAtHd (K : PySem.W.Frag) : Sp := fun vs H Q _ => ∃ (m mt mh ml : Addr) (t lt : Tab) (x n : Str), vs = [.ref m] ∧ ModAt K H m mt mh ml t lt x n ∧ Q (ledF t x n) H
theorem c_l_at_head (T : Top K mg) : C8.Cal P w K mg base 1 "_law_at_head" (spAtHd K) [] := by
  refine cal_of T.d_l_at_head sc_l_at_head (fun _ _ _ _ _ _ us hl => match us, hl with | [_], _ => rfl) (fun vs H Q E h => ?_) (fun f cdv A outer s H vs Q E hr h => ?_)
  · obtain ⟨m, mt, mh, ml, t, lt, x, n, rfl, _⟩ := h
    rfl
  · obtain ⟨m, mt, mh, ml, t, lt, x, n, rfl, ⟨hm, ht, hh, _⟩, q⟩ := h
    obtain ⟨g1, g2, g3⟩ := mod_get hm
    refine ⟨_, (pss_one (ps_ret (pe_ifExp (pt_cmpR op_eq (pe_ix ix_tup (pe_dget (hu_of hr) (pv 0) pe_str (fun _ _ => rfl)) pe_int (fun _ _ => rfl)) pe_str (nomark _)) (pe_ix ix_tup (pe_dget (hu_of hr) (pv 0) pe_str (fun _ _ => rfl)) pe_int (fun _ _ => rfl)) (pe_dget1 (hu_of hr) (pe_dget (hu_of hr) (pv 0) pe_str (fun _ _ => rfl)) (pe_ix ix_tup (pe_dget (hu_of hr) (pv 0) pe_str (fun _ _ => rfl)) pe_int (fun _ _ => rfl)) ⟨rfl, rfl, rfl, rfl⟩)))), ?_⟩
    refine ⟨.ref m, rfl, m, .ref mh, rfl, g2, mh, _, 0, .str x, rfl, rfl, hh.sq, rfl, rfl, _, rfl, ite2 (fun h1 => ?_) (fun h1 => ?_)⟩
    · refine ⟨.ref m, rfl, m, .ref mh, rfl, g2, mh, _, 1, .str n, rfl, rfl, hh.sq, rfl, ?_⟩
      unfold ledF at q
      rw [if_pos (V.str.inj (of_decide_eq_true h1))] at q
      exact q
    · refine ⟨.ref m, rfl, m, .ref mt, rfl, g1, mt, rfl, .inl ⟨_, .inl ht⟩, .ref m, rfl, m, .ref mh, rfl, g2, mh, _, 1, .str n, rfl, rfl, hh.sq, rfl, valV t n, dget_kT (.inl ht) n, ?_⟩
      unfold ledF at q
      rw [if_neg (fun z => h1 (decide_eq_true (by rw [z])))] at q
      exact q
end

end Fk

set_option maxHeartbeats 4000000
namespace Fk
open PySem PySem.Spec PyProof.Rows L2
/-! ### values as data -/
def toD : V → PyData
  | .str x => .str x
  | .int i => .int i
  | _ => .none
def FlatOk (v : V) : Prop := v = .non ∨ ∃ y, v = .str y ∧ OkS y
theorem FlatOk.flat {v : V} (h : FlatOk v) : flatN v := by
  rcases h with rfl | ⟨y, rfl, _⟩ <;> exact True.intro
def EntOk (l : List V) : Prop := ∃ (a b : V) (x y : Str) (i : Int), l = [a, b, .str x, .int i, .str y] ∧ FlatOk a ∧ FlatOk b ∧ OkS x ∧ OkS y
def entD (l : List V) : PyData := .tuple (l.map toD)
theorem dp_flat {K : PySem.W.Frag} {H : Hp} {v : V} (h : FlatOk v) : Dp K H v (toD v) := by
  rcases h with rfl | ⟨y, rfl, _⟩
  · exact .non
  · exact .str y
theorem dp_ent {K : PySem.W.Frag} {H : Hp} {a : Addr} {l : List V} (h : EntOk l) (e : H a = some (.tup l)) : Dp K H (.ref a) (entD l) := by
  obtain ⟨p, q, x, y, i, rfl, h1, h2, _, _⟩ := h
  exact .tup (SqT.of e) (.cons (dp_flat h1) (.cons (dp_flat h2) (.cons (.str x) (.cons (.int i) (.cons (.str y) .nil)))))
theorem dp_ents {K : PySem.W.Frag} {H : Hp} : ∀ {as : List Addr} {ls : List (List V)}, Tups H as ls → (∀ l ∈ ls, EntOk l) → DpAll K H (as.map V.ref) (ls.map entD)
  | [], [], _, _ => .nil
  | [], l :: r, t, _ => absurd t.1 (by simp)
  | a :: r, [], t, _ => absurd t.1 (by simp)
  | a :: r, l :: s, t, h => .cons (dp_ent (h l List.mem_cons_self) (t.2 0 a l rfl rfl)) (dp_ents ⟨by have := t.1; simpa using this, fun i b m h1 h2 => t.2 (i + 1) b m h1 h2⟩ fun m hm => h m (List.mem_cons_of_mem _ hm))
theorem eqv_flat {v : V} (h : FlatOk v) : PyData.eqv (toD v) (toD v) = true := by
  rcases h with rfl | ⟨y, rfl, _⟩ <;> simp [toD, PyData.eqv]
theorem eqv_ent {l : List V} (h : EntOk l) : PyData.eqv (entD l) (entD l) = true := by
  obtain ⟨p, q, x, y, i, rfl, h1, h2, _, _⟩ := h
  show PyData.eqv (.tuple [toD p, toD q, .str x, .int i, .str y]) (.tuple [toD p, toD q, .str x, .int i, .str y]) = true
  simp [PyData.eqv, PyData.eqvAll, eqv_flat h1, eqv_flat h2]
theorem eqv_ents : ∀ {ls : List (List V)}, (∀ l ∈ ls, EntOk l) → PyData.eqvAll (ls.map entD) (ls.map entD) = true
  | [], _ => by simp [PyData.eqvAll]
  | l :: r, h => by simp [PyData.eqvAll, eqv_ent (h l List.mem_cons_self), eqv_ents fun m hm => h m (List.mem_cons_of_mem _ hm)]
theorem lay_flat {v : V} (h : FlatOk v) : PyData.canLay0 (toD v) = true ∧ PyData.depth (toD v) = 0 := by
  rcases h with rfl | ⟨y, rfl, hy⟩
  · simp [toD, PyData.canLay0, PyData.depth]
  · simp [toD, PyData.canLay0, PyData.depth, strOk_of hy]
theorem lay_ent {l : List V} (h : EntOk l) : PyData.canLay0 (entD l) = true ∧ PyData.depth (entD l) ≤ 1 := by
  obtain ⟨p, q, x, y, i, rfl, h1, h2, h3, h4⟩ := h
  obtain ⟨a1, a2⟩ := lay_flat h1
  obtain ⟨b1, b2⟩ := lay_flat h2
  show PyData.canLay0 (.tuple [toD p, toD q, .str x, .int i, .str y]) = true ∧ PyData.depth (.tuple [toD p, toD q, .str x, .int i, .str y]) ≤ 1
  simp [PyData.canLay0, PyData.canLayAll0, PyData.depth, PyData.depthAll, a1, a2, b1, b2, strOk_of h3, strOk_of h4]
theorem lay_ents : ∀ {ls : List (List V)}, (∀ l ∈ ls, EntOk l) → PyData.canLayAll0 (ls.map entD) = true ∧ PyData.depthAll (ls.map entD) ≤ 1
  | [], _ => by simp [PyData.canLayAll0, PyData.depthAll]
  | l :: r, h => by
    obtain ⟨a1, a2⟩ := lay_ent (h l List.mem_cons_self)
    obtain ⟨b1, b2⟩ := lay_ents fun m hm => h m (List.mem_cons_of_mem _ hm)
    refine ⟨by simp [PyData.canLayAll0, a1, b1], ?_⟩
    simp [PyData.depthAll]
    omega
theorem shaped_ents {ls : List (List V)} (h : ∀ l ∈ ls, EntOk l) : SeqAt.shaped (.list (ls.map entD)) = true := by
  obtain ⟨a, b⟩ := lay_ents h
  simp [SeqAt.shaped, PyData.canLay0, PyData.depth, a]
  omega
theorem shaped_tstrs (ys : List Str) (h : ∀ y ∈ ys, OkS y) : SeqAt.shaped (.tuple (ys.map PyData.str)) = true := by
  simp [SeqAt.shaped, PyData.canLay0, PyData.depth, lay_strs ys h, depth_strs]
theorem eqv_strs : ∀ ys : List Str, PyData.eqvAll (ys.map PyData.str) (ys.map PyData.str) = true
  | [] => by simp [PyData.eqvAll]
  | y :: r => by simp [PyData.eqvAll, PyData.eqv, eqv_strs r]
section
variable {P : Program} {w : World} {K : PySem.W.Frag} {mg : Str → Option Value} {base : Heap} {CE CR cS cB iS iB ns r0 h0 l0 : Addr}
def NameOk (x : Str) : Prop := (isRefF x = true ∨ x = "HEAD") ∧ x.length ≤ 1000 ∧ OkS x
/-- references and the model tell the same -/
structure Agree (K : PySem.W.Frag) (CR : Addr) (H : Hp) (R dx lk tb hd lg m mt mh ml : Addr) (t lt t' lt' : Tab) (x n : Str) (L : Str → List (List V)) : Prop where
  hR : H R = some (.ins CR dx (rf lk tb hd lg))
  hT : H tb = some (.dK (kT t))
  nt : Nd t
  hH : TupK K H hd [.str x, .str n]
  hL : H lg = some (.dK (kT lt))
  nl : Nd lt
  lo : LogsOk H lt L
  hM : ModAt K H m mt mh ml t' lt' x n
  nt' : Nd t'
  nl' : Nd lt'
  ll : LogsL H lt' L
  eq : ∀ x, valV t' x = valV t x
  ne : tb ≠ mt
  vs : ∀ e ∈ t, ∃ y, e.2 = .str y ∧ OkS y
  ks : ∀ x ∈ t.map (·.1), isRefF x = true ∧ x.length ≤ 1000 ∧ OkS x
  ls : ∀ x ∈ lt'.map (·.1), NameOk x
  es : ∀ x, ∀ l ∈ L x, EntOk l
  ox : OkS x
  on : OkS n
def spStands (K : PySem.W.Frag) (CR : Addr) : Sp := fun vs H Q _ => ∃ (R dx lk tb hd lg m mt mh ml : Addr) (t lt t' lt' : Tab) (x n : Str) (L : Str → List (List V)), vs = [.ref R, .ref m] ∧ Agree K CR H R dx lk tb hd lg m mt mh ml t lt t' lt' x n L ∧ t.length < 64 ∧ lt'.length < 62 ∧ ∀ H', Same H H' → Q (.bl true) H'
theorem c_l_stands (T : TopR K mg CE CR cS cB iS iB ns r0 h0 l0) : C8.Cal P w K mg base 6 "_law_stands" (spStands K CR) [] := by
  refine cal_of T.d_l_stands sc_l_stands (fun _ _ _ _ _ _ us hl => match us, hl with | [_, _], _ => rfl) (fun vs H Q E h => ?_) (fun f cdv A outer s H vs Q E hr h => ?_)
  · obtain ⟨R, dx, lk, tb, hd, lg, m, mt, mh, ml, t, lt, t', lt', x, n, L, rfl, _⟩ := h
    rfl
  · obtain ⟨R, dx, lk, tb, hd, lg, m, mt, mh, ml, t, lt, t', lt', x, n, L, rfl, ag, b1, b2, q⟩ := h
    obtain ⟨hm, ht', hh', hl'⟩ := id ag.hM
    have kp : (t'.map (·.1)).Perm (t.map (·.1)) := keys_perm ag.nt' ag.nt fun x => by rw [ag.eq]
    have lt1 : t'.length = t.length := by have := kp.length_eq; rw [List.length_map, List.length_map] at this; exact this
    refine ⟨_, (pss_cons (ps_if (PW.pt (pw_or (pt_cmpR (op_neD hr.units) (C8.pe_mt0 (m_Refs_names T) hr (by decide) (pv 0)) (pe_callTy call_tuple_of (by rfl) T.z_tuple (by decide +kernel) (pa_cons (pe_callB (call_sortedD (by rfl)) (by rfl) T.z_sorted (by decide +kernel) (pa_cons (pe_dget (hu_of hr) (pv 1) pe_str (fun _ _ => rfl)) pa_nil)) pa_nil)) (nomark _)) (pw_or1 (pt_cmpR op_ne (pe_callB (call_ownLen (ownM_of (m_Refs_len T)) (hr.mono (by decide)) noEx0) (by rfl) T.z_len (by decide +kernel) (pa_cons (pv 0) pa_nil)) (pe_callB call_lenD (by rfl) T.z_len (by decide +kernel) (pa_cons (pe_dget (hu_of hr) (pv 1) pe_str (fun _ _ => rfl)) pa_nil)) (nomark _)))))
      (pss_one (ps_ret pe_bl))
      pss_nil)
      (pss_cons (ps_lock (ps_for PassesOwn.never rfl (pi_keys (pe_dget (hu_of hr) (pv 1) pe_str (fun _ _ => rfl))) (pg_name (i := 2) sc_l_stands.nd rfl (Or.inl rfl))
      (pss_one (ps_if (PW.pt (pw_or (pt_cmpR op_ne (pe_ownGet (m_Refs_getitem T) (hr.mono (by decide)) (pv 0) (pv 2)) (pe_dget (hu_of hr) (pe_dget (hu_of hr) (pv 1) pe_str (fun _ _ => rfl)) (pv 2) (fun _ _ => rfl)) (nomark _)) (pw_or1 (pt_cmpR (op_ownNotIn (ownM_of (m_Refs_contains T)) (hr.mono (by decide)) noEx0) (pv 2) (pv 0) rfl))))
      (pss_one (ps_ret pe_bl))
      pss_nil))))
      (pss_cons (ps_if (PW.pt (pw_or (pt_cmpR (op_neD hr.units) (C8.pe_mt0 (m_Refs_head T) hr (by decide) (pv 0)) (pe_dget (hu_of hr) (pv 1) pe_str (fun _ _ => rfl)) (nomark _)) (pw_or1 (pt_cmpR op_ne (C8.pe_mt0 (m_Refs_at_head T) hr (by decide) (pv 0)) (C8.pe_c (c_l_at_head T.toTop) hr (by decide) (by rfl) (pa_cons (pv 1) pa_nil)) (nomark _)))))
      (pss_one (ps_ret pe_bl))
      pss_nil)
      (pss_cons (ps_for PassesOwn.never rfl (pi_list (pe_op op_cat (pe_callB (call_sortedD (by rfl)) (by rfl) T.z_sorted (by decide +kernel) (pa_cons (pe_dget (hu_of hr) (pv 1) pe_str (fun _ _ => rfl)) pa_nil)) (pe_lst (pa_cons pe_str (pa_cons pe_str pa_nil))))) (pg_name (i := 3) sc_l_stands.nd rfl (Or.inl rfl))
      (pss_one (ps_if (pt_cmpR (op_neD hr.units) (C8.pe_mt (m_Refs_log T) hr (by decide) (pv 0) (pa_cons (pv 3) pa_nil)) (pe_dget2 (hu_of hr) (pe_dget (hu_of hr) (pv 1) pe_str (fun _ _ => rfl)) (pv 3) (pe_lst pa_nil) ⟨rfl, rfl, rfl, rfl⟩) (nomark _))
      (pss_one (ps_ret pe_bl))
      pss_nil)))
      (pss_one (ps_ret pe_bl)))))), ?_⟩
    refine ⟨.ref R, rfl, R, dx, _, rfl, ag.hR, rfl, R, dx, lk, tb, hd, lg, t, rfl, ag.hR, ag.hT, b1, fun ys p1 H1 hp hs hn s1 h1 => ?_⟩
    refine ⟨.ref m, rfl, m, .ref mt, rfl, (mod_get (s1 _ _ hm)).1, mt, kT t', t'.map (·.1), rfl, .inl (s1 _ _ ht'), keys_kT t', by rw [List.length_map]; omega, fun zs p2 hp2 hs2 hn2 => ?_⟩
    have e12 : ys = zs := sort_uniq hs hs2 (hp.trans (kp.symm.trans hp2.symm))
    subst e12
    refine ⟨p2, _, rfl, .inl ⟨.inl (.inl upd_same), fun p3 hp3 => ?_⟩⟩
    have s3 := (same_new (o := .lst (ys.map V.str)) hn2).trans (same_new (o := .tup (ys.map V.str)) hp3)
    have h3 : (upd (upd H1 p2 (.lst (ys.map V.str))) p3 (.tup (ys.map V.str))) p3 = some (.tup (ys.map V.str)) := upd_same
    generalize upd (upd H1 p2 (.lst (ys.map V.str))) p3 (.tup (ys.map V.str)) = H3 at s3 h3
    have s03 := s1.trans s3
    have oky : ∀ y ∈ ys, OkS y := fun y hy => (ag.ks y (hp.mem_iff.mp hy)).2.2
    refine ⟨.tuple (ys.map PyData.str), .tuple (ys.map PyData.str), .tup (SqT.of (s3 _ _ h1)) (dp_strs ys), .tup (SqT.of h3) (dp_strs ys), shaped_tstrs ys oky, shaped_tstrs ys oky, _, rfl, ?_⟩
    have e1 : PyData.eqv (.tuple (ys.map PyData.str)) (.tuple (ys.map PyData.str)) = true := by
      simp only [PyData.eqv]
      exact eqv_strs ys
    rw [e1]
    refine iteF ?_
    refine ⟨.ref R, rfl, R, dx, _, rfl, s03 _ _ ag.hR, R, dx, lk, tb, hd, lg, t, rfl, s03 _ _ ag.hR, s03 _ _ ag.hT, t.length, rfl, by omega, ?_⟩
    refine ⟨.ref m, rfl, m, .ref mt, rfl, (mod_get (s03 _ _ hm)).1, mt, kT t', rfl, s03 _ _ ht', rfl, _, rfl, ?_⟩
    rw [len_kT, lt1, decide_eq_true rfl]
    refine iteF ?_
    -- the table, name by name
    refine ⟨mt, _, s03 _ _ ht', trivial, fun od => ?_⟩
    have nm : m ≠ mt := fun z => by
      rw [z, ht'] at hm
      have e : kT t' = kT (modelT mt mh ml) := by
        injection hm with hm
        injection hm
      have e2 : valV t' "table" = some (.ref mt) := by rw [← valV_kT, e, valV_kT]; rfl
      rw [ag.eq] at e2
      have mm := valV_in e2
      obtain ⟨p, hp, ep⟩ := List.mem_map.mp mm
      have v1 := val_nodup ag.nt p hp
      rw [ep, e2] at v1
      obtain ⟨y, ey, _⟩ := ag.vs p hp
      rw [ey] at v1
      cases v1
    have nRt : R ≠ mt := at_ne ag.hR ht' fun z => nomatch z
    have g : ∀ {o : HO} {b : Addr} {u : HO}, H b = some u → b ≠ mt → (upd H3 mt o) b = some u := fun e n => by
      rw [upd_ne n]
      exact s03 _ _ e
    have gR := g (o := .frz od (.dK (kT t'))) ag.hR nRt
    have gT := g (o := .frz od (.dK (kT t'))) ag.hT ag.ne
    have gM := g (o := .frz od (.dK (kT t'))) hm nm
    have gt : (upd H3 mt (.frz od (.dK (kT t')))) mt = some (.frz od (.dK (kT t'))) := upd_same
    have un : ∀ {H2}, Same (upd H3 mt (.frz od (.dK (kT t')))) H2 → Same H3 (upd H2 mt (.dK (kT t'))) := fun s => same_unlock s (s03 _ _ ht')
    generalize upd H3 mt (.frz od (.dK (kT t'))) = HL at gR gT gM gt un
    refine ⟨.ref m, rfl, m, .ref mt, rfl, (mod_get gM).1, mt, od, rfl, .inl ⟨kT t', gt, ?_⟩⟩
    refine forG (items := t'.map fun e => V.str e.1) yields_tab (fun i σ H' => Same HL H' ∧ ∃ z2, σ = [some (.ref R), some (.ref m), z2, none]) ⟨Same.refl _, none, rfl⟩ (fun i σ H' ⟨s, _⟩ => s _ _ gt) ?_ ?_
    · rintro i v σ H4 hv ⟨s4, z2, rfl⟩
      rw [List.getElem?_map] at hv
      cases hz : t'[i]? with
      | none => rw [hz] at hv; cases hv
      | some z =>
        rw [hz] at hv
        cases hv
        have hzm := List.mem_of_getElem? hz
        have v1 := val_nodup ag.nt' z hzm
        have v2 : valV t z.1 = some z.2 := by rw [← ag.eq, v1]
        obtain ⟨k1, k2, k3⟩ := ag.ks z.1 (mem_val.mpr (by rw [v2]; rfl))
        have d1 := dget_kT (.inr ⟨od, s4 _ _ gt⟩) z.1
        rw [v1] at d1
        have fz : flatN z.2 := by
          obtain ⟨p, hp, ep⟩ := List.mem_map.mp (valV_in v2)
          have v3 := val_nodup ag.nt p hp
          rw [ep, v2] at v3
          obtain ⟨y, ey, _⟩ := ag.vs p hp
          rw [Option.some.inj v3, ey]
          exact True.intro
        refine ⟨.ref R, rfl, .str z.1, rfl, R, dx, _, rfl, s4 _ _ gR, R, dx, lk, tb, hd, lg, t, z.1, z.2, rfl, s4 _ _ gR, s4 _ _ gT, k2, k3, v2, .ref m, rfl, m, .ref mt, rfl, (mod_get (s4 _ _ gM)).1, .str z.1, rfl, mt, z.2, rfl, d1, scal_flat fz fz, _, rfl, ?_⟩
        rw [decide_eq_true rfl]
        refine iteF ⟨.str z.1, rfl, .ref R, rfl, R, dx, _, rfl, s4 _ _ gR, R, dx, lk, tb, hd, lg, t, z.1, rfl, s4 _ _ gR, s4 _ _ gT, k2, k3, _, rfl, _, rfl, ?_⟩
        rw [v2]
        exact iteF ⟨s4, _, rfl⟩
    · rintro σ H4 ⟨s4, z2, rfl⟩
      refine ⟨s4 _ _ gt, ?_⟩
      have s5 := s03.trans (un s4)
      generalize upd H4 mt (.dK (kT t')) = H5 at s5
      refine ⟨.ref R, rfl, R, dx, _, rfl, s5 _ _ ag.hR, rfl, R, dx, lk, tb, hd, lg, rfl, s5 _ _ ag.hR, .ref m, rfl, m, .ref mh, rfl, (mod_get (s5 _ _ hm)).2.1, _, _, dp_head (ag.hH.keep (TupKeep.of s5)), dp_head (hh'.keep (TupKeep.of s5)), shaped_head ag.ox ag.on, shaped_head ag.ox ag.on, _, rfl, ?_⟩
      rw [eqv_head, decide_eq_true rfl]
      have fl : flatN (ledF t x n) := flat_led (fun e he => by obtain ⟨y, ey, _⟩ := ag.vs e he; rw [ey]; exact True.intro) x n
      have el : ledF t' x n = ledF t x n := led_of ag.eq x n
      refine iteF ⟨.ref R, rfl, R, dx, _, rfl, s5 _ _ ag.hR, rfl, R, dx, lk, tb, hd, lg, t, x, n, rfl, s5 _ _ ag.hR, s5 _ _ ag.hT, ag.hH.keep (TupKeep.of s5), .ref m, rfl, m, mt, mh, ml, t', lt', x, n, rfl, ag.hM.same s5, ?_⟩
      rw [el]
      refine ⟨scal_flat fl fl, _, rfl, ?_⟩
      rw [decide_eq_true rfl]
      refine iteF ?_
      refine ⟨.ref m, rfl, m, .ref ml, rfl, (mod_get (s5 _ _ hm)).2.2, ml, kT lt', lt'.map (·.1), rfl, .inl (s5 _ _ hl'), keys_kT lt', by rw [List.length_map]; omega, fun zs p4 hp4 hs4 hn4 => ⟨(by show 2 ≤ sizeLine; decide), fun p5 hp5 => ?_⟩⟩
      have lz : zs.length = lt'.length := by have := hp4.length_eq; rw [List.length_map] at this; exact this
      refine ⟨p4, p5, _, _, rfl, rfl, (same_new hp5) _ _ upd_same, upd_same, small_line (by rw [List.length_map]; show _ + 2 ≤ _; omega), fun p6 hp6 => ?_⟩
      have s6 := ((same_new (o := .lst (zs.map V.str)) hn4).trans (same_new (o := .lst [V.str "HEAD", .str "never"]) hp5)).trans (same_new (o := .lst (zs.map V.str ++ [V.str "HEAD", .str "never"])) hp6)
      have h6 : (upd (upd (upd H5 p4 (.lst (zs.map V.str))) p5 (.lst [V.str "HEAD", .str "never"])) p6 (.lst (zs.map V.str ++ [V.str "HEAD", .str "never"]))) p6 = some (.lst ((zs ++ ([("HEAD" : Str), ("never" : Str)] : List Str)).map V.str)) := by
        rw [upd_same, List.map_append]
        rfl
      generalize upd (upd (upd H5 p4 (.lst (zs.map V.str))) p5 (.lst [V.str "HEAD", .str "never"])) p6 (.lst (zs.map V.str ++ [V.str "HEAD", .str "never"])) = H6 at s6 h6
      have s06 := s5.trans s6
      refine ⟨p6, rfl, ⟨_, .inl (.inl h6)⟩, ?_⟩
      refine forG (items := (zs ++ ([("HEAD" : Str), ("never" : Str)] : List Str)).map V.str) yields_list (fun i σ H' => Same H6 H' ∧ ∃ z3, σ = [some (.ref R), some (.ref m), z2, z3]) ⟨Same.refl _, none, rfl⟩ (fun i σ H' ⟨s, _⟩ => .inl (.inl (s _ _ h6))) ?_ ?_
      · rintro i v σ H7 hv ⟨s7, z3, rfl⟩
        rw [List.getElem?_map] at hv
        cases hz : (zs ++ ([("HEAD" : Str), ("never" : Str)] : List Str))[i]? with
        | none => rw [hz] at hv; cases hv
        | some y =>
          rw [hz] at hv
          cases hv
          have hy := List.mem_of_getElem? hz
          have ok : NameOk y := by
            rcases List.mem_append.mp hy with hy | hy
            · exact ag.ls y (hp4.mem_iff.mp hy)
            · rcases List.mem_cons.mp hy with rfl | hy
              · exact ⟨.inr rfl, by decide +kernel, ok_by (by decide +kernel)⟩
              · rw [List.mem_singleton.mp hy]
                exact ⟨.inl (by decide +kernel), by decide +kernel, ok_by (by decide +kernel)⟩
          have s07 := s06.trans s7
          refine ⟨.ref R, rfl, R, dx, _, rfl, s07 _ _ ag.hR, rfl, .str y, rfl, R, dx, lk, tb, hd, lg, lt, L, y, rfl, s07 _ _ ag.hR, s07 _ _ ag.hL, ag.lo.keep (TupKeep.of s07), ok.1, ok.2.1, ok.2.2, fun D as H8 hD s8 h8 t8 => ?_⟩
          have s08 := s07.trans s8
          refine ⟨.ref m, rfl, m, .ref ml, rfl, (mod_get (s08 _ _ hm)).2.2, ml, rfl, .inl ⟨_, .inl (s08 _ _ hl')⟩, .str y, rfl, Nat.zero_le _, fun p9 hp9 => ?_⟩
          have s9 := same_new (o := .lst []) hp9
          refine ⟨valV lt' y, dget_kT (.inl (s9 _ _ (s08 _ _ hl'))) y, ?_⟩
          have h9 : (upd H8 p9 (.lst [])) p9 = some (.lst []) := upd_same
          generalize upd H8 p9 (.lst []) = H9 at s9 h9
          have s09 := s08.trans s9
          have dl : Dp K H9 ((valV lt' y).getD (.ref p9)) (.list ((L y).map entD)) := by
            rcases ag.ll y with ⟨e, l⟩ | ⟨p, bs, e, hb, tbs⟩
            · rw [e, l]
              exact dp_nil h9
            · rw [e]
              exact .lst (SqL.of (s09 _ _ hb)) (dp_ents (tbs.keep (TupKeep.of s09)) (ag.es y))
          refine ⟨_, _, .lst (SqL.of (s9 _ _ h8)) (dp_ents (t8.keep (TupKeep.of s9)) (ag.es y)), dl, shaped_ents (ag.es y), shaped_ents (ag.es y), _, rfl, ?_⟩
          have ee : PyData.eqv (.list ((L y).map entD)) (.list ((L y).map entD)) = true := by
            simp only [PyData.eqv]
            exact eqv_ents (ag.es y)
          rw [ee]
          exact iteF ⟨(s7.trans s8).trans s9, _, rfl⟩
      · rintro σ H7 ⟨s7, z3, rfl⟩
        exact q H7 (s06.trans s7)
end

end Fk

set_option maxHeartbeats 4000000
namespace Fk
open PySem PySem.Spec PyProof.Rows L2
section
variable {P : Program} {w : World} {K : PySem.W.Frag} {mg : Str → Option Value} {base : Heap} {CE CR cS cB iS iB ns r0 h0 l0 : Addr}
/-- a table whose values are texts -/
def Txts (t : Tab) : Prop := ∀ e ∈ t, ∃ y, e.2 = .str y ∧ OkS y
theorem Txts.flat {t : Tab} (h : Txts t) : ∀ e ∈ t, flatN e.2 := fun e he => by
  obtain ⟨y, ey, _⟩ := h e he
  rw [ey]
  exact True.intro
theorem Txts.nn {t : Tab} (h : Txts t) : ∀ e ∈ t, notNon e.2 = true := fun e he => by
  obtain ⟨y, ey, _⟩ := h e he
  rw [ey]
  rfl
def spBehL (K : PySem.W.Frag) : Sp := fun vs H Q _ => ∃ (m lc sg mt mh ml mh2 : Addr) (st : V) (t lt : Tab) (cs : List (Str × V × V)) (x n hx hn : Str) (L : Str → List (List V)) (n1 n2 n3 : V),
  vs = [.ref m, .ref lc, st, .ref sg] ∧ ModAt K H m mt mh ml t lt x n ∧ CallsL H lc cs ∧ H sg = some (.tup [n1, n2, n3]) ∧ Nd t ∧ Nd lt ∧ LogsL H lt L ∧ Txts t ∧ (cs.map (·.1)).Nodup ∧ (∀ c ∈ cs, flatN c.2.1 ∧ flatN c.2.2) ∧
  (∀ y ∈ t.map (·.1), y.length ≤ 1000 ∧ OkS y) ∧ (∀ y ∈ cs.map (·.1), y.length ≤ 1000 ∧ OkS y) ∧ t.length + cs.length < 64 ∧ lt.length + cs.length + 1 < 64 ∧ (∀ y, (L y).length ≤ 1000) ∧ OkS x ∧ OkS n ∧ OkS hx ∧ OkS hn ∧
  ((st = .non ∧ mh2 = mh ∧ hx = x ∧ hn = n) ∨ (st = .ref mh2 ∧ TupK K H mh2 [.str hx, .str hn])) ∧
  (∀ r, staleF t cs = some r → ∀ p H', Same H H' → H' p = some (.tup [.str "stale", .str r]) → Q (.ref p) H') ∧
  (staleF t cs = none → haveF ((lawT t cs).map (·.1)) = true → ∀ p H', Same H H' → H' p = some (.tup [.str "ref", .non]) → Q (.ref p) H') ∧
  (staleF t cs = none → haveF ((lawT t cs).map (·.1)) = false → ∀ ys, ys.Perm (cs.map (·.1)) → sortedS ys = true → ∀ m2 mt2 ml2 lt2 H', Same H H' → H m2 = none → H mt2 = none → H ml2 = none → ModAt K H' m2 mt2 mh2 ml2 (lawT t cs) lt2 hx hn → Nd lt2 → lt2.length ≤ lt.length + cs.length + 1 →
    (∀ y : Str, y ∈ lt2.map (·.1) → y ∈ lt.map (·.1) ∨ y ∈ cs.map (·.1) ∨ y = ("HEAD" : Str)) →
    LogsL H' lt2 (logsBehind L [n1, n2, n3] (movesF t cs ys) (decide ((x, n) ≠ (hx, hn)) || decide (ledF t x n ≠ ledF (lawT t cs) hx hn)) (ledF t x n) (ledF (lawT t cs) hx hn)) → Q (.ref m2) H')
theorem c_l_behind (T : Top K mg) : C8.Cal P w K mg base 2 "_law_behind" (spBehL K) [] := by
  refine cal_of T.d_l_behind sc_l_behind (fun _ _ _ _ _ _ us hl => match us, hl with | [_, _, _, _], _ => rfl) (fun vs H Q E h => ?_) (fun f cdv A outer s H vs Q E hr h => ?_)
  · obtain ⟨m, lc, sg, mt, mh, ml, mh2, st, t, lt, cs, x, n, hx, hn, L, n1, n2, n3, rfl, _⟩ := h
    rfl
  · obtain ⟨m, lc, sg, mt, mh, ml, mh2, st, t, lt, cs, x, n, hx, hn, L, n1, n2, n3, rfl, hM, ⟨as, hlc, tp⟩, hsg, nd, ndl, ll, tx, nc, fc, kt, kc, b1, b2, b3, ox, on, ohx, ohn, hst, q1, q2, q3⟩ := h
    obtain ⟨hm, ht, hh, hl⟩ := id hM
    have el : as.length = cs.length := by have := tp.1; rw [List.length_map] at this; exact this
    refine' ⟨_, (pss_cons ?q0 (pss_cons ?q1 (pss_cons ?q2 (pss_cons ?q3 (C8.pss_cut ?q4 (pss_cons ?q5 (C8.pss_cut ?q6 (pss_one ?q7)))))))), ?main⟩
    case q0 => exact (ps_for PassesOwn.never rfl (pi_list (pv 1)) (pg_tup rfl (pgs_cons (pg_name (i := 4) sc_l_behind.nd rfl (Or.inl rfl)) (pgs_cons (pg_name (i := 5) sc_l_behind.nd rfl (Or.inl rfl)) (pgs_cons (pg_name (i := 6) sc_l_behind.nd rfl (Or.inl rfl)) pgs_nil))))
      (pss_one (ps_if (PW.pt (pw_and (pt_cmpR op_ne (pv 6) pe_str (nomark _)) (pw_and1 (pt_cmpR op_ne (pe_dget1 (hu_of hr) (pe_dget (hu_of hr) (pv 0) pe_str (fun _ _ => rfl)) (pv 4) ⟨rfl, rfl, rfl, rfl⟩) (pv 6) (nomark _)))))
      (pss_one (ps_ret (pe_tup (pa_cons pe_str (pa_cons (pv 4) pa_nil)))))
      pss_nil)))
    case q1 => exact (ps_set (i := 7) sc_l_behind.nd rfl (Or.inr rfl) (pe_disp (pps_cons pe_str (pe_callTy call_dictD (by rfl) T.z_dict (by decide +kernel) (pa_cons (pe_dget (hu_of hr) (pv 0) pe_str (fun _ _ => rfl)) pa_nil)) (pps_cons pe_str (pe_dget (hu_of hr) (pv 0) pe_str (fun _ _ => rfl)) (pps_cons pe_str (pe_callTy call_dictD (by rfl) T.z_dict (by decide +kernel) (pa_cons (pe_dget (hu_of hr) (pv 0) pe_str (fun _ _ => rfl)) pa_nil)) pps_nil))) (by rfl) (by rfl) (fun z => by cases z) (by decide)))
    case q2 => exact (ps_for PassesOwn.never rfl (pi_list (pv 1)) (pg_tup rfl (pgs_cons (pg_name (i := 4) sc_l_behind.nd rfl (Or.inl rfl)) (pgs_cons (pg_name (i := 5) sc_l_behind.nd rfl (Or.inl rfl)) (pgs_cons (pg_name (i := 6) sc_l_behind.nd rfl (Or.inl rfl)) pgs_nil))))
      (pss_cons (ps_expr (pe_dpop2 (pe_dget (hu_of hr) (pv 7) pe_str (fun _ _ => rfl)) (pv 4) pe_non ⟨rfl, rfl, rfl, rfl⟩))
      (pss_one (ps_if (pt_cmpR op_notN (pv 5) pe_non (nomark _))
      (pss_one (ps_dput (hu_of hr) (pe_dget (hu_of hr) (pv 7) pe_str (fun _ _ => rfl)) (pv 4) (pv 5) rfl))
      pss_nil))))
    case q3 => exact (ps_lock (ps_for PassesOwn.never rfl (pi_keys (pe_dget (hu_of hr) (pv 7) pe_str (fun _ _ => rfl))) (pg_name (i := 4) sc_l_behind.nd rfl (Or.inl rfl))
      (pss_one (ps_if (pt_cmpR (op_neD hr.units) (pe_lc (own := [("_law_prefix", 8)]) (g := gName 8) (by rfl) sc_l_behind.nd (pi_list (C8.pe_c (c_l_above T) hr (by decide) (by rfl) (pa_cons (pv 4) pa_nil))) (blkOk_by (own := [("_law_prefix", 8)]) (N := ["_law_m", "_law_calls", "_law_stands_here", "_law_signed", "_law_ref_here", "_law_value", "_law_had", "_law_new_here", "_law_prefix", "_law_call", "_law_entry"]) (sc := C8.fnScope s_l_behind) (by decide +kernel)) (fun _ _ _ _ _ => (pg_name (i := 8) sc_l_behind.nd rfl (Or.inl rfl))) (fun _ _ _ _ _ => pts_one (pt_cmp (pc_din (hu_of hr) (pv 8) (pe_dget (hu_of hr) (pv 7) pe_str (fun _ _ => rfl))))) (fun _ _ _ _ _ => (pv 8))) (pe_lst pa_nil) (nomark _))
      (pss_one (ps_ret (pe_tup (pa_cons pe_str (pa_cons pe_non pa_nil)))))
      pss_nil))))
    case q4 => exact (ps_if (pt_cmpR op_notN (pv 2) pe_non (nomark _))
      (pss_one (ps_dput (hu_of hr) (pv 7) pe_str (pv 2) rfl))
      pss_nil)
    case q5 => exact (ps_for PassesOwn.never rfl (pi_list (pe_callB (cr_sortedS) (by rfl) T.z_sorted (by decide +kernel) (pa_cons (pe_lc (own := [("_law_call", 9)]) (g := gName 9) (by rfl) sc_l_behind.nd (pi_list (pv 1)) (blkOk_by (own := [("_law_call", 9)]) (N := ["_law_m", "_law_calls", "_law_stands_here", "_law_signed", "_law_ref_here", "_law_value", "_law_had", "_law_new_here", "_law_prefix", "_law_call", "_law_entry"]) (sc := C8.fnScope s_l_behind) (by decide +kernel)) (fun _ _ _ _ _ => (pg_name (i := 9) sc_l_behind.nd rfl (Or.inl rfl))) (fun _ _ _ _ _ => pts_nil) (fun _ _ _ _ _ => (pe_ix (ixK_tup (K := K) rfl) (pv 9) pe_int (fun _ _ => rfl)))) pa_nil))) (pg_name (i := 4) sc_l_behind.nd rfl (Or.inl rfl))
      (pss_one (ps_if (pt_cmpR op_ne (pe_dget1 (hu_of hr) (pe_dget (hu_of hr) (pv 0) pe_str (fun _ _ => rfl)) (pv 4) ⟨rfl, rfl, rfl, rfl⟩) (pe_dget1 (hu_of hr) (pe_dget (hu_of hr) (pv 7) pe_str (fun _ _ => rfl)) (pv 4) ⟨rfl, rfl, rfl, rfl⟩) (nomark _))
      (pss_cons (ps_set (i := 10) sc_l_behind.nd rfl (Or.inl rfl) (pe_op op_catA (pe_tup (pa_cons (pe_dget1 (hu_of hr) (pe_dget (hu_of hr) (pv 0) pe_str (fun _ _ => rfl)) (pv 4) ⟨rfl, rfl, rfl, rfl⟩) (pa_cons (pe_dget1 (hu_of hr) (pe_dget (hu_of hr) (pv 7) pe_str (fun _ _ => rfl)) (pv 4) ⟨rfl, rfl, rfl, rfl⟩) pa_nil))) (pv 3)))
      (pss_one (ps_dput (hu_of hr) (pe_dget (hu_of hr) (pv 7) pe_str (fun _ _ => rfl)) (pv 4) (pe_op op_cat (pe_dget2 (hu_of hr) (pe_dget (hu_of hr) (pv 7) pe_str (fun _ _ => rfl)) (pv 4) (pe_lst pa_nil) ⟨rfl, rfl, rfl, rfl⟩) (pe_lst (pa_cons (pv 10) pa_nil))) rfl)))
      pss_nil)))
    case q6 => exact (ps_if (PW.pt (pw_or (pt_cmpR (op_neD hr.units) (pe_dget (hu_of hr) (pv 7) pe_str (fun _ _ => rfl)) (pe_dget (hu_of hr) (pv 0) pe_str (fun _ _ => rfl)) (nomark _)) (pw_or1 (pt_cmpR op_ne (C8.pe_c (c_l_at_head T) hr (by decide) (by rfl) (pa_cons (pv 7) pa_nil)) (C8.pe_c (c_l_at_head T) hr (by decide) (by rfl) (pa_cons (pv 0) pa_nil)) (nomark _)))))
      (pss_cons (ps_set (i := 10) sc_l_behind.nd rfl (Or.inl rfl) (pe_op op_catA (pe_tup (pa_cons (C8.pe_c (c_l_at_head T) hr (by decide) (by rfl) (pa_cons (pv 0) pa_nil)) (pa_cons (C8.pe_c (c_l_at_head T) hr (by decide) (by rfl) (pa_cons (pv 7) pa_nil)) pa_nil))) (pv 3)))
      (pss_one (ps_dput (hu_of hr) (pe_dget (hu_of hr) (pv 7) pe_str (fun _ _ => rfl)) pe_str (pe_op op_cat (pe_dget2 (hu_of hr) (pe_dget (hu_of hr) (pv 7) pe_str (fun _ _ => rfl)) pe_str (pe_lst pa_nil) ⟨rfl, rfl, rfl, rfl⟩) (pe_lst (pa_cons (pv 10) pa_nil))) rfl)))
      pss_nil)
    case q7 => exact (ps_ret (pv 7))
    refine ⟨.ref lc, rfl, lc, rfl, ⟨_, .inl (.inl hlc)⟩, ?_⟩
    refine forG (items := (as.zip cs).map fun z => V.ref z.1) (yields_zipL el) (fun i σ H' => Same H H' ∧ (∀ d ∈ cs.take i, bad t d = false) ∧ ∃ x4 x5 x6, σ = [some (.ref m), some (.ref lc), some st, some (.ref sg), x4, x5, x6, none, none, none, none]) ⟨Same.refl H, fun d hd => (List.not_mem_nil hd).elim, none, none, none, rfl⟩ (fun i σ H' ⟨s, _⟩ => .inl (.inl (s _ _ hlc))) ?_ ?_
    · rintro i v σ H1 hv ⟨s1, g, x4, x5, x6, rfl⟩
      rw [List.getElem?_map] at hv
      cases hz : (as.zip cs)[i]? with
      | none => rw [hz] at hv; cases hv
      | some z =>
        rw [hz] at hv
        cases hv
        have hci : cs[i]? = some z.2 := (List.getElem?_zip_eq_some.mp hz).2
        have hzt : H1 z.1 = some (.tup (callL z.2)) := s1 _ _ (tups_get tp (List.mem_of_getElem? hz))
        have hcm : z.2 ∈ cs := List.mem_of_getElem? hci
        have fo := (fc z.2 hcm).2
        have fg := flat_val tx.flat z.2.1
        refine ⟨z.1, _, rfl, SqT.of hzt, rfl, _, _, rfl, _, _, rfl, _, _, rfl, rfl, ?_⟩
        have etk : cs.take (i + 1) = cs.take i ++ [z.2] := by rw [List.take_add_one, hci]; rfl
        have next : bad t z.2 = false → ∀ d ∈ cs.take (i + 1), bad t d = false := fun b d hd => by
          rw [etk] at hd
          rcases List.mem_append.mp hd with hd | hd
          · exact g d hd
          · rw [List.mem_singleton.mp hd]
            exact b
        refine ⟨z.2.2.2, rfl, scal_flat fo True.intro, _, rfl, ?_⟩
        by_cases c1 : z.2.2.2 = .str ""
        · rw [decide_eq_true c1]
          refine iteF (iteF ⟨s1, next ?_, _, _, _, rfl⟩)
          unfold bad
          rw [decide_eq_true c1]
          rfl
        · rw [decide_eq_false c1]
          refine iteT ⟨.ref m, rfl, m, .ref mt, rfl, (mod_get (s1 _ _ hm)).1, mt, rfl, .inl ⟨_, .inl (s1 _ _ ht)⟩, .str z.2.1, rfl, valV t z.2.1, dget_kT (.inl (s1 _ _ ht)) z.2.1, z.2.2.2, rfl, scal_flat fg fo, _, rfl, ?_⟩
          by_cases c2 : (valV t z.2.1).getD .non = z.2.2.2
          · rw [decide_eq_true c2]
            refine iteF ⟨s1, next ?_, _, _, _, rfl⟩
            unfold bad
            rw [decide_eq_true c2.symm]
            simp
          · rw [decide_eq_false c2]
            have hb : bad t z.2 = true := by
              unfold bad
              rw [decide_eq_false c1, decide_eq_false (fun z => c2 z.symm)]
              rfl
            exact iteT ⟨.str z.2.1, rfl, (by show 2 ≤ sizeLine; decide), fun p hp => q1 _ (stale_at hci g hb) p _ (s1.trans (same_new hp)) upd_same⟩
    · rintro σ H1 ⟨s1, g, x4, x5, x6, rfl⟩
      rw [List.length_map, List.length_zip, el, Nat.min_self, List.take_length] at g
      have sn := stale_none g
      have m1 := s1 _ _ hm
      intro m2 hm2
      have n2m : m2 ≠ m := ne_of_none' hm2 m1
      have n2t : m2 ≠ mt := ne_of_none' hm2 (s1 _ _ ht)
      have n2l : m2 ≠ ml := ne_of_none' hm2 (s1 _ _ hl)
      have sA : Same H (upd H1 m2 (.dK [])) := s1.trans (same_new hm2)
      have hA2 : (upd H1 m2 (.dK [])) m2 = some (.dK []) := upd_same
      have fm2 : H m2 = none := s1.free hm2
      generalize upd H1 m2 (.dK []) = HA at sA hA2
      refine ⟨.ref m, rfl, m, .ref mt, rfl, (mod_get (sA _ _ hm)).1, mt, kT t, rfl, .inl (sA _ _ ht), fun mt2 hmt2 => ?_⟩
      have sB := sA.trans (same_new (o := .dK (kT t)) hmt2)
      have fmt2 : H mt2 = none := sA.free hmt2
      have nt2 : mt2 ≠ m2 := ne_of_none' hmt2 hA2
      have hB2 : (upd HA mt2 (.dK (kT t))) m2 = some (.dK []) := by rw [upd_ne nt2.symm]; exact hA2
      have hBt : (upd HA mt2 (.dK (kT t))) mt2 = some (.dK (kT t)) := upd_same
      generalize upd HA mt2 (.dK (kT t)) = HB at sB hB2 hBt
      refine ⟨.ref m, rfl, m, .ref mh, rfl, (mod_get (sB _ _ hm)).2.1, .ref m, rfl, m, .ref ml, rfl, (mod_get (sB _ _ hm)).2.2, ml, kT lt, rfl, .inl (sB _ _ hl), fun ml2 hml2 => ?_⟩
      have sC := sB.trans (same_new (o := .dK (kT lt)) hml2)
      have fml2 : H ml2 = none := sB.free hml2
      have nl2 : ml2 ≠ m2 := ne_of_none' hml2 hB2
      have nlt : ml2 ≠ mt2 := ne_of_none' hml2 hBt
      have hC2 : (upd HB ml2 (.dK (kT lt))) m2 = some (.dK []) := by rw [upd_ne nl2.symm]; exact hB2
      have hCt : (upd HB ml2 (.dK (kT lt))) mt2 = some (.dK (kT t)) := by rw [upd_ne nlt.symm]; exact hBt
      have hCl : (upd HB ml2 (.dK (kT lt))) ml2 = some (.dK (kT lt)) := upd_same
      generalize upd HB ml2 (.dK (kT lt)) = HC at sC hC2 hCt hCl
      refine ⟨hC2, [(.inr "table", .ref mt2), (.inr "head", .ref mh), (.inr "logs", .ref ml2)], rfl, (by show 3 ≤ 15; decide), ?_⟩
      have em : mergeK [] [((Sum.inr "table" : Key), V.ref mt2), (.inr "head", .ref mh), (.inr "logs", .ref ml2)] = kT (modelT mt2 mh ml2) := rfl
      rw [em]
      have sD : Same H (upd HC m2 (.dK (kT (modelT mt2 mh ml2)))) := same_mut sC fm2
      have hD2 : (upd HC m2 (.dK (kT (modelT mt2 mh ml2)))) m2 = some (.dK (kT (modelT mt2 mh ml2))) := upd_same
      have hDt : (upd HC m2 (.dK (kT (modelT mt2 mh ml2)))) mt2 = some (.dK (kT t)) := by rw [upd_ne nt2]; exact hCt
      have hDl : (upd HC m2 (.dK (kT (modelT mt2 mh ml2)))) ml2 = some (.dK (kT lt)) := by rw [upd_ne nl2]; exact hCl
      generalize upd HC m2 (.dK (kT (modelT mt2 mh ml2))) = HD at sD hD2 hDt hDl
      -- the calls, one by one
      refine ⟨.ref lc, rfl, lc, rfl, ⟨_, .inl (.inl (sD _ _ hlc))⟩, ?_⟩
      refine forG (items := (as.zip cs).map fun z => V.ref z.1) (yields_zipL el) (fun i σ H' => Same H H' ∧ H' m2 = some (.dK (kT (modelT mt2 mh ml2))) ∧ H' mt2 = some (.dK (kT (lawT t (cs.take i)))) ∧ H' ml2 = some (.dK (kT lt)) ∧
        ∃ x4 x5 x6, σ = [some (.ref m), some (.ref lc), some st, some (.ref sg), x4, x5, x6, some (.ref m2), none, none, none]) ⟨sD, hD2, hDt, hDl, x4, x5, x6, rfl⟩ (fun i σ H' ⟨s, _⟩ => .inl (.inl (s _ _ hlc))) ?_ ?_
      · rintro i v σ H5 hv ⟨s5, h52, h5t, h5l, y4, y5, y6, rfl⟩
        rw [List.getElem?_map] at hv
        cases hz : (as.zip cs)[i]? with
        | none => rw [hz] at hv; cases hv
        | some z =>
          rw [hz] at hv
          cases hv
          have hci : cs[i]? = some z.2 := (List.getElem?_zip_eq_some.mp hz).2
          have hi : i < cs.length := (List.getElem?_eq_some_iff.mp hci).1
          have hzt : H5 z.1 = some (.tup (callL z.2)) := s5 _ _ (tups_get tp (List.mem_of_getElem? hz))
          have etk : lawT t (cs.take (i + 1)) = stepT (lawT t (cs.take i)) z.2 := by
            unfold lawT
            rw [List.take_add_one, hci, List.foldl_append]
            rfl
          have lu : (lawT t (cs.take i)).length ≤ 64 := by
            have := len_lawT t (cs.take i)
            rw [List.length_take] at this
            omega
          refine ⟨z.1, _, rfl, SqT.of hzt, rfl, _, _, rfl, _, _, rfl, _, _, rfl, rfl, ?_⟩
          have rest : ∀ H6, Same H H6 → H6 m2 = some (.dK (kT (modelT mt2 mh ml2))) → H6 mt2 = some (.dK (kT (dropK (lawT t (cs.take i)) z.2.1))) → H6 ml2 = some (.dK (kT lt)) →
              tIfS (tTest (tOp (fun x y H Q => y = V.non ∧ Q (V.bl !decide (x = V.non)) H) (tVar 5) (tC V.non))) (sDPut (tDGet (tVar 7) (tC (.str "table"))) (tVar 4) (tVar 5)) tNext
                { nx := fun σ H' => Same H H' ∧ H' m2 = some (.dK (kT (modelT mt2 mh ml2))) ∧ H' mt2 = some (.dK (kT (lawT t (cs.take (i + 1))))) ∧ H' ml2 = some (.dK (kT lt)) ∧ ∃ x4 x5 x6, σ = [some (.ref m), some (.ref lc), some st, some (.ref sg), x4, x5, x6, some (.ref m2), none, none, none], rt := Q }
                [some (.ref m), some (.ref lc), some st, some (.ref sg), some (.str z.2.1), some z.2.2.1, some z.2.2.2, some (.ref m2), none, none, none] H6 := fun H6 s6 h62 h6t h6l => by
            refine ⟨z.2.2.1, rfl, rfl, _, rfl, ?_⟩
            have en : (!decide (z.2.2.1 = V.non)) = notNon z.2.2.1 := by cases z.2.2.1 <;> rfl
            rw [en]
            by_cases c : notNon z.2.2.1 = true
            · rw [c]
              refine iteT ⟨z.2.2.1, rfl, .ref m2, rfl, m2, .ref mt2, rfl, (mod_get h62).1, .str z.2.1, rfl, mt2, _, rfl, .inl ⟨_, .inr z.2.1, h6t, rfl, small_lt ?_, rfl⟩, ?_⟩
              · rw [len_kT]
                have := dropK_le (lawT t (cs.take i)) z.2.1
                omega
              · rw [putK_kT]
                refine ⟨same_mut s6 fmt2, by rw [upd_ne nt2.symm]; exact h62, ?_, by rw [upd_ne nlt]; exact h6l, _, _, _, rfl⟩
                rw [upd_same, etk]
                unfold stepT
                rw [if_pos c]
            · rw [Bool.eq_false_iff.mpr c]
              refine iteF ⟨s6, h62, ?_, h6l, _, _, _, rfl⟩
              rw [h6t, etk]
              unfold stepT
              rw [if_neg c]
          refine ⟨.ref m2, rfl, m2, .ref mt2, rfl, (mod_get h52).1, mt2, rfl, .inl ⟨_, .inl h5t⟩, .str z.2.1, rfl, _, .inr z.2.1, h5t, rfl, fun v' _ => ?_, fun hv => ?_⟩
          · rw [dropK_kT]
            exact rest _ (same_mut s5 fmt2) (by rw [upd_ne nt2.symm]; exact h52) upd_same (by rw [upd_ne nlt]; exact h5l)
          · refine rest H5 s5 h52 ?_ h5l
            rw [valV_kT] at hv
            rw [dropK_no (valV_not hv)]
            exact h5t
      · rintro σ H5 ⟨s5, h52, h5t, h5l, y4, y5, y6, rfl⟩
        rw [List.length_map, List.length_zip, el, Nat.min_self, List.take_length] at h5t
        have ndn := nd_lawT nd cs
        have lun := len_lawT t cs
        have kn : ∀ y ∈ (lawT t cs).map (·.1), y.length ≤ 1000 ∧ OkS y := fun y hy => by
          have hv := mem_val.mp hy
          rw [val_lawT y cs t nc] at hv
          cases c : valV (newT cs) y with
          | none =>
            rw [c] at hv
            exact kt y (mem_val.mpr hv)
          | some v =>
            have mm := valV_in c
            unfold newT at mm
            rw [List.map_map] at mm
            exact kc y mm
        -- no name below another one
        refine ⟨mt2, _, h5t, trivial, fun od => ?_⟩
        have g2 : (upd H5 mt2 (.frz od (.dK (kT (lawT t cs))))) m2 = some (.dK (kT (modelT mt2 mh ml2))) := by rw [upd_ne nt2.symm]; exact h52
        have gt : (upd H5 mt2 (.frz od (.dK (kT (lawT t cs))))) mt2 = some (.frz od (.dK (kT (lawT t cs)))) := upd_same
        have un : ∀ {H2}, Same (upd H5 mt2 (.frz od (.dK (kT (lawT t cs))))) H2 → Same H5 (upd H2 mt2 (.dK (kT (lawT t cs)))) := fun s => same_unlock s h5t
        generalize upd H5 mt2 (.frz od (.dK (kT (lawT t cs)))) = HL at g2 gt un
        refine ⟨.ref m2, rfl, m2, .ref mt2, rfl, (mod_get g2).1, mt2, od, rfl, .inl ⟨kT (lawT t cs), gt, ?_⟩⟩
        refine forG (items := (lawT t cs).map fun e => V.str e.1) yields_tab (fun i σ H' => Same HL H' ∧ (∀ y ∈ ((lawT t cs).map (·.1)).take i, ((prefixesF y).any fun z => decide (z ∈ (lawT t cs).map (·.1))) = false) ∧ ∃ x4 x8, σ = [some (.ref m), some (.ref lc), some st, some (.ref sg), x4, y5, y6, some (.ref m2), x8, none, none])
          ⟨Same.refl _, fun y hy => (List.not_mem_nil hy).elim, y4, none, rfl⟩ (fun i σ H' ⟨s, _⟩ => s _ _ gt) ?_ ?_
        · rintro i v σ H6 hv ⟨s6, gg, z4, z8, rfl⟩
          rw [List.getElem?_map] at hv
          cases hz : (lawT t cs)[i]? with
          | none => rw [hz] at hv; cases hv
          | some e =>
            rw [hz] at hv
            cases hv
            have hek : e.1 ∈ (lawT t cs).map (·.1) := List.mem_map_of_mem (List.mem_of_getElem? hz)
            have hki : ((lawT t cs).map (·.1))[i]? = some e.1 := by rw [List.getElem?_map, hz]; rfl
            obtain ⟨k1, k2⟩ := kn e.1 hek
            refine ⟨.str e.1, rfl, e.1, rfl, k1, k2, fun PP H7 hPP s7 hP7 => ⟨PP, rfl, ⟨_, .inl (.inl hP7)⟩, fun D hD => ?_⟩⟩
            refine lc_pure (i := 8) (us := prefixesF e.1) (g := V.str) yields_list V.str (fun y => decide (y ∈ (lawT t cs).map (·.1))) hD (fun H s => .inl (.inl (s _ _ hP7))) (fun H8 y s8 hy R' r => ?_) (fun H8 y s8 hy _ R' r => ⟨_, rfl, r H8 (Same.refl H8)⟩) ?_ (fun H8 s8 h8 => ?_)
            · have s68 := (s6.trans s7).trans s8
              refine ⟨.str y, rfl, .ref m2, rfl, m2, .ref mt2, rfl, (mod_get (s68 _ _ g2)).1, mt2, _, rfl, dget_kT (.inr ⟨od, s68 _ _ gt⟩) y, _, rfl, ?_⟩
              have ed : (valV (lawT t cs) y).isSome = decide (y ∈ (lawT t cs).map (·.1)) := by
                cases c : (valV (lawT t cs) y).isSome with
                | true => rw [decide_eq_true (mem_val.mpr c)]
                | false => rw [decide_eq_false (fun z => by rw [mem_val.mp z] at c; cases c)]
              rw [ed]
              exact r H8 (Same.refl H8)
            · have := pre_len e.1 (by omega)
              omega
            · have s68 := (s6.trans s7).trans s8
              refine ⟨Nat.zero_le _, fun pe hpe => ?_⟩
              have s9 := same_new (o := .lst []) hpe
              have h9 : (upd H8 pe (.lst [])) pe = some (.lst []) := upd_same
              have hD9 := s9 _ _ h8
              generalize upd H8 pe (.lst []) = H9 at s9 h9 hD9
              have okp : ∀ y ∈ (prefixesF e.1).filter (fun y => decide (y ∈ (lawT t cs).map (·.1))), OkS y := fun y hy => ok_prefixes k2 y (List.mem_filter.mp hy).1
              refine ⟨_, _, .lst (SqL.of hD9) (dp_strs _), dp_nil h9, shaped_strs _ okp, shaped_nil, _, rfl, ?_⟩
              rw [eqv_nil]
              by_cases c : ((prefixesF e.1).any fun z => decide (z ∈ (lawT t cs).map (·.1))) = true
              · have ne : ((prefixesF e.1).filter fun y => decide (y ∈ (lawT t cs).map (·.1))).isEmpty = false := by
                  obtain ⟨y, hy, hd⟩ := List.any_eq_true.mp c
                  cases q : (prefixesF e.1).filter fun y => decide (y ∈ (lawT t cs).map (·.1)) with
                  | nil =>
                    have := (List.mem_filter (p := fun y => decide (y ∈ (lawT t cs).map (·.1)))).mpr ⟨hy, hd⟩
                    rw [q] at this
                    exact absurd this List.not_mem_nil
                  | cons a b => rfl
                rw [ne]
                refine iteT ⟨(by show 2 ≤ sizeLine; decide), fun p hp => ⟨(same_new hp) _ _ (s9 _ _ (s68 _ _ gt)), ?_⟩⟩
                have hpn : p ≠ mt2 := ne_of_none' hp (s9 _ _ (s68 _ _ gt))
                refine q2 sn ?_ p _ (s5.trans (un ((s68.trans s9).trans (same_new hp)))) (by rw [upd_ne hpn, upd_same])
                unfold haveF
                exact List.any_eq_true.mpr ⟨e.1, hek, c⟩
              · have ee : ((prefixesF e.1).filter fun y => decide (y ∈ (lawT t cs).map (·.1))) = [] := List.filter_eq_nil_iff.mpr fun y hy hd => c (List.any_eq_true.mpr ⟨y, hy, hd⟩)
                rw [ee]
                refine iteF ⟨s68.trans s9, fun y hy => ?_, _, _, rfl⟩
                rw [List.take_add_one, hki] at hy
                rcases List.mem_append.mp hy with hy | hy
                · exact gg y hy
                · rw [List.mem_singleton.mp hy]
                  exact Bool.eq_false_iff.mpr c
        · rintro σ H6 ⟨s6, gg, z4, z8, rfl⟩
          have hlen : ((lawT t cs).map fun e => V.str e.1).length = ((lawT t cs).map (·.1)).length := by rw [List.length_map, List.length_map]
          rw [hlen, List.take_length] at gg
          have hf : haveF ((lawT t cs).map (·.1)) = false := by
            unfold haveF
            exact Bool.eq_false_iff.mpr fun z => by
              obtain ⟨y, hy, hd⟩ := List.any_eq_true.mp z
              rw [gg y hy] at hd
              cases hd
          refine ⟨s6 _ _ gt, ?_⟩
          have s57 := un s6
          have h7t : (upd H6 mt2 (.dK (kT (lawT t cs)))) mt2 = some (.dK (kT (lawT t cs))) := upd_same
          generalize upd H6 mt2 (.dK (kT (lawT t cs))) = H7 at s57 h7t
          have s7 := s5.trans s57
          have h72 := s57 _ _ h52
          have h7l := s57 _ _ h5l
          have fn : ∀ e ∈ lawT t cs, flatN e.2 := flat_lawT tx.flat fun c h => (fc c h).1
          have hh2 : TupK K H mh2 [.str hx, .str hn] := by
            rcases hst with ⟨_, rfl, rfl, rfl⟩ | ⟨_, h⟩
            · exact hh
            · exact h
          refine ⟨fun σ H' => Same H H' ∧ H' m2 = some (.dK (kT (modelT mt2 mh2 ml2))) ∧ H' mt2 = some (.dK (kT (lawT t cs))) ∧ H' ml2 = some (.dK (kT lt)) ∧ σ = [some (.ref m), some (.ref lc), some st, some (.ref sg), z4, y5, y6, some (.ref m2), z8, none, none], ?_, ?_⟩
          · rcases hst with ⟨e1, e2, _, _⟩ | ⟨e1, _⟩
            · refine ⟨st, rfl, rfl, _, rfl, ?_⟩
              rw [e1, decide_eq_true rfl]
              refine iteF ⟨s7, ?_, h7t, h7l, rfl⟩
              rw [e2]
              exact h72
            · refine ⟨st, rfl, rfl, _, rfl, ?_⟩
              rw [e1, decide_eq_false (fun z => nomatch z)]
              refine iteT ⟨.ref mh2, rfl, .ref m2, rfl, m2, _, rfl, .inl ⟨_, .inr "head", h72, rfl, small_lt (by show 3 ≤ 1000000; decide), rfl⟩, ?_⟩
              rw [putK_kT]
              exact ⟨same_mut s7 fm2, upd_same, by rw [upd_ne nt2]; exact h7t, by rw [upd_ne nl2]; exact h7l, rfl⟩
          · rintro σ H8 ⟨s8, h82, h8t, h8l, rfl⟩
            refine ⟨.ref lc, rfl, lc, rfl, ⟨_, .inl (.inl (s8 _ _ hlc))⟩, fun D hD => ?_⟩
            refine lc_pure (i := 9) (us := as.zip cs) (g := fun z => V.ref z.1) (yields_zipL el) (fun z => V.str z.2.1) (fun _ => true) hD (fun H s => .inl (.inl (s _ _ (s8 _ _ hlc)))) (fun H u _ hu R r => r H (Same.refl H))
              (fun H9 u s9 hu _ R r => ⟨.ref u.1, rfl, u.1, _, 0, .str u.2.1, rfl, rfl, SqT.of (s9 _ _ (s8 _ _ (tups_get tp hu))), rfl, r H9 (Same.refl H9)⟩) (by rw [List.length_zip]; omega) (fun H9 s9 h9 => ?_)
            have ed : ((as.zip cs).filter fun _ => true).map (fun z => V.str z.2.1) = (cs.map (·.1)).map V.str := by
              rw [filt_all, show (fun z : Addr × (Str × V × V) => V.str z.2.1) = (fun c : Str × V × V => V.str c.1) ∘ Prod.snd from rfl, ← List.map_map, List.map_snd_zip (by omega), List.map_map]
              rfl
            rw [ed] at h9
            refine ⟨D, cs.map (·.1), rfl, .inl (.inl h9), by rw [List.length_map]; omega, fun ys p hp hs hnp => ?_⟩
            have nys : ys.Nodup := hp.nodup_iff.mpr nc
            have lys : ys.length = cs.length := by have := hp.length_eq; rw [List.length_map] at this; exact this
            have sA9 := s9.trans (same_new (o := .lst (ys.map V.str)) hnp)
            have hp9 : (upd H9 p (.lst (ys.map V.str))) p = some (.lst (ys.map V.str)) := upd_same
            generalize upd H9 p (.lst (ys.map V.str)) = HP at sA9 hp9
            have s0P := s8.trans sA9
            refine ⟨p, rfl, ⟨_, .inl (.inl hp9)⟩, ?_⟩
            refine forG (items := ys.map V.str) yields_list (fun i σ H' => Same H H' ∧ H' p = some (.lst (ys.map V.str)) ∧ H' m2 = some (.dK (kT (modelT mt2 mh2 ml2))) ∧ H' mt2 = some (.dK (kT (lawT t cs))) ∧ ∃ (li : Tab) (w4 w10 : Option V), H' ml2 = some (.dK (kT li)) ∧ Nd li ∧ li.length ≤ lt.length + i ∧
              (∀ y : Str, y ∈ li.map (·.1) → y ∈ lt.map (·.1) ∨ y ∈ cs.map (·.1) ∨ y = ("HEAD" : Str)) ∧ LogsL H' li (logMoves L [n1, n2, n3] (movesF t cs (ys.take i))) ∧ σ = [some (.ref m), some (.ref lc), some st, some (.ref sg), w4, y5, y6, some (.ref m2), z8, none, w10])
              ⟨s0P, hp9, sA9 _ _ h82, sA9 _ _ h8t, lt, z4, none, sA9 _ _ h8l, ndl, Nat.le_refl _, fun y h => .inl h, ll.same s0P, rfl⟩ (fun i σ H' ⟨_, h, _⟩ => .inl (.inl h)) ?_ ?_
            · rintro i v σ H5 hv ⟨s5, h5p, h52, h5t, li, w4, w10, h5l, ndi, leni, keysi, li5, rfl⟩
              rw [List.getElem?_map] at hv
              cases hz : ys[i]? with
              | none => rw [hz] at hv; cases hv
              | some y =>
                rw [hz] at hv
                cases hv
                have hi : i < ys.length := (List.getElem?_eq_some_iff.mp hz).1
                have hyc : y ∈ cs.map (·.1) := hp.mem_iff.mp (List.mem_of_getElem? hz)
                have etk : ys.take (i + 1) = ys.take i ++ [y] := by rw [List.take_add_one, hz]; rfl
                have eln := law_new_at (t := t) nc hyc
                have f1 := flat_val tx.flat y
                have f2 := flat_val fn y
                refine ⟨.ref m, rfl, m, .ref mt, rfl, (mod_get (s5 _ _ hm)).1, mt, rfl, .inl ⟨_, .inl (s5 _ _ ht)⟩, .str y, rfl, valV t y, dget_kT (.inl (s5 _ _ ht)) y, .ref m2, rfl, m2, .ref mt2, rfl, (mod_get h52).1, mt2, rfl, .inl ⟨_, .inl h5t⟩, .str y, rfl, valV (lawT t cs) y, dget_kT (.inl h5t) y, scal_flat f1 f2, _, rfl, ?_⟩
                by_cases c : (valV t y).getD .non = (valV (lawT t cs) y).getD .non
                · rw [decide_eq_true c]
                  refine iteF ⟨s5, h5p, h52, h5t, li, _, _, h5l, ndi, by omega, keysi, ?_, rfl⟩
                  rw [etk, movesF_snoc, if_pos (by rw [← eln]; exact c), List.append_nil]
                  exact li5
                · rw [decide_eq_false c]
                  refine iteT ⟨.ref m, rfl, m, .ref mt, rfl, (mod_get (s5 _ _ hm)).1, mt, rfl, .inl ⟨_, .inl (s5 _ _ ht)⟩, .str y, rfl, valV t y, dget_kT (.inl (s5 _ _ ht)) y, .ref m2, rfl, m2, .ref mt2, rfl, (mod_get h52).1, mt2, rfl, .inl ⟨_, .inl h5t⟩, .str y, rfl, valV (lawT t cs) y, dget_kT (.inl h5t) y, (by show 2 ≤ sizeLine; decide), fun p2 hp2 => ⟨.ref sg, rfl, ?_⟩⟩
                  have s6 := same_new (o := .tup [(valV t y).getD .non, (valV (lawT t cs) y).getD .non]) hp2
                  refine catA (SqT.of upd_same) (s6 _ _ (s5 _ _ hsg)) (fun z => nomatch z) (by show 2 + 3 ≤ _; decide) fun en H6 s7' h6 => ?_
                  have s56 := s6.trans s7'
                  refine log_stepL (x := y) (tk := tVar 4) (td := tDGet (tVar 7) (tC (.str "logs"))) (te := tVar 10) (s56 _ _ h5l) (li5.same s56) h6 ?_ (by omega) (fun H' Q q => ⟨_, rfl, q⟩) (fun H' Q sm q => ⟨.ref m2, rfl, m2, .ref ml2, rfl, (mod_get (sm _ _ (s56 _ _ h52))).2.2, q⟩) (fun H' Q q => ⟨_, rfl, q⟩) (fun H' pl f k l h9' ll9 => ?_)
                  · have := logMoves_len L [n1, n2, n3] y (movesF t cs (ys.take i))
                    have := movesF_len t cs (ys.take i)
                    have := b3 y
                    rw [List.length_take] at *
                    omega
                  · refine ⟨same_frl fml2 (s5.trans s56) f, l _ _ (s56 _ _ h5p), f.out (s56 _ _ h52) (not1 nl2.symm), f.out (s56 _ _ h5t) (not1 nlt.symm), _, _, _, h9', nd_put ndi _ _, ?_, ?_, ?_, rfl⟩
                    · have := len_put li y (.ref pl)
                      omega
                    · intro z hz'
                      rcases mem_keys_put hz' with h | h
                      · exact keysi z h
                      · exact .inr (.inl (by rw [h]; exact hyc))
                    · rw [etk, movesF_snoc, if_neg (by rw [← eln]; exact c), logMoves_app, ← eln]
                      exact ll9
            · rintro σ H5 ⟨s5, h5p, h52, h5t, li, w4, w10, h5l, ndi, leni, keysi, li5, rfl⟩
              rw [List.length_map, List.take_length] at li5
              rw [List.length_map] at leni
              refine ⟨fun σ H' => Same H H' ∧ H' m2 = some (.dK (kT (modelT mt2 mh2 ml2))) ∧ H' mt2 = some (.dK (kT (lawT t cs))) ∧ ∃ lt2 : Tab, H' ml2 = some (.dK (kT lt2)) ∧ Nd lt2 ∧ lt2.length ≤ lt.length + cs.length + 1 ∧ (∀ y : Str, y ∈ lt2.map (·.1) → y ∈ lt.map (·.1) ∨ y ∈ cs.map (·.1) ∨ y = ("HEAD" : Str)) ∧
                LogsL H' lt2 (logsBehind L [n1, n2, n3] (movesF t cs ys) (decide ((x, n) ≠ (hx, hn)) || decide (ledF t x n ≠ ledF (lawT t cs) hx hn)) (ledF t x n) (ledF (lawT t cs) hx hn)) ∧ σ[7]? = some (some (.ref m2)), ?_, ?_⟩
              · have modO := hM.same s5
                have modN : ModAt K H5 m2 mt2 mh2 ml2 (lawT t cs) li hx hn := ⟨h52, h5t, hh2.keep (TupKeep.of s5), h5l⟩
                have flO : flatN (ledF t x n) := flat_led tx.flat x n
                have flN : flatN (ledF (lawT t cs) hx hn) := flat_led fn hx hn
                have body : ∀ {D : Ends}, (∀ H' pl, FrL [ml2] H5 H' → TupKeep H5 H' → LstKeep H5 H' → H' ml2 = some (.dK (kT (putK li "HEAD" (.ref pl)))) → LogsL H' (putK li "HEAD" (.ref pl)) (logPut (logMoves L [n1, n2, n3] (movesF t cs ys)) "HEAD" ([ledF t x n, ledF (lawT t cs) hx hn] ++ [n1, n2, n3])) → ∀ en, D.nx [some (.ref m), some (.ref lc), some st, some (.ref sg), w4, y5, y6, some (.ref m2), z8, none, some (.ref en)] H') →
                    tSeq (tAsg (tOp (rCatA K) (tTup (tCons (tCall (spAtHd K) [] C8.E0 (tCons (tVar 0) tNil)) (tCons (tCall (spAtHd K) [] C8.E0 (tCons (tVar 7) tNil)) tNil))) (tVar 3)) (gName 10))
                      (sDPut (tDGet (tVar 7) (tC (.str "logs"))) (tC (.str "HEAD")) (tOp rCat (tDGet2 (tDGet (tVar 7) (tC (.str "logs"))) (tC (.str "HEAD")) (tLst tNil)) (tLst (tCons (tVar 10) tNil)))) D
                      [some (.ref m), some (.ref lc), some st, some (.ref sg), w4, y5, y6, some (.ref m2), z8, none, w10] H5 := fun {D} k => by
                  refine ⟨.ref m, rfl, m, mt, mh, ml, t, lt, x, n, rfl, modO, .ref m2, rfl, m2, mt2, mh2, ml2, lawT t cs, li, hx, hn, rfl, modN, (by show 2 ≤ sizeLine; decide), fun p2 hp2 => ⟨.ref sg, rfl, ?_⟩⟩
                  have s6 := same_new (o := .tup [ledF t x n, ledF (lawT t cs) hx hn]) hp2
                  refine catA (SqT.of upd_same) (s6 _ _ (s5 _ _ hsg)) (fun z => nomatch z) (by show 2 + 3 ≤ _; decide) fun en H6 s7' h6 => ?_
                  have s56 := s6.trans s7'
                  refine log_stepL (x := "HEAD") (tk := tC (.str "HEAD")) (td := tDGet (tVar 7) (tC (.str "logs"))) (te := tVar 10) (s56 _ _ h5l) (li5.same s56) h6 ?_ (by omega) (fun H' Q q => q) (fun H' Q sm q => ⟨.ref m2, rfl, m2, .ref ml2, rfl, (mod_get (sm _ _ (s56 _ _ h52))).2.2, q⟩) (fun H' Q q => ⟨_, rfl, q⟩) (fun H' pl f' k' l' h9' ll9 => k H' pl ((FrL.same s56).trans f') ((TupKeep.of s56).trans k') ((LstKeep.of s56).trans l') h9' ll9 en)
                  have := logMoves_len L [n1, n2, n3] "HEAD" (movesF t cs ys)
                  have := movesF_len t cs ys
                  have := b3 "HEAD"
                  omega
                have mid : ∀ H' pl, FrL [ml2] H5 H' → H' ml2 = some (.dK (kT (putK li "HEAD" (.ref pl)))) → Same H H' ∧ H' m2 = some (.dK (kT (modelT mt2 mh2 ml2))) ∧ H' mt2 = some (.dK (kT (lawT t cs))) ∧ (putK li "HEAD" (.ref pl)).length ≤ lt.length + cs.length + 1 ∧ (∀ y : Str, y ∈ (putK li "HEAD" (.ref pl)).map (·.1) → y ∈ lt.map (·.1) ∨ y ∈ cs.map (·.1) ∨ y = ("HEAD" : Str)) := fun H' pl f h => by
                  refine ⟨same_frl fml2 s5 f, f.out h52 (not1 nl2.symm), f.out h5t (not1 nlt.symm), ?_, fun y hy => ?_⟩
                  · have := len_put li "HEAD" (.ref pl)
                    omega
                  · rcases mem_keys_put hy with h | h
                    · exact keysi y h
                    · exact .inr (.inr h)
                refine ⟨.ref m2, rfl, m2, .ref mh2, rfl, (mod_get h52).2.1, .ref m, rfl, m, .ref mh, rfl, (mod_get (s5 _ _ hm)).2.1, _, _, dp_head (hh2.keep (TupKeep.of s5)), dp_head (hh.keep (TupKeep.of s5)), shaped_head ohx ohn, shaped_head ox on, _, rfl, ?_⟩
                rw [eqv_head, ← decide_not]
                by_cases c1 : ¬ (x, n) = (hx, hn)
                · rw [decide_eq_true c1]
                  refine iteT (body fun H' pl f k l h ll9 en => ?_)
                  obtain ⟨a1, a2, a3, a4, a5⟩ := mid H' pl f h
                  exact ⟨a1, a2, a3, _, h, nd_put ndi _ _, a4, a5, ll9, rfl⟩
                · rw [decide_eq_false c1]
                  refine iteF ⟨.ref m2, rfl, m2, mt2, mh2, ml2, lawT t cs, li, hx, hn, rfl, modN, .ref m, rfl, m, mt, mh, ml, t, lt, x, n, rfl, modO, scal_flat flN flO, _, rfl, ?_⟩
                  by_cases c2 : ¬ ledF t x n = ledF (lawT t cs) hx hn
                  · rw [decide_eq_false (fun z : ledF (lawT t cs) hx hn = ledF t x n => c2 z.symm), decide_eq_true (show ledF t x n ≠ ledF (lawT t cs) hx hn from c2)]
                    refine iteT (body fun H' pl f k l h ll9 en => ?_)
                    obtain ⟨a1, a2, a3, a4, a5⟩ := mid H' pl f h
                    exact ⟨a1, a2, a3, _, h, nd_put ndi _ _, a4, a5, ll9, rfl⟩
                  · rw [decide_eq_true (Decidable.not_not.mp c2).symm, decide_eq_false (show ¬ ledF t x n ≠ ledF (lawT t cs) hx hn from c2)]
                    exact iteF ⟨s5, h52, h5t, li, h5l, ndi, by omega, keysi, li5, rfl⟩
              · rintro σ H6 ⟨s6, h62, h6t, lt2, h6l, nd2, len2, keys2, ll6, a7⟩
                exact ⟨.ref m2, a7, q3 sn hf ys hp hs m2 mt2 ml2 lt2 H6 s6 fm2 fmt2 fml2 ⟨h62, h6t, hh2.keep (TupKeep.of s6), h6l⟩ nd2 len2 keys2 ll6⟩
end

end Fk

set_option maxHeartbeats 4000000
namespace Fk
open PySem PySem.Spec PyProof.Rows L2
section
variable {P : Program} {w : World} {K : PySem.W.Frag} {mg : Str → Option Value} {base : Heap} {CE CR cS cB iS iB ns r0 h0 l0 : Addr}
theorem xf_of {C fI : Addr} (T : XC K C fI) : XfC K C := ⟨T.ga, T.gg, T.su, T.hd⟩
def spFinished (K : PySem.W.Frag) (CE CR : Addr) : Sp := fun vs H Q _ => ∃ (e ex R nt cl dx lk tb hd lg hd2 : Addr) (nh : V) (t lt : Tab) (cs : List (Str × V × V)) (L : Str → List (List V)) (ox on hx hn : Str) (n1 n2 n3 : V), vs = [.ref e] ∧ Ready CE CR H e ex R nt cl dx lk tb hd lg nh t lt cs ∧ Stand K H nh hd hd2 ox on hx hn ∧ LogsOk H lt L ∧ H nt = some (.tup [n1, n2, n3]) ∧ (∀ x, (L x).length ≤ 1000) ∧
  (∀ x, staleF t cs = some x → ∀ p H', Same H H' → H' p = some (.tup [.str "stale", .str x]) → Q (.ref p) H') ∧
  (staleF t cs = none → ∀ ys, ys.Perm (cs.map (·.1)) → sortedS ys = true → haveF ((afterT t (movesF t cs ys)).map (·.1)) = true → ∀ p H', Same H H' → H' p = some (.tup [.str "ref", .non]) → Q (.ref p) H') ∧
  (staleF t cs = none → ∀ ys, ys.Perm (cs.map (·.1)) → sortedS ys = true → haveF ((afterT t (movesF t cs ys)).map (·.1)) = false → ∀ tb' lg' u' lu' H', FrL [R, e] H H' → TupKeep H H' → H' R = some (.ins CR dx (rf lk tb' hd2 lg')) → H' e = some (.ins CE ex (ef R nt cl nh true)) → H' tb' = some (.dK (kT u')) → SortOf (afterT t (movesF t cs ys)) u' →
    H' lg' = some (.dK (kT lu')) → Nd lu' → lu'.length ≤ lt.length + cs.length + 1 → LogsOk H' lu' (logsNew t L [n1, n2, n3] (movesF t cs ys) ox on hx hn) → H tb' = none → H lg' = none → Q .non H')
theorem c_l_finished (T : TopR K mg CE CR cS cB iS iB ns r0 h0 l0) : C8.Cal P w K mg base 8 "_law_finished" (spFinished K CE CR) [] := by
  refine cal_of T.d_l_finished sc_l_finished (fun _ _ _ _ _ _ us hl => match us, hl with | [_], _ => rfl) (fun vs H Q E h => ?_) (fun f cdv A outer s H vs Q E hr h => ?_)
  · obtain ⟨e, ex, R, nt, cl, dx, lk, tb, hd, lg, hd2, nh, t, lt, cs, L, ox, on, hx, hn, n1, n2, n3, rfl, _⟩ := h
    rfl
  · obtain ⟨e, ex, R, nt, cl, dx, lk, tb, hd, lg, hd2, nh, t, lt, cs, L, ox, on, hx, hn, n1, n2, n3, rfl, rd, hst, hL, hnt, b3, q1, q2, q3⟩ := h
    refine' ⟨_, (pss_cons (ps_tryA rfl rfl takes_none5 (fun W pn xe tk _ => ?B) (HdA.as (i := 1) sc_l_finished.nd rfl rfl ⟨rfl, by decide, .inl T.eS.mgc⟩ (fun a oe cls d pn hz hf => ?S) (HdA.cons ⟨rfl, by decide, .inl T.eB.mgc⟩ (fun a oe cls d pn hz hf => ?S2) HdA.nil))) (pss_one (ps_ret pe_non))), ?_⟩
    case B => exact (pss_one (ps_expr (pe_mx0 (m_Edit_finish T) hr (by decide) (fun _ => passAt tk _) (pv 0))))
    case S => exact (pss_one (ps_ret (pe_tup (pa_cons pe_str (pa_cons (pe_xf (xf_of T.eS.xc) T.eS.nf hz hf (pv 1)) pa_nil)))))
    case S2 => exact (pss_one (ps_ret (pe_tup (pa_cons pe_str (pa_cons pe_non pa_nil)))))
    obtain ⟨he, hR, ht, nd, hl, nl, b1, b2, hc, nc, ft, fc, kt, kc⟩ := id rd
    refine ⟨.ref e, rfl, e, ex, _, rfl, he, rfl, e, ex, R, nt, cl, dx, lk, tb, hd, lg, hd2, nh, t, lt, cs, L, ox, on, hx, hn, n1, n2, n3, rfl, rd, hst, hL, hnt, b3, fun x hx d H' s hd => ?_, fun sn ys hp hs hv d H' s => ?_, fun sn ys hp hs hv tb' lg' u' lu' H' f k h1 h2 h3 so h4 nd' len lk' n1' n2' => ?_⟩
    · exact ⟨true, T.exSS, fun _ a na => ⟨.ref a, rfl, rfl, rfl, d, _, _, rfl, hd, rfl, (by show 2 ≤ sizeLine; decide), fun p hp => q1 x hx p _ (s.trans (same_new hp)) upd_same⟩, fun z => Bool.noConfusion z⟩
    · exact ⟨false, T.exBS, fun z => Bool.noConfusion z, fun _ => ⟨true, T.exBB, fun _ a na => ⟨(by show 2 ≤ sizeLine; decide), fun p hp2 => q2 sn ys hp hs hv p _ (s.trans (same_new hp2)) upd_same⟩, fun z => Bool.noConfusion z⟩⟩
    · exact q3 sn ys hp hs hv tb' lg' u' lu' H' f k h1 h2 h3 so h4 nd' len lk' n1' n2'
end

end Fk

set_option maxHeartbeats 4000000
/-! Frames one after the other; logs that stay; references and a model that agree, moved to another heap. -/
namespace Fk
open PySem PySem.Spec PyProof.Rows L2
theorem FrL.then {L M : List Addr} {H H1 H2 : Hp} (f : FrL L H H1) (g : FrL M H1 H2) (h : ∀ b ∈ M, b ∈ L ∨ H b = none) : FrL L H H2 := fun b o n e =>
  g b o (fun hm => (h b hm).elim n (fun z => by rw [e] at z; cases z)) (f b o n e)
theorem FrL.then1 {L : List Addr} {a : Addr} {H H1 H2 : Hp} (f : FrL L H H1) (g : FrL [a] H1 H2) (h : a ∈ L ∨ H a = none) : FrL L H H2 := f.then g fun b hb => by rw [List.mem_singleton.mp hb]; exact h
theorem FrL.free {L : List Addr} {H H1 : Hp} (f : FrL L H H1) {b : Addr} (n : b ∉ L) (e : H1 b = none) : H b = none := by
  cases c : H b with
  | none => rfl
  | some o => rw [f b o n c] at e; cases e
theorem val_mem {t : Tab} {x : Str} {v : V} (h : valV t x = some v) : (x, v) ∈ t := by
  unfold valV at h
  cases c : t.find? fun kv => decide (kv.1 = x) with
  | none => rw [c] at h; cases h
  | some p =>
    rw [c] at h
    have m := List.mem_of_find?_eq_some c
    have e : p.1 = x := by have := List.find?_some (p := fun kv : Str × V => decide (kv.1 = x)) c; exact of_decide_eq_true this
    obtain ⟨a, b⟩ := p
    cases h
    cases e
    exact m
theorem Tups.cons {H : Hp} {a : Addr} {as : List Addr} {l : List V} {ls : List (List V)} (h : H a = some (.tup l)) (t : Tups H as ls) : Tups H (a :: as) (l :: ls) := by
  refine ⟨by rw [List.length_cons, List.length_cons, t.1], fun i b m h1 h2 => ?_⟩
  cases i with
  | zero => cases h1; cases h2; exact h
  | succ j => exact t.2 j b m h1 h2
theorem Tups.head {H : Hp} {a : Addr} {as : List Addr} {l : List V} {ls : List (List V)} (t : Tups H (a :: as) (l :: ls)) : H a = some (.tup l) := t.2 0 a l rfl rfl
theorem Tups.tail {H : Hp} {a : Addr} {as : List Addr} {l : List V} {ls : List (List V)} (t : Tups H (a :: as) (l :: ls)) : Tups H as ls := ⟨by have := t.1; rw [List.length_cons, List.length_cons] at this; omega, fun i b m h1 h2 => t.2 (i + 1) b m h1 h2⟩
theorem tups_filter {α : Type} {H : Hp} (f : α → List V) (p : α → Bool) : ∀ (cs : List α) (as : List Addr), Tups H as (cs.map f) → ∃ bs : List Addr, ((as.zip cs).filter fun z => p z.2).map (fun z => V.ref z.1) = bs.map V.ref ∧ Tups H bs ((cs.filter p).map f)
  | [], as, _ => ⟨[], by rw [List.zip_nil_right]; rfl, Tups.nil⟩
  | c :: cs, [], t => absurd t.1 (by simp)
  | c :: cs, a :: as, t => by
    obtain ⟨bs, e, tb⟩ := tups_filter f p cs as t.tail
    rw [List.zip_cons_cons, List.filter_cons, List.filter_cons]
    by_cases h : p c = true
    · refine ⟨a :: bs, ?_, ?_⟩
      · rw [if_pos h, List.map_cons, List.map_cons, e]
      · rw [if_pos h, List.map_cons]
        exact Tups.cons t.head tb
    · refine ⟨bs, ?_, ?_⟩
      · rw [if_neg h, e]
      · rw [if_neg h]
        exact tb
theorem int_refs {x y z : Int} {as : List Addr} : ([V.int x, .int y, .int z] : List V) ≠ as.map V.ref := fun h => by
  cases as with
  | nil => cases h
  | cons b r => injection h with h _; cases h
theorem LogsL.out {H H' : Hp} {t : Tab} {L : Str → List (List V)} {M : List Addr} (h : LogsL H t L) (k : TupKeep H H') (f : FrL M H H') (n : ∀ b ∈ M, ∀ as : List Addr, H b ≠ some (.lst (as.map V.ref))) : LogsL H' t L := fun x =>
  (h x).imp id fun ⟨p, as, a, b, c⟩ => ⟨p, as, a, f p _ (fun hm => n p hm as b) b, c.keep k⟩
theorem CallsL.out {H H' : Hp} {lc : Addr} {cs : List (Str × V × V)} {M : List Addr} (h : CallsL H lc cs) (k : TupKeep H H') (f : FrL M H H') (n : lc ∉ M) : CallsL H' lc cs := by
  obtain ⟨as, a, b⟩ := h
  exact ⟨as, f lc _ n a, b.keep k⟩
theorem CallsL.same {H H' : Hp} {lc : Addr} {cs : List (Str × V × V)} (h : CallsL H lc cs) (s : Same H H') : CallsL H' lc cs := by
  obtain ⟨as, a, b⟩ := h
  exact ⟨as, s _ _ a, b.keep (TupKeep.of s)⟩
theorem callPut_nd {cs : List (Str × V × V)} {x : Str} {v o : V} (h : (cs.map (·.1)).Nodup) : ((callPut cs x v o).map (·.1)).Nodup := by
  unfold callPut
  rw [List.map_append, List.nodup_append]
  refine ⟨List.Nodup.sublist ((List.filter_sublist).map _) h, by simp, fun a ha b hb => ?_⟩
  obtain ⟨c, hc, rfl⟩ := List.mem_map.mp ha
  have := of_decide_eq_true (List.mem_filter.mp hc).2
  simp at hb
  rw [hb]
  exact this
theorem callPut_len (cs : List (Str × V × V)) (x : Str) (v o : V) : (callPut cs x v o).length ≤ cs.length + 1 := by
  unfold callPut
  rw [List.length_append]
  have := List.length_filter_le (fun c : Str × V × V => decide (c.1 ≠ x)) cs
  show _ + 1 ≤ _
  omega
theorem mem_callPut {cs : List (Str × V × V)} {x : Str} {v o : V} {c : Str × V × V} (h : c ∈ callPut cs x v o) : c ∈ cs ∨ c = (x, v, o) := by
  rcases List.mem_append.mp h with h | h
  · exact .inl (List.mem_filter.mp h).1
  · exact .inr (List.mem_singleton.mp h)
end Fk

set_option maxHeartbeats 4000000
namespace Fk
open PySem PySem.Spec PyProof.Rows L2
/-! ### what an edit is told -/
theorem Wm.ne {H : Hp} {a b : Addr} {c : Int} {o : HO} (h : Wm H a c) (e : H b = some o) (n : ∀ l, o ≠ .lst l) : b ≠ a := fun z => by
  obtain ⟨_, _, _, _, _, h⟩ := h
  rw [z, h] at e
  cases e
  exact n _ rfl
theorem sub_a {a b c d : Addr} : ∀ x ∈ [a], x ∈ [a, b, c, d] := fun x hx => by rw [List.mem_singleton.mp hx]; exact List.mem_cons_self
theorem sub_cd {a b c d : Addr} : ∀ x ∈ [c, d], x ∈ [a, b, c, d] := fun x hx => List.mem_cons_of_mem _ (List.mem_cons_of_mem _ hx)
theorem sub_cb {a b c d : Addr} : ∀ x ∈ [c, b], x ∈ [a, b, c, d] := fun x hx => by
  simp only [List.mem_cons, List.not_mem_nil, or_false] at hx ⊢
  rcases hx with rfl | rfl <;> simp
theorem nin4 {a b c d x : Addr} (h1 : x ≠ a) (h2 : x ≠ b) (h3 : x ≠ c) (h4 : x ≠ d) : x ∉ [a, b, c, d] := fun h => by
  simp only [List.mem_cons, List.not_mem_nil, or_false] at h
  rcases h with rfl | rfl | rfl | rfl <;> contradiction
theorem not4 {a b c d x : Addr} (h1 : x ≠ a) (h2 : x ≠ b) (h3 : x ≠ c) (h4 : x ≠ d) : ∀ y ∈ [a, b, c, d], x ≠ y := fun y hy => by
  simp only [List.mem_cons, List.not_mem_nil, or_false] at hy
  rcases hy with rfl | rfl | rfl | rfl <;> assumption
def GoodV (v : V) : Prop := v = .non ∨ ∃ y ∈ IDS, v = .str y
def GoodC (cs : List (Str × V × V)) : Prop := (cs.map (·.1)).Nodup ∧ ∀ c ∈ cs, c.1 ∈ REFS ∧ GoodV c.2.1 ∧ HadOk c.2.2
theorem GoodV.had {v : V} (h : GoodV v) : HadOk v := by
  rcases h with rfl | ⟨y, hy, rfl⟩
  · exact .inl rfl
  · obtain ⟨a, b, c⟩ := ids_ok y hy
    exact .inr (.inr ⟨y, rfl, a, b, c⟩)
theorem GoodV.flat {v : V} (h : GoodV v) : flatN v := by
  rcases h with rfl | ⟨y, hy, rfl⟩ <;> exact True.intro
theorem had_flat {v : V} (h : HadOk v) : flatN v := by
  rcases h with rfl | rfl | ⟨y, rfl, _⟩ <;> exact True.intro
theorem good_nil : GoodC [] := ⟨List.nodup_nil, fun _ h => (List.not_mem_nil h).elim⟩
theorem good_put {cs : List (Str × V × V)} {x : Str} {v o : V} (g : GoodC cs) (hx : x ∈ REFS) (hv : GoodV v) (ho : HadOk o) : GoodC (callPut cs x v o) :=
  ⟨callPut_nd g.1, fun c hc => (mem_callPut hc).elim (g.2 c) fun e => by rw [e]; exact ⟨hx, hv, ho⟩⟩
def StandAt (H : Hp) (st nh : V) : Prop := (st = .non ∧ nh = .non) ∨ ∃ (sp hp : Addr) (hx hn : Str), st = .ref sp ∧ nh = .ref hp ∧ H sp = some (.tup [.str hx, .str hn]) ∧ H hp = some (.tup [.str hx, .str hn]) ∧ HeadOk hx hn
theorem StandAt.keep {H H' : Hp} {st nh : V} (h : StandAt H st nh) (k : TupKeep H H') : StandAt H' st nh := h.imp id fun ⟨sp, hp, hx, hn, a, b, c, d, e⟩ => ⟨sp, hp, hx, hn, a, b, k _ _ c, k _ _ d, e⟩
def IdsT (t : Tab) : Prop := ∀ e ∈ t, ∃ y ∈ IDS, e.2 = .str y
theorem ids_val {t : Tab} (h : IdsT t) (x : Str) : GoodV ((valV t x).getD .non) := by
  cases c : valV t x with
  | none => exact .inl rfl
  | some v =>
    obtain ⟨y, hy, e⟩ := h _ (val_mem c)
    exact .inr ⟨y, hy, e⟩
section
variable {P : Program} {w : World} {K : PySem.W.Frag} {mg : Str → Option Value} {base : Heap} {CE CR cS cB iS iB ns r0 h0 l0 : Addr}
def spNoted (CE CR : Addr) : Sp := fun vs H Q _ => ∃ (a e m ex R nt cl dx lk tb hd lg mt mh ml : Addr) (t' : Tab) (c : Int) (n : Nat), vs = [.ref a, .ref e, .ref m] ∧ Wm H a c ∧ c < 2 ^ 39 ∧ H e = some (.ins CE ex (ef R nt cl .non false)) ∧ H R = some (.ins CR dx (rf lk tb hd lg)) ∧ LocksAt H CE lk e n ∧ n + 4 < 64 ∧ H cl = some (.dK []) ∧
  H m = some (.dK (kT (modelT mt mh ml))) ∧ H mt = some (.dK (kT t')) ∧ m ≠ cl ∧ mt ≠ cl ∧ IdsT t' ∧
  ∀ p lc st nh lk' cs c' H', FrL [a, e, R, cl] H H' → TupKeep H H' → Wm H' a c' → c ≤ c' → c' ≤ c + 25 → H' p = some (.tup [.ref lc, st]) → CallsL H' lc cs → H lc = none → CallsAt H' cl cs → GoodC cs → cs.length ≤ 4 → StandAt H' st nh →
    H' e = some (.ins CE ex (ef R nt cl nh false)) → H' R = some (.ins CR dx (rf lk' tb hd lg)) → LocksAt H' CE lk' e (n + 4) → Q (.ref p) H'
theorem c_l_noted (T : TopR K mg CE CR cS cB iS iB ns r0 h0 l0) : C8.Cal P w K mg base 6 "_law_noted" (spNoted CE CR) [] := by
  refine cal_of T.d_l_noted sc_l_noted (fun _ _ _ _ _ _ us hl => match us, hl with | [_, _, _], _ => rfl) (fun vs H Q E h => ?_) (fun f cdv A outer s H vs Q E hr h => ?_)
  · obtain ⟨a, e, m, ex, R, nt, cl, dx, lk, tb, hd, lg, mt, mh, ml, t', c, n, rfl, _⟩ := h
    rfl
  · obtain ⟨a, e, m, ex, R, nt, cl, dx, lk, tb, hd, lg, mt, mh, ml, t', c, n, rfl, hw, hc, he, hR, hk, hn, hcl, hm, ht, nmc, ntc, it, q⟩ := h
    refine' ⟨_, (pss_cons ?q0 (pss_cons ?q1 (pss_one ?q2))), ?main⟩
    case q0 => exact (ps_par (i := 3) (j := 4) rfl sc_l_noted.nd rfl rfl (by decide) rfl rfl (pa_cons (pe_lst pa_nil) (pa_cons pe_non pa_nil)) rfl)
    case q1 => exact (ps_for PassesOwn.never rfl (pi_range1 (by rfl) T.z_range (pa_cons (C8.pe_c (c_l_draw T.toTop) hr (by decide) (by rfl) (pa_cons (pv 0) (pa_cons pe_int pa_nil))) pa_nil)) (pg_name (i := 5) sc_l_noted.nd rfl (Or.inl rfl))
      (pss_cons (ps_asg (pe_tup (pa_cons (C8.pe_c (c_l_draw T.toTop) hr (by decide) (by rfl) (pa_cons (pv 0) (pa_cons pe_int pa_nil))) (pa_cons (C8.pe_c (c_l_ref T.toTop) hr (by decide) (by rfl) (pa_cons (pv 0) pa_nil)) pa_nil))) (pg_tup rfl (pgs_cons (pg_name (i := 6) sc_l_noted.nd rfl (Or.inr rfl)) (pgs_cons (pg_name (i := 7) sc_l_noted.nd rfl (Or.inr rfl)) pgs_nil))))
      (pss_cons (ps_set (i := 8) sc_l_noted.nd rfl (Or.inl rfl) (C8.pe_c (c_l_pick T.toTop) hr (by decide) (by rfl) (pa_cons (pv 0) (pa_cons (pe_lst (pa_cons pe_str (pa_cons pe_str (pa_cons pe_str (pa_cons (pe_dget1 (hu_of hr) (pe_dget (hu_of hr) (pv 2) pe_str (fun _ _ => rfl)) (pv 7) ⟨rfl, rfl, rfl, rfl⟩) (pa_cons pe_non (pa_cons (C8.pe_c (c_l_id T.toTop) hr (by decide) (by rfl) (pa_cons (pv 0) pa_nil)) pa_nil))))))) pa_nil))))
      (pss_cons (ps_setLc (i := 3) (own := [("_law_call", 9)]) (g := gName 9) (by rfl) sc_l_noted.nd rfl rfl (sw_true rfl rfl rfl (by decide +kernel)) (pi_list (pv 3)) (blkOk_by (own := [("_law_call", 9)]) (N := ["_law_source_here", "_law_edit", "_law_m", "_law_calls", "_law_stands_here", "_law_k", "_law_way", "_law_ref_here", "_law_had", "_law_call"]) (sc := C8.fnScope s_l_noted) (by decide +kernel)) (fun _ _ _ _ _ => (pg_name (i := 9) sc_l_noted.nd rfl (Or.inl rfl))) (fun _ _ _ _ _ => pts_one (PW.pt (pw_or (pt_cmpR op_ne (pe_ix (ixK_tup (K := K) rfl) (pv 9) pe_int (fun _ _ => rfl)) (pv 7) (nomark _)) (pw_or1 (pt_cmpR op_eq (pv 6) pe_int (nomark _)))))) (fun _ _ _ _ _ => (pv 9)))
      (pss_one (ps_if (pt_cmpR op_lt (pv 6) pe_int (nomark _))
      (pss_cons (ps_expr (pe_bm PySem.F.plainAttrs_list PySem.F.slot_list_append PySem.F.type_list_append mt_append (pv 3) (pa_cons (pe_tup (pa_cons (pv 7) (pa_cons (C8.pe_c (c_l_id T.toTop) hr (by decide) (by rfl) (pa_cons (pv 0) pa_nil)) (pa_cons (pv 8) pa_nil)))) pa_nil)))
      (pss_one (ps_expr (pe_mtK (m_Edit_point T) hr (by decide) (pv 1) (pa_cons (pv 7) (pa_cons (pe_ix ix_tup (pe_ix ix_list (pv 3) (pe_un un_neg pe_int) (fun _ _ => rfl)) pe_int (fun _ _ => rfl)) pa_nil)) (pk_cons (pv 8) pk_nil)))))
      (pss_one (ps_if (pt_cmpR op_eq (pv 6) pe_int (nomark _))
      (pss_cons (ps_expr (pe_bm PySem.F.plainAttrs_list PySem.F.slot_list_append PySem.F.type_list_append mt_append (pv 3) (pa_cons (pe_tup (pa_cons (pv 7) (pa_cons pe_non (pa_cons (pv 8) pa_nil)))) pa_nil)))
      (pss_one (ps_expr (pe_mtK (m_Edit_delete T) hr (by decide) (pv 1) (pa_cons (pv 7) pa_nil) (pk_cons (pv 8) pk_nil)))))
      (pss_cons (ps_set (i := 4) sc_l_noted.nd rfl (Or.inl rfl) (C8.pe_c (c_l_pick T.toTop) hr (by decide) (by rfl) (pa_cons (pv 0) (pa_cons (pe_lst (pa_cons (pe_tup (pa_cons pe_str (pa_cons (pv 7) pa_nil))) (pa_cons (pe_tup (pa_cons pe_str (pa_cons (C8.pe_c (c_l_id T.toTop) hr (by decide) (by rfl) (pa_cons (pv 0) pa_nil)) pa_nil))) pa_nil))) pa_nil))))
      (pss_one (ps_expr (C8.pe_mt (m_Edit_stand T) hr (by decide) (pv 1) (pa_cons (pe_ix ix_tup (pv 4) pe_int (fun _ _ => rfl)) (pa_cons (pe_ix ix_tup (pv 4) pe_int (fun _ _ => rfl)) pa_nil))))))))))))))
    case q2 => exact (ps_ret (pe_tup (pa_cons (pv 3) (pa_cons (pv 4) pa_nil))))
    refine ⟨(by show 0 ≤ sizeLine; decide), fun l0' hl0 => ⟨_, _, rfl, ?_⟩⟩
    have s02 := same_new (o := .lst []) hl0
    have h1 := upd_same (H := H) (a := l0') (o := .lst [])
    generalize upd H l0' (.lst []) = H2 at s02 h1
    refine ⟨.ref a, rfl, a, 5, c, rfl, hw.same s02, by decide, by decide, by omega, fun r hr0 hr1 H3 c3 f3 k3 w3 hc1 hc2 => ?_⟩
    refine ⟨r, rfl, by omega, by omega, ?_⟩
    refine forG (items := (List.range r.toNat).map fun (i : Nat) => V.int (0 + (i : Int))) yields_range (fun i σ H' => FrL [a, e, R, cl] H H' ∧ TupKeep H H' ∧ ∃ (lc lk' : Addr) (st nh : V) (cs : List (Str × V × V)) (c' : Int) (x5 x6 x7 x8 : Option V), Wm H' a c' ∧ c ≤ c' ∧ c' ≤ c + 1 + 6 * i ∧ CallsL H' lc cs ∧ H lc = none ∧ CallsAt H' cl cs ∧ GoodC cs ∧ cs.length ≤ i ∧ StandAt H' st nh ∧
      H' e = some (.ins CE ex (ef R nt cl nh false)) ∧ H' R = some (.ins CR dx (rf lk' tb hd lg)) ∧ LocksAt H' CE lk' e (n + i) ∧ σ = [some (.ref a), some (.ref e), some (.ref m), some (.ref lc), some st, x5, x6, x7, x8, none]) ?_ (fun _ _ _ _ => True.intro) ?_ ?_
    · have nae : e ≠ a := fun z => by
        obtain ⟨_, _, _, _, _, h⟩ := hw
        rw [z, h] at he
        cases he
      have naR : R ≠ a := fun z => by
        obtain ⟨_, _, _, _, _, h⟩ := hw
        rw [z, h] at hR
        cases hR
      have nac : cl ≠ a := fun z => by
        obtain ⟨_, _, _, _, _, h⟩ := hw
        rw [z, h] at hcl
        cases hcl
      have nal : l0' ≠ a := fun z => by
        obtain ⟨_, _, _, _, _, h⟩ := hw
        rw [z, h] at hl0
        cases hl0
      have k03 := (TupKeep.of s02).trans k3
      refine ⟨((FrL.same s02).trans f3).mono fun b hb => by rw [List.mem_singleton.mp hb]; exact List.mem_cons_self, k03, l0', lk, .non, .non, [], c3, none, none, none, none, w3, hc1, by omega, ⟨[], f3.out h1 (not1 nal), Tups.nil⟩, hl0, ⟨[], rfl, f3.out (s02 _ _ hcl) (not1 nac), fun z hz => (List.not_mem_nil hz).elim⟩, good_nil, Nat.le_refl _, .inl ⟨rfl, rfl⟩, f3.out (s02 _ _ he) (not1 nae), f3.out (s02 _ _ hR) (not1 naR), ?_, rfl⟩
      exact (hk.same s02).keep (fun o eo => f3.out eo (not1 (fun z => by
        obtain ⟨_, _, _, _, _, h⟩ := hw.same s02
        obtain ⟨kt, h', _⟩ := hk.same s02
        rw [z, h] at h'
        cases h'))) fun b db fb eb cb => f3.out eb (not1 (fun z => by
        obtain ⟨_, _, _, _, _, h⟩ := hw.same s02
        rw [z, h] at eb
        cases eb))
    · rintro i v σ H4 hv ⟨f4, k4, lc, lk4, st, nh, cs, c4, x5, x6, x7, x8, w4, hc41, hc42, hl4, hl0, hcl4, g4, len4, st4, he4, hR4, hk4, rfl⟩
      rw [List.getElem?_map] at hv
      cases hz : (List.range r.toNat)[i]? with
      | none => rw [hz] at hv; cases hv
      | some i' =>
        rw [hz] at hv
        cases hv
        have hi : i < r.toNat := by have := (List.getElem?_eq_some_iff.mp hz).1; rwa [List.length_range] at this
        have hm4 := f4.out hm (not4 (hw.ne hm fun _ z => nomatch z) (at_ne hm he fun z => nomatch z) (at_ne hm hR fun z => nomatch z) nmc)
        have ht4 := f4.out ht (not4 (hw.ne ht fun _ z => nomatch z) (at_ne ht he fun z => nomatch z) (at_ne ht hR fun z => nomatch z) ntc)
        have nma := w4.ne hm4 fun _ z => nomatch z
        have nta := w4.ne ht4 fun _ z => nomatch z
        have nea := w4.ne he4 fun _ z => nomatch z
        have nRa := w4.ne hR4 fun _ z => nomatch z
        have nlca : lc ≠ a := fun z => by
          obtain ⟨_, _, _, _, _, h⟩ := hw
          rw [z, h] at hl0
          cases hl0
        have nca : cl ≠ a := by
          obtain ⟨zs, _, h, _⟩ := id hcl4
          exact w4.ne h fun _ z => nomatch z
        have nlka : lk4 ≠ a := by
          obtain ⟨kt, h, _⟩ := id hk4
          exact w4.ne h fun _ z => nomatch z
        have neR : e ≠ R := at_ne he4 hR4 fun z => by injection z with z; exact T.ne z
        have nec : e ≠ cl := by
          obtain ⟨zs, _, h, _⟩ := id hcl4
          exact at_ne he4 h fun z => nomatch z
        have nRc : R ≠ cl := by
          obtain ⟨zs, _, h, _⟩ := id hcl4
          exact at_ne hR4 h fun z => nomatch z
        have lkA : ∀ {H'}, FrL [a] H4 H' → LocksAt H' CE lk4 e (n + i) := fun {H'} f => hk4.keep (fun o eo => f.out eo (not1 nlka)) fun b db fb eb _ => f.out eb (not1 (w4.ne eb fun _ z => nomatch z))
        refine ⟨.ref a, rfl, a, 4, c4, rfl, w4, by decide, by decide, by omega, fun way hy0 hy1 H5 c5 f5 k5 w5 hc51 hc52 => ?_⟩
        refine ⟨.ref a, rfl, a, c5, rfl, w5, by omega, fun x hx H6 c6 f6 k6 w6 hc61 hc62 => ⟨(by show 2 ≤ sizeLine; decide), fun p1 hp1 => ⟨p1, _, rfl, SqT.of upd_same, rfl, _, _, rfl, _, _, rfl, rfl, ?_⟩⟩⟩
        have s7 := same_new (o := .tup [.int way, .str x]) hp1
        have f47 := (f5.trans f6).trans (FrL.same s7)
        have k47 := (k5.trans k6).trans (TupKeep.of s7)
        have w7 := w6.same s7
        generalize upd H6 p1 (.tup [.int way, .str x]) = H7 at f47 k47 w7
        refine ⟨.ref a, rfl, .ref m, rfl, m, .ref mt, rfl, (mod_get (f47.out hm4 (not1 nma))).1, mt, rfl, .inl ⟨_, .inl (f47.out ht4 (not1 nta))⟩, .str x, rfl, valV t' x, dget_kT (.inl (f47.out ht4 (not1 nta))) x, .ref a, rfl, a, c6, rfl, w7, by omega, fun y hy H8 c8 f8 k8 w8 hc81 hc82 => ⟨(by show 6 ≤ sizeLine; decide), fun p2 hp2 => ?_⟩⟩
        have s9 := same_new (o := .lst [.str "", .str "", .str "", (valV t' x).getD .non, .non, .str y]) hp2
        have w9 := w8.same s9
        have np2 : p2 ≠ a := fun z => by
          obtain ⟨_, _, _, _, _, h⟩ := w8
          rw [z, h] at hp2
          cases hp2
        have hl9 : (upd H8 p2 (.lst [.str "", .str "", .str "", (valV t' x).getD .non, .non, .str y])) p2 = some (.lst [.str "", .str "", .str "", (valV t' x).getD .non, .non, .str y]) := upd_same
        have f49 := (f47.trans f8).trans (FrL.same s9)
        have k49 := (k47.trans k8).trans (TupKeep.of s9)
        generalize upd H8 p2 (.lst [.str "", .str "", .str "", (valV t' x).getD .non, .non, .str y]) = H9 at w9 hl9 f49 k49
        refine ⟨a, p2, _, c8, rfl, w9, hl9, np2, (by show 0 < 6; decide), (by show 6 < 1000000; decide), by omega, fun o ho H10 c10 f10 k10 w10 hc101 hc102 => ?_⟩
        have ho : HadOk o := by
          simp only [List.mem_cons, List.not_mem_nil, or_false] at ho
          rcases ho with rfl | rfl | rfl | rfl | rfl | rfl
          · exact .inr (.inl rfl)
          · exact .inr (.inl rfl)
          · exact .inr (.inl rfl)
          · exact (ids_val it x).had
          · exact .inl rfl
          · exact GoodV.had (.inr ⟨y, hy, rfl⟩)
        have f40 := f49.trans f10
        have k40 := k49.trans k10
        have hcL := hl4.out k40 f40 (fun z => nlca (List.mem_singleton.mp z))
        obtain ⟨as, hlc, tp⟩ := id hcL
        have el : as.length = cs.length := by have := tp.1; rw [List.length_map] at this; exact this
        refine ⟨.ref lc, rfl, lc, rfl, ⟨_, .inl (.inl hlc)⟩, fun D hD => ?_⟩
        refine lc_pure (i := 9) (us := as.zip cs) (g := fun z => V.ref z.1) (yields_zipL el) (fun z => V.ref z.1) (fun z => decide (z.2.1 ≠ x) || decide (way = 3)) hD (fun H s => .inl (.inl (s _ _ hlc))) (fun H11 u s11 hu R r => ?_) (fun H11 u s11 hu _ R r => ⟨_, rfl, r H11 (Same.refl H11)⟩) (by rw [List.length_zip]; omega) (fun H11 s11 h11 => ?_)
        · refine ⟨.ref u.1, rfl, u.1, _, 0, .str u.2.1, rfl, rfl, SqT.of (s11 _ _ (tups_get tp hu)), rfl, .str x, rfl, rfl, _, rfl, ?_⟩
          by_cases cx : u.2.1 = x
          · rw [cx, decide_eq_true rfl]
            refine iteF ⟨.int way, rfl, rfl, ?_⟩
            have r := r H11 (Same.refl H11)
            rw [cx, decide_eq_false (fun z => z rfl), Bool.false_or] at r
            have ed : decide (V.int way = V.int 3) = decide (way = 3) := decide_eq_decide.mpr ⟨fun h => V.int.inj h, fun h => by rw [h]⟩
            rw [ed]
            exact ⟨_, rfl, r⟩
          · rw [decide_eq_false (fun z => cx (V.str.inj z))]
            have r := r H11 (Same.refl H11)
            rw [decide_eq_true cx, Bool.true_or] at r
            exact iteT r
        · have s41 := f40.trans (FrL.same s11)
          have k41 := k40.trans (TupKeep.of s11)
          obtain ⟨bs, eb, tb'⟩ := tups_filter callL (fun z : Str × V × V => decide (z.1 ≠ x) || decide (way = 3)) cs as (tp.keep (TupKeep.of s11))
          rw [eb] at h11
          have fin : ∀ {H' : Hp} {lc2 lk2 : Addr} {st2 nh2 : V} {cs2 : List (Str × V × V)} {c2 : Int} {y5 y6 y7 y8 : Option V}, FrL [a, e, R, cl] H H' → TupKeep H H' → Wm H' a c2 → c4 ≤ c2 → c2 ≤ c4 + 6 → CallsL H' lc2 cs2 → H lc2 = none → CallsAt H' cl cs2 → GoodC cs2 → cs2.length ≤ cs.length + 1 → StandAt H' st2 nh2 →
              H' e = some (.ins CE ex (ef R nt cl nh2 false)) → H' R = some (.ins CR dx (rf lk2 tb hd lg)) → LocksAt H' CE lk2 e (n + i + 1) → FrL [a, e, R, cl] H H' ∧ TupKeep H H' ∧ ∃ (lc lk' : Addr) (st nh : V) (cs : List (Str × V × V)) (c' : Int) (x5 x6 x7 x8 : Option V), Wm H' a c' ∧ c ≤ c' ∧ c' ≤ c + 1 + 6 * ((i + 1 : Nat) : Int) ∧ CallsL H' lc cs ∧ H lc = none ∧ CallsAt H' cl cs ∧ GoodC cs ∧ cs.length ≤ i + 1 ∧ StandAt H' st nh ∧
              H' e = some (.ins CE ex (ef R nt cl nh false)) ∧ H' R = some (.ins CR dx (rf lk' tb hd lg)) ∧ LocksAt H' CE lk' e (n + (i + 1)) ∧ [some (.ref a), some (.ref e), some (.ref m), some (.ref lc2), some st2, y5, y6, y7, y8, none] = [some (.ref a), some (.ref e), some (.ref m), some (.ref lc), some st, x5, x6, x7, x8, none] := fun {H' lc2 lk2 st2 nh2 cs2 c2 y5 y6 y7 y8} g1 g2 g3 g4 g5 g6 g7 g8 g9 g10 g11 g12 g13 g14 =>
            ⟨g1, g2, lc2, lk2, st2, nh2, cs2, c2, y5, y6, y7, y8, g3, by omega, by omega, g6, g7, g8, g9, by omega, g11, g12, g13, g14, rfl⟩
          have hDa : D ≠ a := fun z => by
            have h := w10
            obtain ⟨_, _, _, _, _, h⟩ := h
            rw [z, h] at hD
            cases hD
          have hDn : H4 D = none := f40.free (fun z => hDa (List.mem_singleton.mp z)) hD
          have hnDe : D ≠ e := ne_of_none' hDn he4
          have hnDR : D ≠ R := ne_of_none' hDn hR4
          have hnDc : D ≠ cl := by
            obtain ⟨zs, _, h, _⟩ := id hcl4
            exact ne_of_none' hDn h
          have hD0 : H D = none := f4.free (nin4 hDa hnDe hnDR hnDc) hDn
          obtain ⟨x1, x2, x3⟩ := refs_ok x hx
          refine ⟨.int way, rfl, _, _, rfl, rfl, _, rfl, ite2 (fun hw2 => ?_) (fun hw2 => ?_)⟩
          · have hw2 := of_decide_eq_true hw2
            refine ⟨.ref D, rfl, .inl ⟨rfl, _, SqL.of h11⟩, .str x, rfl, .ref a, rfl, a, c10, rfl, w10.same s11, by omega, fun y2 hy2 H12 c12 f12 k12 w12 hc121 hc122 => ⟨o, rfl, (by show 3 ≤ sizeLine; decide), fun p3 hp3 => ?_⟩⟩
            have g14 : n + i + 1 = n + (i + 1) := by omega
            have s13 := same_new (o := .tup [.str x, .str y2, o]) hp3
            have hp3' : (upd H12 p3 (.tup [.str x, .str y2, o])) p3 = some (.tup [.str x, .str y2, o]) := upd_same
            have f43 := (s41.trans f12).trans (FrL.same s13)
            have k43 := (k41.trans k12).trans (TupKeep.of s13)
            have w13 := w12.same s13
            have h13 := s13 _ _ (f12.out h11 (not1 hDa))
            have tb13 := tb'.keep (k12.trans (TupKeep.of s13))
            generalize upd H12 p3 (.tup [.str x, .str y2, o]) = H13 at hp3' f43 k43 w13 h13 tb13
            have ew : cs.filter (fun z : Str × V × V => decide (z.1 ≠ x) || decide (way = 3)) = cs.filter fun z => decide (z.1 ≠ x) := List.filter_congr fun z _ => by rw [decide_eq_false (show ¬ way = 3 by omega), Bool.or_false]
            rw [ew] at tb13
            have lb : bs.length ≤ cs.length := by
              have := tb13.1
              rw [List.length_map] at this
              have := List.length_filter_le (fun z : Str × V × V => decide (z.1 ≠ x)) cs
              omega
            refine ⟨D, _, _, rfl, rfl, h13, small_lt (by rw [List.length_map]; omega), ?_⟩
            have hD14 : (upd H13 D (.lst (bs.map V.ref ++ [V.ref p3]))) D = some (.lst ((bs ++ [p3]).map V.ref)) := by
              rw [upd_same, List.map_append]
              rfl
            have s4D : FrL [D] H13 (upd H13 D (.lst (bs.map V.ref ++ [V.ref p3]))) := FrL.at (List.mem_singleton_self D)
            have k4D : TupKeep H13 (upd H13 D (.lst (bs.map V.ref ++ [V.ref p3]))) := TupKeep.at fun xs z => by rw [h13] at z; cases z
            have f44 := f43.then1 s4D (.inr hDn)
            have k44 := k43.trans k4D
            have w14 : Wm (upd H13 D (.lst (bs.map V.ref ++ [V.ref p3]))) a c12 := w13.out s4D (not1 hDa.symm)
            have ex14 := k4D _ _ hp3'
            have tb14 := (tb13.keep k4D).snoc ex14
            generalize upd H13 D (.lst (bs.map V.ref ++ [V.ref p3])) = H14 at hD14 f44 k44 w14 ex14 tb14
            have he14 := f44.out he4 (not1 nea)
            have hR14 := f44.out hR4 (not1 nRa)
            obtain ⟨y1, y22, y3⟩ := ids_ok y2 hy2
            refine ⟨.ref e, rfl, e, ex, _, rfl, he14, rfl, .str x, rfl, .ref D, rfl, 1, rfl, D, _, -1, .ref p3, rfl, rfl, SqL.of hD14, by rw [List.map_append]; exact atI_last _ _, p3, _, 1, .str y2, rfl, rfl, SqT.of ex14, rfl, o, rfl, ?_⟩
            refine ⟨e, ex, R, nt, cl, dx, lk4, tb, hd, lg, nh, x, y2, o, cs, n + i, rfl, he14, hR14, ?_, by omega, ?_, by omega, ho, x1, x2, x3, y1, y22, y3, fun lk5 H15 f15 k15 hR15 hk15 hc15 => ?_⟩
            · exact lkA f44
            · exact hcl4.keep k44 fun o eo => f44.out eo (not1 nca)
            · refine fin ((f4.trans (f44.mono sub_a)).trans (f15.mono sub_cd)) ((k4.trans k44).trans k15) (w14.out f15 (not2 nRa.symm nca.symm)) (by omega) (by omega) ⟨bs ++ [p3], f15.out hD14 (not2 hnDR hnDc), ?_⟩ hD0 hc15 (good_put g4 hx (.inr ⟨y2, hy2, rfl⟩) ho) (callPut_len _ _ _ _) (st4.keep (k44.trans k15)) (f15.out he14 (not2 neR nec)) hR15 hk15
              have := tb14.keep k15
              unfold callPut
              rw [List.map_append]
              exact this
          · have hw2 : ¬ way < 2 := fun z => hw2 (decide_eq_true z)
            refine ⟨.int way, rfl, rfl, _, rfl, ite2 (fun hw3 => ?_) (fun hw3 => ?_)⟩
            · have hw3 : way = 2 := V.int.inj (of_decide_eq_true hw3)
              refine ⟨.ref D, rfl, .inl ⟨rfl, _, SqL.of h11⟩, .str x, rfl, o, rfl, (by show 3 ≤ sizeLine; decide), fun p3 hp3 => ?_⟩
              have s13 := same_new (o := .tup [.str x, .non, o]) hp3
              have hp3' : (upd H11 p3 (.tup [.str x, .non, o])) p3 = some (.tup [.str x, .non, o]) := upd_same
              have f43 := s41.trans (FrL.same s13)
              have k43 := k41.trans (TupKeep.of s13)
              have w13 := (w10.same s11).same s13
              have h13 := s13 _ _ h11
              have tb13 := tb'.keep (TupKeep.of s13)
              generalize upd H11 p3 (.tup [.str x, .non, o]) = H13 at hp3' f43 k43 w13 h13 tb13
              have ew : cs.filter (fun z : Str × V × V => decide (z.1 ≠ x) || decide (way = 3)) = cs.filter fun z => decide (z.1 ≠ x) := List.filter_congr fun z _ => by rw [decide_eq_false (show ¬ way = 3 by omega), Bool.or_false]
              rw [ew] at tb13
              have lb : bs.length ≤ cs.length := by
                have := tb13.1
                rw [List.length_map] at this
                have := List.length_filter_le (fun z : Str × V × V => decide (z.1 ≠ x)) cs
                omega
              refine ⟨D, _, _, rfl, rfl, h13, small_lt (by rw [List.length_map]; omega), ?_⟩
              have hD14 : (upd H13 D (.lst (bs.map V.ref ++ [V.ref p3]))) D = some (.lst ((bs ++ [p3]).map V.ref)) := by
                rw [upd_same, List.map_append]
                rfl
              have s4D : FrL [D] H13 (upd H13 D (.lst (bs.map V.ref ++ [V.ref p3]))) := FrL.at (List.mem_singleton_self D)
              have k4D : TupKeep H13 (upd H13 D (.lst (bs.map V.ref ++ [V.ref p3]))) := TupKeep.at fun xs z => by rw [h13] at z; cases z
              have f44 := f43.then1 s4D (.inr hDn)
              have k44 := k43.trans k4D
              have w14 : Wm (upd H13 D (.lst (bs.map V.ref ++ [V.ref p3]))) a c10 := w13.out s4D (not1 hDa.symm)
              have ex14 := k4D _ _ hp3'
              have tb14 := (tb13.keep k4D).snoc ex14
              generalize upd H13 D (.lst (bs.map V.ref ++ [V.ref p3])) = H14 at hD14 f44 k44 w14 ex14 tb14
              have he14 := f44.out he4 (not1 nea)
              have hR14 := f44.out hR4 (not1 nRa)
              refine ⟨.ref e, rfl, e, ex, _, rfl, he14, rfl, .str x, rfl, o, rfl, ?_⟩
              refine ⟨e, ex, R, nt, cl, dx, lk4, tb, hd, lg, nh, x, o, cs, n + i, rfl, he14, hR14, lkA f44, by omega, hcl4.keep k44 (fun o eo => f44.out eo (not1 nca)), by omega, ho, x1, x2, x3, fun lk5 H15 f15 k15 hR15 hk15 hc15 => ?_⟩
              refine fin ((f4.trans (f44.mono sub_a)).trans (f15.mono sub_cd)) ((k4.trans k44).trans k15) (w14.out f15 (not2 nRa.symm nca.symm)) (by omega) (by omega) ⟨bs ++ [p3], f15.out hD14 (not2 hnDR hnDc), ?_⟩ hD0 hc15 (good_put g4 hx (.inl rfl) ho) (callPut_len _ _ _ _) (st4.keep (k44.trans k15)) (f15.out he14 (not2 neR nec)) hR15 hk15
              have := tb14.keep k15
              unfold callPut
              rw [List.map_append]
              exact this
            · have hw3 : ¬ way = 2 := fun z => hw3 (decide_eq_true (by rw [z]))
              have ew : cs.filter (fun z : Str × V × V => decide (z.1 ≠ x) || decide (way = 3)) = cs := List.filter_eq_self.mpr fun z _ => by rw [decide_eq_true (show way = 3 by omega), Bool.or_true]
              rw [ew] at tb'
              refine ⟨.ref a, rfl, .str x, rfl, (by show 2 ≤ sizeLine; decide), fun q1 hq1 => ?_⟩
              have s12 := same_new (o := .tup [.str "ref", .str x]) hq1
              have hq1' : (upd H11 q1 (.tup [.str "ref", .str x])) q1 = some (.tup [.str "ref", .str x]) := upd_same
              have f42 := s41.trans (FrL.same s12)
              have k42 := k41.trans (TupKeep.of s12)
              have w12 := (w10.same s11).same s12
              have h12 := s12 _ _ h11
              have tb12 := tb'.keep (TupKeep.of s12)
              generalize upd H11 q1 (.tup [.str "ref", .str x]) = H12 at hq1' f42 k42 w12 h12 tb12
              refine ⟨.ref a, rfl, a, c10, rfl, w12, by omega, fun y2 hy2 H13 c13 f13 k13 w13 hc131 hc132 => ⟨(by show 2 ≤ sizeLine; decide), fun q2 hq2 => ⟨(by show 2 ≤ sizeLine; decide), fun q3 hq3 => ?_⟩⟩⟩
              have s14 := same_new (o := .tup [.str "id", .str y2]) hq2
              have s15 := same_new (o := .lst [.ref q1, .ref q2]) hq3
              have hq2' : (upd (upd H13 q2 (.tup [.str "id", .str y2])) q3 (.lst [.ref q1, .ref q2])) q2 = some (.tup [.str "id", .str y2]) := s15 _ _ upd_same
              have hq3' : (upd (upd H13 q2 (.tup [.str "id", .str y2])) q3 (.lst [.ref q1, .ref q2])) q3 = some (.lst [.ref q1, .ref q2]) := upd_same
              have f45 := ((f42.trans f13).trans (FrL.same s14)).trans (FrL.same s15)
              have k25 := (k13.trans (TupKeep.of s14)).trans (TupKeep.of s15)
              have w15 := (w13.same s14).same s15
              have nq3 : q3 ≠ a := fun z => by
                have h := w13.same s14
                obtain ⟨_, _, _, _, _, h⟩ := h
                rw [z, h] at hq3
                cases hq3
              have h15 := s15 _ _ (s14 _ _ (f13.out h12 (not1 hDa)))
              generalize upd (upd H13 q2 (.tup [.str "id", .str y2])) q3 (.lst [.ref q1, .ref q2]) = H15 at hq2' hq3' f45 k25 w15 h15
              refine ⟨a, q3, _, c13, rfl, w15, hq3', nq3, (by show 0 < 2; decide), (by show 2 < 1000000; decide), by omega, fun v hv H16 c16 f16 k16 w16 hc161 hc162 => ?_⟩
              obtain ⟨y1, y22, y3⟩ := ids_ok y2 hy2
              have f46 := f45.trans f16
              have k46 := (k42.trans k25).trans k16
              obtain ⟨qv, hx', hn', ev, hqv, hok⟩ : ∃ (qv : Addr) (hx' hn' : Str), v = .ref qv ∧ H16 qv = some (.tup [.str hx', .str hn']) ∧ HeadOk hx' hn' := by
                simp only [List.mem_cons, List.not_mem_nil, or_false] at hv
                rcases hv with rfl | rfl
                · exact ⟨q1, "ref", x, rfl, k16 _ _ (k25 _ _ hq1'), .inl ⟨rfl, x1⟩, x2, x3⟩
                · exact ⟨q2, "id", y2, rfl, k16 _ _ hq2', .inr ⟨rfl, y1⟩, y22, y3⟩
              subst ev
              have he16 := f46.out he4 (not1 nea)
              have hR16 := f46.out hR4 (not1 nRa)
              refine ⟨.ref e, rfl, e, ex, _, rfl, he16, rfl, .ref qv, rfl, qv, _, 0, .str hx', rfl, rfl, SqT.of hqv, rfl, .ref qv, rfl, qv, _, 1, .str hn', rfl, rfl, SqT.of hqv, rfl, ?_⟩
              refine ⟨e, ex, R, nt, cl, dx, lk4, tb, hd, lg, nh, hx', hn', n + i, rfl, he16, hR16, lkA f46, by omega, hok, fun lk5 hq H17 f17 k17 hR17 he17 hq17 hk17 => ?_⟩
              refine fin ((f4.trans (f46.mono sub_a)).trans (f17.mono sub_cb)) ((k4.trans k46).trans k17) (w16.out f17 (not2 nRa.symm nea.symm)) (by omega) (by omega) ⟨bs, f17.out (f16.out h15 (not1 hDa)) (not2 hnDR hnDe), (tb12.keep k25).keep (k16.trans k17)⟩ hD0 ((hcl4.keep k46 (fun o eo => f46.out eo (not1 nca))).keep k17 (fun o eo => f17.out eo (not2 nRc.symm nec.symm))) g4 (by omega) (.inr ⟨qv, hq, hx', hn', rfl, rfl, k17 _ _ hqv, hq17, hok⟩) he17 hR17 hk17
    · rintro σ H4 ⟨f4, k4, lc, lk4, st, nh, cs, c4, x5, x6, x7, x8, w4, hc41, hc42, hl4, hl0, hcl4, g4, len4, st4, he4, hR4, hk4, rfl⟩
      rw [List.length_map, List.length_range] at hc42 len4 hk4
      refine ⟨.ref lc, rfl, st, rfl, (by show 2 ≤ sizeLine; decide), fun p hp => ?_⟩
      have s5 := same_new (o := .tup [.ref lc, st]) hp
      have hi : r.toNat ≤ 4 := by omega
      refine q p lc st nh lk4 cs c4 _ (f4.trans (FrL.same s5)) (k4.trans (TupKeep.of s5)) (w4.same s5) hc41 (by omega) upd_same (hl4.same s5) hl0 (hcl4.keep (TupKeep.of s5) fun o eo => s5 _ _ eo) g4 (by omega) (st4.keep (TupKeep.of s5)) (s5 _ _ he4) (s5 _ _ hR4) ?_
      obtain ⟨kt, h1, h2, h3, h4, h5⟩ := hk4.same s5
      exact ⟨kt, h1, h2, h3, by omega, h5⟩
end

end Fk

set_option maxHeartbeats 4000000
/-! A comprehension over zip of two tuples. -/
namespace Fk
open PySem PySem.Spec PyProof.Rows L2 RZ
theorem lc_zipT {K : PySem.W.Frag} {a b D : Addr} {xs ys : List V} {σ : L2.St} {vs : List Nat} {g : TG} {tt : TT} {te : TE} {Q : Hp → Prop} {H1 : Hp} {n : Nat} (f : Nat → V) (hD1 : H1 D = none) (ha : ∀ H, Same H1 H → SqT K H a xs) (hb : ∀ H, Same H1 H → SqT K H b ys)
    (hx : n ≤ xs.length) (hy : n ≤ ys.length) (hn : xs.length ≤ n ∨ ys.length ≤ n) (hl : n ≤ 1000000)
    (hs : ∀ i x y T H, i < n → xs[i]? = some x → ys[i]? = some y → Same H1 H → H T = some (.tup [x, y]) → ∀ (N : VK) (M : Hp → Prop), (∀ H3, Same H H3 → N (f i) H3) →
      g (.ref T) (wipe σ vs) H fun σ2 H2 => wipe σ2 vs = wipe σ vs ∧ tt σ2 H2 fun bb H3 => if bb = true then te σ2 H3 N else M H3)
    (hd : ∀ H, Same H1 H → H D = some (.lst ((List.range n).map f)) → Q H) :
    ∃ W : Nat → Nat → Hp → Prop, (∃ m, W 0 m (upd H1 D (.lst []))) ∧ ∀ k m H, W k m H →
      ((ItzT K a b).stop k H ∧ Q H) ∨ ((ItzT K a b).go k H ∧ ∃ Nx : Hp → Prop, (∀ H', Nx H' → ∃ m', m' < m ∧ W (k + 1) m' H') ∧ ∀ x H', (ItzT K a b).yld k H x H' → g x (wipe σ vs) H' fun σ2 H2 => wipe σ2 vs = wipe σ vs ∧ tt σ2 H2 fun bb H3 =>
        if bb = true then te σ2 H3 fun y H4 => ∃ acc, H4 D = some (.lst acc) ∧ acc.length < sizeLine ∧ Nx (upd H4 D (.lst (acc ++ [y]))) else Nx H3) := by
  refine ⟨fun k m H => m = n - k ∧ k ≤ n ∧ Same H1 H ∧ H D = some (.lst ((List.range k).map f)), ⟨n, by omega, Nat.zero_le _, same_new hD1, upd_same⟩, ?_⟩
  rintro k m H ⟨rfl, hk, s1, hD⟩
  by_cases hlt : k < n
  · have lx : k < xs.length := by omega
    have ly : k < ys.length := by omega
    refine .inr ⟨⟨xs, ys, xs[k], ys[k], ha H s1, hb H s1, List.getElem?_eq_getElem lx, List.getElem?_eq_getElem ly⟩, fun H' => Same H1 H' ∧ H' D = some (.lst ((List.range (k + 1)).map f)), fun H' q => ⟨n - (k + 1), by omega, rfl, hlt, q⟩, fun x H' y => ?_⟩
    obtain ⟨T, u, v, rfl, hT, rfl, gx, gy⟩ := y
    have s2 := same_new (o := .tup [u, v]) hT
    refine hs k u v T _ hlt (gx xs (ha H s1)) (gy ys (hb H s1)) (s1.trans s2) upd_same _ _ fun H3 s3 => ⟨_, s3 _ _ (s2 _ _ hD), small_lt (by rw [List.length_map, List.length_range]; omega), fun c o e => ?_, ?_⟩
    · rw [upd_ne (ne_of_none e hD1)]
      exact s3 _ _ (s2 _ _ (s1 _ _ e))
    · rw [upd_same, List.range_succ, List.map_append]
      rfl
  · have e : k = n := by omega
    subst e
    exact .inl ⟨⟨xs, ys, ha H s1, hb H s1, hn⟩, hd H s1 hD⟩
theorem lc_gen {α : Type} {J : It} {us : List α} {val : α → V} {G : Hp → Prop} {H1 : Hp} {D : Addr} {σ : L2.St} {vs : List Nat} {g : TG} {tt : TT} {te : TE} {Q : Hp → Prop} (Y : Yields J (us.map val) G) (f : α → V) (p : α → Bool) (σf : α → L2.St) (hD1 : H1 D = none) (hG : ∀ H, Same H1 H → G H) (hw : ∀ u ∈ us, wipe (σf u) vs = wipe σ vs)
    (hg : ∀ H u, Same H1 H → u ∈ us → ∀ (R : L2.St → Hp → Prop), R (σf u) H → g (val u) (wipe σ vs) H R)
    (ht : ∀ H u, Same H1 H → u ∈ us → ∀ (R : Bool → Hp → Prop), (∀ H3, Same H H3 → R (p u) H3) → tt (σf u) H R)
    (he : ∀ H u, Same H1 H → u ∈ us → p u = true → ∀ (R : VK), (∀ H3, Same H H3 → R (f u) H3) → te (σf u) H R)
    (hl : us.length ≤ 1000000) (hd : ∀ H, Same H1 H → H D = some (.lst ((us.filter p).map f)) → Q H) :
    ∃ W : Nat → Nat → Hp → Prop, (∃ m, W 0 m (upd H1 D (.lst []))) ∧ ∀ k m H, W k m H →
      (J.stop k H ∧ Q H) ∨ (J.go k H ∧ ∃ Nx : Hp → Prop, (∀ H', Nx H' → ∃ m', m' < m ∧ W (k + 1) m' H') ∧ ∀ x H', J.yld k H x H' → g x (wipe σ vs) H' fun σ2 H2 => wipe σ2 vs = wipe σ vs ∧ tt σ2 H2 fun b H3 =>
        if b = true then te σ2 H3 fun y H4 => ∃ acc, H4 D = some (.lst acc) ∧ acc.length < sizeLine ∧ Nx (upd H4 D (.lst (acc ++ [y]))) else Nx H3) := by
  refine lcG Y (fun k acc H => Same H1 H ∧ acc = ((us.take k).filter p).map f) (fun k acc H h _ => hG H h.1) ⟨same_new hD1, rfl⟩ (fun k acc H x hI hD hx hacc hk => ?_) (by rw [List.length_map]; exact hl) (fun acc H hI hD _ => ?_)
  · obtain ⟨sm, ea⟩ := hI
    rw [List.getElem?_map] at hx
    cases hu : us[k]? with
    | none => rw [hu] at hx; cases hx
    | some u =>
      rw [hu] at hx
      cases hx
      have hm : u ∈ us := List.mem_of_getElem? hu
      have et : us.take (k + 1) = us.take k ++ [u] := by
        rw [List.take_add_one, hu]
        rfl
      refine hg H u sm hm _ ⟨hw u hm, ?_⟩
      refine ht H u sm hm _ (fun H3 s3 => ?_)
      by_cases hp : p u = true
      · rw [if_pos hp]
        refine he H3 u (sm.trans s3) hm hp _ (fun H4 s4 => ?_)
        refine lc_take (s4 _ _ (s3 _ _ hD)) hacc hk ⟨same_mut ((sm.trans s3).trans s4) hD1, ?_⟩
        rw [et, List.filter_append, List.map_append, List.filter_cons, hp, ea]
        rfl
      · rw [if_neg hp]
        refine lc_skip (s3 _ _ hD) hacc ⟨sm.trans s3, ?_⟩
        rw [et, List.filter_append, List.map_append, List.filter_cons, if_neg hp, ea]
        simp
  · obtain ⟨sm, ea⟩ := hI
    rw [List.length_map, List.take_length] at ea
    exact hd H sm (by rw [hD, ea])
def rLenQ (K : PySem.W.Frag) : List V → Hp → VK → Prop := fun xs H Q => ∃ p ys, xs = [.ref p] ∧ (SqL K H p ys ∨ SqT K H p ys) ∧ Q (.int ys.length) H
theorem ciK {X : Cx} {K : PySem.W.Frag} (h : X.K = K) : CallR X (.builtin "isinstance") (rIsi K) := h ▸ call_isi
theorem clK {X : Cx} {K : PySem.W.Frag} (h : X.K = K) : CallR X (.builtin "len") (rLenQ K) := h ▸ call_len_seq
end Fk

/-! truth of a thing within a comprehension, K given -/
namespace Fk
open PySem PySem.Spec PyProof.Rows L2
def tTruK (K : PySem.W.Frag) (ta : TE) : TT := fun σ H Q => ta σ H fun x H' => ∃ k, TruV K x H' k ∧ Q k H'
theorem ptK_truth {X : Cx} {K : PySem.W.Frag} {a : Expr} {ta : TE} (h : X.K = K) (ha : PE X a ta) (he : ∀ whole, isTrue a X.env whole = (do let v ← whole; standAt a.pos; holding [v] (truthy v))) : PT X a (tTruK K ta) := h ▸ pt_truth ha he
end Fk

set_option maxHeartbeats 4000000
namespace Fk
open PySem PySem.Spec PyProof.Rows L2
section
variable {P : Program} {w : World} {K : PySem.W.Frag} {mg : Str → Option Value} {base : Heap}
/-! ### what is a state -/
def IdN (v : V) : Prop := v = .non ∨ ∃ y, v = .str y ∧ isIdF y = true ∧ y.length ≤ 1000 ∧ OkS y
def EntGood (l : List V) : Prop := ∃ (a b : V) (x y : Str) (i : Int), l = [a, b, .str x, .int i, .str y] ∧ IdN a ∧ IdN b ∧ isWordF RSG x = true ∧ x.length ≤ 1000 ∧ OkS x ∧ 0 ≤ i ∧ i ≤ 1000 ∧ isTextF y = true ∧ y.length ≤ 200 ∧ OkS y
theorem tupK_isi {a : Addr} {xs : List V} {H : Hp} {C : String} {b : Bool} {Q : VK} (e : TupK K H a xs) (hk : (PySem.W.kitOne K (.type "tuple") (.type C)) = some b) (k : Q (.bl b) H) : rIsi K [.ref a, .ty C] H Q := by
  rcases e with e | ⟨o, its, n, e, c, _⟩
  · exact isi_tup e hk k
  · exact ⟨_, _, .type "tuple", .type C, b, rfl, .ty C, .kTuple e c, hk, k⟩
def spIsHeadK (K : PySem.W.Frag) : Sp := fun vs H Q _ => ∃ (p : Addr) (x n : Str), vs = [.ref p] ∧ TupK K H p [.str x, .str n] ∧ HeadOk x n ∧ ∀ H', Same H H' → Q (.bl true) H'
theorem c_is_headK (T : Top K mg) : C8.Cal P w K mg base 4 "is_head" (spIsHeadK K) [] := by
  refine cal_of T.d_is_head sc_is_head (fun _ _ _ _ _ _ us hl => match us, hl with | [_], _ => rfl) (fun vs H Q E h => ?_) (fun f cdv A outer s H vs Q E hr h => ?_)
  · obtain ⟨p, x, n, rfl, _⟩ := h
    rfl
  · obtain ⟨p, x, n, rfl, hp, ho, q⟩ := h
    refine ⟨_, (pss_cons (ps_if (PW.pt (pw_or (pt_not (pt_val (pe_callB call_isi (by rfl) T.z_isinstance (by decide +kernel) (pa_cons (pv 0) (pa_cons (pe_bltn (v := .ty "tuple") (by rfl) T.z_tuple (by decide +kernel) rfl) pa_nil))))) (pw_or1 (pt_cmpR op_ne (pe_callB call_len_seq (by rfl) T.z_len (by decide +kernel) (pa_cons (pv 0) pa_nil)) pe_int (nomark _)))))
      (pss_one (ps_ret pe_bl))
      pss_nil)
      (pss_cons (ps_asg (pv 0) (pg_tup rfl (pgs_cons (pg_name (i := 1) sc_is_head.nd rfl (Or.inl rfl)) (pgs_cons (pg_name (i := 2) sc_is_head.nd rfl (Or.inl rfl)) pgs_nil))))
      (pss_one (ps_ret (pe_or (pe_and (pe_cmpR op_eq (pv 1) pe_str (nomark _)) (pe_one (C8.pe_c (c_is_ref T) hr (by decide) (by rfl) (pa_cons (pv 2) pa_nil)))) (pe_one (pe_and (pe_cmpR op_eq (pv 1) pe_str (nomark _)) (pe_one (C8.pe_c (c_is_id T) hr (by decide) (by rfl) (pa_cons (pv 2) pa_nil)))))))))), ?_⟩
    refine ⟨.ref p, rfl, ?_⟩
    dsimp only [tCons, tC, tNil]
    refine tupK_isi hp (b := true) (kit_ty (by decide +kernel)) ⟨_, rfl, iteF ⟨.ref p, rfl, p, _, rfl, .inr hp.sq, rfl, _, rfl, iteF ⟨.ref p, rfl, p, _, rfl, hp.sq, rfl, _, _, rfl, _, _, rfl, rfl, ?_⟩⟩⟩
    obtain ⟨hv, hl, hk⟩ := ho
    rcases hv with ⟨rfl, hv⟩ | ⟨rfl, hv⟩
    · refine ⟨.str "ref", rfl, rfl, _, rfl, iteT ⟨.str n, rfl, .str n, rfl, .str n (by omega) hk, fun H1 s1 => ?_⟩⟩
      rw [show evalV isRefF (.str n) = true from hv]
      exact ⟨_, rfl, iteT (q _ s1)⟩
    · refine ⟨.str "id", rfl, rfl, _, rfl, iteF ⟨_, rfl, iteF ⟨.str "id", rfl, rfl, _, rfl, iteT ⟨.str n, rfl, .str n, rfl, .str n (by omega) hk, fun H1 s1 => ?_⟩⟩⟩⟩
      rw [show evalV isIdF (.str n) = true from hv]
      exact q _ s1
def spIdN : Sp := fun vs H Q _ => ∃ v : V, vs = [v] ∧ IdN v ∧ ∀ H', Same H H' → Q (.bl true) H'
theorem c_is_id_or_none (T : Top K mg) : C8.Cal P w K mg base 3 "is_id_or_none" spIdN [] := by
  refine cal_of T.d_is_id_or_none sc_is_id_or_none (fun _ _ _ _ _ _ us hl => match us, hl with | [_], _ => rfl) (fun vs H Q E h => ?_) (fun f cdv A outer s H vs Q E hr h => ?_)
  · obtain ⟨v, rfl, _⟩ := h
    rfl
  · obtain ⟨v, rfl, hv, q⟩ := h
    refine ⟨_, (pss_one (ps_ret (pe_or (pe_cmpR op_isN (pv 0) pe_non (nomark _)) (pe_one (C8.pe_c (c_is_id T) hr (by decide) (by rfl) (pa_cons (pv 0) pa_nil)))))), ?_⟩
    rcases hv with rfl | ⟨y, rfl, y1, y2, y3⟩
    · exact ⟨.non, rfl, rfl, _, rfl, iteT (q _ (Same.refl _))⟩
    · refine ⟨.str y, rfl, rfl, _, rfl, ?_⟩
      rw [decide_eq_false (fun z => nomatch z)]
      refine iteF ⟨.str y, rfl, .str y, rfl, .str y (by omega) y3, fun H1 s1 => ?_⟩
      rw [show evalV isIdF (.str y) = true from y1]
      exact q _ s1
def spIsEnt : Sp := fun vs H Q _ => ∃ (p : Addr) (l : List V), vs = [.ref p] ∧ H p = some (.tup l) ∧ EntGood l ∧ ∀ H', Same H H' → Q (.bl true) H'
theorem c__is_entry (T : Top K mg) : C8.Cal P w K mg base 4 "_is_entry" spIsEnt [] := by
  refine cal_of T.d__is_entry sc__is_entry (fun _ _ _ _ _ _ us hl => match us, hl with | [_], _ => rfl) (fun vs H Q E h => ?_) (fun f cdv A outer s H vs Q E hr h => ?_)
  · obtain ⟨p, l, rfl, _⟩ := h
    rfl
  · obtain ⟨p, l, rfl, hp, ⟨a, b, x, y, i, rfl, ha, hb, x1, x2, x3, i1, i2, y1, y2, _⟩, q⟩ := h
    refine ⟨_, (pss_cons (ps_if (PW.pt (pw_or (pt_not (pt_val (pe_callB call_isi (by rfl) T.z_isinstance (by decide +kernel) (pa_cons (pv 0) (pa_cons (pe_bltn (v := .ty "tuple") (by rfl) T.z_tuple (by decide +kernel) rfl) pa_nil))))) (pw_or1 (pt_cmpR op_ne (pe_callB call_len_seq (by rfl) T.z_len (by decide +kernel) (pa_cons (pv 0) pa_nil)) pe_int (nomark _)))))
      (pss_one (ps_ret pe_bl))
      pss_nil)
      (pss_cons (ps_asg (pv 0) (pg_tup rfl (pgs_cons (pg_name (i := 1) sc__is_entry.nd rfl (Or.inl rfl)) (pgs_cons (pg_name (i := 2) sc__is_entry.nd rfl (Or.inl rfl)) (pgs_cons (pg_name (i := 3) sc__is_entry.nd rfl (Or.inl rfl)) (pgs_cons (pg_name (i := 4) sc__is_entry.nd rfl (Or.inl rfl)) (pgs_cons (pg_name (i := 5) sc__is_entry.nd rfl (Or.inl rfl)) pgs_nil)))))))
      (pss_one (ps_ret (pe_and (C8.pe_c (c_is_id_or_none T) hr (by decide) (by rfl) (pa_cons (pv 1) pa_nil)) (pe_and (C8.pe_c (c_is_id_or_none T) hr (by decide) (by rfl) (pa_cons (pv 2) pa_nil)) (pe_and (C8.pe_c (c_is_short_ref T) hr (by decide) (by rfl) (pa_cons (pv 3) pa_nil)) (pe_and (C8.pe_c (c_is_time T) hr (by decide) (by rfl) (pa_cons (pv 4) pa_nil)) (pe_one (C8.pe_c (c_is_message T) hr (by decide) (by rfl) (pa_cons (pv 5) pa_nil))))))))))), ?_⟩
    refine ⟨.ref p, rfl, ?_⟩
    dsimp only [tCons, tC, tNil]
    refine isi_tup hp (b := true) (kit_ty (by decide +kernel)) ⟨_, rfl, iteF ⟨.ref p, rfl, p, _, rfl, .inr (SqT.of hp), rfl, _, rfl, iteF ⟨.ref p, rfl, p, _, rfl, SqT.of hp, rfl, _, _, rfl, _, _, rfl, _, _, rfl, _, _, rfl, _, _, rfl, rfl, ?_⟩⟩⟩
    refine ⟨a, rfl, a, rfl, ha, fun H1 s1 => ⟨_, rfl, iteT ⟨b, rfl, b, rfl, hb, fun H2 s2 => ⟨_, rfl, iteT ⟨.str x, rfl, .str x, rfl, .str x (by omega) x3, fun H3 s3 => ⟨_, rfl, ?_⟩⟩⟩⟩⟩⟩
    rw [show evalV (isWordF RSG) (.str x) = true from x1]
    exact iteT ⟨.int i, rfl, i, rfl, i1, i2, fun H4 s4 => ⟨_, rfl, iteT ⟨.str y, rfl, y, rfl, y1, y2, fun H5 s5 => q _ ((((s1.trans s2).trans s3).trans s4).trans s5)⟩⟩⟩
def spAreEnts : Sp := fun vs H Q _ => ∃ (p : Addr) (as : List Addr) (ls : List (List V)), vs = [.ref p] ∧ H p = some (.tup (as.map V.ref)) ∧ Tups H as ls ∧ 0 < ls.length ∧ ls.length ≤ 1000 ∧ (∀ l ∈ ls, EntGood l) ∧ ∀ H', Same H H' → Q (.bl true) H'
theorem c__are_entries (T : Top K mg) : C8.Cal P w K mg base 5 "_are_entries" spAreEnts [] := by
  refine cal_of T.d__are_entries sc__are_entries (fun _ _ _ _ _ _ us hl => match us, hl with | [_], _ => rfl) (fun vs H Q E h => ?_) (fun f cdv A outer s H vs Q E hr h => ?_)
  · obtain ⟨p, as, ls, rfl, _⟩ := h
    rfl
  · obtain ⟨p, as, ls, rfl, hp, tp, l0, l1, g, q⟩ := h
    have la := tp.1
    refine ⟨_, (pss_one (ps_ret (pe_and (pe_callB call_isi (by rfl) T.z_isinstance (by decide +kernel) (pa_cons (pv 0) (pa_cons (pe_bltn (v := .ty "tuple") (by rfl) T.z_tuple (by decide +kernel) rfl) pa_nil))) (pe_and (pe_cmpR op_gt (pe_callB call_len_seq (by rfl) T.z_len (by decide +kernel) (pa_cons (pv 0) pa_nil)) pe_int (nomark _)) (pe_one (pe_callB (cr_all rfl) (by rfl) T.z_all (by decide +kernel) (pa_cons (pe_lc (own := [("entry", 1)]) (g := gName 1) (by rfl) sc__are_entries.nd (pi_tup (pv 0)) (blkOk_by (own := [("entry", 1)]) (N := ["thing", "entry"]) (sc := C8.fnScope s__are_entries) (by decide +kernel)) (fun _ _ _ _ _ => (pg_name (i := 1) sc__are_entries.nd rfl (Or.inl rfl))) (fun _ _ _ _ _ => pts_nil) (fun _ _ _ _ _ => (C8.pe_c (c__is_entry T) hr (by decide) (by rfl) (pa_cons (pv 1) pa_nil)))) pa_nil))))))), ?_⟩
    refine ⟨.ref p, rfl, ?_⟩
    dsimp only [tCons, tC, tNil]
    refine isi_tup hp (b := true) (kit_ty (by decide +kernel)) ⟨_, rfl, iteT ⟨.ref p, rfl, p, _, rfl, .inr (SqT.of hp), _, _, rfl, rfl, _, rfl, ?_⟩⟩
    rw [decide_eq_true (by rw [List.length_map]; omega)]
    refine iteT ⟨.ref p, rfl, p, rfl, ⟨_, SqT.of hp⟩, fun D hD => ?_⟩
    refine lc_pure (i := 1) (us := as.zip ls) (g := fun z => V.ref z.1) (yields_zip (by omega)) (fun _ => .bl true) (fun _ => true) hD (fun H s => SqT.of (s _ _ hp)) (fun H u _ _ R r => r H (Same.refl H))
      (fun H1 u s1 hu _ R r => ⟨.ref u.1, rfl, u.1, u.2, rfl, s1 _ _ ?_, g _ (List.of_mem_zip hu).2, fun H2 s2 => r H2 s2⟩) (by rw [List.length_zip]; omega) (fun H1 s1 h1 => ?_)
    · obtain ⟨i, hi⟩ := List.getElem?_of_mem hu
      have z1 : as[i]? = some u.1 := by
        rw [List.getElem?_zip_eq_some] at hi
        exact hi.1
      have z2 : ls[i]? = some u.2 := by
        rw [List.getElem?_zip_eq_some] at hi
        exact hi.2
      exact tp.2 i u.1 u.2 z1 z2
    · rw [filt_all] at h1
      refine ⟨D, (as.zip ls).map fun _ => true, rfl, .inl (.inl ?_), ?_⟩
      · rw [h1, List.map_map]
        rfl
      · rw [show ((as.zip ls).map fun _ => true).all id = true from List.all_eq_true.mpr fun z hz => by
          obtain ⟨_, _, rfl⟩ := List.mem_map.mp hz
          rfl]
        exact q _ s1
theorem lt_of_leS {a b : Str} (h : leS a b) (n : a ≠ b) : a.cps.toList < b.cps.toList := by
  by_cases c : a.cps.toList < b.cps.toList
  · exact c
  · exact absurd (leS_anti h c) n
theorem cut_tail (xs : List V) : cutV xs (some 1) none = xs.drop 1 := by
  unfold cutV
  rw [show HT.sIx xs.length 0 (some 1) = min 1 xs.length from HT.sIx_nat _ _ 1, show HT.sIx xs.length xs.length none = xs.length from rfl]
  cases xs with
  | nil => rfl
  | cons x r =>
    rw [List.length_cons, show min 1 (r.length + 1) = 1 by omega, List.drop_succ_cons, List.drop_zero]
    exact List.take_of_length_le (by omega)
def spAreRows : Sp := fun vs H Q _ => ∃ (p : Addr) (u : Tab), vs = [.ref p] ∧ TupsAt H p (u.map rowL) ∧ sortedS (u.map (·.1)) = true ∧ Nd u ∧ u.length < 64 ∧ (∀ x ∈ u.map (·.1), x.length ≤ 1000 ∧ OkS x) ∧ ∀ H', Same H H' → Q (.bl true) H'
theorem c_are_rows (T : Top K mg) : C8.Cal P w K mg base 1 "are_rows" spAreRows [] := by
  refine cal_of T.d_are_rows sc_are_rows (fun _ _ _ _ _ _ us hl => match us, hl with | [_], _ => rfl) (fun vs H Q E h => ?_) (fun f cdv A outer s H vs Q E hr h => ?_)
  · obtain ⟨p, u, rfl, _⟩ := h
    rfl
  · obtain ⟨p, u, rfl, ⟨as, hp, tp⟩, so, nd, lu, ks, q⟩ := h
    have la : as.length = u.length := by have := tp.1; rw [List.length_map] at this; exact this
    refine ⟨_, (pss_cons (ps_if (pt_not (pt_val (pe_callB call_isi (by rfl) T.z_isinstance (by decide +kernel) (pa_cons (pv 0) (pa_cons (pe_bltn (v := .ty "tuple") (by rfl) T.z_tuple (by decide +kernel) rfl) pa_nil)))))
      (pss_one (ps_ret pe_bl))
      pss_nil)
      (pss_cons (ps_if (pt_not (pt_val (pe_callB (cr_all rfl) (by rfl) T.z_all (by decide +kernel) (pa_cons (pe_lc (own := [("row", 1)]) (g := gName 1) (by rfl) sc_are_rows.nd (pi_tup (pv 0)) (blkOk_by (own := [("row", 1)]) (N := ["thing", "row", "after"]) (sc := C8.fnScope s_are_rows) (by decide +kernel)) (fun _ _ _ _ _ => (pg_name (i := 1) sc_are_rows.nd rfl (Or.inl rfl))) (fun _ _ _ _ _ => pts_nil) (fun _ _ _ _ _ => (pe_and (pe_callB (ciK (K := K) rfl) (by rfl) T.z_isinstance (by decide +kernel) (pa_cons (pv 1) (pa_cons (pe_bltn (v := .ty "tuple") (by rfl) T.z_tuple (by decide +kernel) rfl) pa_nil))) (pe_and (pe_cmpR op_eq (pe_callB (clK (K := K) rfl) (by rfl) T.z_len (by decide +kernel) (pa_cons (pv 1) pa_nil)) pe_int (nomark _)) (pe_one (pe_callB (ciK (K := K) rfl) (by rfl) T.z_isinstance (by decide +kernel) (pa_cons (pe_ix (ixK_tup (K := K) rfl) (pv 1) pe_int (fun _ _ => rfl)) (pa_cons (pe_bltn (v := .ty "str") (by rfl) T.z_str (by decide +kernel) rfl) pa_nil)))))))) pa_nil))))
      (pss_one (ps_ret pe_bl))
      pss_nil)
      (pss_one (ps_ret (pe_callB (cr_all rfl) (by rfl) T.z_all (by decide +kernel) (pa_cons (pe_lc (own := [("row", 1), ("after", 2)]) (g := _) (by rfl) sc_are_rows.nd (RZ.pi_zipA (by rfl) T.z_zip (pa_cons (pv 0) (pa_cons (pe_slice sl_tupA (pv 0) (po_some pe_int) po_none) pa_nil))) (blkOk_by (own := [("row", 1), ("after", 2)]) (N := ["thing", "row", "after"]) (sc := C8.fnScope s_are_rows) (by decide +kernel)) (fun _ _ _ _ _ => (pg_tupK (K := K) (n := 2) rfl rfl (pgs_cons (pg_name (i := 1) sc_are_rows.nd rfl (Or.inl rfl)) (pgs_cons (pg_name (i := 2) sc_are_rows.nd rfl (Or.inl rfl)) pgs_nil)))) (fun _ _ _ _ _ => pts_nil) (fun _ _ _ _ _ => (pe_cmpR op_lt_str (pe_ix (ixK_tup (K := K) rfl) (pv 1) pe_int (fun _ _ => rfl)) (pe_ix (ixK_tup (K := K) rfl) (pv 2) pe_int (fun _ _ => rfl)) (nomark _)))) pa_nil)))))), ?_⟩
    refine ⟨.ref p, rfl, ?_⟩
    dsimp only [tCons, tC, tNil]
    refine isi_tup hp (b := true) (kit_ty (by decide +kernel)) ⟨_, rfl, iteF ⟨.ref p, rfl, p, rfl, ⟨_, SqT.of hp⟩, fun D hD => ?_⟩⟩
    refine lc_pure (i := 1) (us := as.zip u) (g := fun z => V.ref z.1) (yields_zip la) (fun _ => .bl true) (fun _ => true) hD (fun H s => SqT.of (s _ _ hp)) (fun H z _ _ R r => r H (Same.refl H))
      (fun H1 z s1 hz _ R r => ?_) (by rw [List.length_zip]; omega) (fun H1 s1 h1 => ?_)
    · have hz1 := s1 _ _ (tups_get tp hz)
      have hk := ks z.2.1 (List.mem_map_of_mem (List.of_mem_zip hz).2)
      refine ⟨.ref z.1, rfl, ?_⟩
      dsimp only [tCons, tC, tNil]
      refine isi_tup hz1 (b := true) (kit_ty (by decide +kernel)) ⟨_, rfl, iteT ⟨.ref z.1, rfl, z.1, _, rfl, .inr (SqT.of hz1), rfl, _, rfl, iteT ⟨.ref z.1, rfl, z.1, _, 0, .str z.2.1, rfl, rfl, SqT.of hz1, rfl, ?_⟩⟩⟩
      exact (Thing.str z.2.1 (by omega) hk.2).isi (r H1 (Same.refl H1))
    · rw [filt_all] at h1
      refine ⟨D, (as.zip u).map fun _ => true, rfl, .inl (.inl ?_), ⟨_, rfl, ?_⟩⟩
      · rw [h1, List.map_map]
        rfl
      rw [show ((as.zip u).map fun _ => true).all id = true from List.all_eq_true.mpr fun z hz => by
          obtain ⟨_, _, rfl⟩ := List.mem_map.mp hz
          rfl]
      have hp1 := s1 _ _ hp
      have lx : (as.map V.ref).length = u.length := by rw [List.length_map, la]
      -- neighbours
      have pw := List.pairwise_iff_getElem.mp (sorted_pw so)
      have pn := List.pairwise_iff_getElem.mp nd
      have cell : ∀ (i : Nat) (x y : V) (H3 : Hp), Same H1 H3 → i < u.length - 1 → (as.map V.ref)[i]? = some x → ((as.map V.ref).drop 1)[i]? = some y → ∃ (q1 q2 : Addr) (k1 k2 : Str) (v1 v2 : V), x = .ref q1 ∧ y = .ref q2 ∧ H3 q1 = some (.tup [.str k1, v1]) ∧ H3 q2 = some (.tup [.str k2, v2]) ∧ k1.cps.toList < k2.cps.toList := fun i x y H3 s3 hi hx hy => by
        rw [List.getElem?_drop] at hy
        have i1 : i < as.length := by omega
        have i2 : 1 + i < as.length := by omega
        have j1 : i < u.length := by omega
        have j2 : 1 + i < u.length := by omega
        rw [List.getElem?_map, List.getElem?_eq_getElem i1] at hx
        rw [List.getElem?_map, List.getElem?_eq_getElem i2] at hy
        cases hx
        cases hy
        have r1 := tp.2 i as[i] (rowL u[i]) (List.getElem?_eq_getElem i1) (by rw [List.getElem?_map, List.getElem?_eq_getElem j1]; rfl)
        have r2 := tp.2 (1 + i) as[1 + i] (rowL u[1 + i]) (List.getElem?_eq_getElem i2) (by rw [List.getElem?_map, List.getElem?_eq_getElem j2]; rfl)
        have m1 : i < (u.map (·.1)).length := by rw [List.length_map]; exact j1
        have m2 : 1 + i < (u.map (·.1)).length := by rw [List.length_map]; exact j2
        have g1 := pw i (1 + i) m1 m2 (by omega)
        have g2 := pn i (1 + i) m1 m2 (by omega)
        rw [List.getElem_map, List.getElem_map] at g1 g2
        exact ⟨_, _, u[i].1, u[1 + i].1, u[i].2, u[1 + i].2, rfl, rfl, s3 _ _ (s1 _ _ r1), s3 _ _ (s1 _ _ r2), lt_of_leS g1 g2⟩
      have all1 : ∀ n : Nat, ((List.range n).map fun _ => true).all id = true := fun n => List.all_eq_true.mpr fun z hz => by
        obtain ⟨_, _, rfl⟩ := List.mem_map.mp hz
        rfl
      refine iteF ⟨.ref p, rfl, .ref p, rfl, 1, rfl, p, as.map V.ref, rfl, SqT.of hp1, fun hw => ?_, fun hw p2 hp2 => ?_⟩
      · have z0 : u.length = 0 := by
          have h0 := hw.1
          rw [show HT.sIx (as.map V.ref).length 0 (some 1) = min 1 (as.map V.ref).length from HT.sIx_nat _ _ 1, lx] at h0
          omega
        refine ⟨p, p, as.map V.ref, as.map V.ref, rfl, .inr ⟨SqT.of hp1, SqT.of hp1, fun D2 hD2 => ?_⟩⟩
        refine lc_zipT (n := 0) (fun _ => .bl true) hD2 (fun H3 s3 => SqT.of (s3 _ _ hp1)) (fun H3 s3 => SqT.of (s3 _ _ hp1)) (Nat.zero_le _) (Nat.zero_le _) (by omega) (by omega) (fun i x y T H3 hi => by omega) (fun H3 s3 h3 => ?_)
        exact ⟨D2, [], rfl, .inl (.inl h3), q _ (s1.trans s3)⟩
      · rw [cut_tail] at *
        have s2 := same_new (o := .tup ((as.map V.ref).drop 1)) hp2
        have hp2' : (upd H1 p2 (.tup ((as.map V.ref).drop 1))) p2 = some (.tup ((as.map V.ref).drop 1)) := upd_same
        generalize upd H1 p2 (.tup ((as.map V.ref).drop 1)) = H2 at s2 hp2'
        refine ⟨p, p2, as.map V.ref, (as.map V.ref).drop 1, rfl, .inr ⟨SqT.of (s2 _ _ hp1), SqT.of hp2', fun D2 hD2 => ?_⟩⟩
        refine lc_zipT (n := u.length - 1) (fun _ => .bl true) hD2 (fun H3 s3 => SqT.of (s3 _ _ (s2 _ _ hp1))) (fun H3 s3 => SqT.of (s3 _ _ hp2')) (by omega) (by rw [List.length_drop]; omega) (.inr (by rw [List.length_drop]; omega)) (by omega) (fun i x y T H3 hi hx hy s3 hT N M r => ?_) (fun H3 s3 h3 => ?_)
        · obtain ⟨q1, q2, k1, k2, v1, v2, rfl, rfl, e1, e2, e3⟩ := cell i x y H3 (s2.trans s3) hi hx hy
          refine ⟨T, _, rfl, SqT.of hT, rfl, _, _, rfl, _, _, rfl, rfl, rfl, ?_⟩
          dsimp only [tYes]
          rw [if_pos rfl]
          refine ⟨.ref q1, rfl, q1, _, 0, .str k1, rfl, rfl, SqT.of e1, rfl, .ref q2, rfl, q2, _, 0, .str k2, rfl, rfl, SqT.of e2, rfl, k1, k2, rfl, rfl, ?_⟩
          rw [decide_eq_true e3]
          exact r H3 (Same.refl H3)
        · refine ⟨D2, (List.range (u.length - 1)).map fun _ => true, rfl, .inl (.inl ?_), ?_⟩
          · rw [h3, List.map_map]
            rfl
          · rw [all1]
            exact q _ ((s1.trans s2).trans s3)
end

end Fk

set_option maxHeartbeats 4000000
namespace Fk
open PySem PySem.Spec PyProof.Rows L2
section
variable {P : Program} {w : World} {K : PySem.W.Frag} {mg : Str → Option Value} {base : Heap}
def IdOk (v : V) : Prop := ∃ y, v = .str y ∧ isIdF y = true ∧ y.length ≤ 1000 ∧ OkS y
/-- the parts of a state that is one -/
structure StateOk (K : PySem.W.Frag) (H : Hp) (st r hd lg : Addr) (u lu : Tab) (x n : Str) : Prop where
  hs : H st = some (.tup [.ref r, .ref hd, .ref lg])
  hr : TupsAt H r (u.map rowL)
  su : sortedS (u.map (·.1)) = true
  nu : Nd u
  l1 : u.length < 64
  ku : ∀ y ∈ u.map (·.1), isRefF y = true ∧ y.length ≤ 1000 ∧ OkS y
  vu : ∀ e ∈ u, IdOk e.2
  hv : haveF (u.map (·.1)) = false
  hh : TupK K H hd [.str x, .str n]
  ho : HeadOk x n
  hl : TupsAt H lg (lu.map rowL)
  sl : sortedS (lu.map (·.1)) = true
  nl : Nd lu
  l2 : lu.length < 64
  kl : ∀ y ∈ lu.map (·.1), (isRefF y = true ∨ y = "HEAD") ∧ y.length ≤ 1000 ∧ OkS y
  vl : ∀ e ∈ lu, ∃ (p : Addr) (as : List Addr) (ls : List (List V)), e.2 = .ref p ∧ H p = some (.tup (as.map V.ref)) ∧ Tups H as ls ∧ 0 < ls.length ∧ ls.length ≤ 1000 ∧ ∀ l ∈ ls, EntGood l
def spIsState (K : PySem.W.Frag) : Sp := fun vs H Q _ => ∃ (st r hd lg : Addr) (u lu : Tab) (x n : Str), vs = [.ref st] ∧ StateOk K H st r hd lg u lu x n ∧ ∀ H', Same H H' → Q (.bl true) H'
theorem c_is_state (T : Top K mg) : C8.Cal P w K mg base 6 "is_state" (spIsState K) [] := by
  refine cal_of T.d_is_state sc_is_state (fun _ _ _ _ _ _ us hl => match us, hl with | [_], _ => rfl) (fun vs H Q E h => ?_) (fun f cdv A outer s H vs Q E hr h => ?_)
  · obtain ⟨st, r, hd, lg, u, lu, x, n, rfl, _⟩ := h
    rfl
  · obtain ⟨st, r, hd, lg, u, lu, x, n, rfl, S, q⟩ := h
    refine' ⟨_, (pss_cons ?q0 (pss_cons ?q1 (pss_cons ?q2 (pss_cons ?q3 (pss_one ?q4))))), ?main⟩
    case q0 => exact (ps_if (PW.pt (pw_or (pt_not (pt_val (pe_callB call_isi (by rfl) T.z_isinstance (by decide +kernel) (pa_cons (pv 0) (pa_cons (pe_bltn (v := .ty "tuple") (by rfl) T.z_tuple (by decide +kernel) rfl) pa_nil))))) (pw_or1 (pt_cmpR op_ne (pe_callB call_len_seq (by rfl) T.z_len (by decide +kernel) (pa_cons (pv 0) pa_nil)) pe_int (nomark _)))))
      (pss_one (ps_ret pe_bl))
      pss_nil)
    case q1 => exact (ps_asg (pv 0) (pg_tup rfl (pgs_cons (pg_name (i := 1) sc_is_state.nd rfl (Or.inl rfl)) (pgs_cons (pg_name (i := 2) sc_is_state.nd rfl (Or.inl rfl)) (pgs_cons (pg_name (i := 3) sc_is_state.nd rfl (Or.inl rfl)) pgs_nil)))))
    case q2 => exact (ps_if (PW.pt (pw_or (pt_not (pt_val (C8.pe_c (c_are_rows T) hr (by decide) (by rfl) (pa_cons (pv 1) pa_nil)))) (pw_or (pt_not (pt_val (C8.pe_c (c_is_headK T) hr (by decide) (by rfl) (pa_cons (pv 2) pa_nil)))) (pw_or1 (pt_not (pt_val (C8.pe_c (c_are_rows T) hr (by decide) (by rfl) (pa_cons (pv 3) pa_nil))))))))
      (pss_one (ps_ret pe_bl))
      pss_nil)
    case q3 => exact (ps_set (i := 4) sc_is_state.nd rfl (Or.inr rfl) (pe_dc (own := [("ref", 5), ("name", 6)]) (g := _) (by rfl) sc_is_state.nd (pi_tup (pv 1)) (blkOk_by (own := [("ref", 5), ("name", 6)]) (N := ["thing", "rows", "head", "logs", "ids", "ref", "name", "entries"]) (sc := C8.fnScope s_is_state) (by decide +kernel)) (fun _ _ _ _ _ => (pg_tupK (K := K) (n := 2) rfl rfl (pgs_cons (pg_name (i := 5) sc_is_state.nd rfl (Or.inl rfl)) (pgs_cons (pg_name (i := 6) sc_is_state.nd rfl (Or.inl rfl)) pgs_nil)))) (fun _ _ _ _ _ => pts_nil) (fun _ _ _ _ _ => (pv 5)) (fun _ _ _ _ _ => (pv 6))))
    case q4 => exact (ps_ret (pe_and (pe_callB (cr_all rfl) (by rfl) T.z_all (by decide +kernel) (pa_cons (pe_lock (pe_lc (own := [("ref", 5)]) (g := gName 5) (by rfl) sc_is_state.nd (pi_keys (pv 4)) (blkOk_by (own := [("ref", 5)]) (N := ["thing", "rows", "head", "logs", "ids", "ref", "name", "entries"]) (sc := C8.fnScope s_is_state) (by decide +kernel)) (fun _ _ _ _ _ => (pg_name (i := 5) sc_is_state.nd rfl (Or.inl rfl))) (fun _ _ _ _ _ => pts_nil) (fun _ _ _ _ _ => (pe_and (C8.pe_c (c_is_ref T) hr (by decide) (by rfl) (pa_cons (pv 5) pa_nil)) (pe_one (C8.pe_c (c_is_id T) hr (by decide) (by rfl) (pa_cons (pe_dget (hu_of hr) (pv 4) (pv 5) (fun _ _ => rfl)) pa_nil))))))) pa_nil)) (pe_and (pe_not (C8.pe_c (c_have_prefixes T) hr (by decide) (by rfl) (pa_cons (pv 4) pa_nil))) (pe_one (pe_callB (cr_all rfl) (by rfl) T.z_all (by decide +kernel) (pa_cons (pe_lc (own := [("name", 6), ("entries", 7)]) (g := _) (by rfl) sc_is_state.nd (pi_tup (pv 3)) (blkOk_by (own := [("name", 6), ("entries", 7)]) (N := ["thing", "rows", "head", "logs", "ids", "ref", "name", "entries"]) (sc := C8.fnScope s_is_state) (by decide +kernel)) (fun _ _ _ _ _ => (pg_tupK (K := K) (n := 2) rfl rfl (pgs_cons (pg_name (i := 6) sc_is_state.nd rfl (Or.inl rfl)) (pgs_cons (pg_name (i := 7) sc_is_state.nd rfl (Or.inl rfl)) pgs_nil)))) (fun _ _ _ _ _ => pts_nil) (fun _ _ _ _ _ => (pe_and (C8.pe_c (c_is_log_name T) hr (by decide) (by rfl) (pa_cons (pv 6) pa_nil)) (pe_one (C8.pe_c (c__are_entries T) hr (by decide) (by rfl) (pa_cons (pv 7) pa_nil)))))) pa_nil))))))
    obtain ⟨rs, hrs, tr⟩ := id S.hr
    obtain ⟨ls, hls, tl⟩ := id S.hl
    have er : rs.length = u.length := by have := tr.1; rw [List.length_map] at this; exact this
    have el : ls.length = lu.length := by have := tl.1; rw [List.length_map] at this; exact this
    have lu1 := S.l1
    have lu2 := S.l2
    refine ⟨.ref st, rfl, ?_⟩
    dsimp only [tCons, tC, tNil]
    refine isi_tup S.hs (b := true) (kit_ty (by decide +kernel)) ⟨_, rfl, iteF ⟨.ref st, rfl, st, _, rfl, .inr (SqT.of S.hs), rfl, _, rfl, iteF ⟨.ref st, rfl, st, _, rfl, SqT.of S.hs, rfl, _, _, rfl, _, _, rfl, _, _, rfl, rfl, ?_⟩⟩⟩
    refine ⟨.ref r, rfl, r, u, rfl, S.hr, S.su, S.nu, S.l1, fun y hy => (S.ku y hy).2, fun H1 s1 => ⟨_, rfl, iteF ⟨.ref hd, rfl, hd, x, n, rfl, S.hh.keep (TupKeep.of s1), S.ho, fun H2 s2 => ⟨_, rfl, iteF ⟨.ref lg, rfl, lg, lu, rfl, ⟨ls, s2 _ _ (s1 _ _ hls), tl.keep (TupKeep.of (s1.trans s2))⟩, S.sl, S.nl, S.l2, fun y hy => (S.kl y hy).2, fun H3 s3 => ⟨_, rfl, iteF ?_⟩⟩⟩⟩⟩⟩
    have s03 := (s1.trans s2).trans s3
    -- the dict of the references
    refine ⟨.ref r, rfl, r, rfl, ⟨_, SqT.of (s03 _ _ hrs)⟩, fun D hD => ?_⟩
    refine dc_tab (us := rs.zip u) (val := fun z => V.ref z.1) (yields_zip er) (fun z => z.2.1) (fun z => z.2.2) (fun _ => true) (fun z => [some (.ref st), some (.ref r), some (.ref hd), some (.ref lg), none, some (.str z.2.1), some z.2.2, none]) hD (fun H s => SqT.of (s _ _ (s03 _ _ hrs))) (fun _ _ => rfl)
      (fun H2 z s2 hz R k => ⟨z.1, _, rfl, SqT.of (s2 _ _ (s03 _ _ (tups_get tr hz))), rfl, _, _, rfl, _, _, rfl, rfl, k⟩) (fun H u _ _ R k => k H (Same.refl H)) (fun H u _ _ _ R k => ⟨_, rfl, k H (Same.refl H)⟩) (fun H u _ _ _ R k => ⟨_, rfl, k H (Same.refl H)⟩) (by rw [List.length_zip]; omega) ?_ (fun H4 s4 h4 => ?_)
    · rw [filt_all, show (fun z : Addr × (Str × V) => z.2.1) = (fun m : Str × V => m.1) ∘ Prod.snd from rfl, ← List.map_map, List.map_snd_zip (by omega)]
      exact S.nu
    have e0 : ((rs.zip u).filter fun _ => true).map (fun z => (z.2.1, z.2.2)) = u := by
      rw [filt_all, show (fun z : Addr × (Str × V) => (z.2.1, z.2.2)) = Prod.snd from rfl, List.map_snd_zip (by omega)]
    rw [e0] at h4
    have s04 := s03.trans s4
    -- each of them is one
    refine ⟨D, _, h4, trivial, fun od => ⟨.ref D, rfl, D, od, rfl, .inl ⟨kT u, upd_same, fun D2 hD2 => ?_⟩⟩⟩
    have nD : D2 ≠ D := fun z => by
      rw [z, upd_same] at hD2
      cases hD2
    refine lc_pure (i := 5) (us := u) (g := fun z => V.str z.1) yields_tab (fun _ => .bl true) (fun _ => true) hD2 (fun H s => s _ _ upd_same) (fun H z _ _ R k => k H (Same.refl H))
      (fun H5 z s5 hz _ R k => ?_) (by omega) (fun H5 s5 h5 => ?_)
    · obtain ⟨k1, k2, k3⟩ := S.ku z.1 (List.mem_map_of_mem hz)
      obtain ⟨y, ey, y1, y2, y3⟩ := S.vu z hz
      have d := dget_kT (.inr ⟨od, s5 _ _ upd_same⟩) z.1
      rw [val_nodup S.nu z hz, ey] at d
      refine ⟨.str z.1, rfl, .str z.1, rfl, .str z.1 (by omega) k3, fun H6 s6 => ⟨_, rfl, ?_⟩⟩
      rw [show evalV isRefF (.str z.1) = true from k1]
      have d6 := dget_kT (.inr ⟨od, s6 _ _ (s5 _ _ upd_same)⟩) z.1
      rw [val_nodup S.nu z hz, ey] at d6
      refine iteT ⟨.ref D, rfl, .str z.1, rfl, D, .str y, rfl, d6, .str y, rfl, .str y (by omega) y3, fun H7 s7 => ?_⟩
      rw [show evalV isIdF (.str y) = true from y1]
      exact k H7 (s6.trans s7)
    rw [filt_all] at h5
    have all2 : ∀ {α : Type} (l : List α), (l.map fun _ => true).all id = true := fun l => List.all_eq_true.mpr fun z hz => by
      obtain ⟨_, _, rfl⟩ := List.mem_map.mp hz
      rfl
    have s6 : Same H4 (upd H5 D (.dK (kT u))) := same_unlock s5 h4
    have h6 : (upd H5 D (.dK (kT u))) D2 = some (.lst (u.map fun _ => V.bl true)) := by rw [upd_ne nD]; exact h5
    refine ⟨s5 _ _ upd_same, D2, u.map fun _ => true, rfl, .inl (.inl ?_), ?_⟩
    · rw [h6, List.map_map]
      rfl
    rw [all2]
    generalize upd H5 D (.dK (kT u)) = H6 at s6 h6
    have s06 := s04.trans s6
    refine ⟨_, rfl, iteT ?_⟩
    refine ⟨.ref D, rfl, D, u, rfl, s6 _ _ h4, by omega, fun y hy => (S.ku y hy).2, fun H7 s7 => ⟨_, rfl, ?_⟩⟩
    rw [S.hv]
    refine ⟨_, rfl, iteT ?_⟩
    have s07 := s06.trans s7
    refine ⟨.ref lg, rfl, lg, rfl, ⟨_, SqT.of (s07 _ _ hls)⟩, fun D3 hD3 => ?_⟩
    refine lc_gen (us := ls.zip lu) (val := fun z => V.ref z.1) (yields_zip el) (fun _ => .bl true) (fun _ => true) (fun z => [some (.ref st), some (.ref r), some (.ref hd), some (.ref lg), some (.ref D), none, some (.str z.2.1), some z.2.2]) hD3 (fun H s => SqT.of (s _ _ (s07 _ _ hls))) (fun _ _ => rfl)
      (fun H2 z s2 hz R k => ⟨z.1, _, rfl, SqT.of (s2 _ _ (s07 _ _ (tups_get tl hz))), rfl, _, _, rfl, _, _, rfl, rfl, k⟩) (fun H u _ _ R k => k H (Same.refl H)) (fun H8 z s8 hz _ R k => ?_) (by rw [List.length_zip]; omega) (fun H8 s8 h8 => ?_)
    · have hm : z.2 ∈ lu := (List.of_mem_zip hz).2
      obtain ⟨k1, k2, k3⟩ := S.kl z.2.1 (List.mem_map_of_mem hm)
      obtain ⟨p, as, es, ep, hp, te, e0', e1, eg⟩ := S.vl z.2 hm
      refine ⟨.str z.2.1, rfl, z.2.1, rfl, k1, k2, k3, fun H9 s9 => ⟨_, rfl, iteT ⟨z.2.2, rfl, p, as, es, by rw [ep]; rfl, s9 _ _ (s8 _ _ (s07 _ _ hp)), te.keep (TupKeep.of ((s07.trans s8).trans s9)), e0', e1, eg, fun H10 s10 => k H10 (s9.trans s10)⟩⟩⟩
    · rw [filt_all] at h8
      refine ⟨D3, (ls.zip lu).map fun _ => true, rfl, .inl (.inl ?_), ?_⟩
      · rw [h8, List.map_map]
        rfl
      rw [all2]
      exact q _ (s07.trans s8)
end

end Fk

set_option maxHeartbeats 4000000
namespace Fk
open PySem PySem.Spec PyProof.Rows L2
/-! ### references made of a state -/
structure TopS (K : PySem.W.Frag) (mg : Str → Option Value) (CE CR cS cB iS iB ns r0 h0 l0 : Addr) : Prop extends TopR K mg CE CR cS cB iS iB ns r0 h0 l0 where
  iR2 : ∃ f fd, Mk K CR f ∧ C8.Fun K "__init__" "Refs.__init__" s_Refs_init f fd ∧ Binds K fd ["self", "state"] []
section
variable {P : Program} {w : World} {K : PySem.W.Frag} {mg : Str → Option Value} {base : Heap} {CE CR cS cB iS iB ns r0 h0 l0 : Addr}
/-- a state taken over by new references -/
def spRefsState (K : PySem.W.Frag) (CR : Addr) : Sp := fun vs H Q _ => ∃ (R dx st r hd lg : Addr) (u lu : Tab) (x n : Str), vs = [.ref R, .ref st] ∧ H R = some (.ins CR dx []) ∧ StateOk K H st r hd lg u lu x n ∧
  ∀ lk tb lg' H', H lk = none → H tb = none → H lg' = none → FrL [R] H H' → TupKeep H H' → H' R = some (.ins CR dx (rf lk tb hd lg')) → H' lk = some (.dK []) → H' tb = some (.dK (kT u)) → H' lg' = some (.dK (kT lu)) → Q .non H'
theorem k_RefsS (T : TopS K mg CE CR cS cB iS iB ns r0 h0 l0) : C8.Mak P w K mg base 7 "Refs" CR (spRefsState K CR) [] := by
  obtain ⟨f, fd, M, F, b⟩ := T.iR2
  refine C8.mak0 M T.mR F b .nil sc_Refs_init (fun vs H Q E h => ?_) (fun cdv A outer s H vs Q E hr h => ?_)
  · obtain ⟨R, dx, st, r, hd, lg, u, lu, x, n, rfl, _⟩ := h
    rfl
  · obtain ⟨R, dx, st, r, hd, lg, u, lu, x, n, rfl, hR, S, q⟩ := h
    have T0 := T
    have T := T.toTopR
    refine ⟨_, (pss_cons (ps_if (PW.pt (pw_and (pt_cmpR op_notN (pv 1) pe_non (nomark _)) (pw_and1 (pt_not (pt_val (C8.pe_c (c_is_state T.toTop) hr (by decide) (by rfl) (pa_cons (pv 1) pa_nil)))))))
      (pss_one ps_never)
      pss_nil)
      (pss_cons (ps_fld (pv 0) pe_dnewK rfl)
      (pss_one (ps_expr (C8.pe_mt (m_Refstake_over T) hr (by decide) (pv 0) (pa_cons (pe_ifExp (pt_cmpR op_isN (pv 1) pe_non (nomark _)) (C8.pe_gc (by rfl) T.g_NEW_STATE) (pv 1)) pa_nil)))))), ?_⟩
    refine ⟨.ref st, rfl, rfl, _, rfl, ?_⟩
    rw [decide_eq_false (fun z => nomatch z)]
    refine iteT ⟨.ref st, rfl, st, r, hd, lg, u, lu, x, n, rfl, S, fun H1 s1 => ⟨_, rfl, iteF ?_⟩⟩
    have hR1 := s1 _ _ hR
    intro lk hlk
    have nlk : R ≠ lk := ne_of_none hR1 hlk
    have hR2 : (upd H1 lk (.dK [])) R = some (.ins CR dx []) := by rw [upd_ne nlk]; exact hR1
    refine ⟨.ref R, rfl, R, CR, dx, _, rfl, hR2, T.cR, T.nR_locks, (by decide), ?_⟩
    refine ⟨.ref R, rfl, R, dx, _, rfl, upd_same, rfl, .ref st, rfl, rfl, _, rfl, ?_⟩
    rw [decide_eq_false (fun z => nomatch z)]
    refine iteF ⟨.ref st, rfl, ?_⟩
    have k1 : TupKeep H1 (upd (upd H1 lk (.dK [])) R (.ins CR dx (putF "_locks" (.ref lk) []))) := (TupKeep.of (same_new hlk)).trans (TupKeep.at fun xs z => by rw [hR2] at z; cases z)
    have f1 : FrL [R] H1 (upd (upd H1 lk (.dK [])) R (.ins CR dx (putF "_locks" (.ref lk) []))) := (FrL.new hlk).trans (FrL.at (List.mem_singleton_self R))
    have hl1 : (upd (upd H1 lk (.dK [])) R (.ins CR dx (putF "_locks" (.ref lk) []))) lk = some (.dK []) := by rw [upd_ne nlk.symm, upd_same]
    have hR3 : (upd (upd H1 lk (.dK [])) R (.ins CR dx (putF "_locks" (.ref lk) []))) R = some (.ins CR dx (putF "_locks" (.ref lk) [])) := upd_same
    generalize upd (upd H1 lk (.dK [])) R (.ins CR dx (putF "_locks" (.ref lk) [])) = H2 at k1 f1 hl1 hR3
    have k02 := (TupKeep.of s1).trans k1
    obtain ⟨rs, hrs, tr⟩ := id S.hr
    obtain ⟨ls, hls, tl⟩ := id S.hl
    refine ⟨R, st, r, hd, lg, lk, dx, _, u, lu, rfl, hR3, .inl rfl, .inl (k02 _ _ S.hs), ⟨rs, .inl (k02 _ _ hrs), tr.keep k02⟩, S.nu, S.l1, ⟨ls, .inl (k02 _ _ hls), tl.keep k02⟩, S.nl, S.l2, fun tb lg' H3 f3 k3 hR4 ht3 hl3 ntb nlg => ?_⟩
    have fr : ∀ b, H2 b = none → H b = none := fun b e => by
      cases c : H b with
      | none => rfl
      | some o =>
        have nb : b ≠ R := fun z => by rw [z, hR3] at e; cases e
        rw [f1.out (s1 _ _ c) (not1 nb)] at e
        cases e
    exact q lk tb lg' H3 (s1.free hlk) (fr _ ntb) (fr _ nlg) (((FrL.same s1).trans f1).trans f3) (k02.trans k3) hR4 (f3.out hl1 (not1 nlk.symm)) ht3 hl3
end

end Fk

set_option maxHeartbeats 4000000
/-! sorted(set(xs)), xs a list of texts. -/
namespace Fk
open PySem PySem.Spec PyProof.Rows L2 PySem.Froz

/-- what walking over the set asks of its table -/
def Pl (w : World) (t : SetTable) : Prop := Ris t.place.toList ∧ (w.params.followText "set-order" = true ∨ t.led = true)
theorem pl_add {w : World} {D : SD} {h : Int} {v : Value} (p : Pl w D.2.2) : Pl w (addTx h v D).2.2 := by
  obtain ⟨es, ep, t⟩ := D
  have p1 : Pl w (layNew t es h v).2.1 := ⟨layNew_ris t es h v p.1, p.2.imp id fun z => by rw [layNew_led t es h v]; exact z⟩
  have p2 : Pl w (if (layNew t es h v).2.1.plain = true then { (layNew t es h v).2.1 with plain := false } else (layNew t es h v).2.1) := by
    split <;> exact p1
  show Pl w (tailTx ep (layNew t es h v).1 (if (layNew t es h v).2.1.plain = true then { (layNew t es h v).2.1 with plain := false } else (layNew t es h v).2.1) (layNew t es h v).2.2.1).2.2
  generalize (if (layNew t es h v).2.1.plain = true then { (layNew t es h v).2.1 with plain := false } else (layNew t es h v).2.1) = t2 at p2 ⊢
  unfold tailTx
  split
  · exact ⟨relayAll_ris _ _ _, p2.2.imp id fun z => by rw [relayAll_led]; exact z⟩
  · exact p2
theorem perm_add (h : Int) (v : Value) (D : SD) : (addTx h v D).1.toList.Perm (D.1.toList ++ [(h, v)]) := by
  obtain ⟨es, ep, t⟩ := D
  have pm := layNew_perm t es h v
  rw [Array.toList_push] at pm
  show (tailTx ep (layNew t es h v).1 (if (layNew t es h v).2.1.plain = true then { (layNew t es h v).2.1 with plain := false } else (layNew t es h v).2.1) (layNew t es h v).2.2.1).1.toList.Perm _
  generalize (if (layNew t es h v).2.1.plain = true then { (layNew t es h v).2.1 with plain := false } else (layNew t es h v).2.1) = t2
  unfold tailTx
  split
  · exact (relayAll_perm _ _ _).trans pm
  · exact pm
def strOf : Value → Str
  | .str k _ => k
  | _ => Str.empty
/-- the set at a holds the texts l -/
structure TxR (P : Program) (w : World) (h : Heap) (a : Addr) (l : List Str) : Prop where
  ob : ∃ D : SD, h.get? a = some (sObj "set" D) ∧ TxOk P w D l ∧ Pl w D.2.2 ∧ (∀ e ∈ D.1.toList, ∃ k t, e.2 = Value.str k t) ∧ (D.1.toList.map fun e => strOf e.2).Perm l
  nd : l.Nodup
theorem TxR.at {P : Program} {w : World} {h h' : Heap} {a : Addr} {l : List Str} (R : TxR P w h a l) (k : ∀ o, h.get? a = some o → h'.get? a = some o) : TxR P w h' a l := by
  obtain ⟨⟨D, ho, r⟩, nd⟩ := R
  exact ⟨⟨D, k _ ho, r⟩, nd⟩
theorem txr_new {P : Program} {w : World} {h : Heap} {a : Addr} (ho : h.get? a = some { cls := .type "set", dict := none, data := .set #[] 0 (.fresh 0 0 (!w.params.followText "set-order")) }) : TxR P w h a [] := by
  refine ⟨⟨(#[], 0, .fresh 0 0 (!w.params.followText "set-order")), ho, TxOk.nil (by rfl), ⟨List.Pairwise.nil, ?_⟩, fun e he => by simp at he, by simp⟩, .nil⟩
  show _ ∨ (!w.params.followText "set-order") = true
  cases w.params.followText "set-order"
  · exact .inr rfl
  · exact .inl rfl
section
variable {P : Program} {w : World} {A : Around} {E : Value → Shared → Prop} {s : Shared}
theorem txr_same {a : Addr} {l : List Str} {k : Str} {u : Tok} {Q : Bool → Shared → Prop} (R : TxR P w s.heap a l) (hk : k ∈ l) (hb : l.length < scanBound) (h : Q false s) :
    wpAny (model P w) A (setAddHashed a (.str k u) ((strKind P w).hash k)) Q E s := by
  obtain ⟨⟨⟨es, ep, t⟩, ho, F, _⟩, _⟩ := R
  have hd : (sObj "set" (es, ep, t)).data = .set es ep t := rfl
  have hf : t.fits es.size = true := F.fit
  have hel : ElemsOf (strKind P w) es.toList := F.el
  have hsz : es.size = l.length := F.sz
  have hkey : (strKind P w).is k (.str k u) = true := is_str k u
  unfold setAddHashed setAddHashedIn
  refine wpAny_holding (wpAny_bind (wpAny_setState_of ho hd hf ?_))
  dsimp only
  rw [byScan_of rfl (by omega) hel]
  simp only [↓reduceIte]
  unfold setAddByScan
  refine wpAny_bind ?_
  refine wpAny_bind (wpAny_rule ?_)
  refine wpAny_bind (wpAny_setScan_of (knd := strKind P w) (k := k) hkey ho hd hf hel ?_)
  cases hr : List.findIdx? (fun e => (strKind P w).is k e.2) es.toList with
  | none =>
    obtain ⟨e, he, q⟩ := (F.mem k).mp hk
    have c := List.findIdx?_eq_none_iff.mp hr e he
    rw [q] at c
    cases c
  | some j =>
    dsimp only
    exact wpAny_pure (wpAny_pure h)
theorem txr_add {a : Addr} {l : List Str} {k : Str} {u : Tok} {Q : Bool → Shared → Prop} (R : TxR P w s.heap a l) (hb : l.length + 1 < scanBound)
    (h : ∀ (b : Bool) h', Heap.SameBut a s.heap h' → TxR P w h' a (if k ∈ l then l else k :: l) → Q b { s with heap := h' }) :
    wpAny (model P w) A (setAddHashed a (.str k u) ((strKind P w).hash k)) Q E s := by
  by_cases hk : k ∈ l
  · rw [if_pos hk] at h
    exact txr_same R hk (by omega) (h false s.heap (Heap.SameBut.refl a s.heap) R)
  · rw [if_neg hk] at h
    obtain ⟨⟨D, ho, F, p, st, pm⟩, nd⟩ := R
    refine add_x ho F hk hb (h true _ ?_ ⟨⟨_, get_upd _ ho rfl, add_ok u F, pl_add p, fun e he => ?_, ?_⟩, List.nodup_cons.mpr ⟨hk, nd⟩⟩)
    · exact Heap.SameBut.update _ _ _
    · rcases List.mem_append.mp ((perm_add _ _ D).mem_iff.mp he) with z | z
      · exact st e z
      · rw [List.mem_singleton] at z
        exact ⟨k, u, by rw [z]⟩
    · refine ((perm_add _ _ D).map fun e => strOf e.2).trans ?_
      rw [List.map_append]
      exact (List.perm_append_comm).trans (pm.cons k)

theorem set_update_strs {I : Addr} {fp wr : List Addr} {G : Array GenState → Array GenState → Prop} {n : Nat} {Pv : Nat → Value → Prop} {St : Nat → Shared → Prop} {R : Result → Shared → Prop}
    (W : WalksS P w A.in1 I fp wr G n Pv St) (S : Addr) (hSf : S ∉ fp) (ks : List Str) (hn : n = ks.length) (hb : ks.length + 1 < scanBound) (hval : ∀ i v, Pv i v → ∃ k t, ks[i]? = some k ∧ v = .str k t) :
    ∀ (m i : Nat) (s : Shared), n - i = m → i ≤ n → St i s → (∃ l, l.length ≤ i ∧ (∀ k, k ∈ l ↔ k ∈ ks.take i) ∧ TxR P w s.heap S l) →
      (∀ s' l, Moved (S :: wr) G s s' → l.length ≤ n → (∀ k, k ∈ l ↔ k ∈ ks) → TxR P w s'.heap S l → R (.ok (.ret .none)) s') →
      codeAny (model P w) A (.builtin "set.update.loop" ⟨[.ref S, .ref I], []⟩) R s := by
  have hSw : S ∉ wr := fun h => hSf (W.sub _ h)
  have hsub : ∀ b ∈ wr, b ∈ S :: wr := fun b hb => List.mem_cons_of_mem _ hb
  intro m
  induction m with
  | zero =>
    intro i s hk' hi hst ⟨l, hc, hm0, hS⟩ hR
    have hin : i = n := by omega
    subst hin
    refine codeAny_builtin F.entry_set_update_loop ?_
    rw [Around.under_plainId F.plain_set_update_loop _]
    show wpAny _ A.in1 (pyNext (.ref I) >>= _) _ _ s
    refine wpAny_bind (W.done s _ _ hst fun s' hm => ?_)
    show wpAny _ A.in1 (ret Value.none) _ _ s'
    rw [List.take_of_length_le (by omega)] at hm0
    exact wpAny_pure (hR s' l (hm.mono hsub) hc hm0 (hS.at fun o e => hm.heap S o hSw e))
  | succ m ih =>
    intro i s hk' hi hst ⟨l, hc, hm0, hS⟩ hR
    have hlt : i < n := by omega
    refine codeAny_builtin F.entry_set_update_loop ?_
    rw [Around.under_plainId F.plain_set_update_loop _]
    show wpAny _ A.in1 (pyNext (.ref I) >>= _) _ _ s
    refine wpAny_bind (W.item i s _ _ hlt hst fun v s' hP hst' hm => ?_)
    obtain ⟨z, t, hz, rfl⟩ := hval i v hP
    have hS' : TxR P w s'.heap S l := hS.at fun o e => hm.heap S o hSw e
    show wpAny _ A.in1 (holding [Value.str z t] (setAdd S (.str z t)) >>= _) _ _ s'
    refine wpAny_bind (wpAny_holding ?_)
    unfold setAdd
    refine wpAny_holding ?_
    refine wpAny_bind ((strKind P w).pyHash (k := z) (is_str _ _) ?_)
    refine txr_add (s := { s' with toks := s'.toks + 1 }) hS' (by omega) fun _ h' hsb hS2 => ?_
    have hm2 : ∀ k, k ∈ (if z ∈ l then l else z :: l) ↔ k ∈ ks.take (i + 1) := fun k => by
      have e : ks.take (i + 1) = ks.take i ++ [z] := by
        rw [List.take_add_one, hz]; rfl
      rw [e, List.mem_append, List.mem_singleton, ← hm0 k]
      by_cases c : z ∈ l
      · rw [if_pos c]
        exact ⟨.inl, fun q => q.elim id fun q => q ▸ c⟩
      · rw [if_neg c, List.mem_cons]
        exact Or.comm
    have hc2 : (if z ∈ l then l else z :: l).length ≤ i + 1 := by
      split
      · omega
      · rw [List.length_cons]; omega
    refine wpAny_pure ⟨plainId_quiet F.plain_set_update_loop _, ih (i + 1) _ (by omega) hlt (W.frame _ s' _ _ hst' (Nat.le_succ _) fun b hb o e => ?_) ⟨_, hc2, hm2, hS2⟩ fun s'' l2 hm'' hc'' hm3 hS'' => ?_⟩
    · rw [hsb.2 b (fun h : b = S => hSf (by rw [← h]; exact hb))]; exact e
    · refine hR s'' l2 (Moved.trans W.gtrans ((hm.mono hsub).then_heap (Nat.le_succ _) fun b o hb e => ?_) hm'') hc'' hm3 hS''
      rw [hsb.2 b (fun h : b = S => hb (by rw [h]; exact List.mem_cons_self))]; exact e

theorem str_vals : ∀ {us : List Value} {ks : List Str}, StrsAre us ks → ∀ (i : Nat) (v : Value), us[i]? = some v → ∃ k t, ks[i]? = some k ∧ v = .str k t
  | _, _, .nil, i, v, h => by simp at h
  | _, _, .cons n t hr, 0, v, h => ⟨n, t, rfl, (Option.some.inj h).symm⟩
  | _, _, .cons n t hr, i + 1, v, h => str_vals hr i v (by simpa using h)
theorem str_len : ∀ {us : List Value} {ks : List Str}, StrsAre us ks → us.length = ks.length
  | _, _, .nil => rfl
  | _, _, .cons n t hr => by rw [List.length_cons, List.length_cons, str_len hr]

set_option maxHeartbeats 6400000 in
theorem call_set_strs {l : Addr} {items : Array Value} (ks : List Str) {Q : Value → Shared → Prop} (hh : A.handled = none) (hl : s.heap.IsList l items) (hit : StrsAre items.toList ks) (hb : ks.length + 1 < scanBound)
    (h : ∀ (h' : Heap) (tk : Nat) L, TxR P w h' s.heap.objs.size L → L.length ≤ ks.length → (∀ k, k ∈ L ↔ k ∈ ks) → (∀ b o, s.heap.get? b = some o → h'.get? b = some o) → Q (.ref s.heap.objs.size) { s with heap := h', toks := tk }) :
    wpAny (model P w) A (call (.type "set") [.ref l]) Q E s := by
  have hisz : items.size = ks.length := by
    have q := str_len hit
    rw [Array.length_toList] at q
    exact q
  obtain ⟨c, tl, hmro⟩ := F.called_set.mro
  have hmade := F.called_set.made
  have hsub := F.called_set.sub
  refine wpAny_call (codeAny_of_tree ?_)
  show wpAny _ _ (callAny (.type "set") _) _ _ _
  refine wpAny_pure ⟨Code.quiet_builtin _ (by decide +kernel), codeAny_builtin F.entry_type_call ?_⟩
  rw [Around.under_plain (weight_type_call_type "set" [.ref l] []) rfl]
  have h1 := F.called_set.notType
  have h2 := F.called_set.canCreate
  have hct := F.typeCall_set_1 (.ref l)
  repeat (any_goals (first | assumption | wp_step))
  generalize hO : ({ cls := .type "set", dict := none, data := .set #[] 0 (.fresh 0 0 (!w.params.followText "set-order")) } : Obj) = O
  have hOc : O.cls = .type "set" := by rw [← hO]
  have hOf : O.isFreed = false := by rw [← hO]; rfl
  refine codeAny_mono (code_set_led1 (.ref l) (E := E) (Q₁ := fun obj s₁ => obj = .ref s.heap.objs.size ∧ s₁ = { s with heap := s.heap.push O }) ⟨rfl, by rw [hO]⟩) fun r s₁ hr => ?_
  cases r with
  | error e => exact hr
  | ok fl =>
    cases fl with
    | ret obj =>
      obtain ⟨rfl, rfl⟩ := hr
      have hS : (s.heap.push O).get? s.heap.objs.size = some O := Heap.get?_push_size _ hOf
      have hT : Shared.TypeIs { s with heap := s.heap.push O } (.ref s.heap.objs.size) "set" := ⟨_, hS, hOc⟩
      have hli := F.called_set.init.lookup
      have hbi := F.called_set.init.bind (.ref s.heap.objs.size)
      repeat (any_goals (first | assumption | wp_step))
      refine codeAny_mono (codeAny_call_builtin (R := wants (fun r s₂ => r = .none ∧ ∃ h' tk L, s₂ = { s with heap := h', toks := tk } ∧ TxR P w h' s.heap.objs.size L ∧ L.length ≤ ks.length ∧ (∀ k, k ∈ L ↔ k ∈ ks) ∧
          (∀ b o, s.heap.get? b = some o → h'.get? b = some o)) E) F.called_set.init.plain F.entry_set_init (check_set_init_1 hT ?_)) fun r₂ s₂ hr₂ => ?_
      · obtain ⟨ol, hol, hcl, nl, hdl⟩ := hl
        obtain ⟨ocls, odict, odata, oslots⟩ := ol
        simp only at hcl hdl
        subst hcl; subst hdl
        have hol' : (s.heap.push O).get? l = some { cls := .type "list", dict := odict, data := .seq items nl, slots := oslots } := Heap.get?_push_of_some _ hol
        subst hO
        have hsls := F.sub_list_set
        have hslf := F.sub_list_frozenset
        have hne : (Value.type "list" == Value.type "dict") = false := by decide
        have hl1 : (s.heap.push ({ cls := .type "set", dict := none, data := .set #[] 0 (.fresh 0 0 (!w.params.followText "set-order")) } : Obj)).IsList l items := ⟨_, hol', rfl, nl, rfl⟩
        unfold Builtin.«set.__init__» noKeywords Builtin.Frozenset.updateFrom
        generalize hPI : pyIter = PI
        wp_walk
        subst hPI
        refine wpAny_pyIter_list (s := { s with heap := s.heap.push ({ cls := .type "set", dict := none, data := .set #[] 0 (.fresh 0 0 (!w.params.followText "set-order")) } : Obj) }) hl1 ?_
        refine wpAny_bind (wpAny_runValue ?_)
        have hlS : l < s.heap.objs.size := Heap.lt_size hol
        have hh3 : A.in1.in1.in1.handled = none := by simp [hh]
        have hneI : l ≠ (s.heap.push ({ cls := .type "set", dict := none, data := .set #[] 0 (.fresh 0 0 (!w.params.followText "set-order")) } : Obj)).objs.size := by
          rw [Heap.size_push]; exact Nat.ne_of_lt (Nat.lt_succ_of_lt hlS)
        have hSf : s.heap.objs.size ∉ [(s.heap.push ({ cls := .type "set", dict := none, data := .set #[] 0 (.fresh 0 0 (!w.params.followText "set-order")) } : Obj)).objs.size, l] := by
          rw [Heap.size_push]; simp only [List.mem_cons, List.mem_singleton, List.not_mem_nil, or_false, not_or]
          exact ⟨Nat.ne_of_lt (Nat.lt_succ_self _), Nat.ne_of_gt hlS⟩
        refine set_update_strs ((Walks.list hh3 _ l hneI items).toS) s.heap.objs.size
          hSf ks hisz hb (fun i v hv => str_vals hit i v (by rw [Array.getElem?_toList]; exact hv)) (items.size - 0) 0 _ (by omega) (Nat.zero_le _)
          ⟨⟨_, Heap.get?_push_size _ rfl, rfl, rfl⟩, (hl1.push _)⟩ ⟨[], Nat.le_refl _, (fun k => by simp), txr_new (by exact Heap.get?_push_of_some _ hS)⟩ fun s' L hm hlen hmem hS' => ?_
        obtain ⟨h', g2, d', tk', os'⟩ := s'
        have eg : g2 = s.gens := hm.gens
        have ed : d' = s.drawn := hm.drawn
        have eo : os' = s.os := hm.os
        subst eg; subst ed; subst eo
        show wpAny _ _ _ _ _ _
        refine wpAny_pure ?_
        show wpAny _ _ (ret Value.none) _ _ _
        refine wpAny_pure ⟨rfl, h', tk', L, rfl, hS', by omega, hmem, fun b o e => ?_⟩
        have hb0 : b < s.heap.objs.size := Heap.lt_size e
        have hb2 : b ≠ (s.heap.push ({ cls := .type "set", dict := none, data := .set #[] 0 (.fresh 0 0 (!w.params.followText "set-order")) } : Obj)).objs.size := by
          rw [Heap.size_push]; exact Nat.ne_of_lt (Nat.lt_succ_of_lt hb0)
        exact hm.heap b o (by simp only [List.mem_cons, List.mem_singleton, List.not_mem_nil, or_false, not_or]; exact ⟨Nat.ne_of_lt hb0, hb2⟩) (Heap.get?_push_of_some _ (Heap.get?_push_of_some _ e))
      · cases r₂ with
        | error e => exact hr₂
        | ok fl₂ =>
          cases fl₂ with
          | ret r =>
            obtain ⟨rfl, h', tk, L, rfl, hS', hc', hm', hk'⟩ := hr₂
            repeat (any_goals (first | assumption | wp_step))
            exact h _ _ _ hS' hc' hm' hk'
          | _ => exact hr₂.elim
    | _ => exact hr.elim

theorem strs_of_vals : ∀ (vs : List Value), (∀ v ∈ vs, ∃ k t, v = Value.str k t) → StrsAre vs (vs.map strOf)
  | [], _ => .nil
  | v :: vs, h => by
    obtain ⟨k, t, rfl⟩ := h v List.mem_cons_self
    exact .cons k t (strs_of_vals vs fun u hu => h u (List.mem_cons_of_mem _ hu))
/-- sorted(the set) -/
theorem sorted_txr {a : Addr} {l : List Str} {Q : Value → Shared → Prop} (R : TxR P w s.heap a l) (hh : A.handled = none) (h64 : l.length < 64)
    (hQ : ∀ s' p (out : List Value) (c : Nat) (ys : List Str), (∀ b o, s.heap.get? b = some o → s'.heap.get? b = some o) → s'.gens = s.gens → s'.os = s.os → s.heap.objs.size ≤ p →
      s'.heap.get? p = some (seqObj "list" out.toArray c) → StrsAre out ys → ys.Perm l → sortedS ys = true → Q (.ref p) s') :
    wpAny (model P w) A (call (.builtin "sorted") [.ref a]) Q E s := by
  obtain ⟨⟨⟨es, ep, t⟩, ho, F, pl, st, pm0⟩, nd⟩ := R
  have hsz : es.size = l.length := F.sz
  refine Calls.call_function_entry PyProof.Rows.kind_sorted PyProof.Rows.plain_sorted PyProof.Rows.entry_sorted (PyProof.Rows.args_sorted1 _) ?_
  unfold Builtin.«sorted»
  refine wpAny_bind (m := checkCount "sorted" 1 1 _) (wpAny_pure ?_)
  refine wpAny_bind (collect_set (A := A.in1) hh ⟨_, ho, rfl, rfl⟩ F.fit (by show es.size < scanBound; unfold scanBound; omega) pl.1 pl.2 fun s1 vs k1 hz g1 o1 pm => ?_)
  have hvl : vs.length < 64 := by rw [pm.length_eq, List.length_map, Array.length_toList]; exact hsz ▸ h64
  have hS : StrsAre vs (vs.map strOf) := strs_of_vals vs fun v hv => by
    obtain ⟨e, he, q⟩ := List.mem_map.mp (pm.mem_iff.mp hv)
    obtain ⟨k, tk, z⟩ := st e he
    exact ⟨k, tk, by rw [← q]; exact z⟩
  have pk : (vs.map strOf).Perm l := by
    have q := pm.map strOf
    rw [List.map_map] at q
    exact q.trans pm0
  refine wpAny_bind (wpAny_newList ?_ (by rw [sizeLine_eq]; omega))
  have hoL : (s1.heap.push (seqObj "list" vs.toArray 0)).get? s1.heap.objs.size = some (seqObj "list" vs.toArray 0) := Heap.get?_push_size _ rfl
  refine wpAny_bind (wpAny_holding (wpAny_call_entry PyProof.Rows.slot_list_sort ⟨_, hoL, rfl⟩ PyProof.Rows.entry_list_sort
    (list_sort_treeK strKind_oneLt (s := { s1 with heap := s1.heap.push (seqObj "list" vs.toArray 0) }) hoL hS.keysOf (fun v₁ v₂ rest e => keyKind_strs (by rw [← e]; exact hS)) hvl fun st' hp hs => ⟨_, rfl, ?_⟩)
    (PyProof.Rows.args_list_sort _)))
  obtain ⟨ys, g1', g2, g3⟩ := sorted_out_str hS hp hs
  obtain ⟨c, hc⟩ := PyProof.Rows.sortedHeap_at (vs := vs) (out := (arrOf st').map (·.2)) hoL
  refine wpAny_pure ⟨_, rfl, hQ _ s1.heap.objs.size ((arrOf st').map (·.2)).toList c ys (fun b u e => ?_) g1 o1 hz (by rw [Array.toArray_toList]; exact hc) g1' (g2.trans pk) g3⟩
  have q := k1 b u e
  have hlt := Heap.lt_size q
  show (sortedHeap (s1.heap.push (seqObj "list" vs.toArray 0)) s1.heap.objs.size vs _).get? b = some u
  rw [PyProof.Rows.sortedHeap_old (Nat.ne_of_lt hlt) (by rw [size_push']; exact Nat.lt_succ_of_lt hlt)]
  exact Heap.get?_push_of_some _ q
end
section
variable {X : Cx}
/-- sorted(set(xs)), xs a list of fewer than 64 texts -/
def tSortSetS (K : PySem.W.Frag) (ta : TE) : TE := fun σ H Q => ta σ H fun x H1 => ∃ (l : Addr) (xs : List Str), x = .ref l ∧ SqL K H1 l (xs.map V.str) ∧ xs.length < 64 ∧
  ∀ ys p, ys.Nodup → (∀ k, k ∈ ys ↔ k ∈ xs) → sortedS ys = true → ys.length ≤ xs.length → H1 p = none → Q (.ref p) (upd H1 p (.lst (ys.map V.str)))
theorem pe_sortSetS {a : Expr} {ta : TE} {p p2 q pos : Pos} (hc : X.calm = true) (hg : Gl X "sorted") (hm : X.mg "sorted" = none) (hg2 : Gl X "set") (hm2 : X.mg "set" = none) (ha : PE X a ta)
    (na : starEach [a] X.env = (false, eval a X.env) :: starEach [] X.env := by rfl) : PE X (.Call (.Name "sorted" p) [.Call (.Name "set" p2) [a] [] q] [] pos) (tSortSetS X.K ta) := by
  refine ⟨fun pins s σ H Q I h => ?_⟩
  refine Call_ (ld_blt I hg hm boot_sorted ?_)
  refine PyProof.Rows.callWith_builtin1 (PyProof.Rows.args_cons ?_ rfl) rfl rfl
  refine Call_ (ld_blt I hg2 hm2 boot_set ?_)
  refine PyProof.Rows.callWith_type1 (PyProof.Rows.args_cons (thn (ha.run pins s σ H _ I h) fun v s1 ⟨x, H1, I1, r1, q1⟩ => PyProof.Rows.args_nil ?_) na) na rfl
  obtain ⟨l, xs, rfl, hq, h1, q1⟩ := q1
  cases r1
  obtain ⟨its, r, pl, hz⟩ := I1.list hq
  refine call_set_strs xs (I1.ok.hd hc) pl.isList (by simpa using strsAre_of r) (by unfold scanBound; omega) fun h' tk L R hl hmem hk => ?_
  refine PyProof.Rows.args_nil ?_
  obtain ⟨s2, e2⟩ : ∃ s2 : Shared, s2 = { s1 with heap := h', toks := tk } := ⟨_, rfl⟩
  rw [← e2]
  have I2 : Inv X pins σ H1 s2 := by rw [e2]; exact I1.kept fun b o e => hk b o e
  have R2 : TxR X.prog X.w s2.heap s1.heap.objs.size L := by rw [e2]; exact R
  refine sorted_txr R2 (I2.ok.hd hc) (by omega) fun s' p out c ys k g o hp hgp hs pm hsort => ?_
  have hlen : (ys.map V.str).length ≤ sizeLine := by rw [List.length_map, pm.length_eq, sizeLine_eq]; omega
  have hn : H1 p = none := I2.hok.fresh hp
  have J : Inv X pins σ (upd H1 p (.lst (ys.map V.str))) { s2 with heap := s'.heap, gens := s'.gens, drawn := s'.drawn, toks := s'.toks } :=
    I2.call (ch := []) (Un.laid k hp hn) (I2.hok.laid k hp ⟨hlen, out, c, vals_of_strs hs, hgp⟩) (by rw [g]; exact I2.bare) (fun _ z => nomatch z)
  have e : s' = { s2 with heap := s'.heap, gens := s'.gens, drawn := s'.drawn, toks := s'.toks } := by
    obtain ⟨h3, g3, d3, t3, o3⟩ := s'
    have eo : o3 = s2.os := o
    subst eo
    rfl
  rw [e]
  exact ⟨.ref p, _, J, rfl, q1 ys p (pm.nodup_iff.mpr R.nd) (fun k => by rw [pm.mem_iff, hmem k]) hsort (by rw [pm.length_eq]; exact hl) hn⟩
end
end Fk

set_option maxHeartbeats 4000000
/-! a def that makes lambdas (its code object known); a lambda handed to a def, by the def's name; the end with the tables of such defs. -/
namespace Fk
open PySem PySem.Spec PyProof.Rows L2 LamX
section
variable {P : Program} {w : World} {K : PySem.W.Frag} {mg : Str → Option Value} {base : Heap}
/-- a def of the module, its code object known -/
def IsDefC (K : PySem.W.Frag) (mg : Str → Option Value) (x : Str) (st : Stmt) (c : Addr) : Prop := ∃ f fd, C8.Def K mg x st f fd ∧ fd.defaults = .none ∧ fd.code = .ref c
theorem cal_ofC {x : Str} {st : Stmt} {N ps : List Str} {k : Nat} {sp : Sp} {c : Addr} (D : IsDefC K mg x st c) (S : FnScope N ps (C8.fnScope st))
    (hb : ∀ (kV doc pm : Value) (an : Option Addr) (cdv ct : Value) (us : List Value), us.length = ps.length → bindArgs (PySem.W.fnOf x x (C8.fnArgs st) (C8.fnBody st) (C8.fnScope st) .none kV doc pm an cdv ct) ⟨us, []⟩ = pure (ps.zip us))
    (len : ∀ vs H Q E, sp vs H Q E → vs.length = ps.length)
    (hbody : ∀ (f : Addr) (A : Around) (outer : List Env) (s : Shared) (H : Hp) (vs : List V) (Q : VK) (E : XK), Room k (A.deeper (envOfC x (C8.fnScope st) s.heap.objs.size f (.ref c))) → sp vs H Q E →
      ∃ t, PSs (cxOf C8.CX0 P w K mg base N x (C8.fnScope st) f (.ref c) A outer s H E).nox (C8.fnBody st) t ∧ t { nx := fun _ H' => Q .non H', rt := Q } (start N vs) H) : C8.Cal P w K mg base (k + 1) x sp [] := by
  obtain ⟨f, fd, D, df, dc⟩ := D
  obtain ⟨oc, od, dV, kV, doc, pm, an, cdv, ct, osl, rfl, lk, hcd⟩ := D.fn.ex
  have e : dV = .none := df
  subst e
  have e2 : cdv = .ref c := dc
  subst e2
  exact ⟨f, _, ps, [], fn_of lk hcd S len fun A outer s H vs Q E hr hsp => by
    obtain ⟨t, h, q⟩ := hbody f A outer s H vs Q E hr hsp
    exact ⟨t, h.nox, q⟩, D.mgf, D.kp, .all (hb kV doc pm an (.ref c) ct), .nil⟩
end
/-- what the lambda's body lets out, its caller is told of -/
theorem takes_lam {X : Cx} {A : Around} {outer : List Env} {s : Shared} {H : Hp} {E : XK} {scope : Scope} {f c' : Addr} : Takes (lamCx X A outer s H E scope f c') (fun cls d _ H' => E cls d H') :=
  takes_of rfl rfl rfl rfl
/-- where an error is let out, the names are as many as ever -/
theorem takes_len {X : Cx} {W : WX} (tk : Takes X W) : Takes X (fun cls d σ H => σ.length = X.N.length → W cls d σ H) := fun u s' ⟨a, B, sI, pins, σ, H, cls, d, e, I, nb, up, sky, na, os, ag, w⟩ =>
  tk u s' ⟨a, B, sI, pins, σ, H, cls, d, e, I, nb, up, sky, na, os, ag, w I.len⟩
section
variable {X : Cx}
/-- x(lambda: body), x a def of one parameter a -/
theorem pe_lamC {T : List (Addr × Str)} {TT : (XK → Hp → VK → Prop) → Hp → VK → Prop} {x a : Str} {st : Stmt} {c P : Addr} {k j : Nat} {Ng : List Str}
    {params : Arguments} {body : Expr} {scope : Scope} {t : XK → TE} {p lpos pos : Pos} (D : IsDef X.K X.mg x st) (Sg : FnScope Ng [a] (C8.fnScope st))
    (hb : ∀ (kV doc pm : Value) (an : Option Addr) (cdv ct : Value) (us : List Value), us.length = 1 → bindArgs (PySem.W.fnOf x x (C8.fnArgs st) (C8.fnBody st) (C8.fnScope st) .none kV doc pm an cdv ct) ⟨us, []⟩ = pure ([a].zip us))
    (hg : Gl X x) (hNg : Ng[0]? = some a) (hva : Vis (C8.fnScope st) a)
    (hG : ∀ (g : Addr) (cdg : Value), GivesTo X Ng x (C8.fnScope st) g cdg (C8.fnBody st) a (X.env.qual ++ "<lambda>") TT)
    (TB : TabB X.base X.mg c P) (hcode : X.env.code = .ref c) (hmT : (P, X.env.qual ++ "<lambda>") ∈ T) (hu : ∀ p ∈ T, p.1 = P → p.2 = X.env.qual ++ "<lambda>") (hr : Room j X.A) (hk : k + 2 ≤ j) (L : LamS X.env.scope scope) (hdef : defaultsOf params X.env = ([], []))
    (hbind : ∀ (q : Str) (cl : List (Str × Addr)) (pm cv ctv : Value), bindArgs (PySem.W.kla_fn "<lambda>" q params body scope cl pm cv ctv) ⟨[], []⟩ = pure [])
    (hbody : ∀ (A : Around) (outer : List Env) (s : Shared) (H : Hp) (E : XK) (f c' : Addr), Room k (A.deeper (lamEnv X scope s.heap.objs.size f c')) → PE (lamCx X A outer s H E scope f c') body (t E))
    (hdb : (x == ("__debug__" : Str)) = false := by decide) (hd : (a == ("__debug__" : Str)) = false := by decide) (hcd : (a == ("__classdict__" : Str)) = false := by decide) :
    PE X (.Call (.Name x p) [.Lambda params body scope lpos] [] pos) (tLam T TT t) := by
  obtain ⟨f, fd, D, df⟩ := D
  obtain ⟨oc, od, dV, kV, doc, pm, an, cdv, ct, osl, rfl, lk, hcg⟩ := D.fn.ex
  have e : dV = .none := df
  subst e
  exact pe_lamcall hg D.mgf D.kp lk hcg (.all (hb kV doc pm an cdv ct)) Sg hNg hva (hG f cdv) TB hcode hmT hu (hr.mono hk) L hdef hbind hbody hdb hd hcd
end
/-! ### the end -/
/-- the def y, its code object and its table -/
def TabD (mg : Str → Option Value) (h : Heap) (y : Str) (c P : Addr) : Prop := ∃ (a : Addr) (o : Obj) (fd : FuncData), mg y = some (.ref a) ∧ h.get? a = some o ∧ o.data = .func fd ∧ fd.code = .ref c ∧ PySem.W.CodeHd h c P ∧ h.get? P = some { cls := .none, data := .fields #[] }
theorem TabD.code {K : PySem.W.Frag} {mg : Str → Option Value} {h : Heap} {y : Str} {c P f : Addr} {fd : FuncData} {oc : Value} {od : Option Addr} {osl : Array (Option Value)} (t : TabD mg h y c P) (X : K.In h) (hm : mg y = some (.ref f)) (lk : K.lookup f = some ⟨oc, od, .func fd, osl⟩) : fd.code = .ref c := by
  obtain ⟨a, o, fd', h1, h2, h3, h4, _⟩ := t
  rw [hm] at h1
  cases h1
  have e := X _ _ lk
  rw [h2] at e
  cases e
  cases h3
  exact h4
theorem walk_ofTabs {l : PySem.W.OpenLaw} {n k : Nat} {q : Program} {loose : List Str} {XP : (Str → Option Value) → Heap → Prop} {YP : World → Heap → Prop} {d : DefRec} {K : Params → PySem.W.Frag} {CX : World → CXT} {x : Str} {ys : List Str}
    (hn : l.most = some n) (hn2 : n ≤ sizeLine) (hdf : d.params.defaults = []) (hr : Room k callerA) (hrec : ∀ y ∈ ys, ((recsOf q).any fun e => e.name == y) = true) (hY : ∀ (w : World) (h : Heap), YP w h → (K w.params).In h)
    (F : ∀ (w : World) (mg : Str → Option Value) (fa : Addr) (h : Heap), YP w h → (K w.params).In h → h.Ns mainGlobals mg → mg d.name = some (.ref fa) → (∀ y ∈ ys, ∃ c P, TabD mg h y c P) → LawAtS l w (K w.params) (CX w) k n x mg fa h)
    (hCX : ∀ (w : World) (H : Hp) (s : Shared) (e : Value) (s' : Shared), CX w [] H s (fun _ _ _ => False) e s' → False) :
    PySem.W.WalkO q loose XP YP l.row.toRowW d [] (fun f vs => PySem.call f vs) := by
  refine Att.attach_callB hn hdf fun w s₀ s₁ mg mb fa o pm cd doc a vs ns G Y ho hd hcd hmg hobj hints hlen hbits hg => ?_
  have KX := hY w _ Y
  have tabs : ∀ y ∈ ys, ∃ c P, TabD mg s₁.heap y c P := fun y hy => by
    obtain ⟨dL, hm, hn1⟩ := List.any_eq_true.mp (hrec y hy)
    have hn2 : dL.name = y := beq_iff_eq.mp hn1
    obtain ⟨a', o', fd', c', P', h1, h2, h3, h4, h5, h6⟩ := G.T.tab dL hm
    rw [hn2] at h1
    exact ⟨c', P', a', o', fd', h1, h2, h3, h4, PySem.W.CodeHd.of h5 h6, h6.2⟩
  obtain ⟨fd, cs, sp, hT, nT, C, hb, hsp, hF⟩ := F w mg fa _ Y KX G.T.g hmg tabs
  exact law_callTs KX G.T.g G.T.b G.T.builtins G.T.nolimit hg hT nT C G.T.bmain hobj hints (Nat.le_trans hlen hn2) hr hF hb (fun H hH hS => hsp H a ns hlen hbits hH hS) fun H e s' => hCX w H s₁ e s'
end Fk

set_option maxHeartbeats 4000000
namespace Fk
open PySem PySem.Spec PyProof.Rows L2
open LamX
/-! ### what is asked -/
/-- what the def makes of a question: told, stale with a reference, or refused -/
def TAsk (cS cB : Addr) : (XK → Hp → VK → Prop) → Hp → VK → Prop := fun tl H Q =>
  tl (fun cls d H' => (∃ x dd, cls = .ref cS ∧ d = some dd ∧ H' dd = some (.xd [("ref", .str x)]) ∧ ∀ p H'', Same H' H'' → H'' p = some (.tup [.str "stale", .str x]) → Q (.ref p) H'') ∨ (cls = .ref cB ∧ ∀ p H'', Same H' H'' → H'' p = some (.tup [.str "ref", .non]) → Q (.ref p) H'')) H
    fun v H' => 2 ≤ sizeLine ∧ ∀ p, H' p = none → Q (.ref p) (upd H' p (.tup [.str "told", v]))
theorem asked_gives {X : Cx} {CE CR cS cB iS iB ns r0 h0 l0 g : Addr} {cdg : Value} {q : Str} (T : TopR X.K X.mg CE CR cS cB iS iB ns r0 h0 l0) : GivesTo X ["_law_ask", "e"] "_law_asked" (C8.fnScope s_l_asked) g cdg (C8.fnBody s_l_asked) "_law_ask" q (TAsk cS cB) := by
  intro f c' s H Q tl act hc h
  refine' ⟨_, (pss_one (ps_tryA (tb := fun W D σ H => ∃ Ech : XK, (∀ cls d (σ' : L2.St) H', σ'.length = 2 → Ech cls d H' → W cls d σ' H') ∧ σ[0]? = some (some (.ref f)) ∧ H c' = some (CodeO c' q) ∧ tl Ech H fun v H' => 2 ≤ sizeLine ∧ ∀ p, H' p = none → D.rt (.ref p) (upd H' p (.tup [.str "told", v]))) rfl rfl takes_none5 (fun W pn xe tk _ => ?B) (HdA.as (i := 1) sc_l_asked.nd rfl rfl ⟨rfl, by decide, .inl T.eS.mgc⟩ (fun a oe cls d pn hz hf => ?S) (HdA.cons ⟨rfl, by decide, .inl T.eB.mgc⟩ (fun a oe cls d pn hz hf => ?S2) HdA.nil)))), ?_⟩
  case B =>
    refine ⟨fun pins s' σ H' D I h' => ?_⟩
    obtain ⟨Ech, hW, h1, h2, h3⟩ := h'
    exact (pss_one (ps_ret (pe_tup (pa_cons pe_str (pa_cons (act _ pn xe Ech _ _ (takes_len tk) (fun cls d σ' H' e n => hW cls d σ' H' n e)) pa_nil))))).run pins s' σ H' D I ⟨h1, h2, h3⟩
  case S => exact (pss_one (ps_ret (pe_tup (pa_cons pe_str (pa_cons (pe_xf (xf_of T.eS.xc) T.eS.nf hz hf (pv 1)) pa_nil)))))
  case S2 => exact (pss_one (ps_ret (pe_tup (pa_cons pe_str (pa_cons pe_non pa_nil)))))
  refine ⟨fun cls d H' => (∃ x dd, cls = .ref cS ∧ d = some dd ∧ H' dd = some (.xd [("ref", .str x)]) ∧ ∀ p H'', Same H' H'' → H'' p = some (.tup [.str "stale", .str x]) → Q (.ref p) H'') ∨ (cls = .ref cB ∧ ∀ p H'', Same H' H'' → H'' p = some (.tup [.str "ref", .non]) → Q (.ref p) H''), fun cls d σ' H' n e => ?_, rfl, hc, h⟩
  match σ', n with
  | [u1, u2], _ =>
    rcases e with ⟨x, dd, rfl, rfl, hd, k⟩ | ⟨rfl, k⟩
    · exact ⟨true, T.exSS, fun _ a na => ⟨.ref a, rfl, rfl, rfl, dd, _, _, rfl, hd, rfl, (by show 2 ≤ sizeLine; decide), fun p hp => k p _ (same_new hp) upd_same⟩, fun z => Bool.noConfusion z⟩
    · exact ⟨false, T.exBS, fun z => Bool.noConfusion z, fun _ => ⟨true, T.exBB, fun _ a na => ⟨(by show 2 ≤ sizeLine; decide), fun p hp => k p _ (same_new hp) upd_same⟩, fun z => Bool.noConfusion z⟩⟩

end Fk

set_option maxHeartbeats 4000000
namespace Fk
open PySem PySem.Spec PyProof.Rows L2
section
variable {P : Program} {w : World} {K : PySem.W.Frag} {mg : Str → Option Value} {base : Heap}
/-- the rows of the names that two tables tell different things of -/
def diffF (t u : Tab) (ys : List Str) : List (Str × V × V) := (ys.map fun y => (y, (valV t y).getD .non, (valV u y).getD .non)).filter fun m => !decide (m.2.1 = m.2.2)
def spMovL : Sp := fun vs H Q _ => ∃ (m mt mh ml m2 mt2 mh2 ml2 : Addr) (t u : Tab), vs = [.ref m, .ref m2] ∧ H m = some (.dK (kT (modelT mt mh ml))) ∧ H m2 = some (.dK (kT (modelT mt2 mh2 ml2))) ∧ H mt = some (.dK (kT t)) ∧ H mt2 = some (.dK (kT u)) ∧ (∀ e ∈ t, flatN e.2) ∧ (∀ e ∈ u, flatN e.2) ∧ t.length + u.length < 64 ∧
  ∀ p ys H', ys.Nodup → (∀ y, y ∈ ys ↔ y ∈ t.map (·.1) ∨ y ∈ u.map (·.1)) → sortedS ys = true → Same H H' → TupsAt H' p ((diffF t u ys).map moveL) → Q (.ref p) H'
theorem c_l_moves (T : Top K mg) : C8.Cal P w K mg base 1 "_law_moves" spMovL [] := by
  refine cal_of T.d_l_moves sc_l_moves (fun _ _ _ _ _ _ us hl => match us, hl with | [_, _], _ => rfl) (fun vs H Q E h => ?_) (fun f cdv A outer s H vs Q E hr h => ?_)
  · obtain ⟨m, mt, mh, ml, m2, mt2, mh2, ml2, t, u, rfl, _⟩ := h
    rfl
  · obtain ⟨m, mt, mh, ml, m2, mt2, mh2, ml2, t, u, rfl, hm, hm2, ht, hu, ft, fu, len, q⟩ := h
    refine ⟨_, (pss_cons (ps_set (i := 2) sc_l_moves.nd rfl (Or.inl rfl) (pe_sortSetS rfl (by rfl) T.z_sorted (by rfl) T.z_set (pe_op op_cat (pe_callTy (call_listD rfl) (by rfl) T.z_list (by decide +kernel) (pa_cons (pe_dget (hu_of hr) (pv 0) pe_str (fun _ _ => rfl)) pa_nil)) (pe_callTy (call_listD rfl) (by rfl) T.z_list (by decide +kernel) (pa_cons (pe_dget (hu_of hr) (pv 1) pe_str (fun _ _ => rfl)) pa_nil)))))
      (pss_cons (ps_setLc (i := 3) (own := [("_law_ref_here", 4)]) (g := gName 4) (by rfl) sc_l_moves.nd rfl rfl (sw_true rfl rfl rfl (by decide +kernel)) (pi_list (pv 2)) (blkOk_by (own := [("_law_ref_here", 4)]) (N := ["_law_m", "_law_new_here", "_law_names", "_law_found", "_law_ref_here", "_law_row"]) (sc := C8.fnScope s_l_moves) (by decide +kernel)) (fun _ _ _ _ _ => (pg_name (i := 4) sc_l_moves.nd rfl (Or.inl rfl))) (fun _ _ _ _ _ => pts_nil) (fun _ _ _ _ _ => (pe_tup (pa_cons (pv 4) (pa_cons (pe_dget1 (hu_of hr) (pe_dget (hu_of hr) (pv 0) pe_str (fun _ _ => rfl)) (pv 4) ⟨rfl, rfl, rfl, rfl⟩) (pa_cons (pe_dget1 (hu_of hr) (pe_dget (hu_of hr) (pv 1) pe_str (fun _ _ => rfl)) (pv 4) ⟨rfl, rfl, rfl, rfl⟩) pa_nil))))))
      (pss_one (ps_ret (pe_callTy call_tuple_of (by rfl) T.z_tuple (by decide +kernel) (pa_cons (pe_lc (own := [("_law_row", 5)]) (g := gName 5) (by rfl) sc_l_moves.nd (pi_list (pv 3)) (blkOk_by (own := [("_law_row", 5)]) (N := ["_law_m", "_law_new_here", "_law_names", "_law_found", "_law_ref_here", "_law_row"]) (sc := C8.fnScope s_l_moves) (by decide +kernel)) (fun _ _ _ _ _ => (pg_name (i := 5) sc_l_moves.nd rfl (Or.inl rfl))) (fun _ _ _ _ _ => pts_one (pt_cmpR op_ne (pe_ix (ixK_tup (K := K) rfl) (pv 5) pe_int (fun _ _ => rfl)) (pe_ix (ixK_tup (K := K) rfl) (pv 5) pe_int (fun _ _ => rfl)) (nomark _))) (fun _ _ _ _ _ => (pv 5))) pa_nil)))))), ?_⟩
    have g1 := (mod_get hm).1
    have g2 := (mod_get hm2).1
    have hkt : ∀ t : Tab, ((kT t).map fun kv : Key × V => kV kv.1) = (t.map (·.1)).map V.str := fun t => by
      unfold kT
      rw [List.map_map, List.map_map]
      rfl
    refine ⟨.ref m, rfl, m, .ref mt, rfl, g1, mt, kT t, rfl, .inl ht, fun p1 hp1 => ?_⟩
    have s1 : Same H (upd H p1 (.lst ((t.map (·.1)).map V.str))) := same_new hp1
    rw [hkt]
    have h1 : (upd H p1 (.lst ((t.map (·.1)).map V.str))) p1 = some (.lst ((t.map (·.1)).map V.str)) := upd_same
    generalize upd H p1 (.lst ((t.map (·.1)).map V.str)) = H1 at s1 h1
    refine ⟨.ref m2, rfl, m2, .ref mt2, rfl, (mod_get (s1 _ _ hm2)).1, mt2, kT u, rfl, .inl (s1 _ _ hu), fun p2 hp2 => ?_⟩
    have s2 : Same H1 (upd H1 p2 (.lst ((u.map (·.1)).map V.str))) := same_new hp2
    rw [hkt]
    have h2 : (upd H1 p2 (.lst ((u.map (·.1)).map V.str))) p2 = some (.lst ((u.map (·.1)).map V.str)) := upd_same
    generalize upd H1 p2 (.lst ((u.map (·.1)).map V.str)) = H2 at s2 h2
    refine ⟨p1, p2, _, _, rfl, rfl, s2 _ _ h1, h2, by rw [List.length_map, List.length_map, List.length_map, List.length_map]; exact Nat.le_trans (Nat.le_of_lt len) (by decide), fun p3 hp3 => ?_⟩
    rw [← List.map_append]
    have s3 : Same H2 (upd H2 p3 (.lst ((t.map (·.1) ++ u.map (·.1)).map V.str))) := same_new hp3
    have h3 : (upd H2 p3 (.lst ((t.map (·.1) ++ u.map (·.1)).map V.str))) p3 = some (.lst ((t.map (·.1) ++ u.map (·.1)).map V.str)) := upd_same
    generalize upd H2 p3 (.lst ((t.map (·.1) ++ u.map (·.1)).map V.str)) = H3 at s3 h3
    have lk : (t.map (·.1) ++ u.map (·.1)).length = t.length + u.length := by rw [List.length_append, List.length_map, List.length_map]
    refine ⟨p3, t.map (·.1) ++ u.map (·.1), rfl, .inl (.inl h3), by omega, fun ys p4 nd hmem hs hl hp4 => ?_⟩
    have s4 : Same H3 (upd H3 p4 (.lst (ys.map V.str))) := same_new hp4
    have h4 : (upd H3 p4 (.lst (ys.map V.str))) p4 = some (.lst (ys.map V.str)) := upd_same
    generalize upd H3 p4 (.lst (ys.map V.str)) = H4 at s4 h4
    have s04 := ((s1.trans s2).trans s3).trans s4
    refine ⟨.ref p4, rfl, p4, rfl, ⟨_, .inl (.inl h4)⟩, fun D1 hD1 => ?_⟩
    refine lc_new (us := ys) (val := V.str) yields_list (fun y => [.str y, (valV t y).getD .non, (valV u y).getD .non]) (fun _ => true) (fun y => [some (.ref m), some (.ref m2), some (.ref p4), none, some (.str y), none]) hD1 (fun H s => .inl (.inl (s _ _ h4))) (fun _ _ => rfl) (fun H u _ _ R r => r) (fun H u _ _ R r => r H (Same.refl H))
      (fun H5 y s5 hy _ R' r => ?_) (by omega) (fun as H5 s5 h5 tp => ?_)
    · have e5 := s04.trans s5
      refine ⟨.str y, rfl, .ref m, rfl, m, .ref mt, rfl, (mod_get (e5 _ _ hm)).1, mt, rfl, .inl ⟨_, .inl (e5 _ _ ht)⟩, .str y, rfl, valV t y, dget_kT (.inl (e5 _ _ ht)) y, ?_⟩
      refine ⟨.ref m2, rfl, m2, .ref mt2, rfl, (mod_get (e5 _ _ hm2)).1, mt2, rfl, .inl ⟨_, .inl (e5 _ _ hu)⟩, .str y, rfl, valV u y, dget_kT (.inl (e5 _ _ hu)) y, (by show 3 ≤ sizeLine; decide), fun pt hpt => r pt _ (same_new hpt) upd_same⟩
    · rw [filt_all, show (fun y : Str => [V.str y, (valV t y).getD .non, (valV u y).getD .non]) = moveL ∘ (fun y : Str => (y, (valV t y).getD .non, (valV u y).getD .non)) from rfl, ← List.map_map] at tp
      generalize er : (ys.map fun y : Str => (y, (valV t y).getD V.non, (valV u y).getD V.non)) = rs at tp
      have el : as.length = rs.length := by have := tp.1; rw [List.length_map] at this; exact this
      have lr : rs.length = ys.length := by rw [← er, List.length_map]
      have fl : ∀ r ∈ rs, flatN r.2.1 ∧ flatN r.2.2 := fun r hr => by
        rw [← er] at hr
        obtain ⟨y, _, rfl⟩ := List.mem_map.mp hr
        exact ⟨flat_val ft y, flat_val fu y⟩
      refine ⟨.ref D1, rfl, D1, rfl, ⟨_, .inl (.inl h5)⟩, fun D2 hD2 => ?_⟩
      refine lc_pure (i := 5) (us := as.zip rs) (g := fun z => V.ref z.1) (yields_zipL el) (fun z => V.ref z.1) (fun z => !decide (z.2.2.1 = z.2.2.2)) hD2 (fun H s => .inl (.inl (s _ _ h5))) (fun H6 z s6 hz R r => ?_)
        (fun H6 z s6 hz _ R r => ⟨_, rfl, r H6 (Same.refl H6)⟩) (by rw [List.length_zip]; omega) (fun H6 s6 h6 => ?_)
      · have hm := (List.of_mem_zip hz).2
        have e6 := s6 _ _ (tups_get tp hz)
        refine ⟨.ref z.1, rfl, z.1, _, 1, z.2.2.1, rfl, rfl, SqT.of e6, rfl, .ref z.1, rfl, z.1, _, 2, z.2.2.2, rfl, rfl, SqT.of e6, rfl, scal_flat (fl _ hm).1 (fl _ hm).2, _, rfl, r H6 (Same.refl H6)⟩
      · obtain ⟨bs, eb, tb⟩ := tups_filter moveL (fun m => !decide (m.2.1 = m.2.2)) rs as tp
        rw [eb] at h6
        refine ⟨D2, _, rfl, .inl ⟨.inl (.inl h6), fun pm hpm => ?_⟩⟩
        refine q pm ys _ nd (fun y => by rw [hmem y, List.mem_append]) hs (((s04.trans s5).trans s6).trans (same_new hpm)) ⟨bs, upd_same, ?_⟩
        unfold diffF
        rw [er]
        exact tb.keep (TupKeep.of (s6.trans (same_new hpm)))
end

end Fk

set_option maxHeartbeats 4000000
namespace Fk
open PySem PySem.Spec PyProof.Rows L2
/-! ### a turn -/
theorem mem_drop {t : Tab} {x : Str} {p : Str × V} (h : p ∈ dropK t x) : p ∈ t := (List.mem_filter.mp h).1
theorem mem_put {t : Tab} {x : Str} {v : V} {p : Str × V} (h : p ∈ putK t x v) : p ∈ t ∨ p.2 = v := mem_putK h
theorem ids_step {t : Tab} (h : IdsT t) {c : Str × V × V} (g : GoodV c.2.1) : IdsT (stepT t c) := fun e he => by
  unfold stepT at he
  split at he
  · rename_i hn
    rcases mem_put he with he | he
    · exact h e (mem_drop he)
    · rcases g with g | ⟨y, hy, g⟩
      · rw [g] at hn
        cases hn
      · exact ⟨y, hy, he.trans g⟩
  · exact h e (mem_drop he)
theorem ids_lawT {t : Tab} (h : IdsT t) : ∀ {cs : List (Str × V × V)}, (∀ c ∈ cs, GoodV c.2.1) → IdsT (lawT t cs) := fun {cs} g => by
  unfold lawT
  induction cs generalizing t with
  | nil => exact h
  | cons c r ih => exact ih (ids_step h (g c List.mem_cons_self)) fun d hd => g d (List.mem_cons_of_mem _ hd)
theorem ids_txts {t : Tab} (h : IdsT t) : Txts t := fun e he => by
  obtain ⟨y, hy, ey⟩ := h e he
  exact ⟨y, ey, (ids_ok y hy).2.2⟩
theorem moves_eq {t t' : Tab} (h : ∀ x, valV t' x = valV t x) (cs : List (Str × V × V)) (ys : List Str) : movesF t' cs ys = movesF t cs ys := by
  unfold movesF rowsF
  simp only [h]
theorem stale_eq {t t' : Tab} (h : ∀ x, valV t' x = valV t x) (cs : List (Str × V × V)) : staleF t' cs = staleF t cs := by
  unfold staleF
  have e : bad t' = bad t := by
    funext c
    unfold bad
    rw [h]
  rw [e]
theorem stale_mem {t : Tab} {cs : List (Str × V × V)} {x : Str} (h : staleF t cs = some x) : x ∈ cs.map (·.1) := by
  unfold staleF at h
  cases c : cs.find? (bad t) with
  | none => rw [c] at h; cases h
  | some d =>
    rw [c] at h
    cases h
    exact List.mem_map.mpr ⟨d, List.mem_of_find?_eq_some c, rfl⟩
theorem law_eq {t t' : Tab} (h : ∀ x, valV t' x = valV t x) {cs : List (Str × V × V)} (nc : (cs.map (·.1)).Nodup) (x : Str) : valV (lawT t' cs) x = valV (lawT t cs) x := by
  rw [val_lawT x cs t' nc, val_lawT x cs t nc]
  simp only [h]
theorem keys_law {t : Tab} {cs : List (Str × V × V)} (nc : (cs.map (·.1)).Nodup) {x : Str} (h : x ∈ (lawT t cs).map (·.1)) : x ∈ t.map (·.1) ∨ x ∈ cs.map (·.1) := by
  have h := mem_val.mp h
  rw [val_lawT x cs t nc] at h
  cases c : valV (newT cs) x with
  | none =>
    rw [c] at h
    exact .inl (mem_val.mpr h)
  | some v =>
    have := valV_in c
    unfold newT at this
    rw [List.map_map] at this
    exact .inr this
theorem ent_put {L : Str → List (List V)} (h : ∀ x, ∀ l ∈ L x, EntOk l) {y : Str} {l : List V} (g : EntOk l) : ∀ x, ∀ m ∈ logPut L y l x, EntOk m := fun x m hm => by
  unfold logPut at hm
  split at hm
  · rcases List.mem_append.mp hm with hm | hm
    · exact h x m hm
    · rw [List.mem_singleton.mp hm]
      exact g
  · exact h x m hm
theorem ent_moves {note : List V} : ∀ (ms : List (Str × V × V)) {L : Str → List (List V)}, (∀ x, ∀ l ∈ L x, EntOk l) → (∀ m ∈ ms, EntOk ([m.2.1, m.2.2] ++ note)) → ∀ x, ∀ l ∈ logMoves L note ms x, EntOk l
  | [], _, h, _ => h
  | m :: r, L, h, g => ent_moves r (ent_put h (g m List.mem_cons_self)) fun d hd => g d (List.mem_cons_of_mem _ hd)
theorem ent_behind {L : Str → List (List V)} {note : List V} {ms : List (Str × V × V)} {b : Bool} {v1 v2 : V} (h : ∀ x, ∀ l ∈ L x, EntOk l) (g : ∀ m ∈ ms, EntOk ([m.2.1, m.2.2] ++ note)) (gh : EntOk ([v1, v2] ++ note)) : ∀ x, ∀ l ∈ logsBehind L note ms b v1 v2 x, EntOk l := by
  unfold logsBehind
  split
  · exact ent_put (ent_moves ms h g) gh
  · exact ent_moves ms h g
theorem len_behind (L : Str → List (List V)) (note : List V) (ms : List (Str × V × V)) (b : Bool) (v1 v2 : V) (x : Str) : (logsBehind L note ms b v1 v2 x).length ≤ (L x).length + ms.length + 1 := by
  have := logMoves_len L note x ms
  unfold logsBehind
  split
  · unfold logPut
    split
    · rw [List.length_append]
      show _ + 1 ≤ _
      omega
    · omega
  · omega
theorem flat_ok {t : Tab} (h : Txts t) (x : Str) : FlatOk ((valV t x).getD .non) := by
  cases c : valV t x with
  | none => exact .inl rfl
  | some v =>
    obtain ⟨y, ey, hy⟩ := h _ (val_mem c)
    exact .inr ⟨y, ey, hy⟩
theorem flat_led' {t : Tab} (h : Txts t) {x n : Str} (hn : OkS n) : FlatOk (ledF t x n) := by
  unfold ledF
  split
  · exact .inr ⟨n, rfl, hn⟩
  · exact flat_ok h n
theorem good_flat {v : V} (h : GoodV v) : FlatOk v := by
  rcases h with rfl | ⟨y, hy, rfl⟩
  · exact .inl rfl
  · exact .inr ⟨y, rfl, (ids_ok y hy).2.2⟩
theorem ent_of {a b : V} {x y : Str} {i : Int} (ha : FlatOk a) (hb : FlatOk b) (hx : OkS x) (hy : OkS y) : EntOk ([a, b] ++ [V.str x, .int i, .str y]) := ⟨a, b, x, y, i, rfl, ha, hb, hx, hy⟩
theorem new_good {cs : List (Str × V × V)} (g : ∀ c ∈ cs, GoodV c.2.1) (x : Str) : GoodV ((valV (newT cs) x).getD .non) := by
  cases c : valV (newT cs) x with
  | none => exact .inl rfl
  | some v =>
    have m := val_mem c
    unfold newT at m
    obtain ⟨d, hd, e⟩ := List.mem_map.mp m
    have := g d hd
    cases e
    exact this
theorem pr_put {Pr : List V → Prop} {L : Str → List (List V)} (h : ∀ x, ∀ l ∈ L x, Pr l) {y : Str} {l : List V} (g : Pr l) : ∀ x, ∀ m ∈ logPut L y l x, Pr m := fun x m hm => by
  unfold logPut at hm
  split at hm
  · rcases List.mem_append.mp hm with hm | hm
    · exact h x m hm
    · rw [List.mem_singleton.mp hm]
      exact g
  · exact h x m hm
theorem pr_moves {Pr : List V → Prop} {note : List V} : ∀ (ms : List (Str × V × V)) {L : Str → List (List V)}, (∀ x, ∀ l ∈ L x, Pr l) → (∀ m ∈ ms, Pr ([m.2.1, m.2.2] ++ note)) → ∀ x, ∀ l ∈ logMoves L note ms x, Pr l
  | [], _, h, _ => h
  | m :: r, L, h, g => pr_moves r (pr_put h (g m List.mem_cons_self)) fun d hd => g d (List.mem_cons_of_mem _ hd)
theorem pr_behind {Pr : List V → Prop} {L : Str → List (List V)} {note : List V} {ms : List (Str × V × V)} {b : Bool} {v1 v2 : V} (h : ∀ x, ∀ l ∈ L x, Pr l) (g : ∀ m ∈ ms, Pr ([m.2.1, m.2.2] ++ note)) (gh : Pr ([v1, v2] ++ note)) : ∀ x, ∀ l ∈ logsBehind L note ms b v1 v2 x, Pr l := by
  unfold logsBehind
  split
  · exact pr_put (pr_moves ms h g) gh
  · exact pr_moves ms h g
theorem GoodV.idn {v : V} (h : GoodV v) : IdN v := by
  rcases h with rfl | ⟨y, hy, rfl⟩
  · exact .inl rfl
  · obtain ⟨a, b, c⟩ := ids_ok y hy
    exact .inr ⟨y, rfl, a, b, c⟩
theorem led_idn {t : Tab} (h : IdsT t) {x n : Str} (ho : HeadOk x n) : IdN (ledF t x n) := by
  unfold ledF
  split
  · rename_i hx
    obtain ⟨hv, hl, hk⟩ := ho
    rcases hv with ⟨e, _⟩ | ⟨_, e⟩
    · rw [hx] at e
      exact absurd e (by decide +kernel)
    · exact .inr ⟨n, rfl, e, hl, hk⟩
  · exact (ids_val h n).idn
theorem entg_of {a b : V} {x y : Str} {i : Int} (ha : IdN a) (hb : IdN b) (x1 : isWordF RSG x = true) (x2 : x.length ≤ 1000) (x3 : OkS x) (i1 : 0 ≤ i) (i2 : i ≤ 1000) (y1 : isTextF y = true) (y2 : y.length ≤ 200) (y3 : OkS y) : EntGood ([a, b] ++ [V.str x, .int i, .str y]) := ⟨a, b, x, y, i, rfl, ha, hb, x1, x2, x3, i1, i2, y1, y2, y3⟩
section
variable {K : PySem.W.Frag} {CE CR : Addr}
theorem Agree.move {H H' : Hp} {R dx lk lk' tb hd lg m mt mh ml a : Addr} {t lt t' lt' : Tab} {x n : Str} {L : Str → List (List V)} {c : Int} (g : Agree K CR H R dx lk tb hd lg m mt mh ml t lt t' lt' x n L) (w : Wm H a c) (f : FrL [a, R] H H') (k : TupKeep H H') (hR : H' R = some (.ins CR dx (rf lk' tb hd lg))) :
    Agree K CR H' R dx lk' tb hd lg m mt mh ml t lt t' lt' x n L := by
  have na : ∀ {b : Addr} {u : List (Key × V)}, H b = some (.dK u) → b ≠ a := fun e => w.ne e fun _ z => nomatch z
  have nR : ∀ {b : Addr} {u : List (Key × V)}, H b = some (.dK u) → b ≠ R := fun e => at_ne e g.hR fun z => nomatch z
  have o : ∀ {b : Addr} {u : List (Key × V)}, H b = some (.dK u) → H' b = some (.dK u) := fun e => f.out e (not2 (na e) (nR e))
  obtain ⟨h1, h2, h3, h4⟩ := g.hM
  refine ⟨hR, o g.hT, g.nt, g.hH.keep k, o g.hL, g.nl, g.lo.keep k, ⟨o h1, o h2, h3.keep k, o h4⟩, g.nt', g.nl', g.ll.out k f fun b hb as => ?_, g.eq, g.ne, g.vs, g.ks, g.ls, g.es, g.ox, g.on⟩
  simp only [List.mem_cons, List.not_mem_nil, or_false] at hb
  rcases hb with rfl | rfl
  · obtain ⟨_, _, _, _, _, h⟩ := w
    rw [h]
    intro z
    injection z with z
    injection z with z
    exact int_refs z
  · rw [g.hR]
    exact fun z => nomatch z
def ShutAt (H : Hp) (CE lk : Addr) : Prop := ∃ kt : Tab, H lk = some (.dK (kT kt)) ∧ Nd kt ∧ kt.length ≤ 64 ∧ ∀ p ∈ kt, ∃ e dx fs, p.2 = .ref e ∧ H e = some (.ins CE dx fs) ∧ fs.lookup ("closed" : Str) = some (.bl true)
theorem ShutAt.locks {H : Hp} {lk : Addr} (h : ShutAt H CE lk) {E : Addr} (hE : H E = none) : LocksAt H CE lk E 0 := by
  obtain ⟨kt, a, b, c, d⟩ := h
  refine ⟨kt, a, b, c, ?_, fun p hp => .inr (d p hp)⟩
  have e : (kt.filter fun p => decide (p.2 = .ref E)) = [] := List.filter_eq_nil_iff.mpr fun p hp z => by
    obtain ⟨e, dx, fs, h1, h2, _⟩ := d p hp
    have z := of_decide_eq_true z
    rw [h1] at z
    cases z
    rw [hE] at h2
    cases h2
  rw [e]
  exact Nat.le_refl 0
theorem ShutAt.keep {H H' : Hp} {lk : Addr} (h : ShutAt H CE lk) (e : ∀ o, H lk = some o → H' lk = some o) (k : ∀ a dx fs, H a = some (.ins CE dx fs) → fs.lookup ("closed" : Str) = some (.bl true) → H' a = some (.ins CE dx fs)) : ShutAt H' CE lk := by
  obtain ⟨kt, a, b, c, d⟩ := h
  exact ⟨kt, e _ a, b, c, fun p hp => let ⟨x, dx, fs, h1, h2, h3⟩ := d p hp; ⟨x, dx, fs, h1, k _ _ _ h2 h3, h3⟩⟩
theorem LocksAt.shut {H : Hp} {lk E ex : Addr} {fs : List (Str × V)} {n : Nat} (h : LocksAt H CE lk E n) (e : H E = some (.ins CE ex fs)) (c : fs.lookup ("closed" : Str) = some (.bl true)) : ShutAt H CE lk := by
  obtain ⟨kt, a, b, l, _, d⟩ := h
  exact ⟨kt, a, b, l, fun p hp => (d p hp).elim (fun z => ⟨E, ex, fs, z, e, c⟩) id⟩
/-- behind some turns: the draws, the references, the model, which agree -/
def TurnAt (K : PySem.W.Frag) (CE CR : Addr) (H : Hp) (a R m : Addr) (bt bl : Nat) (c : Int) : Prop := ∃ (dx lk tb hd lg mt mh ml : Addr) (t lt t' lt' : Tab) (x n : Str) (L : Str → List (List V)), Agree K CR H R dx lk tb hd lg m mt mh ml t lt t' lt' x n L ∧ Wm H a c ∧ ShutAt H CE lk ∧ IdsT t' ∧
  t.length ≤ bt ∧ lt.length ≤ bl ∧ lt'.length ≤ bl ∧ (∀ y, (L y).length ≤ bl) ∧ HeadOk x n ∧ haveF (t.map (·.1)) = false ∧ ∀ y, ∀ l ∈ L y, EntGood l
end

end Fk

set_option maxHeartbeats 4000000
namespace Fk
open PySem PySem.Spec PyProof.Rows L2
/-! ### the law -/
theorem pe_mk0 {X : Cx} {k j : Nat} {C : Addr} {x : Str} {sp : Sp} {dvs : List V} {p pos : Pos} (c : C8.Mak X.prog X.w X.K X.mg X.base k x C sp dvs) (hr : Room j X.A) (hk : k + 1 ≤ j) (hg : Gl X x)
    (hdb : (x == ("__debug__" : Str)) = false := by decide) : PE X (.Call (.Name x p) [] [] pos) (tMake C sp dvs C8.E0 tNil) := by
  obtain ⟨f, fd, ps, ds, M, F, hm, b, d⟩ := c.ex
  exact pe_make0 M F (hr.mono hk) hg hm b d C8.pass0 hdb
theorem same_frl2 {D E : Addr} {H1 H H' : Hp} (h : H1 D = none) (h2 : H1 E = none) (s : Same H1 H) (f : FrL [D, E] H H') : Same H1 H' := fun b o e => f b o (fun z => by
  simp only [List.mem_cons, List.not_mem_nil, or_false] at z
  rcases z with rfl | rfl
  · rw [h] at e
    cases e
  · rw [h2] at e
    cases e) (s b o e)
theorem cells_int {v : Int} {zs : List Int} {lo hi : Option Int} {x : V} (h : x ∈ [V.int v] ++ cutV (zs.map V.int) lo hi) : ∃ n, x = .int n := by
  rcases List.mem_append.mp h with h | h
  · exact ⟨v, List.mem_singleton.mp h⟩
  · unfold cutV at h
    obtain ⟨n, _, rfl⟩ := List.mem_map.mp (List.mem_of_mem_drop (List.mem_of_mem_take h))
    exact ⟨n, rfl⟩
section
variable {P : Program} {w : World} {K : PySem.W.Frag} {mg : Str → Option Value} {base : Heap} {CE CR cS cB iS iB ns r0 h0 l0 : Addr}
theorem ShutAt.same {H H' : Hp} {lk : Addr} (h : ShutAt H CE lk) (s : Same H H') : ShutAt H' CE lk := by
  obtain ⟨kt, a, b, c, d⟩ := h
  exact ⟨kt, s _ _ a, b, c, fun p hp => let ⟨e, dx, fs, x, y, z⟩ := d p hp; ⟨e, dx, fs, x, s _ _ y, z⟩⟩
theorem TurnAt.same {H H' : Hp} {a R m : Addr} {bt bl : Nat} {c : Int} (h : TurnAt K CE CR H a R m bt bl c) (s : Same H H') : TurnAt K CE CR H' a R m bt bl c := by
  obtain ⟨dx, lk, tb, hd, lg, mt, mh, ml, t, lt, t', lt', x, n, L, ag, hw, hk, rest⟩ := h
  exact ⟨dx, lk, tb, hd, lg, mt, mh, ml, t, lt, t', lt', x, n, L, ag.move hw (FrL.same s) (TupKeep.of s) (s _ _ ag.hR), hw.same s, hk.same s, rest⟩
theorem TurnAt.drawn {H H' : Hp} {a R m : Addr} {bt bl : Nat} {c c' : Int} (h : TurnAt K CE CR H a R m bt bl c) (f : FrL [a] H H') (kp : TupKeep H H') (hw' : Wm H' a c') : TurnAt K CE CR H' a R m bt bl c' := by
  obtain ⟨dx, lk, tb, hd, lg, mt, mh, ml, t, lt, t', lt', x, n, L, ag, hw, ⟨kt, e1, e2, e3, e4⟩, rest⟩ := h
  refine ⟨dx, lk, tb, hd, lg, mt, mh, ml, t, lt, t', lt', x, n, L, ag.move hw (f.mono fun b hb => by rw [List.mem_singleton.mp hb]; exact List.mem_cons_self) kp (f.out ag.hR (not1 (hw.ne ag.hR fun _ z => nomatch z))), hw', ⟨kt, f.out e1 (not1 (hw.ne e1 fun _ z => nomatch z)), e2, e3, fun p hp => ?_⟩, rest⟩
  obtain ⟨e, dx, fs, x, y, z⟩ := e4 p hp
  exact ⟨e, dx, fs, x, f.out y (not1 (hw.ne y fun _ z => nomatch z)), z⟩
theorem TurnAt.stand {H : Hp} {a R m : Addr} {bt bl : Nat} {c : Int} (h : TurnAt K CE CR H a R m bt bl c) : ∃ (dx lk tb hd lg mt mh ml : Addr) (t lt t' lt' : Tab) (x n : Str) (L : Str → List (List V)), Agree K CR H R dx lk tb hd lg m mt mh ml t lt t' lt' x n L ∧ t.length ≤ bt ∧ lt'.length ≤ bl := by
  obtain ⟨dx, lk, tb, hd, lg, mt, mh, ml, t, lt, t', lt', x, n, L, ag, hw, hk, it, b1, b2, b3, b4, _⟩ := h
  exact ⟨dx, lk, tb, hd, lg, mt, mh, ml, t, lt, t', lt', x, n, L, ag, b1, b3⟩
theorem turn0 (T : TopR K mg CE CR cS cB iS iB ns r0 h0 l0) {H : Hp} {W R dx lk tb lg m mt mh ml : Addr} (w : Wm H W 0) (hR : H R = some (.ins CR dx (rf lk tb h0 lg))) (hlk : H lk = some (.dK [])) (htb : H tb = some (.dK [])) (hlg : H lg = some (.dK []))
    (hm : H m = some (.dK (kT (modelT mt mh ml)))) (hmt : H mt = some (.dK [])) (hmh : H mh = some (.tup [.str "ref", .str "main"])) (hml : H ml = some (.dK [])) (ne : tb ≠ mt) : TurnAt K CE CR H W R m 0 0 0 :=
  ⟨dx, lk, tb, h0, lg, mt, mh, ml, [], [], [], [], "ref", "main", fun _ => [], ⟨hR, htb, List.nodup_nil, .inr T.kh, hlg, List.nodup_nil, fun _ => .inl ⟨rfl, rfl⟩, ⟨hm, hmt, .inl hmh, hml⟩, List.nodup_nil, List.nodup_nil, fun _ => .inl ⟨rfl, rfl⟩, fun _ => rfl, ne,
    fun e he => (List.not_mem_nil he).elim, fun e he => (List.not_mem_nil he).elim, fun e he => (List.not_mem_nil he).elim, fun x l hl => (List.not_mem_nil hl).elim, ok_by (by decide +kernel), ok_by (by decide +kernel)⟩, w,
    ⟨[], hlk, List.nodup_nil, Nat.zero_le _, fun p hp => (List.not_mem_nil hp).elim⟩, fun e he => (List.not_mem_nil he).elim, Nat.zero_le _, Nat.zero_le _, Nat.zero_le _, fun _ => Nat.zero_le _, ⟨.inl ⟨rfl, by decide +kernel⟩, by decide +kernel, ok_by (by decide +kernel)⟩, by decide +kernel, fun y l hl => (List.not_mem_nil hl).elim⟩
def spLaw (K : PySem.W.Frag) : Sp := fun vs H Q _ => ∃ (a : Addr) (zs : List Int), vs = [.ref a] ∧ SqL K H a (zs.map V.int) ∧ zs.length ≤ 63 ∧ ∀ H', Q (.bl true) H'
end

end Fk

set_option maxHeartbeats 4000000
namespace Fk
open PySem PySem.Spec PyProof.Rows L2
/-! ### references that are told by a state, and logs without their old entries -/
section
variable {P : Program} {w : World} {K : PySem.W.Frag} {mg : Str → Option Value} {base : Heap} {CE CR cS cB iS iB ns r0 h0 l0 : Addr}
theorem state_ok {H H' : Hp} {R dx lk tb hd lg m mt mh ml st r l : Addr} {t lt t' lt' u lu : Tab} {x n : Str} {L : Str → List (List V)} (ag : Agree K CR H R dx lk tb hd lg m mt mh ml t lt t' lt' x n L) (it : IdsT t') (ho : HeadOk x n) (hv : haveF (t.map (·.1)) = false)
    (eg : ∀ y, ∀ l ∈ L y, EntGood l) (l1 : t.length < 64) (l2 : lt.length < 64) (bL : ∀ y, (L y).length ≤ 1000) (s : Same H H') (h1 : H' st = some (.tup [.ref r, .ref hd, .ref l])) (tr : TupsAt H' r (u.map rowL)) (so : SortOf t u) (tl : TupsAt H' l (lu.map rowL)) (so2 : SortOf lt lu) :
    StateOk K H' st r hd l u lu x n where
  hs := h1
  hr := tr
  su := so.1
  nu := so.nd ag.nt
  l1 := by rw [so.len]; exact l1
  ku := fun y hy => ag.ks y (so.2.1.mem_iff.mp hy)
  vu := fun e he => by
    have v := val_nodup (so.nd ag.nt) e he
    rw [so.2.2, ← ag.eq] at v
    obtain ⟨y, hy, ey⟩ := it _ (val_mem v)
    obtain ⟨a, b, c⟩ := ids_ok y hy
    exact ⟨y, ey, a, b, c⟩
  hv := (have_perm so.2.1).trans hv
  hh := ag.hH.keep (TupKeep.of s)
  ho := ho
  hl := tl
  sl := so2.1
  nl := so2.nd ag.nl
  l2 := by rw [so2.len]; exact l2
  kl := fun y hy => by
    have hy := mem_val.mp (so2.2.1.mem_iff.mp hy)
    rcases ag.lo y with ⟨e, _⟩ | ⟨p, ⟨e, _⟩, _⟩
    · rw [e] at hy
      cases hy
    · rcases ag.ll y with ⟨_, z⟩ | ⟨q, as, z, _⟩
      · exact absurd z e
      · exact ag.ls y (mem_val.mpr (by rw [z]; rfl))
  vl := fun e he => by
    have v := val_nodup (so2.nd ag.nl) e he
    rw [so2.2.2] at v
    rcases ag.lo e.1 with ⟨z, _⟩ | ⟨p, ⟨z1, z2⟩, as, hp, tp⟩
    · rw [z] at v
      cases v
    · rw [z2] at v
      refine ⟨p, as, L e.1, (Option.some.inj v).symm, s _ _ hp, tp.keep (TupKeep.of s), ?_, bL _, eg _⟩
      cases c : L e.1 with
      | nil => exact absurd c z1
      | cons a b => exact Nat.succ_pos _
theorem StateOk.same {H H' : Hp} {st r hd lg : Addr} {u lu : Tab} {x n : Str} (S : StateOk K H st r hd lg u lu x n) (s : Same H H') : StateOk K H' st r hd lg u lu x n := by
  obtain ⟨a1, a2, a3, a4, a5, a6, a7, a8, a9, b1, b2, b3, b4, b5, b6, b7⟩ := S
  exact ⟨s _ _ a1, a2.keep (TupKeep.of s), a3, a4, a5, a6, a7, a8, a9.keep (TupKeep.of s), b1, b2.keep (TupKeep.of s), b3, b4, b5, b6, fun e he => let ⟨p, as, ls, h1, h2, h3, h4⟩ := b7 e he; ⟨p, as, ls, h1, s _ _ h2, h3.keep (TupKeep.of s), h4⟩⟩
/-- new references with a state agree with the same model -/
theorem agree_state (T : TopR K mg CE CR cS cB iS iB ns r0 h0 l0) {H H' : Hp} {R dx lk tb hd lg m mt mh ml R2 dx2 lk2 tb2 lg2 : Addr} {t lt t' lt' u lu : Tab} {x n : Str} {L : Str → List (List V)} (ag : Agree K CR H R dx lk tb hd lg m mt mh ml t lt t' lt' x n L) (s : Same H H')
    (hR : H' R2 = some (.ins CR dx2 (rf lk2 tb2 hd lg2))) (ht : H' tb2 = some (.dK (kT u))) (hl : H' lg2 = some (.dK (kT lu))) (so : SortOf t u) (so2 : SortOf lt lu) (ntb : H tb2 = none) : Agree K CR H' R2 dx2 lk2 tb2 hd lg2 m mt mh ml u lu t' lt' x n L where
  hR := hR
  hT := ht
  nt := so.nd ag.nt
  hH := ag.hH.keep (TupKeep.of s)
  hL := hl
  nl := so2.nd ag.nl
  lo := (ag.lo.keep (TupKeep.of s)).of so2.2.2
  hM := ag.hM.same s
  nt' := ag.nt'
  nl' := ag.nl'
  ll := ag.ll.same s
  eq := fun x => (ag.eq x).trans (so.2.2 x).symm
  ne := ne_of_none' ntb ag.hM.2.1
  vs := fun e he => by
    have v := val_nodup (so.nd ag.nt) e he
    rw [so.2.2] at v
    exact ag.vs _ (val_mem v)
  ks := fun y hy => ag.ks y (so.2.1.mem_iff.mp hy)
  ls := ag.ls
  es := ag.es
  ox := ag.ox
  on := ag.on
end

end Fk

set_option maxHeartbeats 4000000
namespace Fk
open PySem PySem.Spec PyProof.Rows L2
/-! ### states as data -/
def rowD (e : Str × V) : PyData := .tuple [.str e.1, toD e.2]
def logD (L : Str → List (List V)) (y : Str) : PyData := .tuple [.str y, .tuple ((L y).map entD)]
def stD (u : Tab) (ks : List Str) (L : Str → List (List V)) (x n : Str) : PyData := .tuple [.tuple (u.map rowD), .tuple [.str x, .str n], .tuple (ks.map (logD L))]
theorem dp_tups {α : Type} {K : PySem.W.Frag} {H : Hp} {f : α → List V} {g : α → PyData} : ∀ {as : List Addr} {us : List α}, Tups H as (us.map f) → (∀ u ∈ us, ∀ a, H a = some (.tup (f u)) → Dp K H (.ref a) (g u)) → DpAll K H (as.map V.ref) (us.map g)
  | [], [], _, _ => .nil
  | [], u :: r, t, _ => absurd t.1 (by simp)
  | a :: r, [], t, _ => absurd t.1 (by simp)
  | a :: r, u :: s, t, h => .cons (h u List.mem_cons_self a (t.2 0 a (f u) rfl rfl)) (dp_tups ⟨by have := t.1; simpa using this, fun i b m h1 h2 => t.2 (i + 1) b m h1 h2⟩ fun v hv => h v (List.mem_cons_of_mem _ hv))
theorem lay_all {ds : List PyData} {k : Nat} (h : ∀ d ∈ ds, PyData.canLay0 d = true ∧ PyData.depth d ≤ k) : PyData.canLayAll0 ds = true ∧ PyData.depthAll ds ≤ k := by
  induction ds with
  | nil => exact ⟨by simp [PyData.canLayAll0], by simp [PyData.depthAll]⟩
  | cons d r ih =>
    obtain ⟨a1, a2⟩ := h d List.mem_cons_self
    obtain ⟨b1, b2⟩ := ih fun e he => h e (List.mem_cons_of_mem _ he)
    refine ⟨by simp [PyData.canLayAll0, a1, b1], ?_⟩
    simp only [PyData.depthAll]
    omega
theorem lay_tup {ds : List PyData} {k : Nat} (h : ∀ d ∈ ds, PyData.canLay0 d = true ∧ PyData.depth d ≤ k) : PyData.canLay0 (.tuple ds) = true ∧ PyData.depth (.tuple ds) ≤ k + 1 := by
  obtain ⟨a, b⟩ := lay_all h
  refine ⟨by simp [PyData.canLay0, a], ?_⟩
  simp only [PyData.depth]
  omega
theorem lay_str {x : Str} (h : OkS x) (k : Nat) : PyData.canLay0 (.str x) = true ∧ PyData.depth (.str x) ≤ k := ⟨by simp [PyData.canLay0, strOk_of h], by simp [PyData.depth]⟩
structure StGood (u : Tab) (ks : List Str) (L : Str → List (List V)) (x n : Str) : Prop where
  vu : ∀ e ∈ u, OkS e.1 ∧ FlatOk e.2
  kl : ∀ y ∈ ks, OkS y
  es : ∀ y, ∀ l ∈ L y, EntOk l
  ox : OkS x
  on : OkS n
theorem lay_st {u : Tab} {ks : List Str} {L : Str → List (List V)} {x n : Str} (g : StGood u ks L x n) : PyData.canLay0 (stD u ks L x n) = true ∧ PyData.depth (stD u ks L x n) ≤ 6 := by
  unfold stD
  refine lay_tup (k := 5) fun d hd => ?_
  simp only [List.mem_cons, List.not_mem_nil, or_false] at hd
  rcases hd with rfl | rfl | rfl
  · refine lay_tup (k := 4) fun d hd => ?_
    obtain ⟨e, he, rfl⟩ := List.mem_map.mp hd
    refine lay_tup (k := 3) fun d hd => ?_
    simp only [List.mem_cons, List.not_mem_nil, or_false] at hd
    rcases hd with rfl | rfl
    · exact lay_str (g.vu e he).1 3
    · obtain ⟨a, b⟩ := lay_flat (g.vu e he).2
      exact ⟨a, by omega⟩
  · refine lay_tup (k := 4) fun d hd => ?_
    simp only [List.mem_cons, List.not_mem_nil, or_false] at hd
    rcases hd with rfl | rfl
    · exact lay_str g.ox 4
    · exact lay_str g.on 4
  · refine lay_tup (k := 4) fun d hd => ?_
    obtain ⟨y, hy, rfl⟩ := List.mem_map.mp hd
    refine lay_tup (k := 3) fun d hd => ?_
    simp only [List.mem_cons, List.not_mem_nil, or_false] at hd
    rcases hd with rfl | rfl
    · exact lay_str (g.kl y hy) 3
    · refine lay_tup (k := 2) fun d hd => ?_
      obtain ⟨l, hl, rfl⟩ := List.mem_map.mp hd
      obtain ⟨a, b⟩ := lay_ent (g.es y l hl)
      exact ⟨a, by omega⟩
theorem shaped_of {d : PyData} (h : PyData.canLay0 d = true ∧ PyData.depth d ≤ 6) : SeqAt.shaped d = true := by
  unfold SeqAt.shaped
  rw [h.1, decide_eq_true (by omega)]
  rfl
theorem dp_st {K : PySem.W.Frag} {H : Hp} {p r hd l : Addr} {u lu : Tab} {L : Str → List (List V)} {x n : Str} (h : H p = some (.tup [.ref r, .ref hd, .ref l])) (tr : TupsAt H r (u.map rowL)) (hh : TupK K H hd [.str x, .str n]) (tl : TupsAt H l (lu.map rowL)) (lo : LogsOk H lu L) (nl : Nd lu) (g : StGood u (lu.map (·.1)) L x n) : Dp K H (.ref p) (stD u (lu.map (·.1)) L x n) := by
  obtain ⟨rs, hr, tr⟩ := tr
  obtain ⟨ls, hl, tl⟩ := tl
  have logs : DpAll K H (ls.map V.ref) (lu.map fun e => logD L e.1) := dp_tups tl fun e he a ha => by
    have v := val_nodup nl e he
    rcases lo e.1 with ⟨z, _⟩ | ⟨q, ⟨_, z⟩, as, hq, tq⟩
    · rw [z] at v
      cases v
    · rw [z] at v
      have ea : H a = some (.tup [.str e.1, e.2]) := ha
      rw [← Option.some.inj v] at ea
      exact .tup (SqT.of ea) (.cons (.str _) (.cons (.tup (SqT.of hq) (dp_ents tq (g.es e.1))) .nil))
  refine .tup (SqT.of h) (.cons (.tup (SqT.of hr) (dp_tups (g := rowD) tr fun e he a ha => .tup (SqT.of ha) (.cons (.str _) (.cons (dp_flat (g.vu e he).2) .nil)))) (.cons (.tup hh.sq (.cons (.str x) (.cons (.str n) .nil))) (.cons (.tup (SqT.of hl) ?_) .nil)))
  rw [List.map_map]
  exact logs
theorem tab_keys {u : Tab} (nd : Nd u) : (u.map (·.1)).map (fun y => (y, (valV u y).getD .non)) = u := by
  rw [List.map_map]
  refine (List.map_congr_left fun e he => ?_).trans (List.map_id u)
  show (e.1, (valV u e.1).getD .non) = e
  rw [val_nodup nd e he]
  rfl
theorem tab_uniq {u v : Tab} (n1 : Nd u) (n2 : Nd v) (s1 : sortedS (u.map (·.1)) = true) (s2 : sortedS (v.map (·.1)) = true) (e : ∀ x, valV u x = valV v x) : u = v := by
  have ek : u.map (·.1) = v.map (·.1) := sort_uniq s1 s2 (keys_perm n1 n2 fun x => by rw [e])
  rw [← tab_keys n1, ← tab_keys n2, ek]
  exact List.map_congr_left fun y _ => by rw [e]
theorem logs_uniq {H H' : Hp} {u v : Tab} {L : Str → List (List V)} (n1 : Nd u) (n2 : Nd v) (s1 : sortedS (u.map (·.1)) = true) (s2 : sortedS (v.map (·.1)) = true) (l1 : LogsOk H u L) (l2 : LogsOk H' v L) : u.map (·.1) = v.map (·.1) := by
  refine sort_uniq s1 s2 (keys_perm n1 n2 fun x => ?_)
  rcases l1 x with ⟨a, b⟩ | ⟨p, ⟨a, b⟩, _⟩ <;> rcases l2 x with ⟨c, d⟩ | ⟨q, ⟨c, d⟩, _⟩
  · rw [a, c]
  · exact absurd b c
  · exact absurd d a
  · rw [b, d]
    rfl
/-- the state of a table, logs and HEAD, as a tuple -/
def StAt (K : PySem.W.Frag) (H : Hp) (p : Addr) (t : Tab) (L : Str → List (List V)) (x n : Str) : Prop := ∃ (r hd l : Addr) (u lu : Tab), H p = some (.tup [.ref r, .ref hd, .ref l]) ∧ TupsAt H r (u.map rowL) ∧ SortOf t u ∧ TupK K H hd [.str x, .str n] ∧ TupsAt H l (lu.map rowL) ∧ LogsOk H lu L ∧ Nd lu ∧ sortedS (lu.map (·.1)) = true
theorem StAt.keep {K : PySem.W.Frag} {H H' : Hp} {p : Addr} {t : Tab} {L : Str → List (List V)} {x n : Str} (h : StAt K H p t L x n) (k : TupKeep H H') : StAt K H' p t L x n := by
  obtain ⟨r, hd, l, u, lu, a, b, c, d, e, f, g⟩ := h
  exact ⟨r, hd, l, u, lu, k _ _ a, b.keep k, c, d.keep k, e.keep k, f.keep k, g⟩
/-- two states of the same are equal -/
theorem st_eq {K : PySem.W.Frag} {H : Hp} {p q : Addr} {t t' : Tab} {L : Str → List (List V)} {x n : Str} (h : StAt K H p t L x n) (h' : StAt K H q t' L x n) (nt : Nd t) (nt' : Nd t') (e : ∀ y, valV t' y = valV t y) (vt : ∀ e ∈ t, OkS e.1 ∧ FlatOk e.2)
    (kl : ∀ y, L y ≠ [] → OkS y) (es : ∀ y, ∀ l ∈ L y, EntOk l) (ox : OkS x) (on : OkS n) : ∃ d : PyData, Dp K H (.ref p) d ∧ Dp K H (.ref q) d ∧ SeqAt.shaped d = true ∧ PyData.eqv d d = true := by
  obtain ⟨r, hd, l, u, lu, a1, a2, a3, a4, a5, a6, a7, a8⟩ := h
  obtain ⟨r', hd', l', u', lu', b1, b2, b3, b4, b5, b6, b7, b8⟩ := h'
  have eu : u' = u := tab_uniq (b3.nd nt') (a3.nd nt) b3.1 a3.1 fun y => by rw [b3.2.2, e, a3.2.2]
  have el : lu'.map (·.1) = lu.map (·.1) := logs_uniq b7 a7 b8 a8 b6 a6
  have g : StGood u (lu.map (·.1)) L x n := ⟨fun e he => by
    have v := val_nodup (a3.nd nt) e he
    rw [a3.2.2] at v
    exact vt _ (val_mem v), fun y hy => by
    have hy := mem_val.mp hy
    rcases a6 y with ⟨z, _⟩ | ⟨p, ⟨z, _⟩, _⟩
    · rw [z] at hy
      cases hy
    · exact kl y z, es, ox, on⟩
  subst eu
  have g' := g
  rw [← el] at g'
  have d2 := dp_st b1 b2 b4 b5 b6 b7 g'
  rw [el] at d2
  exact ⟨_, dp_st a1 a2 a4 a5 a6 a7 g, d2, shaped_of (lay_st g), SeqAt.eqv_refl _ (lay_st g).1⟩

end Fk

set_option maxHeartbeats 4000000
namespace Fk
open PySem PySem.Spec PyProof.Rows L2
open LamX
/-! ### the law's moves are the program's -/
theorem diff_moves {t t' : Tab} {cs : List (Str × V × V)} {ys zs : List Str} (e : ∀ x, valV t' x = valV t x) (nc : (cs.map (·.1)).Nodup) (hp : ys.Perm (cs.map (·.1))) (hs : sortedS ys = true) (nz : zs.Nodup)
    (hz : ∀ y, y ∈ zs ↔ y ∈ t'.map (·.1) ∨ y ∈ (lawT t' cs).map (·.1)) (sz : sortedS zs = true) : diffF t' (lawT t' cs) zs = movesF t cs ys := by
  have nys : ys.Nodup := hp.nodup_iff.mpr nc
  have er : rowsF t cs ys = ys.map fun y => (y, (valV t' y).getD .non, (valV (lawT t' cs) y).getD .non) := by
    unfold rowsF
    refine List.map_congr_left fun y hy => ?_
    rw [e, law_new_at nc (hp.mem_iff.mp hy)]
  unfold diffF movesF
  rw [er, List.filter_map, List.filter_map]
  congr 1
  have same : ∀ y, y ∉ cs.map (·.1) → valV (lawT t' cs) y = valV t' y := fun y hy => by
    rw [val_lawT y cs t' nc]
    have n : valV (newT cs) y = none := by
      cases c : valV (newT cs) y with
      | none => rfl
      | some v =>
        refine absurd ?_ hy
        have m := mem_val.mpr (show (valV (newT cs) y).isSome = true by rw [c]; rfl)
        unfold newT at m
        rw [List.map_map] at m
        exact m
    rw [n]
  refine pw_uniq ((sorted_pw sz).filter _) ((sorted_pw hs).filter _) ((List.perm_ext_iff_of_nodup (nz.filter _) (nys.filter _)).mpr fun y => ?_)
  rw [List.mem_filter, List.mem_filter]
  refine ⟨fun ⟨h1, h2⟩ => ⟨?_, h2⟩, fun ⟨h1, h2⟩ => ⟨?_, h2⟩⟩
  · rw [hp.mem_iff]
    by_cases c : y ∈ cs.map (·.1)
    · exact c
    · have z : (!decide ((valV t' y).getD V.non = (valV (lawT t' cs) y).getD V.non)) = true := h2
      rw [same y c, decide_eq_true rfl] at z
      cases z
  · rw [hz]
    by_cases c : y ∈ t'.map (·.1)
    · exact .inl c
    · by_cases d : y ∈ (lawT t' cs).map (·.1)
      · exact .inr d
      · have z : (!decide ((valV t' y).getD V.non = (valV (lawT t' cs) y).getD V.non)) = true := h2
        have n1 : valV t' y = none := by
          cases q : valV t' y with
          | none => rfl
          | some v => exact absurd (mem_val.mpr (by rw [q]; rfl)) c
        have n2 : valV (lawT t' cs) y = none := by
          cases q : valV (lawT t' cs) y with
          | none => rfl
          | some v => exact absurd (mem_val.mpr (by rw [q]; rfl)) d
        rw [n1, n2, decide_eq_true rfl] at z
        cases z
/-! ### what stays behind the making of a lambda -/
theorem ext_tk {H H' : Hp} (e : ExtN H H') : TupKeep H H' := fun b xs h => e b _ h fun _ z => nomatch z
theorem ext_lk {H H' : Hp} (e : ExtN H H') : LstKeep H H' := fun b xs h => e b _ h fun _ z => nomatch z
theorem ext_dk {H H' : Hp} (e : ExtN H H') {b : Addr} {u : List (Key × V)} (h : H b = some (.dK u)) : H' b = some (.dK u) := e b _ h fun _ z => nomatch z
theorem ext_in {H H' : Hp} (e : ExtN H H') {b C : Addr} {dx : Addr} {fs : List (Str × V)} (h : H b = some (.ins C dx fs)) : H' b = some (.ins C dx fs) := e b _ h fun _ z => nomatch z
theorem ext_wm {H H' : Hp} (e : ExtN H H') {a : Addr} {c : Int} (h : Wm H a c) : Wm H' a c := let ⟨h0, x, y, b1, b2, q⟩ := h; ⟨h0, x, y, b1, b2, ext_lk e _ _ q⟩
theorem ext_calls {H H' : Hp} (e : ExtN H H') {cl : Addr} {cs : List (Str × V × V)} (h : CallsAt H cl cs) : CallsAt H' cl cs := by
  obtain ⟨zs, a, b, c⟩ := h
  exact ⟨zs, a, ext_dk e b, fun z hz => ext_tk e _ _ (c z hz)⟩
theorem ext_locks {H H' : Hp} (e : ExtN H H') {CE lk E : Addr} {n : Nat} (h : LocksAt H CE lk E n) : LocksAt H' CE lk E n := by
  obtain ⟨kt, a, b, c, c', d⟩ := h
  exact ⟨kt, ext_dk e a, b, c, c', fun p hp => (d p hp).imp id fun ⟨x, dx, fs, h1, h2, h3⟩ => ⟨x, dx, fs, h1, ext_in e h2, h3⟩⟩
theorem ext_shut {H H' : Hp} (e : ExtN H H') {CE lk : Addr} (h : ShutAt H CE lk) : ShutAt H' CE lk := by
  obtain ⟨kt, a, b, c, d⟩ := h
  exact ⟨kt, ext_dk e a, b, c, fun p hp => let ⟨x, dx, fs, h1, h2, h3⟩ := d p hp; ⟨x, dx, fs, h1, ext_in e h2, h3⟩⟩
theorem ext_ready {H H' : Hp} (q : ExtN H H') {CE CR e ex R nt cl dx lk tb hd lg : Addr} {nh : V} {t lt : Tab} {cs : List (Str × V × V)} (h : Ready CE CR H e ex R nt cl dx lk tb hd lg nh t lt cs) : Ready CE CR H' e ex R nt cl dx lk tb hd lg nh t lt cs := by
  obtain ⟨he, hR, ht, nd, hl, nl, b1, b2, hc, r⟩ := h
  exact ⟨ext_in q he, ext_in q hR, ext_dk q ht, nd, ext_dk q hl, nl, b1, b2, ext_calls q hc, r⟩
section
variable {P : Program} {w : World} {K : PySem.W.Frag} {mg : Str → Option Value} {base : Heap} {CE CR cS cB iS iB ns r0 h0 l0 : Addr}
theorem ext_stand {H H' : Hp} (q : ExtN H H') {nh : V} {hd hd2 : Addr} {ox on hx hn : Str} (h : Stand K H nh hd hd2 ox on hx hn) : Stand K H' nh hd hd2 ox on hx hn :=
  ⟨h.1.keep (ext_tk q), h.2.1, h.2.2.1, h.2.2.2.imp id fun ⟨z1, z2, z3, z4⟩ => ⟨z1, z2.keep (ext_tk q), z3, z4⟩⟩
theorem ext_mod {H H' : Hp} (q : ExtN H H') {m mt mh ml : Addr} {t lt : Tab} {x n : Str} (h : ModAt K H m mt mh ml t lt x n) : ModAt K H' m mt mh ml t lt x n := ⟨ext_dk q h.1, ext_dk q h.2.1, h.2.2.1.keep (ext_tk q), ext_dk q h.2.2.2⟩
theorem ext_agree {H H' : Hp} (q : ExtN H H') {R dx lk tb hd lg m mt mh ml : Addr} {t lt t' lt' : Tab} {x n : Str} {L : Str → List (List V)} (ag : Agree K CR H R dx lk tb hd lg m mt mh ml t lt t' lt' x n L) : Agree K CR H' R dx lk tb hd lg m mt mh ml t lt t' lt' x n L :=
  ⟨ext_in q ag.hR, ext_dk q ag.hT, ag.nt, ag.hH.keep (ext_tk q), ext_dk q ag.hL, ag.nl, ag.lo.keep (ext_tk q), ext_mod q ag.hM, ag.nt', ag.nl', ag.ll.keep (ext_tk q) (ext_lk q), ag.eq, ag.ne, ag.vs, ag.ks, ag.ls, ag.es, ag.ox, ag.on⟩
/-- all but the tables stays, but at these -/
def FrX (L : List Addr) (H H' : Hp) : Prop := ∀ b o, b ∉ L → H b = some o → (∀ ps, o ≠ .tbl ps) → H' b = some o
theorem FrX.of {L : List Addr} {H H' : Hp} (f : FrL L H H') : FrX L H H' := fun b o n e _ => f b o n e
theorem FrX.ext {L : List Addr} {H H' : Hp} (e : ExtN H H') : FrX L H H' := fun b o _ h n => e b o h n
theorem FrX.trans {L : List Addr} {H H1 H2 : Hp} (f : FrX L H H1) (g : FrX L H1 H2) : FrX L H H2 := fun b o n e z => g b o n (f b o n e z) z
theorem FrX.then {L M : List Addr} {H H1 H2 : Hp} (f : FrX L H H1) (g : FrX M H1 H2) (h : ∀ b ∈ M, b ∈ L ∨ H b = none) : FrX L H H2 := fun b o n e z =>
  g b o (fun hb => (h b hb).elim n fun q => by rw [q] at e; cases e) (f b o n e z) z
theorem FrX.tk {L : List Addr} {H H' : Hp} (f : FrX L H H') (n : ∀ b ∈ L, ∀ xs, H b ≠ some (.tup xs)) : TupKeep H H' := fun b xs e => f b _ (fun h => n b h xs e) e fun _ z => nomatch z
/-- tables stay where nothing of theirs is changed -/
theorem tabs_fr {L : List Addr} {H H' : Hp} {T : List (Addr × Str)} (t : Tabs T H) (f : FrL L H H') (n : ∀ b ∈ L, ∀ o, H b = some o → (∀ ps, o ≠ .tbl ps) ∧ ∀ c q, o ≠ CodeO c q) : Tabs T H' := fun p hp => by
  obtain ⟨ps, h1, h2, h3⟩ := t p hp
  refine ⟨ps, f _ _ (fun hb => (n _ hb _ h1).1 ps rfl) h1, h2, fun pos cv hc => ?_⟩
  obtain ⟨c, e1, e2⟩ := h3 pos cv hc
  exact ⟨c, e1, f _ _ (fun hb => (n _ hb _ e2).2 _ _ rfl) e2⟩
end

end Fk

set_option maxHeartbeats 4000000
namespace Fk
open PySem PySem.Spec PyProof.Rows L2
/-! ### states that are good to be told -/
structure GoodS (t : Tab) (L : Str → List (List V)) (x n : Str) : Prop where
  nd : Nd t
  ks : ∀ y ∈ t.map (·.1), isRefF y = true ∧ y.length ≤ 1000 ∧ OkS y
  vs : ∀ e ∈ t, IdOk e.2
  hv : haveF (t.map (·.1)) = false
  ho : HeadOk x n
  kl : ∀ y, L y ≠ [] → NameOk y
  eg : ∀ y, ∀ l ∈ L y, EntGood l
  bL : ∀ y, (L y).length ≤ 1000
  ox : OkS x
  on : OkS n
theorem idn_flat {v : V} (h : IdN v) : FlatOk v := by
  rcases h with rfl | ⟨y, rfl, _, _, o⟩
  · exact .inl rfl
  · exact .inr ⟨y, rfl, o⟩
theorem entg_ok {l : List V} (h : EntGood l) : EntOk l := by
  obtain ⟨a, b, x, y, i, e, h1, h2, _, _, h3, _, _, _, _, h4⟩ := h
  exact ⟨a, b, x, y, i, e, idn_flat h1, idn_flat h2, h3, h4⟩
theorem GoodS.vt {t : Tab} {L : Str → List (List V)} {x n : Str} (G : GoodS t L x n) : ∀ e ∈ t, OkS e.1 ∧ FlatOk e.2 := fun e he => by
  obtain ⟨y, ey, _, _, o⟩ := G.vs e he
  exact ⟨(G.ks e.1 (List.mem_map_of_mem he)).2.2, .inr ⟨y, ey, o⟩⟩
/-- two good states of the same are equal -/
theorem GoodS.same {K : PySem.W.Frag} {H : Hp} {p q : Addr} {t t' : Tab} {L : Str → List (List V)} {x n : Str} (G : GoodS t L x n) (h : StAt K H p t L x n) (h' : StAt K H q t' L x n) (nt' : Nd t') (e : ∀ y, valV t' y = valV t y) : ∃ d : PyData, Dp K H (.ref p) d ∧ Dp K H (.ref q) d ∧ SeqAt.shaped d = true ∧ PyData.eqv d d = true :=
  st_eq h h' G.nd nt' e G.vt (fun y hy => (G.kl y hy).2.2) (fun y l hl => entg_ok (G.eg y l hl)) G.ox G.on
section
variable {P : Program} {w : World} {K : PySem.W.Frag} {mg : Str → Option Value} {base : Heap} {CE CR cS cB iS iB ns r0 h0 l0 : Addr}
theorem state_mk {H : Hp} {st r hd l : Addr} {t u lu : Tab} {L : Str → List (List V)} {x n : Str} (G : GoodS t L x n) (l1 : t.length < 64) (l2 : lu.length < 64) (h1 : H st = some (.tup [.ref r, .ref hd, .ref l])) (tr : TupsAt H r (u.map rowL)) (so : SortOf t u) (hh : TupK K H hd [.str x, .str n])
    (tl : TupsAt H l (lu.map rowL)) (lo : LogsOk H lu L) (nl : Nd lu) (sl : sortedS (lu.map (·.1)) = true) : StateOk K H st r hd l u lu x n where
  hs := h1
  hr := tr
  su := so.1
  nu := so.nd G.nd
  l1 := by rw [so.len]; exact l1
  ku := fun y hy => G.ks y (so.2.1.mem_iff.mp hy)
  vu := fun e he => by
    have v := val_nodup (so.nd G.nd) e he
    rw [so.2.2] at v
    exact G.vs _ (val_mem v)
  hv := (have_perm so.2.1).trans G.hv
  hh := hh
  ho := G.ho
  hl := tl
  sl := sl
  nl := nl
  l2 := l2
  kl := fun y hy => by
    have hy := mem_val.mp hy
    rcases lo y with ⟨z, _⟩ | ⟨p, ⟨z, _⟩, _⟩
    · rw [z] at hy
      cases hy
    · exact G.kl y z
  vl := fun e he => by
    have v := val_nodup nl e he
    rcases lo e.1 with ⟨z, _⟩ | ⟨p, ⟨z1, z2⟩, as, hp, tp⟩
    · rw [z] at v
      cases v
    · rw [z2] at v
      refine ⟨p, as, L e.1, (Option.some.inj v).symm, hp, tp, ?_, G.bL _, G.eg _⟩
      cases c : L e.1 with
      | nil => exact absurd c z1
      | cons a b => exact Nat.succ_pos _
theorem good_turn {H : Hp} {R dx lk tb hd lg m mt mh ml : Addr} {t lt t' lt' : Tab} {x n : Str} {L : Str → List (List V)} (ag : Agree K CR H R dx lk tb hd lg m mt mh ml t lt t' lt' x n L) (it : IdsT t') (hok : HeadOk x n) (hvt : haveF (t.map (·.1)) = false) (eg : ∀ y, ∀ l ∈ L y, EntGood l) (bL : ∀ y, (L y).length ≤ 1000) : GoodS t L x n where
  nd := ag.nt
  ks := ag.ks
  vs := fun e he => by
    have v := val_nodup ag.nt e he
    rw [← ag.eq] at v
    obtain ⟨y, hy, ey⟩ := it _ (val_mem v)
    obtain ⟨a, b, c⟩ := ids_ok y hy
    exact ⟨y, ey, a, b, c⟩
  hv := hvt
  ho := hok
  kl := fun y hy => by
    rcases ag.ll y with ⟨_, z⟩ | ⟨q, as, z, _⟩
    · exact absurd z hy
    · exact ag.ls y (mem_val.mpr (by rw [z]; rfl))
  eg := eg
  bL := bL
  ox := ag.ox
  on := ag.on
theorem log_moves_some {note : List V} {y : Str} : ∀ {ms : List (Str × V × V)} {L : Str → List (List V)}, logMoves L note ms y ≠ [] → L y ≠ [] ∨ y ∈ ms.map (·.1)
  | [], L, h => .inl h
  | m :: ms, L, h => by
    rcases log_moves_some (ms := ms) (L := logPut L m.1 ([m.2.1, m.2.2] ++ note)) h with h | h
    · unfold logPut at h
      by_cases c : y = m.1
      · exact .inr (by rw [c]; exact List.mem_cons_self)
      · rw [if_neg c] at h
        exact .inl h
    · exact .inr (List.mem_cons_of_mem _ h)
theorem log_behind_some {L : Str → List (List V)} {note : List V} {ms : List (Str × V × V)} {b : Bool} {v1 v2 : V} {y : Str} (h : logsBehind L note ms b v1 v2 y ≠ []) : L y ≠ [] ∨ y ∈ ms.map (·.1) ∨ y = ("HEAD" : Str) := by
  unfold logsBehind at h
  split at h
  · unfold logPut at h
    by_cases c : y = ("HEAD" : Str)
    · exact .inr (.inr c)
    · rw [if_neg c] at h
      exact (log_moves_some h).imp id .inl
  · exact (log_moves_some h).imp id .inl
theorem good_after {H : Hp} {R dx lk tb hd lg m mt mh ml : Addr} {t lt t' lt' : Tab} {x n hx hn : Str} {L : Str → List (List V)} {cs : List (Str × V × V)} {ys : List Str} (ag : Agree K CR H R dx lk tb hd lg m mt mh ml t lt t' lt' x n L) (it : IdsT t') (gc : GoodC cs) (hp : ys.Perm (cs.map (·.1)))
    (hv : haveF ((afterT t (movesF t cs ys)).map (·.1)) = false) (hok : HeadOk x n) (hok2 : HeadOk hx hn) (ohx : OkS hx) (ohn : OkS hn) (eg : ∀ y, ∀ l ∈ L y, EntGood l) (bL : ∀ y, (L y).length ≤ 900) (lc : cs.length ≤ 4) :
    GoodS (afterT t (movesF t cs ys)) (logsNew t L [.str "ann", .int 7, .str ""] (movesF t cs ys) x n hx hn) hx hn := by
  have nys : ys.Nodup := hp.nodup_iff.mpr gc.1
  have vt : Txts t := ag.vs
  have eqA : ∀ y, valV (lawT t' cs) y = valV (afterT t (movesF t cs ys)) y := fun y => by rw [law_eq ag.eq gc.1, after_law ag.nt vt.nn gc.1 hp]
  have ids' : IdsT (lawT t' cs) := ids_lawT it fun c hc => (gc.2 c hc).2.1
  have nda : Nd (afterT t (movesF t cs ys)) := nd_after ag.nt (movesF_nd nys)
  have kcs : ∀ y ∈ cs.map (·.1), isRefF y = true ∧ y.length ≤ 1000 ∧ OkS y := fun y hy => by
    obtain ⟨c, hc, rfl⟩ := List.mem_map.mp hy
    exact refs_ok _ (gc.2 c hc).1
  have kp : (t'.map (·.1)).Perm (t.map (·.1)) := keys_perm ag.nt' ag.nt fun x => by rw [ag.eq]
  have lys : ys.length = cs.length := by have := hp.length_eq; rw [List.length_map] at this; exact this
  have lm := movesF_len t cs ys
  refine ⟨nda, fun y hy => ?_, fun e he => ?_, hv, hok2, fun y hy => ?_, ?_, fun y => ?_, ohx, ohn⟩
  · have hy := mem_val.mp hy
    rw [← eqA] at hy
    rcases keys_law gc.1 (mem_val.mpr hy) with h | h
    · exact ag.ks y (kp.mem_iff.mp h)
    · exact kcs y h
  · have v := val_nodup nda e he
    rw [← eqA] at v
    obtain ⟨y, hy, ey⟩ := ids' _ (val_mem v)
    obtain ⟨a, b, c⟩ := ids_ok y hy
    exact ⟨y, ey, a, b, c⟩
  · unfold logsNew at hy
    rcases log_behind_some hy with h | h | h
    · rcases ag.ll y with ⟨_, z⟩ | ⟨q, as, z, _⟩
      · exact absurd z h
      · exact ag.ls y (mem_val.mpr (by rw [z]; rfl))
    · obtain ⟨z, hz, rfl⟩ := List.mem_map.mp h
      obtain ⟨hz, _⟩ := List.mem_filter.mp hz
      obtain ⟨y2, hy2, rfl⟩ := List.mem_map.mp hz
      obtain ⟨z1, z2, z3⟩ := kcs y2 (hp.mem_iff.mp hy2)
      exact ⟨.inl z1, z2, z3⟩
    · rw [h]
      exact ⟨.inr rfl, by decide +kernel, ok_by (by decide +kernel)⟩
  · unfold logsNew
    refine pr_behind eg (fun z hz => ?_) ?_
    · obtain ⟨hz, _⟩ := List.mem_filter.mp hz
      obtain ⟨y, _, rfl⟩ := List.mem_map.mp hz
      refine entg_of ?_ (new_good (fun c hc => (gc.2 c hc).2.1) _).idn (by decide +kernel) (by decide +kernel) (ok_by (by decide +kernel)) (by decide) (by decide) (by decide +kernel) (by decide +kernel) (ok_by (by decide +kernel))
      show IdN ((valV t y).getD .non)
      rw [← ag.eq]
      exact (ids_val it y).idn
    · refine entg_of ?_ ?_ (by decide +kernel) (by decide +kernel) (ok_by (by decide +kernel)) (by decide) (by decide) (by decide +kernel) (by decide +kernel) (ok_by (by decide +kernel))
      · rw [← led_of ag.eq]
        exact led_idn it hok
      · rw [← led_of eqA]
        exact led_idn ids' hok2
  · have := len_behind L [.str "ann", .int 7, .str ""] (movesF t cs ys) (decide ((x, n) ≠ (hx, hn)) || decide (ledF t x n ≠ ledF (afterT t (movesF t cs ys)) hx hn)) (ledF t x n) (ledF (afterT t (movesF t cs ys)) hx hn) y
    have := bL y
    unfold logsNew
    omega
/-- an edit without calls leaves the logs -/
theorem logs_none {t : Tab} {L : Str → List (List V)} {note : List V} {x n : Str} (nt : Nd t) (vs : ∀ e ∈ t, notNon e.2 = true) : logsNew t L note (movesF t [] []) x n x n = L := by
  have e : ∀ y, valV (afterT t (movesF t [] [])) y = valV t y := fun y => after_law (cs := []) (ys := []) nt vs List.nodup_nil (List.Perm.refl _) y
  unfold logsNew
  rw [led_of e]
  unfold logsBehind
  rw [if_neg (by simp)]
  rfl
end

end Fk

set_option maxHeartbeats 4000000
namespace Fk
open PySem PySem.Spec PyProof.Rows L2
open LamX
section
variable {P : Program} {w : World} {K : PySem.W.Frag} {mg : Str → Option Value} {base : Heap} {CE CR cS cB iS iB ns r0 h0 l0 : Addr}
abbrev QLam : Str := Str.ofString "_law_previewed" ++ ".<locals>." ++ "<lambda>"
/-- an edit with its calls, before it is finished -/
structure PvAt (K : PySem.W.Frag) (CE CR Pt : Addr) (H0 H : Hp) (a e ex R nt cl dx lk tb hd hd2 lg m mt mh ml : Addr) (nh : V) (t lt t' lt' : Tab) (cs : List (Str × V × V)) (L : Str → List (List V)) (x n hx hn : Str) (c : Int) : Prop where
  rd : Ready CE CR H e ex R nt cl dx lk tb hd lg nh t lt cs
  sd : Stand K H nh hd hd2 x n hx hn
  ag : Agree K CR H R dx lk tb hd lg m mt mh ml t lt t' lt' x n L
  lk : LocksAt H CE lk e 4
  wm : Wm H a c
  nt : H nt = some (.tup [.str "ann", .int 7, .str ""])
  tb : Tabs [(Pt, QLam)] H
  fr : FrX [a, R] H0 H
theorem PvAt.ext {Pt : Addr} {H0 H H' : Hp} {a e ex R nt cl dx lk tb hd hd2 lg m mt mh ml : Addr} {nh : V} {t lt t' lt' : Tab} {cs : List (Str × V × V)} {L : Str → List (List V)} {x n hx hn : Str} {c : Int} (p : PvAt K CE CR Pt H0 H a e ex R nt cl dx lk tb hd hd2 lg m mt mh ml nh t lt t' lt' cs L x n hx hn c)
    (q : ExtN H H') (tb' : Tabs [(Pt, QLam)] H') : PvAt K CE CR Pt H0 H' a e ex R nt cl dx lk tb hd hd2 lg m mt mh ml nh t lt t' lt' cs L x n hx hn c :=
  ⟨ext_ready q p.rd, ext_stand q p.sd, ext_agree q p.ag, ext_locks q p.lk, ext_wm q p.wm, ext_tk q _ _ p.nt, tb', p.fr.trans (FrX.ext q)⟩
theorem PvAt.same {Pt : Addr} {H0 H H' : Hp} {a e ex R nt cl dx lk tb hd hd2 lg m mt mh ml : Addr} {nh : V} {t lt t' lt' : Tab} {cs : List (Str × V × V)} {L : Str → List (List V)} {x n hx hn : Str} {c : Int} (p : PvAt K CE CR Pt H0 H a e ex R nt cl dx lk tb hd hd2 lg m mt mh ml nh t lt t' lt' cs L x n hx hn c)
    (s : Same H H') : PvAt K CE CR Pt H0 H' a e ex R nt cl dx lk tb hd hd2 lg m mt mh ml nh t lt t' lt' cs L x n hx hn c := p.ext (ExtN.of s) (p.tb.ext s)
/-- the moves, asked by a lambda -/
theorem tell_moves {Pt : Addr} {H0 H : Hp} {a e ex R nt cl dx lk tb hd hd2 lg m mt mh ml : Addr} {nh : V} {t lt t' lt' : Tab} {cs : List (Str × V × V)} {L : Str → List (List V)} {x n hx hn : Str} {c : Int} {σ : L2.St} {Q : VK} (p : PvAt K CE CR Pt H0 H a e ex R nt cl dx lk tb hd hd2 lg m mt mh ml nh t lt t' lt' cs L x n hx hn c)
    (h4 : σ[4]? = some (some (.ref e)))
    (q1 : ∀ y, staleF t cs = some y → ∀ r H', ExtN H H' → Tabs [(Pt, QLam)] H' → H' r = some (.tup [.str "stale", .str y]) → Q (.ref r) H')
    (q2 : staleF t cs = none → (∃ ys, ys.Perm (cs.map (·.1)) ∧ haveF ((afterT t (movesF t cs ys)).map (·.1)) = true) → ∀ r H', ExtN H H' → Tabs [(Pt, QLam)] H' → H' r = some (.tup [.str "ref", .non]) → Q (.ref r) H')
    (q3 : staleF t cs = none → ∀ ys, ys.Perm (cs.map (·.1)) → sortedS ys = true → haveF ((afterT t (movesF t cs ys)).map (·.1)) = false → ∀ r b H', ExtN H H' → Tabs [(Pt, QLam)] H' → H' r = some (.tup [.str "told", .ref b]) → TupsAt H' b ((movesF t cs ys).map moveL) → Q (.ref r) H') :
    tLam [(Pt, QLam)] (TAsk cS cB) (fun E => tMx CE "moves" (spMoves CE CR cS cB) [] (fun σ => WE (fun cls d _ H' => E cls d H') σ) (tVar 4) tNil) σ H Q := by
  refine ⟨p.tb, fun H1 eN T1 => ?_⟩
  have p1 := p.ext eN T1
  refine ⟨.ref e, h4, e, ex, _, rfl, p1.rd.1, rfl, e, ex, R, nt, cl, dx, lk, tb, hd, lg, nh, t, lt, cs, rfl, p1.rd, fun y hy d H2 s2 hd2 => ?_, fun sn ys hp _ hv d H2 s2 => ?_, fun sn ys hp hs hv b H2 s2 tb2 => ?_⟩
  · exact .inl ⟨y, d, rfl, rfl, hd2, fun r H3 s3 hr => q1 y hy r H3 (eN.trans (ExtN.of (s2.trans s3))) (T1.ext (s2.trans s3)) hr⟩
  · exact .inr ⟨rfl, fun r H3 s3 hr => q2 sn ⟨ys, hp, hv⟩ r H3 (eN.trans (ExtN.of (s2.trans s3))) (T1.ext (s2.trans s3)) hr⟩
  · exact ⟨(by show 2 ≤ sizeLine; decide), fun r hr => q3 sn ys hp hs hv r b _ (eN.trans (ExtN.of (s2.trans (same_new hr)))) (T1.ext (s2.trans (same_new hr))) upd_same (tb2.keep (TupKeep.of (same_new hr)))⟩
/-- the state behind the edit, asked by a lambda -/
theorem tell_behind {Pt : Addr} {H0 H : Hp} {a e ex R nt cl dx lk tb hd hd2 lg m mt mh ml : Addr} {nh : V} {t lt t' lt' : Tab} {cs : List (Str × V × V)} {L : Str → List (List V)} {x n hx hn : Str} {c : Int} {σ : L2.St} {Q : VK} (p : PvAt K CE CR Pt H0 H a e ex R nt cl dx lk tb hd hd2 lg m mt mh ml nh t lt t' lt' cs L x n hx hn c)
    (h4 : σ[4]? = some (some (.ref e))) (bL : ∀ y, (L y).length ≤ 1000)
    (q1 : ∀ y, staleF t cs = some y → ∀ r H', ExtN H H' → Tabs [(Pt, QLam)] H' → H' r = some (.tup [.str "stale", .str y]) → Q (.ref r) H')
    (q2 : staleF t cs = none → (∃ ys, ys.Perm (cs.map (·.1)) ∧ haveF ((afterT t (movesF t cs ys)).map (·.1)) = true) → ∀ r H', ExtN H H' → Tabs [(Pt, QLam)] H' → H' r = some (.tup [.str "ref", .non]) → Q (.ref r) H')
    (q3 : staleF t cs = none → ∀ ys, ys.Perm (cs.map (·.1)) → sortedS ys = true → haveF ((afterT t (movesF t cs ys)).map (·.1)) = false → ∀ r b r' l' u' lu' H', ExtN H H' → Tabs [(Pt, QLam)] H' → H' r = some (.tup [.str "told", .ref b]) → H' b = some (.tup [.ref r', .ref hd2, .ref l']) → TupsAt H' r' (u'.map rowL) → SortOf (afterT t (movesF t cs ys)) u' →
      TupsAt H' l' (lu'.map rowL) → (Nd lu' ∧ sortedS (lu'.map (·.1)) = true) → lu'.length ≤ lt.length + cs.length + 1 → LogsOk H' lu' (logsNew t L [.str "ann", .int 7, .str ""] (movesF t cs ys) x n hx hn) → Q (.ref r) H') :
    tLam [(Pt, QLam)] (TAsk cS cB) (fun E => tMx CE "behind" (spBehind K CE CR cS cB) [] (fun σ => WE (fun cls d _ H' => E cls d H') σ) (tVar 4) tNil) σ H Q := by
  refine ⟨p.tb, fun H1 eN T1 => ?_⟩
  have p1 := p.ext eN T1
  refine ⟨.ref e, h4, e, ex, _, rfl, p1.rd.1, rfl, e, ex, R, nt, cl, dx, lk, tb, hd, lg, hd2, nh, t, lt, cs, L, x, n, hx, hn, .str "ann", .int 7, .str "", rfl, p1.rd, p1.sd, p1.ag.lo, p1.nt, bL, fun y hy d H2 s2 hd2 => ?_, fun sn ys hp _ hv d H2 s2 => ?_, fun sn ys hp hs hv b r' l' u' lu' H2 s2 hb tr so tl nd len lo => ?_⟩
  · exact .inl ⟨y, d, rfl, rfl, hd2, fun r H3 s3 hr => q1 y hy r H3 (eN.trans (ExtN.of (s2.trans s3))) (T1.ext (s2.trans s3)) hr⟩
  · exact .inr ⟨rfl, fun r H3 s3 hr => q2 sn ⟨ys, hp, hv⟩ r H3 (eN.trans (ExtN.of (s2.trans s3))) (T1.ext (s2.trans s3)) hr⟩
  · refine ⟨(by show 2 ≤ sizeLine; decide), fun r hr => ?_⟩
    have s3 := same_new (o := .tup [.str "told", .ref b]) hr
    exact q3 sn ys hp hs hv r b r' l' u' lu' _ (eN.trans (ExtN.of (s2.trans s3))) (T1.ext (s2.trans s3)) upd_same (s3 _ _ hb) (tr.keep (TupKeep.of s3)) so (tl.keep (TupKeep.of s3)) nd len (lo.keep (TupKeep.of s3))
end

end Fk

set_option maxHeartbeats 4000000
namespace Fk
open PySem PySem.Spec PyProof.Rows L2
section
variable {P : Program} {w : World} {K : PySem.W.Frag} {mg : Str → Option Value} {base : Heap} {CE CR cS cB iS iB ns r0 h0 l0 : Addr}
theorem dk_isi {a : Addr} {u : List (Key × V)} {H : Hp} {C : String} {b : Bool} {Q : VK} (e : H a = some (.dK u)) (hk : (PySem.W.kitOne K (.type "dict") (.type C)) = some b) (k : Q (.bl b) H) : rIsi K [.ref a, .ty C] H Q :=
  ⟨_, _, .type "dict", .type C, b, rfl, .ty C, .base (.dK e), hk, k⟩
def movD (m : Str × V × V) : PyData := .tuple [.str m.1, toD m.2.1, toD m.2.2]
def toldD (ms : List (Str × V × V)) : PyData := .tuple [.str "told", .tuple (ms.map movD)]
theorem dp_told {H : Hp} {r b : Addr} {ms : List (Str × V × V)} (h : H r = some (.tup [.str "told", .ref b])) (tb : TupsAt H b (ms.map moveL)) (f : ∀ m ∈ ms, FlatOk m.2.1 ∧ FlatOk m.2.2) : Dp K H (.ref r) (toldD ms) := by
  obtain ⟨as, hb, ta⟩ := tb
  exact .tup (SqT.of h) (.cons (.str _) (.cons (.tup (SqT.of hb) (dp_tups (g := movD) ta fun m hm a ha => .tup (SqT.of ha) (.cons (.str _) (.cons (dp_flat (f m hm).1) (.cons (dp_flat (f m hm).2) .nil))))) .nil))
theorem lay_told {ms : List (Str × V × V)} (k : ∀ m ∈ ms, OkS m.1) (f : ∀ m ∈ ms, FlatOk m.2.1 ∧ FlatOk m.2.2) : PyData.canLay0 (toldD ms) = true ∧ PyData.depth (toldD ms) ≤ 6 := by
  refine lay_tup (k := 5) fun d hd => ?_
  simp only [List.mem_cons, List.not_mem_nil, or_false] at hd
  rcases hd with rfl | rfl
  · exact lay_str (ok_by (by decide +kernel)) 5
  · refine lay_tup (k := 4) fun d hd => ?_
    obtain ⟨m, hm, rfl⟩ := List.mem_map.mp hd
    refine lay_tup (k := 3) fun d hd => ?_
    simp only [List.mem_cons, List.not_mem_nil, or_false] at hd
    rcases hd with rfl | rfl | rfl
    · exact lay_str (k m hm) 3
    · obtain ⟨a, b⟩ := lay_flat (f m hm).1
      exact ⟨a, by omega⟩
    · obtain ⟨a, b⟩ := lay_flat (f m hm).2
      exact ⟨a, by omega⟩
theorem moves_ok {t : Tab} {cs : List (Str × V × V)} {ys : List Str} (vt : Txts t) (gc : GoodC cs) (hp : ys.Perm (cs.map (·.1))) : (∀ m ∈ movesF t cs ys, OkS m.1) ∧ ∀ m ∈ movesF t cs ys, FlatOk m.2.1 ∧ FlatOk m.2.2 := by
  have h : ∀ m ∈ movesF t cs ys, ∃ y ∈ ys, m = (y, (valV t y).getD .non, (valV (newT cs) y).getD .non) := fun m hm => by
    obtain ⟨hm, _⟩ := List.mem_filter.mp hm
    obtain ⟨y, hy, e⟩ := List.mem_map.mp hm
    exact ⟨y, hy, e.symm⟩
  refine ⟨fun m hm => ?_, fun m hm => ?_⟩
  · obtain ⟨y, hy, rfl⟩ := h m hm
    obtain ⟨c, hc, e⟩ := List.mem_map.mp (hp.mem_iff.mp hy)
    have := (refs_ok _ (gc.2 c hc).1).2.2
    rw [e] at this
    exact this
  · obtain ⟨y, hy, rfl⟩ := h m hm
    exact ⟨flat_ok vt y, good_flat (new_good (fun c hc => (gc.2 c hc).2.1) y)⟩
/-- references behind the edit agree with the law's model behind it -/
theorem agree_due {H0 H : Hp} {R0 dx0 lk0 tb0 hd0 lg0 m mt mh ml R dx lk tb hd2 lg m2 mt2 mh2 ml2 : Addr} {t lt t' lt' u lu lt2 : Tab} {x n hx hn : Str} {L L2 : Str → List (List V)} {cs : List (Str × V × V)} {ys : List Str} (ag : Agree K CR H0 R0 dx0 lk0 tb0 hd0 lg0 m mt mh ml t lt t' lt' x n L) (gc : GoodC cs) (hp : ys.Perm (cs.map (·.1)))
    (G : GoodS (afterT t (movesF t cs ys)) L2 hx hn) (hR : H R = some (.ins CR dx (rf lk tb hd2 lg))) (ht : H tb = some (.dK (kT u))) (hl : H lg = some (.dK (kT lu))) (so : SortOf (afterT t (movesF t cs ys)) u) (ndl : Nd lu) (lo : LogsOk H lu L2) (hh : TupK K H hd2 [.str hx, .str hn])
    (hM : ModAt K H m2 mt2 mh2 ml2 (lawT t' cs) lt2 hx hn) (nd2 : Nd lt2) (ll : LogsL H lt2 L2) (keys2 : ∀ y : Str, y ∈ lt2.map (·.1) → y ∈ lt'.map (·.1) ∨ y ∈ cs.map (·.1) ∨ y = ("HEAD" : Str)) (ne : tb ≠ mt2) : Agree K CR H R dx lk tb hd2 lg m2 mt2 mh2 ml2 u lu (lawT t' cs) lt2 hx hn L2 := by
  have vt : Txts t := ag.vs
  have eqA : ∀ y, valV (lawT t' cs) y = valV (afterT t (movesF t cs ys)) y := fun y => by rw [law_eq ag.eq gc.1, after_law ag.nt vt.nn gc.1 hp]
  refine ⟨hR, ht, so.nd G.nd, hh, hl, ndl, lo, hM, nd_lawT ag.nt' cs, nd2, ll, fun y => (eqA y).trans (so.2.2 y).symm, ne, fun e he => ?_, fun y hy => G.ks y (so.2.1.mem_iff.mp hy), fun y hy => ?_, fun y l hl => entg_ok (G.eg y l hl), G.ox, G.on⟩
  · have v := val_nodup (so.nd G.nd) e he
    rw [so.2.2] at v
    obtain ⟨y, ey, _, _, o⟩ := G.vs _ (val_mem v)
    exact ⟨y, ey, o⟩
  · rcases keys2 y hy with h | h | h
    · exact ag.ls y h
    · obtain ⟨c, hc, rfl⟩ := List.mem_map.mp h
      obtain ⟨z1, z2, z3⟩ := refs_ok _ (gc.2 c hc).1
      exact ⟨.inl z1, z2, z3⟩
    · rw [h]
      exact ⟨.inr rfl, by decide +kernel, ok_by (by decide +kernel)⟩
end

end Fk

set_option maxHeartbeats 4000000
namespace Fk
open PySem PySem.Spec PyProof.Rows L2
open LamX
theorem passNo {X : Cx} {P : Program} {w : World} {σ : L2.St} : PassesAt (L2.CX P w) X σ (fun _ _ _ => False) := fun _ _ _ _ _ _ h => by
  obtain ⟨_, _, _, _, _, _, _, _, _, _, _, _, z⟩ := h
  exact z.elim
section
variable {P : Program} {w : World} {K : PySem.W.Frag} {mg : Str → Option Value} {base : Heap} {CE CR cS cB iS iB ns r0 h0 l0 : Addr}
/-- behind a turn, when edits may be open -/
def TurnQ (K : PySem.W.Frag) (CE CR : Addr) (H : Hp) (a R m : Addr) (bt bl : Nat) (c : Int) : Prop := ∃ (dx lk tb hd lg mt mh ml : Addr) (t lt t' lt' : Tab) (x n : Str) (L : Str → List (List V)), Agree K CR H R dx lk tb hd lg m mt mh ml t lt t' lt' x n L ∧ Wm H a c ∧ IdsT t' ∧
  t.length ≤ bt ∧ lt.length ≤ bl ∧ lt'.length ≤ bl ∧ (∀ y, (L y).length ≤ bl) ∧ HeadOk x n ∧ haveF (t.map (·.1)) = false ∧ ∀ y, ∀ l ∈ L y, EntGood l
def spPrev (K : PySem.W.Frag) (CE CR Pt : Addr) : Sp := fun vs H Q _ => ∃ (a R m : Addr) (bt bl : Nat) (c : Int), vs = [.ref a, .ref R, .ref m] ∧ TurnAt K CE CR H a R m bt bl c ∧ bt < 30 ∧ bl < 56 ∧ c < 2 ^ 38 ∧ Tabs [(Pt, QLam)] H ∧
  ∀ m' c' H', FrX [a, R] H H' → TurnQ K CE CR H' a R m' (bt + 4) (bl + 5) c' → c ≤ c' → c' ≤ c + 40 → Tabs [(Pt, QLam)] H' → Q (.ref m') H'
theorem c_l_previewed (S : TopS K mg CE CR cS cB iS iB ns r0 h0 l0) {cd Pt : Addr} (D : IsDefC K mg "_law_previewed" s_l_previewed cd) (TB : TabB base mg cd Pt) : C8.Cal P w K mg base 9 "_law_previewed" (spPrev K CE CR Pt) [] := by
  refine cal_ofC D sc_l_previewed (fun _ _ _ _ _ _ us hl => match us, hl with | [_, _, _], _ => rfl) (fun vs H Q E h => ?_) (fun f A outer s H vs Q E hr h => ?_)
  · obtain ⟨a, R, m, bt, bl, c, rfl, _⟩ := h
    rfl
  · obtain ⟨a, R, m, bt, bl, c, rfl, ⟨dx, lk, tb, hd, lg, mt, mh, ml, t, lt, t', lt', x, n, L, ag, hw, hk, it, b1, b2, b3, b4, hok, hvt, eg⟩, hbt, hbl, hc, hTab, q⟩ := h
    have T := S.toTopR
    refine' ⟨_, (pss_cons ?q0 (pss_cons ?q1 (pss_cons ?q2 (pss_cons ?q3 (pss_cons ?q4 (pss_cons ?q5 (pss_cons ?q6 (pss_cons ?q7 (pss_cons ?q8 (pss_cons ?q9 (pss_cons ?q10 (pss_one ?q11)))))))))))), ?main⟩
    case q0 => exact (ps_set (i := 3) sc_l_previewed.nd rfl (Or.inl rfl) (pe_tup (pa_cons pe_str (pa_cons pe_int (pa_cons pe_str pa_nil)))))
    case q1 => exact (ps_set (i := 4) sc_l_previewed.nd rfl (Or.inr rfl) (C8.pe_mt (m_Refs_edit T) hr (by decide) (pv 1) (pa_cons pe_str (pa_cons pe_int (pa_cons pe_str pa_nil)))))
    case q2 => exact (ps_if (PW.pt (pw_or (pt_cmpR (op_neD hr.units) (pe_mx0 (E := fun _ _ _ _ => False) (m_Edit_moves T) hr (by decide) (fun _ => passNo) (pv 4)) (pe_tup pa_nil) (nomark _)) (pw_or1 (pt_cmpR (op_neD hr.units) (C8.pe_mt0 (m_Refs_state T) hr (by decide) (C8.pe_mk (k_RefsS S) hr (by decide) (by rfl) (pa_cons (pe_mx0 (E := fun _ _ _ _ => False) (m_Edit_behind T) hr (by decide) (fun _ => passNo) (pv 4)) pa_nil))) (C8.pe_mt0 (m_Refs_state T) hr (by decide) (pv 1)) (nomark _)))))
      (pss_one (ps_ret pe_non))
      pss_nil)
    case q3 => exact (ps_asg (C8.pe_c (c_l_noted T) hr (by decide) (by rfl) (pa_cons (pv 0) (pa_cons (pv 4) (pa_cons (pv 2) pa_nil)))) (pg_tup rfl (pgs_cons (pg_name (i := 5) sc_l_previewed.nd rfl (Or.inl rfl)) (pgs_cons (pg_name (i := 6) sc_l_previewed.nd rfl (Or.inl rfl)) pgs_nil))))
    case q4 => exact (ps_par (i := 7) (j := 8) rfl sc_l_previewed.nd rfl rfl (by decide) rfl rfl (pa_cons (C8.pe_c (c_l_behind T.toTop) hr (by decide) (by rfl) (pa_cons (pv 2) (pa_cons (pv 5) (pa_cons (pv 6) (pa_cons (pv 3) pa_nil))))) (pa_cons (C8.pe_mt0 (m_Refs_state T) hr (by decide) (pv 1)) pa_nil)) rfl)
    case q5 => exact (ps_set (i := 9) sc_l_previewed.nd rfl (Or.inl rfl) (pe_lamC (T := [(Pt, QLam)]) (k := 5) T.toTop.d_l_asked sc_l_asked (fun _ _ _ _ _ _ us hl => match us, hl with | [_], _ => rfl) (by rfl) rfl (.inl rfl) (fun g cdg => asked_gives T) TB rfl (List.mem_singleton.mpr rfl) (fun p hp _ => by rw [List.mem_singleton.mp hp]; rfl) hr (by decide) (show LamS (C8.fnScope s_l_previewed) _ from lamS_by (by decide +kernel)) rfl (fun _ _ _ _ _ => rfl) (fun A outer s H E f c2 hr2 => pe_mx0 (m_Edit_moves T) hr2 (by decide) (fun _ => passAt takes_lam _) (pv 4))))
    case q6 => exact (ps_set (i := 10) sc_l_previewed.nd rfl (Or.inl rfl) (pe_lamC (T := [(Pt, QLam)]) (k := 6) T.toTop.d_l_asked sc_l_asked (fun _ _ _ _ _ _ us hl => match us, hl with | [_], _ => rfl) (by rfl) rfl (.inl rfl) (fun g cdg => asked_gives T) TB rfl (List.mem_singleton.mpr rfl) (fun p hp _ => by rw [List.mem_singleton.mp hp]; rfl) hr (by decide) (show LamS (C8.fnScope s_l_previewed) _ from lamS_by (by decide +kernel)) rfl (fun _ _ _ _ _ => rfl) (fun A outer s H E f c2 hr2 => pe_mx0 (m_Edit_behind T) hr2 (by decide) (fun _ => passAt takes_lam _) (pv 4))))
    case q7 => exact (ps_if (PW.pt (pw_or (pt_cmpR (op_neD hr.units) (C8.pe_mt0 (m_Refs_state T) hr (by decide) (pv 1)) (pv 8) (nomark _)) (pw_or1 (pt_not (pt_val (C8.pe_c (c_l_stands T) hr (by decide) (by rfl) (pa_cons (pv 1) (pa_cons (pv 2) pa_nil))))))))
      (pss_one (ps_ret pe_non))
      pss_nil)
    case q8 => exact (ps_if (pt_val (pe_callB call_isi (by rfl) T.z_isinstance (by decide +kernel) (pa_cons (pv 7) (pa_cons (pe_bltn (v := .ty "tuple") (by rfl) T.z_tuple (by decide +kernel) rfl) pa_nil))))
      (pss_one (ps_ret (pe_ifExp (PW.pt (pw_and (pt_cmpR (op_eqD hr.units) (pv 9) (pv 7) (nomark _)) (pw_and (pt_cmpR (op_eqD hr.units) (pv 10) (pv 7) (nomark _)) (pw_and1 (pt_cmpR (op_eqD hr.units) (C8.pe_c (c_l_finished T) hr (by decide) (by rfl) (pa_cons (pv 4) pa_nil)) (pv 7) (nomark _)))))) (pv 2) pe_non)))
      pss_nil)
    case q9 => exact (ps_if (PW.pt (pw_or (pt_cmpR (op_neD hr.units) (pv 9) (pe_tup (pa_cons pe_str (pa_cons (C8.pe_c (c_l_moves T.toTop) hr (by decide) (by rfl) (pa_cons (pv 2) (pa_cons (pv 7) pa_nil))) pa_nil))) (nomark _)) (pw_or1 (pt_cmpR op_ne (pe_ix ix_tup (pv 10) pe_int (fun _ _ => rfl)) pe_str (nomark _)))))
      (pss_one (ps_ret pe_non))
      pss_nil)
    case q10 => exact (ps_if (pt_not (pt_val (C8.pe_c (c_l_stands T) hr (by decide) (by rfl) (pa_cons (C8.pe_mk (k_RefsS S) hr (by decide) (by rfl) (pa_cons (pe_ix ix_tup (pv 10) pe_int (fun _ _ => rfl)) pa_nil)) (pa_cons (pv 7) pa_nil)))))
      (pss_one (ps_ret pe_non))
      pss_nil)
    case q11 => exact (ps_ret (pe_ifExp (PW.pt (pw_and (pt_cmpR op_isN (C8.pe_c (c_l_finished T) hr (by decide) (by rfl) (pa_cons (pv 4) pa_nil)) pe_non (nomark _)) (pw_and1 (pt_cmpR (op_eqD hr.units) (C8.pe_mt0 (m_Refs_state T) hr (by decide) (pv 1)) (pe_ix ix_tup (pv 10) pe_int (fun _ _ => rfl)) (nomark _))))) (pv 7) pe_non))
    refine ⟨(by show 3 ≤ sizeLine; decide), fun sg hsg => ?_⟩
    have s1 := same_new (o := .tup [.str "ann", .int 7, .str ""]) hsg
    have hsg1 : (upd H sg (.tup [.str "ann", .int 7, .str ""])) sg = some (.tup [.str "ann", .int 7, .str ""]) := upd_same
    generalize upd H sg (.tup [.str "ann", .int 7, .str ""]) = H1 at s1 hsg1
    refine ⟨.ref R, rfl, R, dx, _, rfl, s1 _ _ ag.hR, rfl, R, dx, lk, tb, hd, lg, "ann", "", 7, rfl, s1 _ _ ag.hR, by decide +kernel, by decide +kernel, ok_by (by decide +kernel), by decide, by decide, by decide +kernel, by decide +kernel, fun e ex nt cl H2 ne ncl s2 he hnt hcl => ?_⟩
    have s02 := s1.trans s2
    have ag2 : Agree K CR H2 R dx lk tb hd lg m mt mh ml t lt t' lt' x n L := ag.move hw (FrL.same s02) (TupKeep.of s02) (s02 _ _ ag.hR)
    have vt : Txts t := ag.vs
    have kt1 : ∀ y ∈ t.map (·.1), y.length ≤ 1000 ∧ OkS y := fun y hy => (ag.ks y hy).2
    have bL : ∀ y, (L y).length ≤ 1000 := fun y => by have := b4 y; omega
    have G : GoodS t L x n := good_turn ag it hok hvt eg bL
    have nil0 : ∀ {ys : List Str}, ys.Perm (([] : List (Str × V × V)).map (·.1)) → ys = [] := fun h => List.perm_nil.mp h
    have val0 : ∀ y, valV (afterT t (movesF t [] [])) y = valV t y := fun y => after_law (cs := []) (ys := []) ag.nt vt.nn List.nodup_nil (List.Perm.refl _) y
    have hv0 : haveF ((afterT t (movesF t [] [])).map (·.1)) = false := (have_perm (keys_perm (nd_after ag.nt (movesF_nd (cs := []) List.nodup_nil)) ag.nt fun y => by rw [val0])).trans hvt
    have rdy0 : ∀ {H'}, Same H2 H' → Ready CE CR H' e ex R nt cl dx lk tb hd lg .non t lt [] := fun {H'} s =>
      ⟨s _ _ he, s _ _ ag2.hR, s _ _ ag2.hT, ag.nt, s _ _ ag2.hL, ag.nl, by show t.length + 0 < 64; omega, by show lt.length + 0 + 1 < 64; omega, ⟨[], rfl, s _ _ hcl, fun z h => (List.not_mem_nil h).elim⟩, List.nodup_nil, vt.flat, fun c h => (List.not_mem_nil h).elim, kt1, fun c h => (List.not_mem_nil h).elim⟩
    -- nothing is noted: no moves
    refine ⟨.ref e, rfl, e, ex, _, rfl, he, rfl, e, ex, R, nt, cl, dx, lk, tb, hd, lg, .non, t, lt, [], rfl, rdy0 (Same.refl _), fun x hx => (by cases (show (none : Option Str) = some x from hx)), fun _ ys hp _ hv => (by cases nil0 hp; exact absurd (hv0.symm.trans hv) (fun z => nomatch z)), fun _ ys hp hs hv p3 H3 s3 tp3 => ?_⟩
    cases nil0 hp
    obtain ⟨as3, hp3, la3, _⟩ := tp3
    have ea3 : as3 = [] := List.length_eq_zero_iff.mp la3
    subst ea3
    refine ⟨(by show 0 ≤ sizeLine; exact Nat.zero_le _), fun p4 hp4 => ?_⟩
    have s4 : Same H3 (upd H3 p4 (.tup [])) := same_new hp4
    have h4 : (upd H3 p4 (.tup [])) p4 = some (.tup []) := upd_same
    generalize upd H3 p4 (.tup []) = H4 at s4 h4
    have s24 := s3.trans s4
    refine ⟨.tuple [], .tuple [], .tup (SqT.of (s4 _ _ hp3)) .nil, .tup (SqT.of h4) .nil, by decide +kernel, by decide +kernel, _, rfl, ?_⟩
    rw [show PyData.eqv (.tuple []) (.tuple []) = true by decide +kernel]
    refine iteF ?_
    -- the state is what it was
    have st0 : ∀ {H'}, Same H2 H' → Stand K H' .non hd hd x n x n := fun {H'} s => ⟨ag2.hH.keep (TupKeep.of s), ag.ox, ag.on, .inl ⟨rfl, rfl, rfl, rfl⟩⟩
    refine ⟨.ref e, rfl, e, ex, _, rfl, s24 _ _ he, rfl, e, ex, R, nt, cl, dx, lk, tb, hd, lg, hd, .non, t, lt, [], L, x, n, x, n, .str "ann", .int 7, .str "", rfl, rdy0 s24, st0 s24, ag2.lo.keep (TupKeep.of s24), s24 _ _ hnt, bL, fun x hx => (by cases (show (none : Option Str) = some x from hx)), fun _ ys hp _ hv => (by cases nil0 hp; exact absurd (hv0.symm.trans hv) (fun z => nomatch z)), fun _ ys hp hs hv p5 r5 l5 u5 lu5 H5 s5 h5 tr5 so5 tl5 ⟨nd5, srt5⟩ len5 lo5 => ?_⟩
    cases nil0 hp
    rw [logs_none ag.nt vt.nn] at lo5
    have s05 := s24.trans s5
    have val5 : ∀ y, valV u5 y = valV t y := fun y => (so5.2.2 y).trans (val0 y)
    have so5' : SortOf t u5 := ⟨so5.1, so5.2.1.trans (keys_perm (nd_after ag.nt (movesF_nd (cs := []) List.nodup_nil)) ag.nt fun y => by rw [val0]), val5⟩
    have lk5 : lu5.length < 64 := by have : lu5.length ≤ lt.length + 0 + 1 := len5; omega
    intro R2 dx2 hR2 hdx2 ndx2
    have sR2 : Same H5 (upd (upd H5 dx2 (.own R2)) R2 (.ins CR dx2 [])) := fun b o e => by
      rw [upd_ne (ne_of_none e hR2), upd_ne (ne_of_none e hdx2)]
      exact e
    have hR20 : (upd (upd H5 dx2 (.own R2)) R2 (.ins CR dx2 [])) R2 = some (.ins CR dx2 []) := upd_same
    generalize upd (upd H5 dx2 (.own R2)) R2 (.ins CR dx2 []) = H6 at sR2 hR20
    have hd6 : TupK K H6 hd [.str x, .str n] := ag2.hH.keep (TupKeep.of (s05.trans sR2))
    refine ⟨R2, dx2, p5, r5, hd, l5, u5, lu5, x, n, rfl, hR20, state_mk G (by omega) lk5 (sR2 _ _ h5) (tr5.keep (TupKeep.of sR2)) so5' hd6 (tl5.keep (TupKeep.of sR2)) (lo5.keep (TupKeep.of sR2)) nd5 srt5, fun lk3 tb3 lg3 H7 _ _ _ f7 k7 hR7 hk7 ht7 hl7 => ⟨rfl, ?_⟩⟩
    have s7 : Same H5 H7 := same_frl hR2 sR2 f7
    have s07 := s05.trans s7
    refine ⟨R2, dx2, _, rfl, hR7, rfl, R2, dx2, lk3, tb3, hd, lg3, u5, lu5, rfl, hR7, ht7, so5'.nd ag.nt, by rw [so5'.len]; omega, hl7, nd5, lk5, fun p8 r8 l8 u8 lu8 H8 _ s8 h8 tr8 so8 tl8 so8' => ?_⟩
    have s08 := s07.trans s8
    refine ⟨.ref R, rfl, R, dx, _, rfl, s08 _ _ ag2.hR, rfl, R, dx, lk, tb, hd, lg, t, lt, rfl, s08 _ _ ag2.hR, s08 _ _ ag2.hT, ag.nt, by omega, s08 _ _ ag2.hL, ag.nl, by omega, fun p9 r9 l9 u9 lu9 H9 _ s9 h9 tr9 so9 tl9 so9' => ?_⟩
    have s09 := s08.trans s9
    have A8 : StAt K H8 p8 u5 L x n := ⟨r8, hd, l8, u8, lu8, h8, tr8, so8, ag2.hH.keep (TupKeep.of s08), tl8, (lo5.keep (TupKeep.of (s7.trans s8))).of so8'.2.2, so8'.nd nd5, so8'.1⟩
    have A9 : StAt K H9 p9 t L x n := ⟨r9, hd, l9, u9, lu9, h9, tr9, so9, ag2.hH.keep (TupKeep.of s09), tl9, (ag2.lo.keep (TupKeep.of s09)).of so9'.2.2, so9'.nd ag.nl, so9'.1⟩
    obtain ⟨d9, D9, D8, sh9, eq9⟩ := G.same A9 (A8.keep (TupKeep.of s9)) (so5'.nd ag.nt) val5
    refine ⟨d9, d9, D8, D9, sh9, sh9, _, rfl, ?_⟩
    rw [eq9]
    refine iteF ?_
    clear A8 A9 D8 D9 eq9 sh9 tr9 so9 tl9 so9' h9 tr8 so8 tl8 so8' h8 hR7 hk7 ht7 hl7 f7 k7 hd6 hR20 lo5 tl5 so5 so5' tr5 h5 hp3 h4
    -- the calls
    have s19 := s1.trans (s2.trans s09)
    have lk9 : LocksAt H9 CE lk e 0 := ((hk.same s1).locks ne).same (s2.trans s09)
    have g9 : Agree K CR H9 R dx lk tb hd lg m mt mh ml t lt t' lt' x n L := ag.move hw (FrL.same s19) (TupKeep.of s19) (s19 _ _ ag.hR)
    obtain ⟨hm9, ht9, hh9, hl9⟩ := id g9.hM
    have ehd : H e = none := s1.free ne
    have chd : H cl = none := s1.free ncl
    refine ⟨.ref a, rfl, .ref e, rfl, .ref m, rfl, a, e, m, ex, R, nt, cl, dx, lk, tb, hd, lg, mt, mh, ml, t', c, 0, rfl, hw.same s19, by omega, s09 _ _ he, g9.hR, lk9, by omega, s09 _ _ hcl, hm9, ht9, ne_of_none ag.hM.1 chd, ne_of_none ag.hM.2.1 chd, it, fun pN lc st nh lk2 cs c7 H10 f10 k10 w10 hc71 hc72 hpN hcL hlc hcA gc lcs sta he10 hR10 hk10 => ⟨pN, _, rfl, SqT.of hpN, rfl, _, _, rfl, _, _, rfl, rfl, ?_⟩⟩
    have f0 : FrL [a, R] H H10 := (FrL.same s19).then f10 fun b hb => by
      simp only [List.mem_cons, List.not_mem_nil, or_false] at hb ⊢
      rcases hb with rfl | rfl | rfl | rfl
      · exact .inl (.inl rfl)
      · exact .inr ehd
      · exact .inl (.inr rfl)
      · exact .inr chd
    have k0 := (TupKeep.of s19).trans k10
    have g10 : Agree K CR H10 R dx lk2 tb hd lg m mt mh ml t lt t' lt' x n L := ag.move hw f0 k0 hR10
    have T10 : Tabs [(Pt, QLam)] H10 := tabs_fr hTab f0 fun b hb o eo => by
      simp only [List.mem_cons, List.not_mem_nil, or_false] at hb
      rcases hb with rfl | rfl
      · obtain ⟨_, _, _, _, _, h⟩ := hw
        rw [h] at eo
        cases eo
        exact ⟨(fun ps z => nomatch z), (fun c q z => by unfold CodeO at z; cases z)⟩
      · rw [ag.hR] at eo
        cases eo
        exact ⟨(fun ps z => nomatch z), (fun c q z => by unfold CodeO at z; cases z)⟩
    have hsg10 := k10 _ _ (s09 _ _ (s2 _ _ hsg1))
    have fcs : ∀ c ∈ cs, flatN c.2.1 ∧ flatN c.2.2 := fun c hc => ⟨(gc.2 c hc).2.1.flat, had_flat (gc.2 c hc).2.2⟩
    have kcs : ∀ y ∈ cs.map (·.1), isRefF y = true ∧ y.length ≤ 1000 ∧ OkS y := fun y hy => by
      obtain ⟨c, hc, rfl⟩ := List.mem_map.mp hy
      exact refs_ok _ (gc.2 c hc).1
    have kp : (t'.map (·.1)).Perm (t.map (·.1)) := keys_perm ag.nt' ag.nt fun x => by rw [ag.eq]
    have lt1 : t'.length = t.length := by have := kp.length_eq; rw [List.length_map, List.length_map] at this; exact this
    have kt2 : ∀ y ∈ t'.map (·.1), y.length ≤ 1000 ∧ OkS y := fun y hy => kt1 y (kp.mem_iff.mp hy)
    obtain ⟨mh2, hd2, hx, hn, hst, hSt, ohx, ohn, hok2⟩ : ∃ (mh2 hd2 : Addr) (hx hn : Str), ((st = .non ∧ mh2 = mh ∧ hx = x ∧ hn = n) ∨ (st = .ref mh2 ∧ TupK K H10 mh2 [.str hx, .str hn])) ∧ Stand K H10 nh hd hd2 x n hx hn ∧ OkS hx ∧ OkS hn ∧ HeadOk hx hn := by
      rcases sta with ⟨z1, z2⟩ | ⟨sp, hp, hx, hn, z1, z2, z3, z4, z5h, z6, z7⟩
      · exact ⟨mh, hd, x, n, .inl ⟨z1, rfl, rfl, rfl⟩, ⟨g10.hH, ag.ox, ag.on, .inl ⟨z2, rfl, rfl, rfl⟩⟩, ag.ox, ag.on, hok⟩
      · have ohx : OkS hx := by
          rcases z5h with ⟨rfl, _⟩ | ⟨rfl, _⟩ <;> exact ok_by (by decide +kernel)
        exact ⟨sp, hp, hx, hn, .inr ⟨z1, .inl z3⟩, ⟨g10.hH, ag.ox, ag.on, .inr ⟨z2, .inl z4, ohx, z7⟩⟩, ohx, z7, z5h, z6, z7⟩
    have rd10 : Ready CE CR H10 e ex R nt cl dx lk2 tb hd lg nh t lt cs :=
      ⟨he10, hR10, g10.hT, ag.nt, g10.hL, ag.nl, by omega, by omega, hcA, gc.1, vt.flat, fcs, kt1, fun y hy => (kcs y hy).2⟩
    have pv : PvAt K CE CR Pt H H10 a e ex R nt cl dx lk2 tb hd hd2 lg m mt mh ml nh t lt t' lt' cs L x n hx hn c7 := ⟨rd10, hSt, g10, hk10, w10, k10 _ _ (s09 _ _ hnt), T10, FrX.of f0⟩
    have undone : ∀ {H'}, PvAt K CE CR Pt H H' a e ex R nt cl dx lk2 tb hd hd2 lg m mt mh ml nh t lt t' lt' cs L x n hx hn c7 → Q (.ref m) H' := fun {H'} p =>
      q m c7 H' p.fr ⟨dx, lk2, tb, hd, lg, mt, mh, ml, t, lt, t', lt', x, n, L, p.ag, p.wm, it, by omega, by omega, by omega, fun y => by have := b4 y; omega, hok, hvt, eg⟩ (by omega) (by omega) p.tb
    refine ⟨.ref m, rfl, .ref lc, rfl, st, rfl, .ref sg, rfl, m, lc, sg, mt, mh, ml, mh2, st, t', lt', cs, x, n, hx, hn, L, .str "ann", .int 7, .str "", rfl, g10.hM, hcL, hsg10, ag.nt', ag.nl', g10.ll, ids_txts it, gc.1, fcs, kt2, fun y hy => (kcs y hy).2, by omega, by omega, bL, ag.ox, ag.on, ohx, ohn, hst, fun rr hrr pD H11 s11 hpD => ?_, fun sn hv pD H11 s11 hpD => ?_, fun sn hv ys hp hs m2 mt2 ml2 lt2 H11 s11 nm2 nmt2 nml2 hM11 nd2 len2 keys2 ll11 => ?_⟩
    · rw [stale_eq ag.eq] at hrr
      have pv11 := pv.same s11
      refine ⟨.ref R, rfl, R, dx, _, rfl, pv11.ag.hR, rfl, R, dx, lk2, tb, hd, lg, t, lt, rfl, pv11.ag.hR, pv11.ag.hT, ag.nt, by omega, pv11.ag.hL, ag.nl, by omega, fun pB rB lB uB luB H12 _ s12 hB trB soB tlB soB' => ?_⟩
      have pv12 := pv11.same s12
      have AB : StAt K H12 pB t L x n := ⟨rB, hd, lB, uB, luB, hB, trB, soB, pv12.ag.hH, tlB, pv12.ag.lo.of soB'.2.2, soB'.nd ag.nl, soB'.1⟩
      refine ⟨.ref pD, .ref pB, rfl, ?_⟩
      dsimp only [tSeq, tAsg]
      refine tell_moves pv12 rfl (fun y hy r13 H13 e13 T13 h13 => ?_) (fun sn => absurd (sn.symm.trans hrr) (fun z => nomatch z)) (fun sn => absurd (sn.symm.trans hrr) (fun z => nomatch z))
      rw [hrr] at hy
      cases hy
      refine tell_behind (pv12.ext e13 T13) rfl bL (fun y hy r14 H14 e14 T14 h14 => ?_) (fun sn => absurd (sn.symm.trans hrr) (fun z => nomatch z)) (fun sn => absurd (sn.symm.trans hrr) (fun z => nomatch z))
      rw [hrr] at hy
      cases hy
      have pv14 := (pv12.ext e13 T13).ext e14 T14
      refine ⟨.ref R, rfl, R, dx, _, rfl, pv14.ag.hR, rfl, R, dx, lk2, tb, hd, lg, t, lt, rfl, pv14.ag.hR, pv14.ag.hT, ag.nt, by omega, pv14.ag.hL, ag.nl, by omega, fun pC rC lC uC luC H15 _ s15 hC trC soC tlC soC' => ?_⟩
      have pv15 := pv14.same s15
      have AC : StAt K H15 pC t L x n := ⟨rC, hd, lC, uC, luC, hC, trC, soC, pv15.ag.hH, tlC, pv15.ag.lo.of soC'.2.2, soC'.nd ag.nl, soC'.1⟩
      have e25 : ExtN H12 H15 := (e13.trans e14).trans (ExtN.of s15)
      obtain ⟨dC, D1, D2, shC, eqC⟩ := G.same AC (AB.keep (ext_tk e25)) ag.nt (fun _ => rfl)
      refine ⟨.ref pB, rfl, dC, dC, D1, D2, shC, shC, _, rfl, ?_⟩
      rw [eqC]
      refine iteF ?_
      refine ⟨.ref R, rfl, .ref m, rfl, R, dx, lk2, tb, hd, lg, m, mt, mh, ml, t, lt, t', lt', x, n, L, rfl, pv15.ag, by omega, by omega, fun H16 s16 => ⟨_, rfl, iteF ?_⟩⟩
      have pv16 := pv15.same s16
      have e26 : ExtN H12 H16 := e25.trans (ExtN.of s16)
      have e36 : ExtN H13 H16 := (e14.trans (ExtN.of s15)).trans (ExtN.of s16)
      have e46 : ExtN H14 H16 := (ExtN.of s15).trans (ExtN.of s16)
      refine ⟨.ref pD, rfl, ?_⟩
      dsimp only [tCons, tC, tNil]
      have hD16 : H16 pD = some (.tup [.str "stale", .str rr]) := ext_tk e26 _ _ (s12 _ _ hpD)
      have h13' := ext_tk e36 _ _ h13
      have h14' := ext_tk e46 _ _ h14
      have orr := (kcs rr (stale_mem hrr)).2.2
      have ost : OkS "stale" := ok_by (by decide +kernel)
      refine isi_tup hD16 (b := true) (kit_ty (by decide +kernel)) ⟨_, rfl, iteT ?_⟩
      refine ⟨.ref r13, rfl, .ref pD, rfl, _, _, dp_head (.inl h13'), dp_head (.inl hD16), shaped_head ost orr, shaped_head ost orr, _, rfl, ?_⟩
      rw [eqv_head, decide_eq_true rfl]
      refine iteT ⟨.ref r14, rfl, .ref pD, rfl, _, _, dp_head (.inl h14'), dp_head (.inl hD16), shaped_head ost orr, shaped_head ost orr, _, rfl, ?_⟩
      rw [eqv_head, decide_eq_true rfl]
      refine iteT ⟨.ref e, rfl, e, ex, R, nt, cl, dx, lk2, tb, hd, lg, hd2, nh, t, lt, cs, L, x, n, hx, hn, .str "ann", .int 7, .str "", rfl, pv16.rd, pv16.sd, pv16.ag.lo, pv16.nt, bL, fun r2 hr2 p17 H17 s17 h17 => ?_, fun sn => absurd (sn.symm.trans hrr) (fun z => nomatch z), fun sn => absurd (sn.symm.trans hrr) (fun z => nomatch z)⟩
      rw [hrr] at hr2
      cases hr2
      refine ⟨.ref pD, rfl, _, _, dp_head (.inl h17), dp_head (.inl (s17 _ _ hD16)), shaped_head ost orr, shaped_head ost orr, _, rfl, ?_⟩
      rw [eqv_head, decide_eq_true rfl]
      exact iteT ⟨.ref m, rfl, undone (pv16.same s17)⟩
    · have sn' : staleF t cs = none := by rw [← stale_eq ag.eq]; exact sn
      have hv' : ∀ ys : List Str, ys.Perm (cs.map (·.1)) → haveF ((afterT t (movesF t cs ys)).map (·.1)) = true := fun ys hp => by
        rw [← hv]
        exact have_perm (keys_perm (nd_after ag.nt (movesF_nd (hp.nodup_iff.mpr gc.1))) (nd_lawT ag.nt' cs) fun y => by rw [law_eq ag.eq gc.1, after_law ag.nt vt.nn gc.1 hp])
      have pv11 := pv.same s11
      refine ⟨.ref R, rfl, R, dx, _, rfl, pv11.ag.hR, rfl, R, dx, lk2, tb, hd, lg, t, lt, rfl, pv11.ag.hR, pv11.ag.hT, ag.nt, by omega, pv11.ag.hL, ag.nl, by omega, fun pB rB lB uB luB H12 _ s12 hB trB soB tlB soB' => ?_⟩
      have pv12 := pv11.same s12
      have AB : StAt K H12 pB t L x n := ⟨rB, hd, lB, uB, luB, hB, trB, soB, pv12.ag.hH, tlB, pv12.ag.lo.of soB'.2.2, soB'.nd ag.nl, soB'.1⟩
      refine ⟨.ref pD, .ref pB, rfl, ?_⟩
      dsimp only [tSeq, tAsg]
      refine tell_moves pv12 rfl (fun y hy => absurd (sn'.symm.trans hy) (fun z => nomatch z)) (fun _ _ r13 H13 e13 T13 h13 => ?_) (fun _ ys hp _ hf => absurd ((hv' ys hp).symm.trans hf) (fun z => nomatch z))
      refine tell_behind (pv12.ext e13 T13) rfl bL (fun y hy => absurd (sn'.symm.trans hy) (fun z => nomatch z)) (fun _ _ r14 H14 e14 T14 h14 => ?_) (fun _ ys hp _ hf => absurd ((hv' ys hp).symm.trans hf) (fun z => nomatch z))
      have pv14 := (pv12.ext e13 T13).ext e14 T14
      refine ⟨.ref R, rfl, R, dx, _, rfl, pv14.ag.hR, rfl, R, dx, lk2, tb, hd, lg, t, lt, rfl, pv14.ag.hR, pv14.ag.hT, ag.nt, by omega, pv14.ag.hL, ag.nl, by omega, fun pC rC lC uC luC H15 _ s15 hC trC soC tlC soC' => ?_⟩
      have pv15 := pv14.same s15
      have AC : StAt K H15 pC t L x n := ⟨rC, hd, lC, uC, luC, hC, trC, soC, pv15.ag.hH, tlC, pv15.ag.lo.of soC'.2.2, soC'.nd ag.nl, soC'.1⟩
      have e25 : ExtN H12 H15 := (e13.trans e14).trans (ExtN.of s15)
      obtain ⟨dC, D1, D2, shC, eqC⟩ := G.same AC (AB.keep (ext_tk e25)) ag.nt (fun _ => rfl)
      refine ⟨.ref pB, rfl, dC, dC, D1, D2, shC, shC, _, rfl, ?_⟩
      rw [eqC]
      refine iteF ?_
      refine ⟨.ref R, rfl, .ref m, rfl, R, dx, lk2, tb, hd, lg, m, mt, mh, ml, t, lt, t', lt', x, n, L, rfl, pv15.ag, by omega, by omega, fun H16 s16 => ⟨_, rfl, iteF ?_⟩⟩
      have pv16 := pv15.same s16
      have e26 : ExtN H12 H16 := e25.trans (ExtN.of s16)
      have e36 : ExtN H13 H16 := (e14.trans (ExtN.of s15)).trans (ExtN.of s16)
      have e46 : ExtN H14 H16 := (ExtN.of s15).trans (ExtN.of s16)
      refine ⟨.ref pD, rfl, ?_⟩
      dsimp only [tCons, tC, tNil]
      have hD16 : H16 pD = some (.tup [.str "ref", .non]) := ext_tk e26 _ _ (s12 _ _ hpD)
      have h13' := ext_tk e36 _ _ h13
      have h14' := ext_tk e46 _ _ h14
      have dp : ∀ {p : Addr} {H' : Hp}, H' p = some (.tup [.str "ref", .non]) → Dp K H' (.ref p) (.tuple [.str "ref", .none]) := fun h => .tup (SqT.of h) (.cons (.str _) (.cons .non .nil))
      have eqR : PyData.eqv (.tuple [.str "ref", .none]) (.tuple [.str "ref", .none]) = true := by decide +kernel
      refine isi_tup hD16 (b := true) (kit_ty (by decide +kernel)) ⟨_, rfl, iteT ?_⟩
      refine ⟨.ref r13, rfl, .ref pD, rfl, _, _, dp h13', dp hD16, by decide +kernel, by decide +kernel, _, rfl, ?_⟩
      rw [eqR]
      refine iteT ⟨.ref r14, rfl, .ref pD, rfl, _, _, dp h14', dp hD16, by decide +kernel, by decide +kernel, _, rfl, ?_⟩
      rw [eqR]
      refine iteT ⟨.ref e, rfl, e, ex, R, nt, cl, dx, lk2, tb, hd, lg, hd2, nh, t, lt, cs, L, x, n, hx, hn, .str "ann", .int 7, .str "", rfl, pv16.rd, pv16.sd, pv16.ag.lo, pv16.nt, bL, fun r2 hr2 => absurd (sn'.symm.trans hr2) (fun z => nomatch z), fun _ ys hp hs _ p17 H17 s17 h17 => ?_, fun _ ys hp _ hf => absurd ((hv' ys hp).symm.trans hf) (fun z => nomatch z)⟩
      refine ⟨.ref pD, rfl, _, _, dp h17, dp (s17 _ _ hD16), by decide +kernel, by decide +kernel, _, rfl, ?_⟩
      rw [eqR]
      exact iteT ⟨.ref m, rfl, undone (pv16.same s17)⟩
    · have sn' : staleF t cs = none := by rw [← stale_eq ag.eq]; exact sn
      have eqA : ∀ y, valV (lawT t' cs) y = valV (afterT t (movesF t cs ys)) y := fun y => by rw [law_eq ag.eq gc.1, after_law ag.nt vt.nn gc.1 hp]
      have hv' : ∀ ys : List Str, ys.Perm (cs.map (·.1)) → haveF ((afterT t (movesF t cs ys)).map (·.1)) = false := fun ys hp => by
        rw [← hv]
        exact have_perm (keys_perm (nd_after ag.nt (movesF_nd (hp.nodup_iff.mpr gc.1))) (nd_lawT ag.nt' cs) fun y => by rw [law_eq ag.eq gc.1, after_law ag.nt vt.nn gc.1 hp])
      have G2 := good_after ag it gc hp (hv' ys hp) hok hok2 ohx ohn eg (fun y => by have := b4 y; omega) lcs
      have ids' : IdsT (lawT t' cs) := ids_lawT it fun c hc => (gc.2 c hc).2.1
      have lys : ys.length = cs.length := by have := hp.length_eq; rw [List.length_map] at this; exact this
      have lm := movesF_len t cs ys
      have la := len_after (t := t) (ms := movesF t cs ys)
      have ll11' : LogsL H11 lt2 (logsNew t L [.str "ann", .int 7, .str ""] (movesF t cs ys) x n hx hn) := by
        rw [moves_eq ag.eq, led_of ag.eq, led_of eqA] at ll11
        exact ll11
      obtain ⟨mk1, mk2⟩ := moves_ok vt gc hp
      have pv11 := pv.same s11
      refine ⟨.ref R, rfl, R, dx, _, rfl, pv11.ag.hR, rfl, R, dx, lk2, tb, hd, lg, t, lt, rfl, pv11.ag.hR, pv11.ag.hT, ag.nt, by omega, pv11.ag.hL, ag.nl, by omega, fun pB rB lB uB luB H12 _ s12 hB trB soB tlB soB' => ?_⟩
      have pv12 := pv11.same s12
      have AB : StAt K H12 pB t L x n := ⟨rB, hd, lB, uB, luB, hB, trB, soB, pv12.ag.hH, tlB, pv12.ag.lo.of soB'.2.2, soB'.nd ag.nl, soB'.1⟩
      refine ⟨.ref m2, .ref pB, rfl, ?_⟩
      dsimp only [tSeq, tAsg]
      refine tell_moves pv12 rfl (fun y hy => absurd (sn'.symm.trans hy) (fun z => nomatch z)) (fun _ ⟨ys, hp, hf⟩ => absurd ((hv' ys hp).symm.trans hf) (fun z => nomatch z)) (fun _ ys2 hp2 hs2 _ r13 b13 H13 e13 T13 h13 tb13 => ?_)
      have ey2 : ys = ys2 := sort_uniq hs hs2 (hp.trans hp2.symm)
      subst ey2
      refine tell_behind (pv12.ext e13 T13) rfl bL (fun y hy => absurd (sn'.symm.trans hy) (fun z => nomatch z)) (fun _ ⟨ys, hp, hf⟩ => absurd ((hv' ys hp).symm.trans hf) (fun z => nomatch z)) (fun _ ys3 hp3 hs3 _ r14 b14 r' l' u' lu' H14 e14 T14 h14 hb14 tr14 so14 tl14 nd14 len14 lo14 => ?_)
      have ey3 : ys = ys3 := sort_uniq hs hs3 (hp.trans hp3.symm)
      subst ey3
      have pv14 := (pv12.ext e13 T13).ext e14 T14
      refine ⟨.ref R, rfl, R, dx, _, rfl, pv14.ag.hR, rfl, R, dx, lk2, tb, hd, lg, t, lt, rfl, pv14.ag.hR, pv14.ag.hT, ag.nt, by omega, pv14.ag.hL, ag.nl, by omega, fun pC rC lC uC luC H15 _ s15 hC trC soC tlC soC' => ?_⟩
      have pv15 := pv14.same s15
      have AC : StAt K H15 pC t L x n := ⟨rC, hd, lC, uC, luC, hC, trC, soC, pv15.ag.hH, tlC, pv15.ag.lo.of soC'.2.2, soC'.nd ag.nl, soC'.1⟩
      have e25 : ExtN H12 H15 := (e13.trans e14).trans (ExtN.of s15)
      obtain ⟨dC, D1, D2, shC, eqC⟩ := G.same AC (AB.keep (ext_tk e25)) ag.nt (fun _ => rfl)
      refine ⟨.ref pB, rfl, dC, dC, D1, D2, shC, shC, _, rfl, ?_⟩
      rw [eqC]
      refine iteF ?_
      refine ⟨.ref R, rfl, .ref m, rfl, R, dx, lk2, tb, hd, lg, m, mt, mh, ml, t, lt, t', lt', x, n, L, rfl, pv15.ag, by omega, by omega, fun H16 s16 => ⟨_, rfl, iteF ?_⟩⟩
      have pv16 := pv15.same s16
      have e26 : ExtN H12 H16 := e25.trans (ExtN.of s16)
      have e36 : ExtN H13 H16 := (e14.trans (ExtN.of s15)).trans (ExtN.of s16)
      have e46 : ExtN H14 H16 := (ExtN.of s15).trans (ExtN.of s16)
      have e06 : ExtN H11 H16 := (ExtN.of s12).trans e26
      have hM16 := ext_mod e06 hM11
      refine ⟨.ref m2, rfl, ?_⟩
      dsimp only [tCons, tC, tNil]
      refine dk_isi hM16.1 (b := false) (kit_ty (by decide +kernel)) ⟨_, rfl, iteF ?_⟩
      -- the moves are the law's
      have len2t : (lawT t' cs).length ≤ t'.length + cs.length := len_lawT t' cs
      refine ⟨.ref r13, rfl, .ref m, rfl, .ref m2, rfl, m, mt, mh, ml, m2, mt2, mh2, ml2, t', lawT t' cs, rfl, pv16.ag.hM.1, hM16.1, pv16.ag.hM.2.1, hM16.2.1, (ids_txts it).flat, (ids_txts ids').flat, by omega, fun pm zs H17 nz hz sz s17 tm17 => ⟨(by show 2 ≤ sizeLine; decide), fun pt hpt => ?_⟩⟩
      rw [diff_moves ag.eq gc.1 hp hs nz hz sz] at tm17
      have s18 := same_new (o := .tup [.str "told", .ref pm]) hpt
      have hpt8 : (upd H17 pt (.tup [.str "told", .ref pm])) pt = some (.tup [.str "told", .ref pm]) := upd_same
      generalize upd H17 pt (.tup [.str "told", .ref pm]) = H18 at s18 hpt8
      have s68 := s17.trans s18
      have e38 := e36.trans (ExtN.of s68)
      have e48 := e46.trans (ExtN.of s68)
      have pv18 := pv16.same s68
      refine ⟨_, _, dp_told (ext_tk e38 _ _ h13) (tb13.keep (ext_tk e38)) mk2, dp_told hpt8 (tm17.keep (TupKeep.of s18)) mk2, shaped_of (lay_told mk1 mk2), shaped_of (lay_told mk1 mk2), _, rfl, ?_⟩
      rw [SeqAt.eqv_refl _ (lay_told mk1 mk2).1]
      refine iteF ⟨.ref r14, rfl, r14, _, 0, .str "told", rfl, rfl, SqT.of (ext_tk e48 _ _ h14), rfl, rfl, _, rfl, ?_⟩
      rw [decide_eq_true rfl]
      refine iteF ?_
      -- references of the state that was told
      have hb18 := ext_tk e48 _ _ hb14
      refine ⟨.ref r14, rfl, r14, _, 1, .ref b14, rfl, rfl, SqT.of (ext_tk e48 _ _ h14), rfl, ?_⟩
      intro R3 dx3 hR3 hdx3 ndx3
      have sR3 : Same H18 (upd (upd H18 dx3 (.own R3)) R3 (.ins CR dx3 [])) := fun b o e => by
        rw [upd_ne (ne_of_none e hR3), upd_ne (ne_of_none e hdx3)]
        exact e
      have hR30 : (upd (upd H18 dx3 (.own R3)) R3 (.ins CR dx3 [])) R3 = some (.ins CR dx3 []) := upd_same
      have fr30 : ∀ {b : Addr}, (upd (upd H18 dx3 (.own R3)) R3 (.ins CR dx3 [])) b = none → H18 b = none := fun {b} e => sR3.free e
      generalize upd (upd H18 dx3 (.own R3)) R3 (.ins CR dx3 []) = H19 at sR3 hR30 fr30
      have k49 : TupKeep H14 H19 := ext_tk (e48.trans (ExtN.of sR3))
      have hh19 : TupK K H19 hd2 [.str hx, .str hn] := (pv18.same sR3).sd.both.1
      refine ⟨R3, dx3, b14, r', hd2, l', u', lu', hx, hn, rfl, hR30, state_mk G2 (by omega) (by omega) (sR3 _ _ hb18) (tr14.keep k49) so14 hh19 (tl14.keep k49) (lo14.keep k49) nd14.1 nd14.2, fun lk4 tb4 lg4 H20 _ n2' _ f20 k20 hR20' hk20 ht20 hl20 => ⟨rfl, ?_⟩⟩
      have s20 : Same H18 H20 := same_frl hR3 sR3 f20
      have e00 : ExtN H11 H20 := e06.trans (ExtN.of (s68.trans s20))
      have e40 : ExtN H14 H20 := e48.trans (ExtN.of s20)
      have pv20 := pv18.same s20
      have AD := agree_due ag gc hp G2 hR20' ht20 hl20 so14 nd14.1 (lo14.keep (ext_tk e40)) pv20.sd.both.1 (ext_mod e00 hM11) nd2 (ll11'.keep (ext_tk e00) (ext_lk e00)) keys2 (ne_of_none' (fr30 n2') (s68 _ _ hM16.2.1))
      refine ⟨.ref m2, rfl, R3, dx3, lk4, tb4, hd2, lg4, m2, mt2, mh2, ml2, u', lu', lawT t' cs, lt2, hx, hn, _, rfl, AD, by have := so14.len; omega, by omega, fun H21 s21 => ⟨_, rfl, iteF ?_⟩⟩
      have pv21 := pv20.same s21
      have e01 := e00.trans (ExtN.of s21)
      have e41 := e40.trans (ExtN.of s21)
      -- the edit is finished
      refine ⟨.ref e, rfl, e, ex, R, nt, cl, dx, lk2, tb, hd, lg, hd2, nh, t, lt, cs, L, x, n, hx, hn, .str "ann", .int 7, .str "", rfl, pv21.rd, pv21.sd, pv21.ag.lo, pv21.nt, bL, fun r2 hr2 => absurd (sn'.symm.trans hr2) (fun z => nomatch z), fun _ ys hp _ hf => absurd ((hv' ys hp).symm.trans hf) (fun z => nomatch z), fun _ ys4 hp4 hs4 _ tb5 lg5 u5' lu5' H22 f22 k22 hR22 he22 ht22 so22 hl22 ndl22 len22 lo22 ntb nlg => ?_⟩
      have ey4 : ys = ys4 := sort_uniq hs hs4 (hp.trans hp4.symm)
      subst ey4
      refine ⟨rfl, _, rfl, ?_⟩
      rw [decide_eq_true rfl]
      refine iteT ?_
      have lu := so22.len
      have ndu := so22.nd G2.nd
      refine ⟨.ref R, rfl, R, dx, _, rfl, hR22, rfl, R, dx, lk2, tb5, hd2, lg5, u5', lu5', rfl, hR22, ht22, ndu, by omega, hl22, ndl22, by omega, fun pE rE lE uE luE H23 _ s23 hE trE soE tlE soE' => ?_⟩
      have k13 := k22.trans (TupKeep.of s23)
      have k43 := (ext_tk e41).trans k13
      have hh22 : TupK K H22 hd2 [.str hx, .str hn] := pv21.sd.both.1.keep k22
      have SE : StAt K H23 pE u5' (logsNew t L [.str "ann", .int 7, .str ""] (movesF t cs ys) x n hx hn) hx hn := ⟨rE, hd2, lE, uE, luE, hE, trE, soE, hh22.keep (TupKeep.of s23), tlE, (lo22.keep (TupKeep.of s23)).of soE'.2.2, soE'.nd ndl22, soE'.1⟩
      have SB : StAt K H23 b14 (afterT t (movesF t cs ys)) (logsNew t L [.str "ann", .int 7, .str ""] (movesF t cs ys) x n hx hn) hx hn := ⟨r', hd2, l', u', lu', k43 _ _ hb14, tr14.keep k43, so14, hh22.keep (TupKeep.of s23), tl14.keep k43, lo14.keep k43, nd14.1, nd14.2⟩
      obtain ⟨dE, E1, E2, shE, eqE⟩ := G2.same SB SE ndu so22.2.2
      refine ⟨.ref r14, rfl, r14, _, 1, .ref b14, rfl, rfl, SqT.of (k43 _ _ h14), rfl, dE, dE, E2, E1, shE, shE, _, rfl, ?_⟩
      rw [eqE]
      have he21 := pv21.rd.1
      have hR21 := pv21.ag.hR
      have nR : ∀ {b : Addr} {u : List (Key × V)}, H21 b = some (.dK u) → b ≠ R := fun z => at_ne z hR21 fun z => nomatch z
      have nE : ∀ {b : Addr} {u : List (Key × V)}, H21 b = some (.dK u) → b ≠ e := fun z => at_ne z he21 fun z => nomatch z
      have o22 : ∀ {b : Addr} {u : List (Key × V)}, H21 b = some (.dK u) → H22 b = some (.dK u) := fun z => f22.out z (not2 (nR z) (nE z))
      obtain ⟨hm1, hmt1, hmh1, hml1⟩ := ext_mod e01 hM11
      have M22 : ModAt K H22 m2 mt2 mh2 ml2 (lawT t' cs) lt2 hx hn := ⟨o22 hm1, o22 hmt1, hmh1.keep k22, o22 hml1⟩
      have ll22 : LogsL H22 lt2 (logsNew t L [.str "ann", .int 7, .str ""] (movesF t cs ys) x n hx hn) := (ll11'.keep (ext_tk e01) (ext_lk e01)).out k22 f22 fun b hb as => by
        simp only [List.mem_cons, List.not_mem_nil, or_false] at hb
        rcases hb with rfl | rfl
        · rw [hR21]
          exact fun z => nomatch z
        · rw [he21]
          exact fun z => nomatch z
      have AR := agree_due ag gc hp G2 hR22 ht22 hl22 so22 ndl22 lo22 hh22 M22 nd2 ll22 keys2 (ne_of_none' ntb hmt1)
      have nae : a ≠ e := (pv21.wm.ne he21 fun _ z => nomatch z).symm
      have naR : a ≠ R := (pv21.wm.ne hR21 fun _ z => nomatch z).symm
      have T22 : Tabs [(Pt, QLam)] H22 := tabs_fr pv21.tb f22 fun b hb o eo => by
        simp only [List.mem_cons, List.not_mem_nil, or_false] at hb
        rcases hb with rfl | rfl
        · rw [hR21] at eo
          cases eo
          exact ⟨(fun ps z => nomatch z), (fun c q z => by unfold CodeO at z; cases z)⟩
        · rw [he21] at eo
          cases eo
          exact ⟨(fun ps z => nomatch z), (fun c q z => by unfold CodeO at z; cases z)⟩
      have AR3 : Agree K CR H23 R dx lk2 tb5 hd2 lg5 m2 mt2 mh2 ml2 u5' lu5' (lawT t' cs) lt2 hx hn _ := ext_agree (ExtN.of s23) AR
      refine iteT ⟨.ref m2, rfl, q m2 c7 H23 ((pv21.fr.then (FrX.of f22) fun b hb => ?_).trans (FrX.of (FrL.same s23))) ⟨dx, lk2, tb5, hd2, lg5, mt2, mh2, ml2, u5', lu5', lawT t' cs, lt2, hx, hn, _, AR3, (pv21.wm.out f22 (not2 naR nae)).same s23, ids', by omega, by omega, by omega, fun y => ?_, hok2, (have_perm so22.2.1).trans (hv' ys hp), G2.eg⟩ (by omega) (by omega) (T22.ext s23)⟩
      · simp only [List.mem_cons, List.not_mem_nil, or_false] at hb ⊢
        rcases hb with rfl | rfl
        · exact .inl (.inr rfl)
        · exact .inr ehd
      · have := len_behind L [.str "ann", .int 7, .str ""] (movesF t cs ys) (decide ((x, n) ≠ (hx, hn)) || decide (ledF t x n ≠ ledF (afterT t (movesF t cs ys)) hx hn)) (ledF t x n) (ledF (afterT t (movesF t cs ys)) hx hn) y
        have := b4 y
        unfold logsNew
        omega
end

end Fk

set_option maxHeartbeats 4000000
namespace Fk
open PySem PySem.Spec PyProof.Rows L2
open LamX
section
variable {P : Program} {w : World} {K : PySem.W.Frag} {mg : Str → Option Value} {base : Heap} {CE CR cS cB iS iB ns r0 h0 l0 : Addr}
/-- nothing but a table stands here -/
def NT (H : Hp) (b : Addr) : Prop := ∀ o, H b = some o → ∃ ps, o = .tbl ps
theorem nt_none {H : Hp} {b : Addr} (h : H b = none) : NT H b := fun o e => by rw [h] at e; cases e
theorem nt_ext {H H' : Hp} {b : Addr} (e : ExtN H H') (h : NT H' b) : NT H b := fun o eo => by
  by_cases c : ∃ ps, o = .tbl ps
  · exact c
  · exact h o (e b o eo fun ps z => c ⟨ps, z⟩)
theorem ext_frx {H H1 H2 : Hp} {a b : Addr} (e : ExtN H H1) (f : FrX [a, b] H1 H2) (n1 : NT H a) (n2 : NT H b) : ExtN H H2 := fun c o h n => by
  refine f c o (fun hc => ?_) (e c o h n) n
  simp only [List.mem_cons, List.not_mem_nil, or_false] at hc
  rcases hc with rfl | rfl
  · obtain ⟨ps, z⟩ := n1 o h
    exact n ps z
  · obtain ⟨ps, z⟩ := n2 o h
    exact n ps z
theorem TurnQ.ext {H H' : Hp} {a R m : Addr} {bt bl : Nat} {c : Int} (h : TurnQ K CE CR H a R m bt bl c) (q : ExtN H H') : TurnQ K CE CR H' a R m bt bl c := by
  obtain ⟨dx, lk, tb, hd, lg, mt, mh, ml, t, lt, t', lt', x, n, L, ag, hw, rest⟩ := h
  exact ⟨dx, lk, tb, hd, lg, mt, mh, ml, t, lt, t', lt', x, n, L, ext_agree q ag, ext_wm q hw, rest⟩
/-- other references, and a model, stay while one is changed -/
theorem agree_frx {H H' : Hp} {R dx lk tb hd lg m mt mh ml a R2 dx2 : Addr} {fs : List (Str × V)} {t lt t' lt' : Tab} {x n : Str} {L : Str → List (List V)} {c : Int} (g : Agree K CR H R dx lk tb hd lg m mt mh ml t lt t' lt' x n L) (w : Wm H a c) (h2 : H R2 = some (.ins CR dx2 fs)) (ne : R ≠ R2) (f : FrX [a, R2] H H') :
    Agree K CR H' R dx lk tb hd lg m mt mh ml t lt t' lt' x n L ∧ TupKeep H H' := by
  have na : ∀ {b : Addr} {o : HO}, H b = some o → (∀ l, o ≠ .lst l) → b ≠ a := fun e => w.ne e
  have out : ∀ {b : Addr} {o : HO}, H b = some o → b ≠ a → b ≠ R2 → (∀ ps, o ≠ .tbl ps) → H' b = some o := fun {b o} e n1 n2 n => f b o (fun z => by
    simp only [List.mem_cons, List.not_mem_nil, or_false] at z
    exact z.elim n1 n2) e n
  have o : ∀ {b : Addr} {u : List (Key × V)}, H b = some (.dK u) → H' b = some (.dK u) := fun e => out e (na e fun _ z => nomatch z) (at_ne e h2 fun z => nomatch z) fun _ z => nomatch z
  have k : TupKeep H H' := fun b xs e => out e (na e fun _ z => nomatch z) (at_ne e h2 fun z => nomatch z) fun _ z => nomatch z
  obtain ⟨h1, h2', h3, h4⟩ := g.hM
  refine ⟨⟨out g.hR (na g.hR (fun _ z => nomatch z)) ne (fun _ z => nomatch z), o g.hT, g.nt, g.hH.keep k, o g.hL, g.nl, g.lo.keep k, ⟨o h1, o h2', h3.keep k, o h4⟩, g.nt', g.nl', fun y => (g.ll y).imp id fun ⟨p, as, e1, e2, e3⟩ => ⟨p, as, e1, out e2 (fun z => ?_) (at_ne e2 h2 (fun z => nomatch z)) (fun _ z => nomatch z), e3.keep k⟩, g.eq, g.ne, g.vs, g.ks, g.ls, g.es, g.ox, g.on⟩, k⟩
  obtain ⟨_, _, _, _, _, hw⟩ := w
  rw [z, hw] at e2
  injection e2 with e2
  injection e2 with e2
  exact int_refs e2
def spLawT (K : PySem.W.Frag) (Pt : Addr) : Sp := fun vs H Q _ => ∃ (a : Addr) (zs : List Int), vs = [.ref a] ∧ SqL K H a (zs.map V.int) ∧ zs.length ≤ 63 ∧ Tabs [(Pt, QLam)] H ∧ ∀ H', Q (.bl true) H'
theorem ok_law (S : TopS K mg CE CR cS cB iS iB ns r0 h0 l0) {cd Pt : Addr} (DC : IsDefC K mg "_law_previewed" s_l_previewed cd) (TB : TabB base mg cd Pt) {f : Addr} {fd : FuncData} (F : C8.Fun K "law" "law" s_law f fd) : FnOk P w K mg base C8.CX0 10 f fd ["_law_script"] (spLawT K Pt) := by
  have T := S.toTopR
  refine C8.fn0 F sc_law (fun vs H Q E h => ?_) (fun cdv A outer s H vs Q E hr h => ?_)
  · obtain ⟨a, zs, rfl, _⟩ := h
    rfl
  · obtain ⟨a, zs, rfl, hS, hlen, hTab, q⟩ := h
    refine' ⟨_, (pss_cons ?q0 (pss_one ?q1)), ?main⟩
    case q0 => exact (ps_for PassesOwn.never rfl (pi_list (pe_op op_cat (pe_lst (pa_cons (C8.pe_c (c_l_cell_at T.toTop) hr (by decide) (by rfl) (pa_cons (pv 0) (pa_cons pe_int pa_nil))) pa_nil)) (pe_slice sl_list (pv 0) (po_some pe_int) (po_some pe_int)))) (pg_name (i := 1) sc_law.nd rfl (Or.inl rfl))
      (pss_cons (ps_set (i := 2) sc_law.nd rfl (Or.inl rfl) (C8.pe_c (c_l_source T.toTop) hr (by decide) (by rfl) (pa_cons (pv 1) pa_nil)))
      (pss_cons (ps_par (i := 3) (j := 4) rfl sc_law.nd rfl rfl (by decide) rfl rfl (pa_cons (pe_mk0 (k_Refs T) hr (by decide) (by rfl)) (pa_cons (pe_c0 (c_l_new T.toTop) hr (by decide) (by rfl)) pa_nil)) rfl)
      (pss_cons (ps_for PassesOwn.never rfl (pi_range1 (by rfl) T.z_range (pa_cons (pe_op op_add pe_int (C8.pe_c (c_l_draw T.toTop) hr (by decide) (by rfl) (pa_cons (pv 2) (pa_cons pe_int pa_nil)))) pa_nil)) (pg_name (i := 5) sc_law.nd rfl (Or.inl rfl))
      (pss_cons (ps_par (i := 3) (j := 6) rfl sc_law.nd rfl rfl (by decide) rfl rfl (pa_cons (C8.pe_mk (k_RefsS S) hr (by decide) (by rfl) (pa_cons (C8.pe_mt0 (m_Refs_state T) hr (by decide) (pv 3)) pa_nil)) (pa_cons (C8.pe_mt0 (m_Refs_state T) hr (by decide) (pv 3)) pa_nil)) rfl)
      (pss_cons (ps_set (i := 7) sc_law.nd rfl (Or.inl rfl) (C8.pe_c (c_l_previewed S DC TB) hr (by decide) (by rfl) (pa_cons (pv 2) (pa_cons (pv 3) (pa_cons (pv 4) pa_nil)))))
      (pss_cons (ps_if (PW.pt (pw_or (pt_cmpR op_isN (pv 7) pe_non (nomark _)) (pw_or1 (pt_not (pt_val (C8.pe_c (c_l_stands T) hr (by decide) (by rfl) (pa_cons (pv 3) (pa_cons (pv 7) pa_nil))))))))
      (pss_one (ps_ret pe_bl))
      pss_nil)
      (pss_cons (ps_if (PW.pt (pw_or (pt_cmpR (op_neD hr.units) (C8.pe_mt0 (m_Refs_state T) hr (by decide) (C8.pe_mk (k_RefsS S) hr (by decide) (by rfl) (pa_cons (pv 6) pa_nil))) (pv 6) (nomark _)) (pw_or1 (pt_not (pt_val (C8.pe_c (c_l_stands T) hr (by decide) (by rfl) (pa_cons (C8.pe_mk (k_RefsS S) hr (by decide) (by rfl) (pa_cons (pv 6) pa_nil)) (pa_cons (pv 4) pa_nil))))))))
      (pss_one (ps_ret pe_bl))
      pss_nil)
      (pss_one (ps_set (i := 4) sc_law.nd rfl (Or.inl rfl) (pv 7))))))))
      (pss_cons (ps_if (PW.pt (pw_or (pt_cmpR (op_neD hr.units) (C8.pe_mt0 (m_Refs_state T) hr (by decide) (pv 3)) (C8.pe_mt0 (m_Refs_state T) hr (by decide) (C8.pe_mk (k_RefsS S) hr (by decide) (by rfl) (pa_cons (C8.pe_mt0 (m_Refs_state T) hr (by decide) (pv 3)) pa_nil))) (nomark _)) (pw_or1 (pt_not (pt_val (C8.pe_c (c_l_stands T) hr (by decide) (by rfl) (pa_cons (C8.pe_mk (k_RefsS S) hr (by decide) (by rfl) (pa_cons (C8.pe_mt0 (m_Refs_state T) hr (by decide) (pv 3)) pa_nil)) (pa_cons (pv 4) pa_nil))))))))
      (pss_one (ps_ret pe_bl))
      pss_nil)
      (pss_cons (ps_expr (pe_bm PySem.F.plainAttrs_list PySem.F.slot_list_append PySem.F.type_list_append mt_append (C8.pe_mt (m_Refs_log T) hr (by decide) (pv 3) (pa_cons pe_str pa_nil)) (pa_cons pe_non pa_nil)))
      (pss_one (ps_if (pt_not (pt_val (C8.pe_c (c_l_stands T) hr (by decide) (by rfl) (pa_cons (pv 3) (pa_cons (pv 4) pa_nil)))))
      (pss_one (ps_ret pe_bl))
      pss_nil))))))))
    case q1 => exact (ps_ret pe_bl)
    refine ⟨.ref a, rfl, a, zs, 0, rfl, hS, fun v => ⟨(by show 1 ≤ sizeLine; decide), fun p1 n1 => ?_⟩⟩
    have s2 := same_new (o := .lst [V.int v]) n1
    have h1 : (upd H p1 (.lst [V.int v])) p1 = some (.lst [V.int v]) := upd_same
    generalize upd H p1 (.lst [V.int v]) = H2 at s2 h1 ⊢
    refine ⟨.ref a, rfl, 1, rfl, 4, rfl, a, zs.map V.int, rfl, s2.seq hS, fun p2 n2 => ?_⟩
    have s3 := same_new (o := .lst (cutV (zs.map V.int) (some 1) (some 4))) n2
    have h2 : (upd H2 p2 (.lst (cutV (zs.map V.int) (some 1) (some 4)))) p2 = some (.lst (cutV (zs.map V.int) (some 1) (some 4))) := upd_same
    generalize upd H2 p2 (.lst (cutV (zs.map V.int) (some 1) (some 4))) = H3 at s3 h2 ⊢
    refine ⟨p1, p2, _, _, rfl, rfl, s3 _ _ h1, h2, ?_, fun L nLL => ?_⟩
    · have := cutV_length (zs.map V.int) (some 1) (some 4)
      rw [List.length_map] at this
      exact small_line (by simp only [List.length_cons, List.length_nil]; omega)
    have s4 := same_new (o := .lst ([V.int v] ++ cutV (zs.map V.int) (some 1) (some 4))) nLL
    have h4 : (upd H3 L (.lst ([V.int v] ++ cutV (zs.map V.int) (some 1) (some 4)))) L = some (.lst ([V.int v] ++ cutV (zs.map V.int) (some 1) (some 4))) := upd_same
    generalize upd H3 L (.lst ([V.int v] ++ cutV (zs.map V.int) (some 1) (some 4))) = H4 at s4 h4 ⊢
    have T4 : Tabs [(Pt, QLam)] H4 := hTab.ext (fun b o e => s4 _ _ (s3 _ _ (s2 _ _ e)))
    refine ⟨L, rfl, ⟨_, SqL.of h4⟩, ?_⟩
    refine for_list (K := K) (a := L) (xs := [V.int v] ++ cutV (zs.map V.int) (some 1) (some 4)) (fun i σ H' => (ExtN H4 H' ∧ Tabs [(Pt, QLam)] H') ∧ ∃ z1 z2 z3 z4 z5 z6 z7, σ = [some (.ref a), z1, z2, z3, z4, z5, z6, z7])
      ⟨⟨ExtN.refl _, T4⟩, none, none, none, none, none, none, none, rfl⟩ (fun i σ H' _ I => SqL.of (ext_lk I.1.1 _ _ h4)) ?_ ?_
    · rintro i x σ H' hi ⟨⟨e5, T5⟩, z1, z2, z3, z4, z5, z6, z7, rfl⟩
      obtain ⟨n, rfl⟩ := cells_int (List.mem_of_getElem? hi)
      refine ⟨.int n, rfl, n, rfl, fun H5 W nW s6 w5 => ?_⟩
      have e45 := e5.trans (ExtN.of s6)
      have nW4 : NT H4 W := nt_ext e5 (nt_none nW)
      intro R dx hR hdx ndx
      have sR : Same H5 (upd (upd H5 dx (.own R)) R (.ins CR dx [])) := fun b o e => by
        rw [upd_ne (ne_of_none e hR), upd_ne (ne_of_none e hdx)]
        exact e
      refine ⟨R, dx, rfl, upd_same, fun lk tb lg H6 nlk ntb nlg f6 k6 hR6 hlk6 htb6 hlg6 => ⟨rfl, ?_⟩⟩
      have s56 : Same H5 H6 := same_frl hR sR f6
      refine ⟨rfl, fun m mt mh ml H7 nm nmt s7 hm7 hmt7 hmh7 hml7 => ⟨_, _, rfl, ?_⟩⟩
      have e47 := (e45.trans (ExtN.of s56)).trans (ExtN.of s7)
      have net : tb ≠ mt := ne_of_none htb6 nmt
      have t7 : TurnAt K CE CR H7 W R m 0 0 0 := turn0 T ((w5.same s56).same s7) (s7 _ _ hR6) (s7 _ _ hlk6) (s7 _ _ htb6) (s7 _ _ hlg6) hm7 hmt7 hmh7 hml7 net
      have T7 : Tabs [(Pt, QLam)] H7 := T5.ext fun b o e => s7 _ _ (s56 _ _ (s6 _ _ e))
      refine ⟨.ref W, rfl, W, 8, 0, rfl, ((w5.same s56).same s7), by decide, by decide, by decide, fun r hr0 hr1 H9 c9 f9 k9 w9 hc0 hc1 => ⟨_, _, rfl, rfl, 1 + r, rfl, by omega, by omega, ?_⟩⟩
      have t9 := t7.drawn f9 k9 w9
      have e49 : ExtN H4 H9 := fun b o h z => f9 b o (fun hb => by
        rw [List.mem_singleton.mp hb] at h
        obtain ⟨ps, y⟩ := nW4 o h
        exact z ps y) (e47 b o h z)
      have T9 : Tabs [(Pt, QLam)] H9 := tabs_fr T7 f9 fun b hb o eo => by
        rw [List.mem_singleton.mp hb] at eo
        obtain ⟨_, _, _, _, _, h⟩ := (w5.same s56).same s7
        rw [h] at eo
        cases eo
        exact ⟨(fun ps z => nomatch z), (fun c q z => by unfold CodeO at z; cases z)⟩
      have q9 : TurnQ K CE CR H9 W R m 0 0 c9 := by
        obtain ⟨dx, lk, tb, hd, lg, mt, mh, ml, t, lt, t', lt', x, n, L, ag, hw, hk, rest⟩ := t9
        exact ⟨dx, lk, tb, hd, lg, mt, mh, ml, t, lt, t', lt', x, n, L, ag, hw, rest⟩
      refine forG (items := (List.range (1 + r).toNat).map fun (i : Nat) => V.int (0 + (i : Int))) yields_range (fun i σ H' => (ExtN H4 H' ∧ Tabs [(Pt, QLam)] H') ∧ ∃ (R m : Addr) (c' : Int) (z5 z6 z7 : Option V), TurnQ K CE CR H' W R m (4 * i) (5 * i) c' ∧ c' ≤ 1 + 40 * i ∧ σ = [some (.ref a), some (.int n), some (.ref W), some (.ref R), some (.ref m), z5, z6, z7]) ⟨⟨e49, T9⟩, R, m, c9, z5, z6, z7, q9, by omega, rfl⟩ (fun _ _ _ _ => True.intro) ?_ ?_
      · rintro i v σ H10 hv ⟨⟨e10, T10⟩, R, m, c10, z5, z6, z7, t10, hc10, rfl⟩
        rw [List.getElem?_map] at hv
        cases hz : (List.range (1 + r).toNat)[i]? with
        | none => rw [hz] at hv; cases hv
        | some i' =>
          rw [hz] at hv
          cases hv
          have hi : i < (1 + r).toNat := by have := (List.getElem?_eq_some_iff.mp hz).1; rwa [List.length_range] at this
          obtain ⟨dx1, lk1, tb1, hd1, lg1, mt1, mh1, ml1, t1, lt1, t1', lt1', x1, n1, L1, ag, hw, it, b1, b2, b3, b4, hok, hvt, eg⟩ := id t10
          have bL : ∀ y, (L1 y).length ≤ 1000 := fun y => by have := b4 y; omega
          have G : GoodS t1 L1 x1 n1 := good_turn ag it hok hvt eg bL
          refine ⟨.ref R, rfl, R, dx1, _, rfl, ag.hR, rfl, R, dx1, lk1, tb1, hd1, lg1, t1, lt1, rfl, ag.hR, ag.hT, ag.nt, by omega, ag.hL, ag.nl, by omega, fun pa ra la ua lua Ha _ sa ha tra soa tla soa' => ?_⟩
          have SA := state_ok ag it hok hvt eg (by omega) (by omega) bL sa ha tra soa tla soa'
          intro R2 dxR2 hR2 hdR2 ndR2
          have sR2 : Same Ha (upd (upd Ha dxR2 (.own R2)) R2 (.ins CR dxR2 [])) := fun b o e => by
            rw [upd_ne (ne_of_none e hR2), upd_ne (ne_of_none e hdR2)]
            exact e
          have iR2 : (upd (upd Ha dxR2 (.own R2)) R2 (.ins CR dxR2 [])) R2 = some (.ins CR dxR2 []) := upd_same
          have frR2 : ∀ {b : Addr}, (upd (upd Ha dxR2 (.own R2)) R2 (.ins CR dxR2 [])) b = none → Ha b = none := fun {b} e => sR2.free e
          generalize upd (upd Ha dxR2 (.own R2)) R2 (.ins CR dxR2 []) = Hb at sR2 iR2 frR2
          refine ⟨R2, dxR2, pa, ra, hd1, la, ua, lua, x1, n1, rfl, iR2, SA.same sR2, fun lkR2 tbR2 lgR2 Hc _ ntR2 _ fR2 kR2 aR2 bR2 cR2 dR2 => ⟨rfl, ?_⟩⟩
          have SR2 : Same Ha Hc := same_frl hR2 sR2 fR2
          have sc := sa.trans SR2
          have agA := agree_state T ag sc aR2 cR2 dR2 soa soa' (sa.free (frR2 ntR2))
          have agc := ext_agree (ExtN.of sc) ag
          refine ⟨.ref R, rfl, R, dx1, _, rfl, agc.hR, rfl, R, dx1, lk1, tb1, hd1, lg1, t1, lt1, rfl, agc.hR, agc.hT, ag.nt, by omega, agc.hL, ag.nl, by omega, fun pk rk lk' uk luk Hk _ sk hk trk sok tlk sok' => ⟨_, _, rfl, ?_⟩⟩
          have e10k := ExtN.of (sc.trans sk)
          have agk := ext_agree e10k ag
          have hwk := ext_wm e10k hw
          have agAk := ext_agree (ExtN.of sk) agA
          have Tk : Tabs [(Pt, QLam)] Hk := T10.ext (sc.trans sk)
          have AK : StAt K Hk pk t1 L1 x1 n1 := ⟨rk, hd1, lk', uk, luk, hk, trk, sok, agk.hH, tlk, agk.lo.of sok'.2.2, sok'.nd ag.nl, sok'.1⟩
          have tA : TurnAt K CE CR Hk W R2 m (4 * i) (5 * i) c10 := ⟨dxR2, lkR2, tbR2, hd1, lgR2, mt1, mh1, ml1, ua, lua, t1', lt1', x1, n1, L1, agAk, hwk, ⟨[], sk _ _ bR2, List.nodup_nil, Nat.zero_le _, fun p hp => (List.not_mem_nil hp).elim⟩, it, by rw [soa.len]; exact b1, by rw [soa'.len]; exact b2, b3, b4, hok, (have_perm soa.2.1).trans hvt, eg⟩
          refine ⟨.ref W, rfl, .ref R2, rfl, .ref m, rfl, W, R2, m, 4 * i, 5 * i, c10, rfl, tA, by omega, by omega, by omega, Tk, fun m' c' Hp fx tq hc1' hc2' Tp => ?_⟩
          refine ⟨.ref m', rfl, rfl, _, rfl, ?_⟩
          rw [decide_eq_false (fun z => nomatch z)]
          obtain ⟨dxp, lkp, tbp, hdp, lgp, mtp, mhp, mlp, tp, ltp, tp', ltp', xp, np, Lp, agp, hwp, itp, bp1, bp2, bp3, bp4, hokp, hvtp, egp⟩ := id tq
          refine iteF ⟨.ref R2, rfl, .ref m', rfl, R2, dxp, lkp, tbp, hdp, lgp, m', mtp, mhp, mlp, tp, ltp, tp', ltp', xp, np, Lp, rfl, agp, by omega, by omega, fun Hq sq => ⟨_, rfl, iteF ?_⟩⟩
          have neR : R ≠ R2 := ne_of_none (sa _ _ ag.hR) hR2
          obtain ⟨agP, tkp⟩ := agree_frx agk hwk agAk.hR neR fx
          have tkq := tkp.trans (TupKeep.of sq)
          have SK : StateOk K Hq pk rk hd1 lk' uk luk x1 n1 := state_mk G (by omega) (by rw [sok'.len]; omega) (tkq _ _ hk) (trk.keep tkq) sok (agk.hH.keep tkq) (tlk.keep tkq) ((agk.lo.of sok'.2.2).keep tkq) (sok'.nd ag.nl) sok'.1
          refine ⟨.ref pk, rfl, ?_⟩
          intro R4 dxR4 hR4 hdR4 ndR4
          have sR4 : Same Hq (upd (upd Hq dxR4 (.own R4)) R4 (.ins CR dxR4 [])) := fun b o e => by
            rw [upd_ne (ne_of_none e hR4), upd_ne (ne_of_none e hdR4)]
            exact e
          have iR4 : (upd (upd Hq dxR4 (.own R4)) R4 (.ins CR dxR4 [])) R4 = some (.ins CR dxR4 []) := upd_same
          have frR4 : ∀ {b : Addr}, (upd (upd Hq dxR4 (.own R4)) R4 (.ins CR dxR4 [])) b = none → Hq b = none := fun {b} e => sR4.free e
          generalize upd (upd Hq dxR4 (.own R4)) R4 (.ins CR dxR4 []) = Hr at sR4 iR4 frR4
          refine ⟨R4, dxR4, pk, rk, hd1, lk', uk, luk, x1, n1, rfl, iR4, SK.same sR4, fun lkR4 tbR4 lgR4 Hs _ ntR4 _ fR4 kR4 aR4 bR4 cR4 dR4 => ⟨rfl, ?_⟩⟩
          have SR4 : Same Hq Hs := same_frl hR4 sR4 fR4
          refine ⟨R4, dxR4, _, rfl, aR4, rfl, R4, dxR4, lkR4, tbR4, hd1, lgR4, uk, luk, rfl, aR4, cR4, sok.nd ag.nt, by rw [sok.len]; omega, dR4, sok'.nd ag.nl, by rw [sok'.len]; omega, fun pz rz lz uz luz Hz _ sz hz' trz soz tlz soz' => ?_⟩
          have sqz := SR4.trans sz
          have tkz := tkq.trans (TupKeep.of sqz)
          have AZ : StAt K Hz pz uk L1 x1 n1 := ⟨rz, hd1, lz, uz, luz, hz', trz, soz, agk.hH.keep tkz, tlz, ((agk.lo.of sok'.2.2).keep tkz).of soz'.2.2, soz'.nd (sok'.nd ag.nl), soz'.1⟩
          obtain ⟨dZ, Z1, Z2, shZ, eqZ⟩ := G.same (AK.keep tkz) AZ (sok.nd ag.nt) sok.2.2
          refine ⟨.ref pk, rfl, dZ, dZ, Z2, Z1, shZ, shZ, _, rfl, ?_⟩
          rw [eqZ]
          refine iteF ⟨.ref pk, rfl, ?_⟩
          have SKz := SK.same sqz
          have agz := ext_agree (ExtN.of (sq.trans sqz)) agP
          intro R5 dxR5 hR5 hdR5 ndR5
          have sR5 : Same Hz (upd (upd Hz dxR5 (.own R5)) R5 (.ins CR dxR5 [])) := fun b o e => by
            rw [upd_ne (ne_of_none e hR5), upd_ne (ne_of_none e hdR5)]
            exact e
          have iR5 : (upd (upd Hz dxR5 (.own R5)) R5 (.ins CR dxR5 [])) R5 = some (.ins CR dxR5 []) := upd_same
          have frR5 : ∀ {b : Addr}, (upd (upd Hz dxR5 (.own R5)) R5 (.ins CR dxR5 [])) b = none → Hz b = none := fun {b} e => sR5.free e
          generalize upd (upd Hz dxR5 (.own R5)) R5 (.ins CR dxR5 []) = Hx at sR5 iR5 frR5
          refine ⟨R5, dxR5, pk, rk, hd1, lk', uk, luk, x1, n1, rfl, iR5, SKz.same sR5, fun lkR5 tbR5 lgR5 Hy _ ntR5 _ fR5 kR5 aR5 bR5 cR5 dR5 => ⟨rfl, ?_⟩⟩
          have SR5 : Same Hz Hy := same_frl hR5 sR5 fR5
          have ag5 := agree_state T agz SR5 aR5 cR5 dR5 sok sok' (frR5 ntR5)
          refine ⟨.ref m, rfl, R5, dxR5, lkR5, tbR5, hd1, lgR5, m, mt1, mh1, ml1, uk, luk, t1', lt1', x1, n1, L1, rfl, ag5, by rw [sok.len]; omega, by omega, fun Hw sw => ⟨_, rfl, iteF ?_⟩⟩
          have sqw := sq.trans ((sqz.trans SR5).trans sw)
          have e4k := e10.trans e10k
          have nR4 : NT H4 R2 := nt_ext (e10.trans (ExtN.of sa)) (nt_none hR2)
          exact ⟨.ref m', rfl, ⟨(ext_frx e4k fx nW4 nR4).trans (ExtN.of sqw), Tp.ext sqw⟩, R2, m', c', _, _, _, (tq.ext (ExtN.of sqw)), by omega, rfl⟩
      · rintro σ H10 ⟨⟨e10, T10⟩, R, m, c10, z5, z6, z7, t10, hc10, rfl⟩
        rw [List.length_map, List.length_range] at t10 hc10
        obtain ⟨dx1, lk1, tb1, hd1, lg1, mt1, mh1, ml1, t1, lt1, t1', lt1', x1, n1, L1, ag, hw, it, b1, b2, b3, b4, hok, hvt, eg⟩ := id t10
        have bL : ∀ y, (L1 y).length ≤ 1000 := fun y => by have := b4 y; omega
        have G : GoodS t1 L1 x1 n1 := good_turn ag it hok hvt eg bL
        -- the state of the state
        refine ⟨.ref R, rfl, R, dx1, _, rfl, ag.hR, rfl, R, dx1, lk1, tb1, hd1, lg1, t1, lt1, rfl, ag.hR, ag.hT, ag.nt, by omega, ag.hL, ag.nl, by omega, fun pb rb lb ub lub Hb _ sb hb trb sob tlb sob' => ?_⟩
        have agb := ext_agree (ExtN.of sb) ag
        have AB : StAt K Hb pb t1 L1 x1 n1 := ⟨rb, hd1, lb, ub, lub, hb, trb, sob, agb.hH, tlb, agb.lo.of sob'.2.2, sob'.nd ag.nl, sob'.1⟩
        refine ⟨.ref R, rfl, R, dx1, _, rfl, agb.hR, rfl, R, dx1, lk1, tb1, hd1, lg1, t1, lt1, rfl, agb.hR, agb.hT, ag.nt, by omega, agb.hL, ag.nl, by omega, fun pa ra la ua lua Ha _ sa ha tra soa tla soa' => ?_⟩
        have SA := state_ok agb it hok hvt eg (by omega) (by omega) bL sa ha tra soa tla soa'
        intro R2 dxR2 hR2 hdR2 ndR2
        have sR2 : Same Ha (upd (upd Ha dxR2 (.own R2)) R2 (.ins CR dxR2 [])) := fun b o e => by
          rw [upd_ne (ne_of_none e hR2), upd_ne (ne_of_none e hdR2)]
          exact e
        have iR2 : (upd (upd Ha dxR2 (.own R2)) R2 (.ins CR dxR2 [])) R2 = some (.ins CR dxR2 []) := upd_same
        have frR2 : ∀ {b : Addr}, (upd (upd Ha dxR2 (.own R2)) R2 (.ins CR dxR2 [])) b = none → Ha b = none := fun {b} e => sR2.free e
        generalize upd (upd Ha dxR2 (.own R2)) R2 (.ins CR dxR2 []) = Hd at sR2 iR2 frR2
        refine ⟨R2, dxR2, pa, ra, hd1, la, ua, lua, x1, n1, rfl, iR2, SA.same sR2, fun lkR2 tbR2 lgR2 Hc _ ntR2 _ fR2 kR2 aR2 bR2 cR2 dR2 => ⟨rfl, ?_⟩⟩
        have SR2 : Same Ha Hc := same_frl hR2 sR2 fR2
        refine ⟨R2, dxR2, _, rfl, aR2, rfl, R2, dxR2, lkR2, tbR2, hd1, lgR2, ua, lua, rfl, aR2, cR2, soa.nd ag.nt, by rw [soa.len]; omega, dR2, soa'.nd ag.nl, by rw [soa'.len]; omega, fun pz rz lz uz luz Hz _ sz hz' trz soz tlz soz' => ?_⟩
        have sbz := sa.trans (SR2.trans sz)
        have AZ : StAt K Hz pz ua L1 x1 n1 := ⟨rz, hd1, lz, uz, luz, hz', trz, soz, agb.hH.keep (TupKeep.of sbz), tlz, ((agb.lo.of soa'.2.2).keep (TupKeep.of sbz)).of soz'.2.2, soz'.nd (soa'.nd ag.nl), soz'.1⟩
        obtain ⟨dZ, Z1, Z2, shZ, eqZ⟩ := G.same (AB.keep (TupKeep.of sbz)) AZ (soa.nd ag.nt) soa.2.2
        refine ⟨dZ, dZ, Z1, Z2, shZ, shZ, _, rfl, ?_⟩
        rw [eqZ]
        refine iteF ?_
        have agz := ext_agree (ExtN.of sbz) agb
        refine ⟨.ref R, rfl, R, dx1, _, rfl, agz.hR, rfl, R, dx1, lk1, tb1, hd1, lg1, t1, lt1, rfl, agz.hR, agz.hT, ag.nt, by omega, agz.hL, ag.nl, by omega, fun pe re le ue lue He _ se he tre soe tle soe' => ?_⟩
        have SE := state_ok agz it hok hvt eg (by omega) (by omega) bL se he tre soe tle soe'
        intro R5 dxR5 hR5 hdR5 ndR5
        have sR5 : Same He (upd (upd He dxR5 (.own R5)) R5 (.ins CR dxR5 [])) := fun b o e => by
          rw [upd_ne (ne_of_none e hR5), upd_ne (ne_of_none e hdR5)]
          exact e
        have iR5 : (upd (upd He dxR5 (.own R5)) R5 (.ins CR dxR5 [])) R5 = some (.ins CR dxR5 []) := upd_same
        have frR5 : ∀ {b : Addr}, (upd (upd He dxR5 (.own R5)) R5 (.ins CR dxR5 [])) b = none → He b = none := fun {b} e => sR5.free e
        generalize upd (upd He dxR5 (.own R5)) R5 (.ins CR dxR5 []) = Hx at sR5 iR5 frR5
        refine ⟨R5, dxR5, pe, re, hd1, le, ue, lue, x1, n1, rfl, iR5, SE.same sR5, fun lkR5 tbR5 lgR5 Hy _ ntR5 _ fR5 kR5 aR5 bR5 cR5 dR5 => ⟨rfl, ?_⟩⟩
        have SR5 : Same He Hy := same_frl hR5 sR5 fR5
        have ag5 := agree_state T agz (se.trans SR5) aR5 cR5 dR5 soe soe' (se.free (frR5 ntR5))
        refine ⟨.ref m, rfl, R5, dxR5, lkR5, tbR5, hd1, lgR5, m, mt1, mh1, ml1, ue, lue, t1', lt1', x1, n1, L1, rfl, ag5, by rw [soe.len]; omega, by omega, fun Hw sw => ⟨_, rfl, iteF ?_⟩⟩
        have s0w := ((sb.trans sbz).trans (se.trans SR5)).trans sw
        have agw := ext_agree (ExtN.of s0w) ag
        -- a log that is changed
        refine ⟨.ref R, rfl, R, dx1, _, rfl, agw.hR, rfl, R, dx1, lk1, tb1, hd1, lg1, lt1, L1, "HEAD", rfl, agw.hR, agw.hL, agw.lo, .inr rfl, by decide +kernel, ok_by (by decide +kernel), fun D as Hl nD sl hD tD => ?_⟩
        have las := tD.1
        refine ⟨.inl ⟨rfl, _, SqL.of hD⟩, D, as.map V.ref, V.non, rfl, rfl, hD, by rw [List.length_map, las]; exact Nat.lt_of_le_of_lt (bL _) (by decide), ?_⟩
        have sl2 : Same Hw (upd Hl D (.lst (as.map V.ref ++ [.non]))) := fun b o e => by
          rw [upd_ne (ne_of_none e nD)]
          exact sl b o e
        have agl := ext_agree (ExtN.of sl2) agw
        refine ⟨.ref R, rfl, .ref m, rfl, R, dx1, lk1, tb1, hd1, lg1, m, mt1, mh1, ml1, t1, lt1, t1', lt1', x1, n1, L1, rfl, agl, by omega, by omega, fun Hn sn => ⟨_, rfl, iteF ⟨⟨e10.trans (ExtN.of ((s0w.trans sl2).trans sn)), T10.ext ((s0w.trans sl2).trans sn)⟩, _, _, _, _, _, _, _, rfl⟩⟩⟩
    · rintro σ H' ⟨_, z1, z2, z3, z4, z5, z6, z7, rfl⟩
      exact q _
end

end Fk

set_option maxHeartbeats 4000000
namespace Fk
open PySem PySem.Spec PyProof.Rows L2
/-! ### the makers of the errors -/
section
variable {P : Program} {w : World} {K : PySem.W.Frag} {mg : Str → Option Value} {base : Heap}
theorem ini_ForkError {f : Addr} {fd : FuncData} (F : C8.Fun K "__init__" "ForkError.__init__" s_ForkError_init f fd) : FnOk P w K mg base C8.CX0 1 f fd ["self", "why"] (spErr K "why") := by
  refine C8.fn0 F sc_ForkError_init (fun vs H Q E h => ?_) (fun cdv A outer s H vs Q E hr h => ?_)
  · obtain ⟨a, C, fI, y, rfl, _⟩ := h
    rfl
  · obtain ⟨a, C, fI, y, rfl, T, hno, ea, q⟩ := h
    refine ⟨_, pss_one (ps_osv (pv 0) (pv 1)), ?_⟩
    exact ⟨y, rfl, .ref a, rfl, a, C, fI, rfl, T, hno, ea, q⟩
theorem ini_Stale {f : Addr} {fd : FuncData} (F : C8.Fun K "__init__" "Stale.__init__" s_Stale_init f fd) : FnOk P w K mg base C8.CX0 1 f fd ["self", "ref"] (spErr K "ref") := by
  refine C8.fn0 F sc_Stale_init (fun vs H Q E h => ?_) (fun cdv A outer s H vs Q E hr h => ?_)
  · obtain ⟨a, C, fI, y, rfl, _⟩ := h
    rfl
  · obtain ⟨a, C, fI, y, rfl, T, hno, ea, q⟩ := h
    refine ⟨_, pss_one (ps_osv (pv 0) (pv 1)), ?_⟩
    exact ⟨y, rfl, .ref a, rfl, a, C, fI, rfl, T, hno, ea, q⟩
end

end Fk

set_option maxHeartbeats 4000000
namespace Fk
open PySem PySem.Spec PyProof.Rows L2
theorem notab_none {K : PySem.W.Frag} {h : Heap} {P : Addr} (X : K.In h) (n : PySem.W.noTabs K = true) (hP : h.get? P = some { cls := .none, data := .fields #[] }) : K.lookup P = none := by
  cases e : K.lookup P with
  | none => rfl
  | some o =>
    have e1 := X _ _ e
    rw [hP] at e1
    cases e1
    exact absurd (show false = true from List.all_eq_true.mp n (P, _) (PySem.W.mem_of_lookupK e)) Bool.false_ne_true
theorem all_mk {l : PySem.W.OpenLaw} {w : World} {K : PySem.W.Frag} {h : Heap} {mg : Str → Option Value} {fa : Addr} (X : K.In h) (G : h.Ns mainGlobals mg) (hfa : mg "law" = some (.ref fa))
    {f1 f2 f3 f4 f5 f6 f7 f8 f9 f10 f11 f12 f13 f14 f15 f16 f17 f18 f19 f20 f21 f22 f23 f24 f25 f26 f27 f28 f29 f30 f31 f32 f33 f34 f35 f36 f37 f38 f39 f40 : Addr} {od1 an1 od2 an2 od3 an3 od4 an4 od5 an5 od6 an6 od7 an7 od8 an8 od9 an9 od10 an10 od11 an11 od12 an12 od13 an13 od14 an14 od15 an15 od16 an16 od17 an17 od18 an18 od19 an19 od20 an20 od21 an21 od22 an22 od23 an23 od24 an24 od25 an25 od26 an26 od27 an27 od28 an28 od29 an29 od30 an30 od31 an31 od32 an32 od33 an33 od34 an34 od35 an35 od36 an36 od37 an37 od38 an38 od39 an39 od40 an40 : Option Addr} {sl1 sl2 sl3 sl4 sl5 sl6 sl7 sl8 sl9 sl10 sl11 sl12 sl13 sl14 sl15 sl16 sl17 sl18 sl19 sl20 sl21 sl22 sl23 sl24 sl25 sl26 sl27 sl28 sl29 sl30 sl31 sl32 sl33 sl34 sl35 sl36 sl37 sl38 sl39 sl40 : Array (Option Value)} {oc1 kV1 dc1 pm1 cd1 ct1 oc2 kV2 dc2 pm2 cd2 ct2 oc3 kV3 dc3 pm3 cd3 ct3 oc4 kV4 dc4 pm4 cd4 ct4 oc5 kV5 dc5 pm5 cd5 ct5 oc6 kV6 dc6 pm6 cd6 ct6 oc7 kV7 dc7 pm7 cd7 ct7 oc8 kV8 dc8 pm8 cd8 ct8 oc9 kV9 dc9 pm9 cd9 ct9 oc10 kV10 dc10 pm10 cd10 ct10 oc11 kV11 dc11 pm11 cd11 ct11 oc12 kV12 dc12 pm12 cd12 ct12 oc13 kV13 dc13 pm13 cd13 ct13 oc14 kV14 dc14 pm14 cd14 ct14 oc15 kV15 dc15 pm15 cd15 ct15 oc16 kV16 dc16 pm16 cd16 ct16 oc17 kV17 dc17 pm17 cd17 ct17 oc18 kV18 dc18 pm18 cd18 ct18 oc19 kV19 dc19 pm19 cd19 ct19 oc20 kV20 dc20 pm20 cd20 ct20 oc21 kV21 dc21 pm21 cd21 ct21 oc22 kV22 dc22 pm22 cd22 ct22 oc23 kV23 dc23 pm23 cd23 ct23 oc24 kV24 dc24 pm24 cd24 ct24 oc25 kV25 dc25 pm25 cd25 ct25 oc26 kV26 dc26 pm26 cd26 ct26 oc27 kV27 dc27 pm27 cd27 ct27 oc28 kV28 dc28 pm28 cd28 ct28 oc29 kV29 dc29 pm29 cd29 ct29 oc30 kV30 dc30 pm30 cd30 ct30 oc31 kV31 dc31 pm31 cd31 ct31 oc32 kV32 dc32 pm32 cd32 ct32 oc33 kV33 dc33 pm33 cd33 ct33 oc34 kV34 dc34 pm34 cd34 ct34 oc35 kV35 dc35 pm35 cd35 ct35 oc36 kV36 dc36 pm36 cd36 ct36 oc37 kV37 dc37 pm37 cd37 ct37 oc38 kV38 dc38 pm38 cd38 ct38 oc39 kV39 dc39 pm39 cd39 ct39 oc40 kV40 dc40 pm40 cd40 ct40 : Value} {t_HEX_DIGITS : Tok} {t_REF_SIGNS : Tok} {t_LONGEST_WORD : Tok} {t_LONGEST_TEXT : Tok} {t_LONGEST_MESSAGE : Tok} {t_LATEST : Tok}
    (a1 : PySem.W.nsIn K mainGlobals "is_id" = some (some (.ref f1))) (l1 : K.lookup f1 = some ⟨oc1, od1, .func (PySem.W.fnOf "is_id" "is_id" (C8.fnArgs s_is_id) (C8.fnBody s_is_id) (C8.fnScope s_is_id) .none kV1 dc1 pm1 an1 cd1 ct1), sl1⟩) (c1 : PySem.W.codeIn K cd1 "is_id" = true) (k1 : PySem.W.keepIn K (.ref f1) = true)
    (a2 : PySem.W.nsIn K mainGlobals "is_id_or_none" = some (some (.ref f2))) (l2 : K.lookup f2 = some ⟨oc2, od2, .func (PySem.W.fnOf "is_id_or_none" "is_id_or_none" (C8.fnArgs s_is_id_or_none) (C8.fnBody s_is_id_or_none) (C8.fnScope s_is_id_or_none) .none kV2 dc2 pm2 an2 cd2 ct2), sl2⟩) (c2 : PySem.W.codeIn K cd2 "is_id_or_none" = true) (k2 : PySem.W.keepIn K (.ref f2) = true)
    (a3 : PySem.W.nsIn K mainGlobals "is_ref" = some (some (.ref f3))) (l3 : K.lookup f3 = some ⟨oc3, od3, .func (PySem.W.fnOf "is_ref" "is_ref" (C8.fnArgs s_is_ref) (C8.fnBody s_is_ref) (C8.fnScope s_is_ref) .none kV3 dc3 pm3 an3 cd3 ct3), sl3⟩) (c3 : PySem.W.codeIn K cd3 "is_ref" = true) (k3 : PySem.W.keepIn K (.ref f3) = true)
    (a4 : PySem.W.nsIn K mainGlobals "is_short_ref" = some (some (.ref f4))) (l4 : K.lookup f4 = some ⟨oc4, od4, .func (PySem.W.fnOf "is_short_ref" "is_short_ref" (C8.fnArgs s_is_short_ref) (C8.fnBody s_is_short_ref) (C8.fnScope s_is_short_ref) .none kV4 dc4 pm4 an4 cd4 ct4), sl4⟩) (c4 : PySem.W.codeIn K cd4 "is_short_ref" = true) (k4 : PySem.W.keepIn K (.ref f4) = true)
    (a5 : PySem.W.nsIn K mainGlobals "is_text" = some (some (.ref f5))) (l5 : K.lookup f5 = some ⟨oc5, od5, .func (PySem.W.fnOf "is_text" "is_text" (C8.fnArgs s_is_text) (C8.fnBody s_is_text) (C8.fnScope s_is_text) .none kV5 dc5 pm5 an5 cd5 ct5), sl5⟩) (c5 : PySem.W.codeIn K cd5 "is_text" = true) (k5 : PySem.W.keepIn K (.ref f5) = true)
    (a6 : PySem.W.nsIn K mainGlobals "is_message" = some (some (.ref f6))) (l6 : K.lookup f6 = some ⟨oc6, od6, .func (PySem.W.fnOf "is_message" "is_message" (C8.fnArgs s_is_message) (C8.fnBody s_is_message) (C8.fnScope s_is_message) .none kV6 dc6 pm6 an6 cd6 ct6), sl6⟩) (c6 : PySem.W.codeIn K cd6 "is_message" = true) (k6 : PySem.W.keepIn K (.ref f6) = true)
    (a7 : PySem.W.nsIn K mainGlobals "is_time" = some (some (.ref f7))) (l7 : K.lookup f7 = some ⟨oc7, od7, .func (PySem.W.fnOf "is_time" "is_time" (C8.fnArgs s_is_time) (C8.fnBody s_is_time) (C8.fnScope s_is_time) .none kV7 dc7 pm7 an7 cd7 ct7), sl7⟩) (c7 : PySem.W.codeIn K cd7 "is_time" = true) (k7 : PySem.W.keepIn K (.ref f7) = true)
    (a8 : PySem.W.nsIn K mainGlobals "is_count" = some (some (.ref f8))) (l8 : K.lookup f8 = some ⟨oc8, od8, .func (PySem.W.fnOf "is_count" "is_count" (C8.fnArgs s_is_count) (C8.fnBody s_is_count) (C8.fnScope s_is_count) .none kV8 dc8 pm8 an8 cd8 ct8), sl8⟩) (c8 : PySem.W.codeIn K cd8 "is_count" = true) (k8 : PySem.W.keepIn K (.ref f8) = true)
    (a9 : PySem.W.nsIn K mainGlobals "ascending" = some (some (.ref f9))) (l9 : K.lookup f9 = some ⟨oc9, od9, .func (PySem.W.fnOf "ascending" "ascending" (C8.fnArgs s_ascending) (C8.fnBody s_ascending) (C8.fnScope s_ascending) .none kV9 dc9 pm9 an9 cd9 ct9), sl9⟩) (c9 : PySem.W.codeIn K cd9 "ascending" = true) (k9 : PySem.W.keepIn K (.ref f9) = true)
    (a10 : PySem.W.nsIn K mainGlobals "prefixes" = some (some (.ref f10))) (l10 : K.lookup f10 = some ⟨oc10, od10, .func (PySem.W.fnOf "prefixes" "prefixes" (C8.fnArgs s_prefixes) (C8.fnBody s_prefixes) (C8.fnScope s_prefixes) .none kV10 dc10 pm10 an10 cd10 ct10), sl10⟩) (c10 : PySem.W.codeIn K cd10 "prefixes" = true) (k10 : PySem.W.keepIn K (.ref f10) = true)
    (a11 : PySem.W.nsIn K mainGlobals "have_prefixes" = some (some (.ref f11))) (l11 : K.lookup f11 = some ⟨oc11, od11, .func (PySem.W.fnOf "have_prefixes" "have_prefixes" (C8.fnArgs s_have_prefixes) (C8.fnBody s_have_prefixes) (C8.fnScope s_have_prefixes) .none kV11 dc11 pm11 an11 cd11 ct11), sl11⟩) (c11 : PySem.W.codeIn K cd11 "have_prefixes" = true) (k11 : PySem.W.keepIn K (.ref f11) = true)
    (a12 : PySem.W.nsIn K mainGlobals "_is_word" = some (some (.ref f12))) (l12 : K.lookup f12 = some ⟨oc12, od12, .func (PySem.W.fnOf "_is_word" "_is_word" (C8.fnArgs s__is_word) (C8.fnBody s__is_word) (C8.fnScope s__is_word) .none kV12 dc12 pm12 an12 cd12 ct12), sl12⟩) (c12 : PySem.W.codeIn K cd12 "_is_word" = true) (k12 : PySem.W.keepIn K (.ref f12) = true)
    (a13 : PySem.W.nsIn K mainGlobals "is_state" = some (some (.ref f13))) (l13 : K.lookup f13 = some ⟨oc13, od13, .func (PySem.W.fnOf "is_state" "is_state" (C8.fnArgs s_is_state) (C8.fnBody s_is_state) (C8.fnScope s_is_state) .none kV13 dc13 pm13 an13 cd13 ct13), sl13⟩) (c13 : PySem.W.codeIn K cd13 "is_state" = true) (k13 : PySem.W.keepIn K (.ref f13) = true)
    (a14 : PySem.W.nsIn K mainGlobals "is_head" = some (some (.ref f14))) (l14 : K.lookup f14 = some ⟨oc14, od14, .func (PySem.W.fnOf "is_head" "is_head" (C8.fnArgs s_is_head) (C8.fnBody s_is_head) (C8.fnScope s_is_head) .none kV14 dc14 pm14 an14 cd14 ct14), sl14⟩) (c14 : PySem.W.codeIn K cd14 "is_head" = true) (k14 : PySem.W.keepIn K (.ref f14) = true)
    (a15 : PySem.W.nsIn K mainGlobals "is_log_name" = some (some (.ref f15))) (l15 : K.lookup f15 = some ⟨oc15, od15, .func (PySem.W.fnOf "is_log_name" "is_log_name" (C8.fnArgs s_is_log_name) (C8.fnBody s_is_log_name) (C8.fnScope s_is_log_name) .none kV15 dc15 pm15 an15 cd15 ct15), sl15⟩) (c15 : PySem.W.codeIn K cd15 "is_log_name" = true) (k15 : PySem.W.keepIn K (.ref f15) = true)
    (a16 : PySem.W.nsIn K mainGlobals "touch" = some (some (.ref f16))) (l16 : K.lookup f16 = some ⟨oc16, od16, .func (PySem.W.fnOf "touch" "touch" (C8.fnArgs s_touch) (C8.fnBody s_touch) (C8.fnScope s_touch) .none kV16 dc16 pm16 an16 cd16 ct16), sl16⟩) (c16 : PySem.W.codeIn K cd16 "touch" = true) (k16 : PySem.W.keepIn K (.ref f16) = true)
    (a17 : PySem.W.nsIn K mainGlobals "led_to" = some (some (.ref f17))) (l17 : K.lookup f17 = some ⟨oc17, od17, .func (PySem.W.fnOf "led_to" "led_to" (C8.fnArgs s_led_to) (C8.fnBody s_led_to) (C8.fnScope s_led_to) .none kV17 dc17 pm17 an17 cd17 ct17), sl17⟩) (c17 : PySem.W.codeIn K cd17 "led_to" = true) (k17 : PySem.W.keepIn K (.ref f17) = true)
    (a18 : PySem.W.nsIn K mainGlobals "moved" = some (some (.ref f18))) (l18 : K.lookup f18 = some ⟨oc18, od18, .func (PySem.W.fnOf "moved" "moved" (C8.fnArgs s_moved) (C8.fnBody s_moved) (C8.fnScope s_moved) .none kV18 dc18 pm18 an18 cd18 ct18), sl18⟩) (c18 : PySem.W.codeIn K cd18 "moved" = true) (k18 : PySem.W.keepIn K (.ref f18) = true)
    (a19 : PySem.W.nsIn K mainGlobals "after_moves" = some (some (.ref f19))) (l19 : K.lookup f19 = some ⟨oc19, od19, .func (PySem.W.fnOf "after_moves" "after_moves" (C8.fnArgs s_after_moves) (C8.fnBody s_after_moves) (C8.fnScope s_after_moves) .none kV19 dc19 pm19 an19 cd19 ct19), sl19⟩) (c19 : PySem.W.codeIn K cd19 "after_moves" = true) (k19 : PySem.W.keepIn K (.ref f19) = true)
    (a20 : PySem.W.nsIn K mainGlobals "sorted_rows" = some (some (.ref f20))) (l20 : K.lookup f20 = some ⟨oc20, od20, .func (PySem.W.fnOf "sorted_rows" "sorted_rows" (C8.fnArgs s_sorted_rows) (C8.fnBody s_sorted_rows) (C8.fnScope s_sorted_rows) .none kV20 dc20 pm20 an20 cd20 ct20), sl20⟩) (c20 : PySem.W.codeIn K cd20 "sorted_rows" = true) (k20 : PySem.W.keepIn K (.ref f20) = true)
    (a21 : PySem.W.nsIn K mainGlobals "are_rows" = some (some (.ref f21))) (l21 : K.lookup f21 = some ⟨oc21, od21, .func (PySem.W.fnOf "are_rows" "are_rows" (C8.fnArgs s_are_rows) (C8.fnBody s_are_rows) (C8.fnScope s_are_rows) .none kV21 dc21 pm21 an21 cd21 ct21), sl21⟩) (c21 : PySem.W.codeIn K cd21 "are_rows" = true) (k21 : PySem.W.keepIn K (.ref f21) = true)
    (a22 : PySem.W.nsIn K mainGlobals "_are_entries" = some (some (.ref f22))) (l22 : K.lookup f22 = some ⟨oc22, od22, .func (PySem.W.fnOf "_are_entries" "_are_entries" (C8.fnArgs s__are_entries) (C8.fnBody s__are_entries) (C8.fnScope s__are_entries) .none kV22 dc22 pm22 an22 cd22 ct22), sl22⟩) (c22 : PySem.W.codeIn K cd22 "_are_entries" = true) (k22 : PySem.W.keepIn K (.ref f22) = true)
    (a23 : PySem.W.nsIn K mainGlobals "_is_entry" = some (some (.ref f23))) (l23 : K.lookup f23 = some ⟨oc23, od23, .func (PySem.W.fnOf "_is_entry" "_is_entry" (C8.fnArgs s__is_entry) (C8.fnBody s__is_entry) (C8.fnScope s__is_entry) .none kV23 dc23 pm23 an23 cd23 ct23), sl23⟩) (c23 : PySem.W.codeIn K cd23 "_is_entry" = true) (k23 : PySem.W.keepIn K (.ref f23) = true)
    (a24 : PySem.W.nsIn K mainGlobals "_law_cell_at" = some (some (.ref f24))) (l24 : K.lookup f24 = some ⟨oc24, od24, .func (PySem.W.fnOf "_law_cell_at" "_law_cell_at" (C8.fnArgs s_l_cell_at) (C8.fnBody s_l_cell_at) (C8.fnScope s_l_cell_at) .none kV24 dc24 pm24 an24 cd24 ct24), sl24⟩) (c24 : PySem.W.codeIn K cd24 "_law_cell_at" = true) (k24 : PySem.W.keepIn K (.ref f24) = true)
    (a25 : PySem.W.nsIn K mainGlobals "_law_source" = some (some (.ref f25))) (l25 : K.lookup f25 = some ⟨oc25, od25, .func (PySem.W.fnOf "_law_source" "_law_source" (C8.fnArgs s_l_source) (C8.fnBody s_l_source) (C8.fnScope s_l_source) .none kV25 dc25 pm25 an25 cd25 ct25), sl25⟩) (c25 : PySem.W.codeIn K cd25 "_law_source" = true) (k25 : PySem.W.keepIn K (.ref f25) = true)
    (a26 : PySem.W.nsIn K mainGlobals "_law_draw" = some (some (.ref f26))) (l26 : K.lookup f26 = some ⟨oc26, od26, .func (PySem.W.fnOf "_law_draw" "_law_draw" (C8.fnArgs s_l_draw) (C8.fnBody s_l_draw) (C8.fnScope s_l_draw) .none kV26 dc26 pm26 an26 cd26 ct26), sl26⟩) (c26 : PySem.W.codeIn K cd26 "_law_draw" = true) (k26 : PySem.W.keepIn K (.ref f26) = true)
    (a27 : PySem.W.nsIn K mainGlobals "_law_pick" = some (some (.ref f27))) (l27 : K.lookup f27 = some ⟨oc27, od27, .func (PySem.W.fnOf "_law_pick" "_law_pick" (C8.fnArgs s_l_pick) (C8.fnBody s_l_pick) (C8.fnScope s_l_pick) .none kV27 dc27 pm27 an27 cd27 ct27), sl27⟩) (c27 : PySem.W.codeIn K cd27 "_law_pick" = true) (k27 : PySem.W.keepIn K (.ref f27) = true)
    (a28 : PySem.W.nsIn K mainGlobals "_law_ref" = some (some (.ref f28))) (l28 : K.lookup f28 = some ⟨oc28, od28, .func (PySem.W.fnOf "_law_ref" "_law_ref" (C8.fnArgs s_l_ref) (C8.fnBody s_l_ref) (C8.fnScope s_l_ref) .none kV28 dc28 pm28 an28 cd28 ct28), sl28⟩) (c28 : PySem.W.codeIn K cd28 "_law_ref" = true) (k28 : PySem.W.keepIn K (.ref f28) = true)
    (a29 : PySem.W.nsIn K mainGlobals "_law_id" = some (some (.ref f29))) (l29 : K.lookup f29 = some ⟨oc29, od29, .func (PySem.W.fnOf "_law_id" "_law_id" (C8.fnArgs s_l_id) (C8.fnBody s_l_id) (C8.fnScope s_l_id) .none kV29 dc29 pm29 an29 cd29 ct29), sl29⟩) (c29 : PySem.W.codeIn K cd29 "_law_id" = true) (k29 : PySem.W.keepIn K (.ref f29) = true)
    (a30 : PySem.W.nsIn K mainGlobals "_law_new" = some (some (.ref f30))) (l30 : K.lookup f30 = some ⟨oc30, od30, .func (PySem.W.fnOf "_law_new" "_law_new" (C8.fnArgs s_l_new) (C8.fnBody s_l_new) (C8.fnScope s_l_new) .none kV30 dc30 pm30 an30 cd30 ct30), sl30⟩) (c30 : PySem.W.codeIn K cd30 "_law_new" = true) (k30 : PySem.W.keepIn K (.ref f30) = true)
    (a31 : PySem.W.nsIn K mainGlobals "_law_at_head" = some (some (.ref f31))) (l31 : K.lookup f31 = some ⟨oc31, od31, .func (PySem.W.fnOf "_law_at_head" "_law_at_head" (C8.fnArgs s_l_at_head) (C8.fnBody s_l_at_head) (C8.fnScope s_l_at_head) .none kV31 dc31 pm31 an31 cd31 ct31), sl31⟩) (c31 : PySem.W.codeIn K cd31 "_law_at_head" = true) (k31 : PySem.W.keepIn K (.ref f31) = true)
    (a32 : PySem.W.nsIn K mainGlobals "_law_above" = some (some (.ref f32))) (l32 : K.lookup f32 = some ⟨oc32, od32, .func (PySem.W.fnOf "_law_above" "_law_above" (C8.fnArgs s_l_above) (C8.fnBody s_l_above) (C8.fnScope s_l_above) .none kV32 dc32 pm32 an32 cd32 ct32), sl32⟩) (c32 : PySem.W.codeIn K cd32 "_law_above" = true) (k32 : PySem.W.keepIn K (.ref f32) = true)
    (a33 : PySem.W.nsIn K mainGlobals "_law_behind" = some (some (.ref f33))) (l33 : K.lookup f33 = some ⟨oc33, od33, .func (PySem.W.fnOf "_law_behind" "_law_behind" (C8.fnArgs s_l_behind) (C8.fnBody s_l_behind) (C8.fnScope s_l_behind) .none kV33 dc33 pm33 an33 cd33 ct33), sl33⟩) (c33 : PySem.W.codeIn K cd33 "_law_behind" = true) (k33 : PySem.W.keepIn K (.ref f33) = true)
    (a34 : PySem.W.nsIn K mainGlobals "_law_stands" = some (some (.ref f34))) (l34 : K.lookup f34 = some ⟨oc34, od34, .func (PySem.W.fnOf "_law_stands" "_law_stands" (C8.fnArgs s_l_stands) (C8.fnBody s_l_stands) (C8.fnScope s_l_stands) .none kV34 dc34 pm34 an34 cd34 ct34), sl34⟩) (c34 : PySem.W.codeIn K cd34 "_law_stands" = true) (k34 : PySem.W.keepIn K (.ref f34) = true)
    (a35 : PySem.W.nsIn K mainGlobals "_law_noted" = some (some (.ref f35))) (l35 : K.lookup f35 = some ⟨oc35, od35, .func (PySem.W.fnOf "_law_noted" "_law_noted" (C8.fnArgs s_l_noted) (C8.fnBody s_l_noted) (C8.fnScope s_l_noted) .none kV35 dc35 pm35 an35 cd35 ct35), sl35⟩) (c35 : PySem.W.codeIn K cd35 "_law_noted" = true) (k35 : PySem.W.keepIn K (.ref f35) = true)
    (a36 : PySem.W.nsIn K mainGlobals "_law_finished" = some (some (.ref f36))) (l36 : K.lookup f36 = some ⟨oc36, od36, .func (PySem.W.fnOf "_law_finished" "_law_finished" (C8.fnArgs s_l_finished) (C8.fnBody s_l_finished) (C8.fnScope s_l_finished) .none kV36 dc36 pm36 an36 cd36 ct36), sl36⟩) (c36 : PySem.W.codeIn K cd36 "_law_finished" = true) (k36 : PySem.W.keepIn K (.ref f36) = true)
    (a37 : PySem.W.nsIn K mainGlobals "_law_moves" = some (some (.ref f37))) (l37 : K.lookup f37 = some ⟨oc37, od37, .func (PySem.W.fnOf "_law_moves" "_law_moves" (C8.fnArgs s_l_moves) (C8.fnBody s_l_moves) (C8.fnScope s_l_moves) .none kV37 dc37 pm37 an37 cd37 ct37), sl37⟩) (c37 : PySem.W.codeIn K cd37 "_law_moves" = true) (k37 : PySem.W.keepIn K (.ref f37) = true)
    (a38 : PySem.W.nsIn K mainGlobals "_law_asked" = some (some (.ref f38))) (l38 : K.lookup f38 = some ⟨oc38, od38, .func (PySem.W.fnOf "_law_asked" "_law_asked" (C8.fnArgs s_l_asked) (C8.fnBody s_l_asked) (C8.fnScope s_l_asked) .none kV38 dc38 pm38 an38 cd38 ct38), sl38⟩) (c38 : PySem.W.codeIn K cd38 "_law_asked" = true) (k38 : PySem.W.keepIn K (.ref f38) = true)
    (a39 : PySem.W.nsIn K mainGlobals "_law_previewed" = some (some (.ref f39))) (l39 : K.lookup f39 = some ⟨oc39, od39, .func (PySem.W.fnOf "_law_previewed" "_law_previewed" (C8.fnArgs s_l_previewed) (C8.fnBody s_l_previewed) (C8.fnScope s_l_previewed) .none kV39 dc39 pm39 an39 cd39 ct39), sl39⟩) (c39 : PySem.W.codeIn K cd39 "_law_previewed" = true) (k39 : PySem.W.keepIn K (.ref f39) = true)
    (a40 : PySem.W.nsIn K mainGlobals "law" = some (some (.ref f40))) (l40 : K.lookup f40 = some ⟨oc40, od40, .func (PySem.W.fnOf "law" "law" (C8.fnArgs s_law) (C8.fnBody s_law) (C8.fnScope s_law) .none kV40 dc40 pm40 an40 cd40 ct40), sl40⟩) (c40 : PySem.W.codeIn K cd40 "law" = true) (k40 : PySem.W.keepIn K (.ref f40) = true)
    (z_KeyError : PySem.W.nsIn K mainGlobals "KeyError" = some none)
    (z_TypeError : PySem.W.nsIn K mainGlobals "TypeError" = some none)
    (z_ValueError : PySem.W.nsIn K mainGlobals "ValueError" = some none)
    (z_all : PySem.W.nsIn K mainGlobals "all" = some none)
    (z_any : PySem.W.nsIn K mainGlobals "any" = some none)
    (z_bool : PySem.W.nsIn K mainGlobals "bool" = some none)
    (z_dict : PySem.W.nsIn K mainGlobals "dict" = some none)
    (z_int : PySem.W.nsIn K mainGlobals "int" = some none)
    (z_isinstance : PySem.W.nsIn K mainGlobals "isinstance" = some none)
    (z_len : PySem.W.nsIn K mainGlobals "len" = some none)
    (z_list : PySem.W.nsIn K mainGlobals "list" = some none)
    (z_range : PySem.W.nsIn K mainGlobals "range" = some none)
    (z_set : PySem.W.nsIn K mainGlobals "set" = some none)
    (z_sorted : PySem.W.nsIn K mainGlobals "sorted" = some none)
    (z_str : PySem.W.nsIn K mainGlobals "str" = some none)
    (z_tuple : PySem.W.nsIn K mainGlobals "tuple" = some none)
    (z_zip : PySem.W.nsIn K mainGlobals "zip" = some none)
    (g_HEX_DIGITS : PySem.W.nsIn K mainGlobals "HEX_DIGITS" = some (some (.str (Str.ofString "0123456789abcdef") t_HEX_DIGITS)))
    (g_REF_SIGNS : PySem.W.nsIn K mainGlobals "REF_SIGNS" = some (some (.str (Str.ofString "abcdefghijklmnopqrstuvwxyz0123456789-") t_REF_SIGNS)))
    (g_LONGEST_WORD : PySem.W.nsIn K mainGlobals "LONGEST_WORD" = some (some (.int 12 t_LONGEST_WORD)))
    (g_LONGEST_TEXT : PySem.W.nsIn K mainGlobals "LONGEST_TEXT" = some (some (.int 2000 t_LONGEST_TEXT)))
    (g_LONGEST_MESSAGE : PySem.W.nsIn K mainGlobals "LONGEST_MESSAGE" = some (some (.int 200 t_LONGEST_MESSAGE)))
    (g_LATEST : PySem.W.nsIn K mainGlobals "LATEST" = some (some (.int 1000000000000 t_LATEST)))
    {CE CR cF cS cB iF iS ns0 r0 h0 l0 dT dN : Addr}
    {fmEdit_stand : Addr} {odmEdit_stand anmEdit_stand : Option Addr} {slmEdit_stand : Array (Option Value)} {ocmEdit_stand kVmEdit_stand dcmEdit_stand pmmEdit_stand cdmEdit_stand ctmEdit_stand : Value}
    {fmEdit_finish : Addr} {odmEdit_finish anmEdit_finish : Option Addr} {slmEdit_finish : Array (Option Value)} {ocmEdit_finish kVmEdit_finish dcmEdit_finish pmmEdit_finish cdmEdit_finish ctmEdit_finish : Value}
    {fmEdit_drop : Addr} {odmEdit_drop anmEdit_drop : Option Addr} {slmEdit_drop : Array (Option Value)} {ocmEdit_drop kVmEdit_drop dcmEdit_drop pmmEdit_drop cdmEdit_drop ctmEdit_drop : Value}
    {fmEdit_moves : Addr} {odmEdit_moves anmEdit_moves : Option Addr} {slmEdit_moves : Array (Option Value)} {ocmEdit_moves kVmEdit_moves dcmEdit_moves pmmEdit_moves cdmEdit_moves ctmEdit_moves : Value}
    {fmEdit_behind : Addr} {odmEdit_behind anmEdit_behind : Option Addr} {slmEdit_behind : Array (Option Value)} {ocmEdit_behind kVmEdit_behind dcmEdit_behind pmmEdit_behind cdmEdit_behind ctmEdit_behind : Value}
    {fmEditcheck_open : Addr} {odmEditcheck_open anmEditcheck_open : Option Addr} {slmEditcheck_open : Array (Option Value)} {ocmEditcheck_open kVmEditcheck_open dcmEditcheck_open pmmEditcheck_open cdmEditcheck_open ctmEditcheck_open : Value}
    {fmEditcall : Addr} {odmEditcall anmEditcall : Option Addr} {slmEditcall : Array (Option Value)} {ocmEditcall kVmEditcall dcmEditcall pmmEditcall cdmEditcall ctmEditcall : Value}
    {fmEditids : Addr} {odmEditids anmEditids : Option Addr} {slmEditids : Array (Option Value)} {ocmEditids kVmEditids dcmEditids pmmEditids cdmEditids ctmEditids : Value}
    {fmEdit_init : Addr} {odmEdit_init anmEdit_init : Option Addr} {slmEdit_init : Array (Option Value)} {ocmEdit_init kVmEdit_init dcmEdit_init pmmEdit_init cdmEdit_init ctmEdit_init : Value}
    {fmEdit_point : Addr} {odmEdit_point anmEdit_point : Option Addr} {slmEdit_point : Array (Option Value)} {ocmEdit_point kVmEdit_point dcmEdit_point pmmEdit_point cdmEdit_point ctmEdit_point : Value}
    {fmEdit_delete : Addr} {odmEdit_delete anmEdit_delete : Option Addr} {slmEdit_delete : Array (Option Value)} {ocmEdit_delete kVmEdit_delete dcmEdit_delete pmmEdit_delete cdmEdit_delete ctmEdit_delete : Value}
    {fmRefs_getitem : Addr} {odmRefs_getitem anmRefs_getitem : Option Addr} {slmRefs_getitem : Array (Option Value)} {ocmRefs_getitem kVmRefs_getitem dcmRefs_getitem pmmRefs_getitem cdmRefs_getitem ctmRefs_getitem : Value}
    {fmRefs_contains : Addr} {odmRefs_contains anmRefs_contains : Option Addr} {slmRefs_contains : Array (Option Value)} {ocmRefs_contains kVmRefs_contains dcmRefs_contains pmmRefs_contains cdmRefs_contains ctmRefs_contains : Value}
    {fmRefs_len : Addr} {odmRefs_len anmRefs_len : Option Addr} {slmRefs_len : Array (Option Value)} {ocmRefs_len kVmRefs_len dcmRefs_len pmmRefs_len cdmRefs_len ctmRefs_len : Value}
    {fmRefs_names : Addr} {odmRefs_names anmRefs_names : Option Addr} {slmRefs_names : Array (Option Value)} {ocmRefs_names kVmRefs_names dcmRefs_names pmmRefs_names cdmRefs_names ctmRefs_names : Value}
    {fmRefs_head : Addr} {odmRefs_head anmRefs_head : Option Addr} {slmRefs_head : Array (Option Value)} {ocmRefs_head kVmRefs_head dcmRefs_head pmmRefs_head cdmRefs_head ctmRefs_head : Value}
    {fmRefs_at_head : Addr} {odmRefs_at_head anmRefs_at_head : Option Addr} {slmRefs_at_head : Array (Option Value)} {ocmRefs_at_head kVmRefs_at_head dcmRefs_at_head pmmRefs_at_head cdmRefs_at_head ctmRefs_at_head : Value}
    {fmRefs_state : Addr} {odmRefs_state anmRefs_state : Option Addr} {slmRefs_state : Array (Option Value)} {ocmRefs_state kVmRefs_state dcmRefs_state pmmRefs_state cdmRefs_state ctmRefs_state : Value}
    {fmRefs_log : Addr} {odmRefs_log anmRefs_log : Option Addr} {slmRefs_log : Array (Option Value)} {ocmRefs_log kVmRefs_log dcmRefs_log pmmRefs_log cdmRefs_log ctmRefs_log : Value}
    {fmRefs_edit : Addr} {odmRefs_edit anmRefs_edit : Option Addr} {slmRefs_edit : Array (Option Value)} {ocmRefs_edit kVmRefs_edit dcmRefs_edit pmmRefs_edit cdmRefs_edit ctmRefs_edit : Value}
    {fmRefs_lock : Addr} {odmRefs_lock anmRefs_lock : Option Addr} {slmRefs_lock : Array (Option Value)} {ocmRefs_lock kVmRefs_lock dcmRefs_lock pmmRefs_lock cdmRefs_lock ctmRefs_lock : Value}
    {fmRefstake_over : Addr} {odmRefstake_over anmRefstake_over : Option Addr} {slmRefstake_over : Array (Option Value)} {ocmRefstake_over kVmRefstake_over dcmRefstake_over pmmRefstake_over cdmRefstake_over ctmRefstake_over : Value}
    {fmRefs_become : Addr} {odmRefs_become anmRefs_become : Option Addr} {slmRefs_become : Array (Option Value)} {ocmRefs_become kVmRefs_become dcmRefs_become pmmRefs_become cdmRefs_become ctmRefs_become : Value}
    {fmRefs_init : Addr} {odmRefs_init anmRefs_init : Option Addr} {slmRefs_init : Array (Option Value)} {ocmRefs_init kVmRefs_init dcmRefs_init pmmRefs_init cdmRefs_init ctmRefs_init : Value}
    {qF : Str} {NF : Addr} {bsF subF : List Value} {snF : List Str} {abF : Bool} {colF : Option Bool} {ddF : Option Addr} {mF_0 mF_1 mF_2 mF_3 mF_5 : Option Value}
    {qS : Str} {NS : Addr} {bsS subS : List Value} {snS : List Str} {abS : Bool} {colS : Option Bool} {ddS : Option Addr} {mS_0 mS_1 mS_2 mS_3 mS_5 : Option Value}
    {qB : Str} {NB : Addr} {bsB subB : List Value} {snB : List Str} {abB : Bool} {colB : Option Bool} {ddB : Option Addr} {mB_0 mB_1 mB_2 mB_3 mB_5 : Option Value}
    {odiS aniS : Option Addr} {sliS : Array (Option Value)} {ociS kViS dciS pmiS cdiS ctiS : Value}
    {odiF aniF : Option Addr} {sliF : Array (Option Value)} {ociF kViF dciF pmiF cdiF ctiF : Value}
    {tkd : Tok} {tcd tcn : Value} {tod ton : Option Addr} {tn tnn : Nat} {tsl tsn : Array (Option Value)}
    {no ro ho lo : Option Addr} {nn rn hn ln : Nat} {nsl rsl hsl lsl : Array (Option Value)} {tk1 tk2 : Tok}
    (eE_mg : PySem.W.nsIn K mainGlobals "Edit" = some (some (.ref CE)))
    (eR_mg : PySem.W.nsIn K mainGlobals "Refs" = some (some (.ref CR)))
    (eF_mg : PySem.W.nsIn K mainGlobals "ForkError" = some (some (.ref cF)))
    (eS_mg : PySem.W.nsIn K mainGlobals "Stale" = some (some (.ref cS)))
    (eB_mg : PySem.W.nsIn K mainGlobals "BadRef" = some (some (.ref cB)))
    (cE_pg : PySem.W.plainGet K CE Str.empty = true)
    (cE_hd : PySem.W.hasDictIn K CE = true)
    (cE_po : PySem.W.plainOver K CE = true)
    (cE_sa : PySem.W.findIn K (.ref CE) "__setattr__" = some (some (.builtin "object.__setattr__")))
    (cE_mk : PySem.W.makesIn K CE = true)
    (cE_kc : PySem.W.keepIn K (.ref CE) = true)
    (cR_pg : PySem.W.plainGet K CR Str.empty = true)
    (cR_hd : PySem.W.hasDictIn K CR = true)
    (cR_po : PySem.W.plainOver K CR = true)
    (cR_sa : PySem.W.findIn K (.ref CR) "__setattr__" = some (some (.builtin "object.__setattr__")))
    (cR_mk : PySem.W.makesIn K CR = true)
    (cR_kc : PySem.W.keepIn K (.ref CR) = true)
    (p_ne : PySem.W.findIn K (.ref CE) "__ne__" = some (some (.builtin "object.__ne__")))
    (p_eq : PySem.W.findIn K (.ref CE) "__eq__" = some (some (.builtin "object.__eq__")))
    (p_ob : PySem.W.mroIn K CE (.type "object") = some true)
    (p_st : PySem.W.findIn K (.ref CR) "stand" = some none)
    (amEdit_stand : PySem.W.findIn K (.ref CE) "stand" = some (some (.ref fmEdit_stand)))
    (imEdit_stand : PySem.W.isFn K (.ref fmEdit_stand) = true)
    (lmEdit_stand : K.lookup fmEdit_stand = some ⟨ocmEdit_stand, odmEdit_stand, .func (PySem.W.fnOf "stand" "Edit.stand" (C8.fnArgs s_Edit_stand) (C8.fnBody s_Edit_stand) (C8.fnScope s_Edit_stand) .none kVmEdit_stand dcmEdit_stand pmmEdit_stand anmEdit_stand cdmEdit_stand ctmEdit_stand), slmEdit_stand⟩)
    (cmEdit_stand : PySem.W.codeIn K cdmEdit_stand "Edit.stand" = true)
    (kmEdit_stand : PySem.W.keepIn K (.ref fmEdit_stand) = true)
    (amEdit_finish : PySem.W.findIn K (.ref CE) "finish" = some (some (.ref fmEdit_finish)))
    (imEdit_finish : PySem.W.isFn K (.ref fmEdit_finish) = true)
    (lmEdit_finish : K.lookup fmEdit_finish = some ⟨ocmEdit_finish, odmEdit_finish, .func (PySem.W.fnOf "finish" "Edit.finish" (C8.fnArgs s_Edit_finish) (C8.fnBody s_Edit_finish) (C8.fnScope s_Edit_finish) .none kVmEdit_finish dcmEdit_finish pmmEdit_finish anmEdit_finish cdmEdit_finish ctmEdit_finish), slmEdit_finish⟩)
    (cmEdit_finish : PySem.W.codeIn K cdmEdit_finish "Edit.finish" = true)
    (kmEdit_finish : PySem.W.keepIn K (.ref fmEdit_finish) = true)
    (amEdit_drop : PySem.W.findIn K (.ref CE) "drop" = some (some (.ref fmEdit_drop)))
    (imEdit_drop : PySem.W.isFn K (.ref fmEdit_drop) = true)
    (lmEdit_drop : K.lookup fmEdit_drop = some ⟨ocmEdit_drop, odmEdit_drop, .func (PySem.W.fnOf "drop" "Edit.drop" (C8.fnArgs s_Edit_drop) (C8.fnBody s_Edit_drop) (C8.fnScope s_Edit_drop) .none kVmEdit_drop dcmEdit_drop pmmEdit_drop anmEdit_drop cdmEdit_drop ctmEdit_drop), slmEdit_drop⟩)
    (cmEdit_drop : PySem.W.codeIn K cdmEdit_drop "Edit.drop" = true)
    (kmEdit_drop : PySem.W.keepIn K (.ref fmEdit_drop) = true)
    (amEdit_moves : PySem.W.findIn K (.ref CE) "moves" = some (some (.ref fmEdit_moves)))
    (imEdit_moves : PySem.W.isFn K (.ref fmEdit_moves) = true)
    (lmEdit_moves : K.lookup fmEdit_moves = some ⟨ocmEdit_moves, odmEdit_moves, .func (PySem.W.fnOf "moves" "Edit.moves" (C8.fnArgs s_Edit_moves) (C8.fnBody s_Edit_moves) (C8.fnScope s_Edit_moves) .none kVmEdit_moves dcmEdit_moves pmmEdit_moves anmEdit_moves cdmEdit_moves ctmEdit_moves), slmEdit_moves⟩)
    (cmEdit_moves : PySem.W.codeIn K cdmEdit_moves "Edit.moves" = true)
    (kmEdit_moves : PySem.W.keepIn K (.ref fmEdit_moves) = true)
    (amEdit_behind : PySem.W.findIn K (.ref CE) "behind" = some (some (.ref fmEdit_behind)))
    (imEdit_behind : PySem.W.isFn K (.ref fmEdit_behind) = true)
    (lmEdit_behind : K.lookup fmEdit_behind = some ⟨ocmEdit_behind, odmEdit_behind, .func (PySem.W.fnOf "behind" "Edit.behind" (C8.fnArgs s_Edit_behind) (C8.fnBody s_Edit_behind) (C8.fnScope s_Edit_behind) .none kVmEdit_behind dcmEdit_behind pmmEdit_behind anmEdit_behind cdmEdit_behind ctmEdit_behind), slmEdit_behind⟩)
    (cmEdit_behind : PySem.W.codeIn K cdmEdit_behind "Edit.behind" = true)
    (kmEdit_behind : PySem.W.keepIn K (.ref fmEdit_behind) = true)
    (amEditcheck_open : PySem.W.findIn K (.ref CE) "_check_open" = some (some (.ref fmEditcheck_open)))
    (imEditcheck_open : PySem.W.isFn K (.ref fmEditcheck_open) = true)
    (lmEditcheck_open : K.lookup fmEditcheck_open = some ⟨ocmEditcheck_open, odmEditcheck_open, .func (PySem.W.fnOf "_check_open" "Edit._check_open" (C8.fnArgs s_Editcheck_open) (C8.fnBody s_Editcheck_open) (C8.fnScope s_Editcheck_open) .none kVmEditcheck_open dcmEditcheck_open pmmEditcheck_open anmEditcheck_open cdmEditcheck_open ctmEditcheck_open), slmEditcheck_open⟩)
    (cmEditcheck_open : PySem.W.codeIn K cdmEditcheck_open "Edit._check_open" = true)
    (kmEditcheck_open : PySem.W.keepIn K (.ref fmEditcheck_open) = true)
    (amEditcall : PySem.W.findIn K (.ref CE) "_call" = some (some (.ref fmEditcall)))
    (imEditcall : PySem.W.isFn K (.ref fmEditcall) = true)
    (lmEditcall : K.lookup fmEditcall = some ⟨ocmEditcall, odmEditcall, .func (PySem.W.fnOf "_call" "Edit._call" (C8.fnArgs s_Editcall) (C8.fnBody s_Editcall) (C8.fnScope s_Editcall) .none kVmEditcall dcmEditcall pmmEditcall anmEditcall cdmEditcall ctmEditcall), slmEditcall⟩)
    (cmEditcall : PySem.W.codeIn K cdmEditcall "Edit._call" = true)
    (kmEditcall : PySem.W.keepIn K (.ref fmEditcall) = true)
    (amEditids : PySem.W.findIn K (.ref CE) "_ids" = some (some (.ref fmEditids)))
    (imEditids : PySem.W.isFn K (.ref fmEditids) = true)
    (lmEditids : K.lookup fmEditids = some ⟨ocmEditids, odmEditids, .func (PySem.W.fnOf "_ids" "Edit._ids" (C8.fnArgs s_Editids) (C8.fnBody s_Editids) (C8.fnScope s_Editids) .none kVmEditids dcmEditids pmmEditids anmEditids cdmEditids ctmEditids), slmEditids⟩)
    (cmEditids : PySem.W.codeIn K cdmEditids "Edit._ids" = true)
    (kmEditids : PySem.W.keepIn K (.ref fmEditids) = true)
    (amEdit_init : PySem.W.findIn K (.ref CE) "__init__" = some (some (.ref fmEdit_init)))
    (imEdit_init : PySem.W.isFn K (.ref fmEdit_init) = true)
    (lmEdit_init : K.lookup fmEdit_init = some ⟨ocmEdit_init, odmEdit_init, .func (PySem.W.fnOf "__init__" "Edit.__init__" (C8.fnArgs s_Edit_init) (C8.fnBody s_Edit_init) (C8.fnScope s_Edit_init) .none kVmEdit_init dcmEdit_init pmmEdit_init anmEdit_init cdmEdit_init ctmEdit_init), slmEdit_init⟩)
    (cmEdit_init : PySem.W.codeIn K cdmEdit_init "Edit.__init__" = true)
    (kmEdit_init : PySem.W.keepIn K (.ref fmEdit_init) = true)
    (amEdit_point : PySem.W.findIn K (.ref CE) "point" = some (some (.ref fmEdit_point)))
    (imEdit_point : PySem.W.isFn K (.ref fmEdit_point) = true)
    (lmEdit_point : K.lookup fmEdit_point = some ⟨ocmEdit_point, odmEdit_point, .func (PySem.W.fnOf "point" "Edit.point" (C8.fnArgs s_Edit_point) (C8.fnBody s_Edit_point) (C8.fnScope s_Edit_point) .none kVmEdit_point dcmEdit_point pmmEdit_point anmEdit_point cdmEdit_point ctmEdit_point), slmEdit_point⟩)
    (cmEdit_point : PySem.W.codeIn K cdmEdit_point "Edit.point" = true)
    (kmEdit_point : PySem.W.keepIn K (.ref fmEdit_point) = true)
    (amEdit_delete : PySem.W.findIn K (.ref CE) "delete" = some (some (.ref fmEdit_delete)))
    (imEdit_delete : PySem.W.isFn K (.ref fmEdit_delete) = true)
    (lmEdit_delete : K.lookup fmEdit_delete = some ⟨ocmEdit_delete, odmEdit_delete, .func (PySem.W.fnOf "delete" "Edit.delete" (C8.fnArgs s_Edit_delete) (C8.fnBody s_Edit_delete) (C8.fnScope s_Edit_delete) .none kVmEdit_delete dcmEdit_delete pmmEdit_delete anmEdit_delete cdmEdit_delete ctmEdit_delete), slmEdit_delete⟩)
    (cmEdit_delete : PySem.W.codeIn K cdmEdit_delete "Edit.delete" = true)
    (kmEdit_delete : PySem.W.keepIn K (.ref fmEdit_delete) = true)
    (amRefs_getitem : PySem.W.findIn K (.ref CR) "__getitem__" = some (some (.ref fmRefs_getitem)))
    (imRefs_getitem : PySem.W.isFn K (.ref fmRefs_getitem) = true)
    (lmRefs_getitem : K.lookup fmRefs_getitem = some ⟨ocmRefs_getitem, odmRefs_getitem, .func (PySem.W.fnOf "__getitem__" "Refs.__getitem__" (C8.fnArgs s_Refs_getitem) (C8.fnBody s_Refs_getitem) (C8.fnScope s_Refs_getitem) .none kVmRefs_getitem dcmRefs_getitem pmmRefs_getitem anmRefs_getitem cdmRefs_getitem ctmRefs_getitem), slmRefs_getitem⟩)
    (cmRefs_getitem : PySem.W.codeIn K cdmRefs_getitem "Refs.__getitem__" = true)
    (kmRefs_getitem : PySem.W.keepIn K (.ref fmRefs_getitem) = true)
    (amRefs_contains : PySem.W.findIn K (.ref CR) "__contains__" = some (some (.ref fmRefs_contains)))
    (imRefs_contains : PySem.W.isFn K (.ref fmRefs_contains) = true)
    (lmRefs_contains : K.lookup fmRefs_contains = some ⟨ocmRefs_contains, odmRefs_contains, .func (PySem.W.fnOf "__contains__" "Refs.__contains__" (C8.fnArgs s_Refs_contains) (C8.fnBody s_Refs_contains) (C8.fnScope s_Refs_contains) .none kVmRefs_contains dcmRefs_contains pmmRefs_contains anmRefs_contains cdmRefs_contains ctmRefs_contains), slmRefs_contains⟩)
    (cmRefs_contains : PySem.W.codeIn K cdmRefs_contains "Refs.__contains__" = true)
    (kmRefs_contains : PySem.W.keepIn K (.ref fmRefs_contains) = true)
    (amRefs_len : PySem.W.findIn K (.ref CR) "__len__" = some (some (.ref fmRefs_len)))
    (imRefs_len : PySem.W.isFn K (.ref fmRefs_len) = true)
    (lmRefs_len : K.lookup fmRefs_len = some ⟨ocmRefs_len, odmRefs_len, .func (PySem.W.fnOf "__len__" "Refs.__len__" (C8.fnArgs s_Refs_len) (C8.fnBody s_Refs_len) (C8.fnScope s_Refs_len) .none kVmRefs_len dcmRefs_len pmmRefs_len anmRefs_len cdmRefs_len ctmRefs_len), slmRefs_len⟩)
    (cmRefs_len : PySem.W.codeIn K cdmRefs_len "Refs.__len__" = true)
    (kmRefs_len : PySem.W.keepIn K (.ref fmRefs_len) = true)
    (amRefs_names : PySem.W.findIn K (.ref CR) "names" = some (some (.ref fmRefs_names)))
    (imRefs_names : PySem.W.isFn K (.ref fmRefs_names) = true)
    (lmRefs_names : K.lookup fmRefs_names = some ⟨ocmRefs_names, odmRefs_names, .func (PySem.W.fnOf "names" "Refs.names" (C8.fnArgs s_Refs_names) (C8.fnBody s_Refs_names) (C8.fnScope s_Refs_names) .none kVmRefs_names dcmRefs_names pmmRefs_names anmRefs_names cdmRefs_names ctmRefs_names), slmRefs_names⟩)
    (cmRefs_names : PySem.W.codeIn K cdmRefs_names "Refs.names" = true)
    (kmRefs_names : PySem.W.keepIn K (.ref fmRefs_names) = true)
    (amRefs_head : PySem.W.findIn K (.ref CR) "head" = some (some (.ref fmRefs_head)))
    (imRefs_head : PySem.W.isFn K (.ref fmRefs_head) = true)
    (lmRefs_head : K.lookup fmRefs_head = some ⟨ocmRefs_head, odmRefs_head, .func (PySem.W.fnOf "head" "Refs.head" (C8.fnArgs s_Refs_head) (C8.fnBody s_Refs_head) (C8.fnScope s_Refs_head) .none kVmRefs_head dcmRefs_head pmmRefs_head anmRefs_head cdmRefs_head ctmRefs_head), slmRefs_head⟩)
    (cmRefs_head : PySem.W.codeIn K cdmRefs_head "Refs.head" = true)
    (kmRefs_head : PySem.W.keepIn K (.ref fmRefs_head) = true)
    (amRefs_at_head : PySem.W.findIn K (.ref CR) "at_head" = some (some (.ref fmRefs_at_head)))
    (imRefs_at_head : PySem.W.isFn K (.ref fmRefs_at_head) = true)
    (lmRefs_at_head : K.lookup fmRefs_at_head = some ⟨ocmRefs_at_head, odmRefs_at_head, .func (PySem.W.fnOf "at_head" "Refs.at_head" (C8.fnArgs s_Refs_at_head) (C8.fnBody s_Refs_at_head) (C8.fnScope s_Refs_at_head) .none kVmRefs_at_head dcmRefs_at_head pmmRefs_at_head anmRefs_at_head cdmRefs_at_head ctmRefs_at_head), slmRefs_at_head⟩)
    (cmRefs_at_head : PySem.W.codeIn K cdmRefs_at_head "Refs.at_head" = true)
    (kmRefs_at_head : PySem.W.keepIn K (.ref fmRefs_at_head) = true)
    (amRefs_state : PySem.W.findIn K (.ref CR) "state" = some (some (.ref fmRefs_state)))
    (imRefs_state : PySem.W.isFn K (.ref fmRefs_state) = true)
    (lmRefs_state : K.lookup fmRefs_state = some ⟨ocmRefs_state, odmRefs_state, .func (PySem.W.fnOf "state" "Refs.state" (C8.fnArgs s_Refs_state) (C8.fnBody s_Refs_state) (C8.fnScope s_Refs_state) .none kVmRefs_state dcmRefs_state pmmRefs_state anmRefs_state cdmRefs_state ctmRefs_state), slmRefs_state⟩)
    (cmRefs_state : PySem.W.codeIn K cdmRefs_state "Refs.state" = true)
    (kmRefs_state : PySem.W.keepIn K (.ref fmRefs_state) = true)
    (amRefs_log : PySem.W.findIn K (.ref CR) "log" = some (some (.ref fmRefs_log)))
    (imRefs_log : PySem.W.isFn K (.ref fmRefs_log) = true)
    (lmRefs_log : K.lookup fmRefs_log = some ⟨ocmRefs_log, odmRefs_log, .func (PySem.W.fnOf "log" "Refs.log" (C8.fnArgs s_Refs_log) (C8.fnBody s_Refs_log) (C8.fnScope s_Refs_log) .none kVmRefs_log dcmRefs_log pmmRefs_log anmRefs_log cdmRefs_log ctmRefs_log), slmRefs_log⟩)
    (cmRefs_log : PySem.W.codeIn K cdmRefs_log "Refs.log" = true)
    (kmRefs_log : PySem.W.keepIn K (.ref fmRefs_log) = true)
    (amRefs_edit : PySem.W.findIn K (.ref CR) "edit" = some (some (.ref fmRefs_edit)))
    (imRefs_edit : PySem.W.isFn K (.ref fmRefs_edit) = true)
    (lmRefs_edit : K.lookup fmRefs_edit = some ⟨ocmRefs_edit, odmRefs_edit, .func (PySem.W.fnOf "edit" "Refs.edit" (C8.fnArgs s_Refs_edit) (C8.fnBody s_Refs_edit) (C8.fnScope s_Refs_edit) .none kVmRefs_edit dcmRefs_edit pmmRefs_edit anmRefs_edit cdmRefs_edit ctmRefs_edit), slmRefs_edit⟩)
    (cmRefs_edit : PySem.W.codeIn K cdmRefs_edit "Refs.edit" = true)
    (kmRefs_edit : PySem.W.keepIn K (.ref fmRefs_edit) = true)
    (amRefs_lock : PySem.W.findIn K (.ref CR) "lock" = some (some (.ref fmRefs_lock)))
    (imRefs_lock : PySem.W.isFn K (.ref fmRefs_lock) = true)
    (lmRefs_lock : K.lookup fmRefs_lock = some ⟨ocmRefs_lock, odmRefs_lock, .func (PySem.W.fnOf "lock" "Refs.lock" (C8.fnArgs s_Refs_lock) (C8.fnBody s_Refs_lock) (C8.fnScope s_Refs_lock) .none kVmRefs_lock dcmRefs_lock pmmRefs_lock anmRefs_lock cdmRefs_lock ctmRefs_lock), slmRefs_lock⟩)
    (cmRefs_lock : PySem.W.codeIn K cdmRefs_lock "Refs.lock" = true)
    (kmRefs_lock : PySem.W.keepIn K (.ref fmRefs_lock) = true)
    (amRefstake_over : PySem.W.findIn K (.ref CR) "_take_over" = some (some (.ref fmRefstake_over)))
    (imRefstake_over : PySem.W.isFn K (.ref fmRefstake_over) = true)
    (lmRefstake_over : K.lookup fmRefstake_over = some ⟨ocmRefstake_over, odmRefstake_over, .func (PySem.W.fnOf "_take_over" "Refs._take_over" (C8.fnArgs s_Refstake_over) (C8.fnBody s_Refstake_over) (C8.fnScope s_Refstake_over) .none kVmRefstake_over dcmRefstake_over pmmRefstake_over anmRefstake_over cdmRefstake_over ctmRefstake_over), slmRefstake_over⟩)
    (cmRefstake_over : PySem.W.codeIn K cdmRefstake_over "Refs._take_over" = true)
    (kmRefstake_over : PySem.W.keepIn K (.ref fmRefstake_over) = true)
    (amRefs_become : PySem.W.findIn K (.ref CR) "become" = some (some (.ref fmRefs_become)))
    (imRefs_become : PySem.W.isFn K (.ref fmRefs_become) = true)
    (lmRefs_become : K.lookup fmRefs_become = some ⟨ocmRefs_become, odmRefs_become, .func (PySem.W.fnOf "become" "Refs.become" (C8.fnArgs s_Refs_become) (C8.fnBody s_Refs_become) (C8.fnScope s_Refs_become) .none kVmRefs_become dcmRefs_become pmmRefs_become anmRefs_become cdmRefs_become ctmRefs_become), slmRefs_become⟩)
    (cmRefs_become : PySem.W.codeIn K cdmRefs_become "Refs.become" = true)
    (kmRefs_become : PySem.W.keepIn K (.ref fmRefs_become) = true)
    (amRefs_init : PySem.W.findIn K (.ref CR) "__init__" = some (some (.ref fmRefs_init)))
    (imRefs_init : PySem.W.isFn K (.ref fmRefs_init) = true)
    (lmRefs_init : K.lookup fmRefs_init = some ⟨ocmRefs_init, odmRefs_init, .func (PySem.W.fnOf "__init__" "Refs.__init__" (C8.fnArgs s_Refs_init) (C8.fnBody s_Refs_init) (C8.fnScope s_Refs_init) (.ref dN) kVmRefs_init dcmRefs_init pmmRefs_init anmRefs_init cdmRefs_init ctmRefs_init), slmRefs_init⟩)
    (cmRefs_init : PySem.W.codeIn K cdmRefs_init "Refs.__init__" = true)
    (kmRefs_init : PySem.W.keepIn K (.ref fmRefs_init) = true)
    (nE_refs : PySem.W.findIn K (.ref CE) "_refs" = some none)
    (nE_note : PySem.W.findIn K (.ref CE) "_note" = some none)
    (nE_calls : PySem.W.findIn K (.ref CE) "_calls" = some none)
    (nE_new_head : PySem.W.findIn K (.ref CE) "_new_head" = some none)
    (nEclosed : PySem.W.findIn K (.ref CE) "closed" = some none)
    (nR_locks : PySem.W.findIn K (.ref CR) "_locks" = some none)
    (nR_table : PySem.W.findIn K (.ref CR) "_table" = some none)
    (nR_head : PySem.W.findIn K (.ref CR) "_head" = some none)
    (nR_logs : PySem.W.findIn K (.ref CR) "_logs" = some none)
    (xF : K.lookup cF = some (excClassObj "ForkError" qF cF NF bsF [.type "ValueError", .type "Exception", .type "BaseException", .type "object"] true snF subF abF colF ddF mF_0 mF_1 mF_2 mF_3 mF_5 "ValueError.__new__"))
    (xS : K.lookup cS = some (excClassObj "Stale" qS cS NS bsS [.ref cF, .type "ValueError", .type "Exception", .type "BaseException", .type "object"] true snS subS abS colS ddS mS_0 mS_1 mS_2 mS_3 mS_5 "ValueError.__new__"))
    (saS : PySem.W.findIn K (.ref cS) "__setattr__" = some (some (.builtin "object.__setattr__")))
    (kCS : PySem.W.keepIn K (.ref cS) = true)
    (iCS : PySem.W.findIn K (.ref cS) "__init__" = some (some (.ref iS)))
    (gaS : PySem.W.findIn K (.ref cS) "__getattribute__" = some (some (.builtin "BaseException.__getattribute__")))
    (ggS : PySem.W.findIn K (.ref cS) "__getattr__" = some none)
    (haS : PySem.W.findIn K (.ref cS) "__class__" = some (some (.builtin "object.__class__")))
    (nfS : PySem.W.findIn K (.ref cS) "ref" = some none)
    (xB : K.lookup cB = some (excClassObj "BadRef" qB cB NB bsB [.ref cF, .type "ValueError", .type "Exception", .type "BaseException", .type "object"] true snB subB abB colB ddB mB_0 mB_1 mB_2 mB_3 mB_5 "ValueError.__new__"))
    (saB : PySem.W.findIn K (.ref cB) "__setattr__" = some (some (.builtin "object.__setattr__")))
    (kCB : PySem.W.keepIn K (.ref cB) = true)
    (iCB : PySem.W.findIn K (.ref cB) "__init__" = some (some (.ref iF)))
    (gaB : PySem.W.findIn K (.ref cB) "__getattribute__" = some (some (.builtin "BaseException.__getattribute__")))
    (ggB : PySem.W.findIn K (.ref cB) "__getattr__" = some none)
    (haB : PySem.W.findIn K (.ref cB) "__class__" = some (some (.builtin "object.__class__")))
    (nfB : PySem.W.findIn K (.ref cB) "why" = some none)
    (e_hn : PySem.W.specialIn K (.builtin "object.__class__") "__get__" = some (some (.builtin "getset_descriptor.__get__")))
    (e_ht : PySem.W.takesIn K (.builtin "object.__class__") = some true)
    (tiS : PySem.W.typeIn K (.ref iS) = some (.type "function"))
    (liS : K.lookup iS = some ⟨ociS, odiS, .func (PySem.W.fnOf "__init__" "Stale.__init__" (C8.fnArgs s_Stale_init) (C8.fnBody s_Stale_init) (C8.fnScope s_Stale_init) .none kViS dciS pmiS aniS cdiS ctiS), sliS⟩)
    (ciS : PySem.W.codeIn K cdiS "Stale.__init__" = true)
    (tiF : PySem.W.typeIn K (.ref iF) = some (.type "function"))
    (liF : K.lookup iF = some ⟨ociF, odiF, .func (PySem.W.fnOf "__init__" "ForkError.__init__" (C8.fnArgs s_ForkError_init) (C8.fnBody s_ForkError_init) (C8.fnScope s_ForkError_init) (.ref dT) kViF dciF pmiF aniF cdiF ctiF), sliF⟩)
    (ciF : PySem.W.codeIn K cdiF "ForkError.__init__" = true)
    (kiF : PySem.W.keepIn K (.ref iF) = true)
    (e_dT : K.lookup dT = some ⟨tcd, tod, .seq #[.str (Str.ofString "") tkd] tn, tsl⟩)
    (e_dN : K.lookup dN = some ⟨tcn, ton, .seq #[.none] tnn, tsn⟩)
    (g_NS : PySem.W.nsIn K mainGlobals "NEW_STATE" = some (some (.ref ns0)))
    (t_ns : K.lookup ns0 = some ⟨.type "tuple", no, .seq #[.ref r0, .ref h0, .ref l0] nn, nsl⟩)
    (t_r : K.lookup r0 = some ⟨.type "tuple", ro, .seq #[] rn, rsl⟩)
    (t_h : K.lookup h0 = some ⟨.type "tuple", ho, .seq #[.str (Str.ofString "ref") tk1, .str (Str.ofString "main") tk2] hn, hsl⟩)
    (t_l : K.lookup l0 = some ⟨.type "tuple", lo, .seq #[] ln, lsl⟩)
    (nTabs : PySem.W.noTabs K = true) (hTb : ∃ cd Pt, TabD mg h "_law_previewed" cd Pt)
    : LamX.LawAtS l w K C8.CX0 10 63 "_law_script" mg fa h := by
  have e := hfa.symm.trans (PySem.W.mg_of X G a40)
  cases e
  have T : Top K mg := {
    d_is_id := ⟨_, _, ⟨⟨⟨_, _, _, _, _, _, _, _, _, _, rfl, l1, c1⟩⟩, PySem.W.mg_of X G a1, k1⟩, rfl⟩
    d_is_id_or_none := ⟨_, _, ⟨⟨⟨_, _, _, _, _, _, _, _, _, _, rfl, l2, c2⟩⟩, PySem.W.mg_of X G a2, k2⟩, rfl⟩
    d_is_ref := ⟨_, _, ⟨⟨⟨_, _, _, _, _, _, _, _, _, _, rfl, l3, c3⟩⟩, PySem.W.mg_of X G a3, k3⟩, rfl⟩
    d_is_short_ref := ⟨_, _, ⟨⟨⟨_, _, _, _, _, _, _, _, _, _, rfl, l4, c4⟩⟩, PySem.W.mg_of X G a4, k4⟩, rfl⟩
    d_is_text := ⟨_, _, ⟨⟨⟨_, _, _, _, _, _, _, _, _, _, rfl, l5, c5⟩⟩, PySem.W.mg_of X G a5, k5⟩, rfl⟩
    d_is_message := ⟨_, _, ⟨⟨⟨_, _, _, _, _, _, _, _, _, _, rfl, l6, c6⟩⟩, PySem.W.mg_of X G a6, k6⟩, rfl⟩
    d_is_time := ⟨_, _, ⟨⟨⟨_, _, _, _, _, _, _, _, _, _, rfl, l7, c7⟩⟩, PySem.W.mg_of X G a7, k7⟩, rfl⟩
    d_is_count := ⟨_, _, ⟨⟨⟨_, _, _, _, _, _, _, _, _, _, rfl, l8, c8⟩⟩, PySem.W.mg_of X G a8, k8⟩, rfl⟩
    d_ascending := ⟨_, _, ⟨⟨⟨_, _, _, _, _, _, _, _, _, _, rfl, l9, c9⟩⟩, PySem.W.mg_of X G a9, k9⟩, rfl⟩
    d_prefixes := ⟨_, _, ⟨⟨⟨_, _, _, _, _, _, _, _, _, _, rfl, l10, c10⟩⟩, PySem.W.mg_of X G a10, k10⟩, rfl⟩
    d_have_prefixes := ⟨_, _, ⟨⟨⟨_, _, _, _, _, _, _, _, _, _, rfl, l11, c11⟩⟩, PySem.W.mg_of X G a11, k11⟩, rfl⟩
    d__is_word := ⟨_, _, ⟨⟨⟨_, _, _, _, _, _, _, _, _, _, rfl, l12, c12⟩⟩, PySem.W.mg_of X G a12, k12⟩, rfl⟩
    d_is_state := ⟨_, _, ⟨⟨⟨_, _, _, _, _, _, _, _, _, _, rfl, l13, c13⟩⟩, PySem.W.mg_of X G a13, k13⟩, rfl⟩
    d_is_head := ⟨_, _, ⟨⟨⟨_, _, _, _, _, _, _, _, _, _, rfl, l14, c14⟩⟩, PySem.W.mg_of X G a14, k14⟩, rfl⟩
    d_is_log_name := ⟨_, _, ⟨⟨⟨_, _, _, _, _, _, _, _, _, _, rfl, l15, c15⟩⟩, PySem.W.mg_of X G a15, k15⟩, rfl⟩
    d_touch := ⟨_, _, ⟨⟨⟨_, _, _, _, _, _, _, _, _, _, rfl, l16, c16⟩⟩, PySem.W.mg_of X G a16, k16⟩, rfl⟩
    d_led_to := ⟨_, _, ⟨⟨⟨_, _, _, _, _, _, _, _, _, _, rfl, l17, c17⟩⟩, PySem.W.mg_of X G a17, k17⟩, rfl⟩
    d_moved := ⟨_, _, ⟨⟨⟨_, _, _, _, _, _, _, _, _, _, rfl, l18, c18⟩⟩, PySem.W.mg_of X G a18, k18⟩, rfl⟩
    d_after_moves := ⟨_, _, ⟨⟨⟨_, _, _, _, _, _, _, _, _, _, rfl, l19, c19⟩⟩, PySem.W.mg_of X G a19, k19⟩, rfl⟩
    d_sorted_rows := ⟨_, _, ⟨⟨⟨_, _, _, _, _, _, _, _, _, _, rfl, l20, c20⟩⟩, PySem.W.mg_of X G a20, k20⟩, rfl⟩
    d_are_rows := ⟨_, _, ⟨⟨⟨_, _, _, _, _, _, _, _, _, _, rfl, l21, c21⟩⟩, PySem.W.mg_of X G a21, k21⟩, rfl⟩
    d__are_entries := ⟨_, _, ⟨⟨⟨_, _, _, _, _, _, _, _, _, _, rfl, l22, c22⟩⟩, PySem.W.mg_of X G a22, k22⟩, rfl⟩
    d__is_entry := ⟨_, _, ⟨⟨⟨_, _, _, _, _, _, _, _, _, _, rfl, l23, c23⟩⟩, PySem.W.mg_of X G a23, k23⟩, rfl⟩
    d_l_cell_at := ⟨_, _, ⟨⟨⟨_, _, _, _, _, _, _, _, _, _, rfl, l24, c24⟩⟩, PySem.W.mg_of X G a24, k24⟩, rfl⟩
    d_l_source := ⟨_, _, ⟨⟨⟨_, _, _, _, _, _, _, _, _, _, rfl, l25, c25⟩⟩, PySem.W.mg_of X G a25, k25⟩, rfl⟩
    d_l_draw := ⟨_, _, ⟨⟨⟨_, _, _, _, _, _, _, _, _, _, rfl, l26, c26⟩⟩, PySem.W.mg_of X G a26, k26⟩, rfl⟩
    d_l_pick := ⟨_, _, ⟨⟨⟨_, _, _, _, _, _, _, _, _, _, rfl, l27, c27⟩⟩, PySem.W.mg_of X G a27, k27⟩, rfl⟩
    d_l_ref := ⟨_, _, ⟨⟨⟨_, _, _, _, _, _, _, _, _, _, rfl, l28, c28⟩⟩, PySem.W.mg_of X G a28, k28⟩, rfl⟩
    d_l_id := ⟨_, _, ⟨⟨⟨_, _, _, _, _, _, _, _, _, _, rfl, l29, c29⟩⟩, PySem.W.mg_of X G a29, k29⟩, rfl⟩
    d_l_new := ⟨_, _, ⟨⟨⟨_, _, _, _, _, _, _, _, _, _, rfl, l30, c30⟩⟩, PySem.W.mg_of X G a30, k30⟩, rfl⟩
    d_l_at_head := ⟨_, _, ⟨⟨⟨_, _, _, _, _, _, _, _, _, _, rfl, l31, c31⟩⟩, PySem.W.mg_of X G a31, k31⟩, rfl⟩
    d_l_above := ⟨_, _, ⟨⟨⟨_, _, _, _, _, _, _, _, _, _, rfl, l32, c32⟩⟩, PySem.W.mg_of X G a32, k32⟩, rfl⟩
    d_l_behind := ⟨_, _, ⟨⟨⟨_, _, _, _, _, _, _, _, _, _, rfl, l33, c33⟩⟩, PySem.W.mg_of X G a33, k33⟩, rfl⟩
    d_l_stands := ⟨_, _, ⟨⟨⟨_, _, _, _, _, _, _, _, _, _, rfl, l34, c34⟩⟩, PySem.W.mg_of X G a34, k34⟩, rfl⟩
    d_l_noted := ⟨_, _, ⟨⟨⟨_, _, _, _, _, _, _, _, _, _, rfl, l35, c35⟩⟩, PySem.W.mg_of X G a35, k35⟩, rfl⟩
    d_l_finished := ⟨_, _, ⟨⟨⟨_, _, _, _, _, _, _, _, _, _, rfl, l36, c36⟩⟩, PySem.W.mg_of X G a36, k36⟩, rfl⟩
    d_l_moves := ⟨_, _, ⟨⟨⟨_, _, _, _, _, _, _, _, _, _, rfl, l37, c37⟩⟩, PySem.W.mg_of X G a37, k37⟩, rfl⟩
    d_l_asked := ⟨_, _, ⟨⟨⟨_, _, _, _, _, _, _, _, _, _, rfl, l38, c38⟩⟩, PySem.W.mg_of X G a38, k38⟩, rfl⟩
    d_l_previewed := ⟨_, _, ⟨⟨⟨_, _, _, _, _, _, _, _, _, _, rfl, l39, c39⟩⟩, PySem.W.mg_of X G a39, k39⟩, rfl⟩
    d_law := ⟨_, _, ⟨⟨⟨_, _, _, _, _, _, _, _, _, _, rfl, l40, c40⟩⟩, PySem.W.mg_of X G a40, k40⟩, rfl⟩
    z_KeyError := PySem.W.mg_none_of X G z_KeyError
    z_TypeError := PySem.W.mg_none_of X G z_TypeError
    z_ValueError := PySem.W.mg_none_of X G z_ValueError
    z_all := PySem.W.mg_none_of X G z_all
    z_any := PySem.W.mg_none_of X G z_any
    z_bool := PySem.W.mg_none_of X G z_bool
    z_dict := PySem.W.mg_none_of X G z_dict
    z_int := PySem.W.mg_none_of X G z_int
    z_isinstance := PySem.W.mg_none_of X G z_isinstance
    z_len := PySem.W.mg_none_of X G z_len
    z_list := PySem.W.mg_none_of X G z_list
    z_range := PySem.W.mg_none_of X G z_range
    z_set := PySem.W.mg_none_of X G z_set
    z_sorted := PySem.W.mg_none_of X G z_sorted
    z_str := PySem.W.mg_none_of X G z_str
    z_tuple := PySem.W.mg_none_of X G z_tuple
    z_zip := PySem.W.mg_none_of X G z_zip
    g_HEX_DIGITS := ⟨_, PySem.W.mg_of X G g_HEX_DIGITS, ⟨_, rfl⟩⟩
    g_REF_SIGNS := ⟨_, PySem.W.mg_of X G g_REF_SIGNS, ⟨_, rfl⟩⟩
    g_LONGEST_WORD := ⟨_, PySem.W.mg_of X G g_LONGEST_WORD, ⟨_, rfl⟩⟩
    g_LONGEST_TEXT := ⟨_, PySem.W.mg_of X G g_LONGEST_TEXT, ⟨_, rfl⟩⟩
    g_LONGEST_MESSAGE := ⟨_, PySem.W.mg_of X G g_LONGEST_MESSAGE, ⟨_, rfl⟩⟩
    g_LATEST := ⟨_, PySem.W.mg_of X G g_LATEST, ⟨_, rfl⟩⟩ }
  have cfF : CF K "ForkError" "ValueError.__new__" VE cF := ⟨_, _, _, _, _, _, _, _, _, _, _, _, _, xF⟩
  have cfS : CF K "Stale" "ValueError.__new__" (.ref cF :: VE) cS := ⟨_, _, _, _, _, _, _, _, _, _, _, _, _, xS⟩
  have cfB : CF K "BadRef" "ValueError.__new__" (.ref cF :: VE) cB := ⟨_, _, _, _, _, _, _, _, _, _, _, _, _, xB⟩
  have hbE : ((Value.ref cF :: VE).contains (.type "BaseException")) = true := rfl
  have hbO : ((Value.ref cF :: VE).contains (.type "object")) = true := rfl
  have nBS : cB ≠ cS := fun z => by
    subst z
    exact absurd (cfB.name cfS) (by decide +kernel)
  have nFS : cF ≠ cS := fun z => by
    subst z
    exact absurd (cfF.name cfS) (by decide +kernel)
  have refne : ∀ {a b : Addr}, a ≠ b → (Value.ref b == .ref a) = false := fun {a b} h => by
    cases e : (Value.ref b == .ref a) with
    | false => rfl
    | true =>
      have := eq_of_beq e
      cases this
      exact absurd rfl h
  have FS : C8.Fun K "__init__" "Stale.__init__" s_Stale_init iS (PySem.W.fnOf "__init__" "Stale.__init__" (C8.fnArgs s_Stale_init) (C8.fnBody s_Stale_init) (C8.fnScope s_Stale_init) .none kViS dciS pmiS aniS cdiS ctiS) := ⟨⟨_, _, _, _, _, _, _, _, _, _, rfl, liS, ciS⟩⟩
  have FD : FunD K "__init__" "ForkError.__init__" (C8.fnArgs s_ForkError_init) (C8.fnBody s_ForkError_init) (C8.fnScope s_ForkError_init) [V.str ""] [] iF (PySem.W.fnOf "__init__" "ForkError.__init__" (C8.fnArgs s_ForkError_init) (C8.fnBody s_ForkError_init) (C8.fnScope s_ForkError_init) (.ref dT) kViF dciF pmiF aniF cdiF ctiF) :=
    ⟨⟨_, _, _, _, _, _, _, _, _, _, rfl, liF, ciF, .inr ⟨(fun z => by cases z), dT, _, [.str (Str.ofString "") tkd], tn, rfl, e_dT, rfl, .cons ⟨tkd, rfl⟩ .nil⟩, .inl rfl⟩, kiF⟩
  have eS : ErrC K mg "Stale" "ref" cS iS := ⟨PySem.W.mg_of X G eS_mg, cfS.oex (by show PySem.HandSPX.refsVE VE = true; decide +kernel) saS kCS hbE,
    cfS.xc PySem.F.excBase_ValueError (rve_ok _) (rve_pass _) hbO hbE saS kCS iCS tiS gaS ggS haS e_hn e_ht, nfS, _, fun P w base => ini_Stale FS, FS.binds rfl (fun _ _ _ _ _ _ us hl => match us, hl with | [_, _], _ => rfl)⟩
  have eB : ErrC K mg "BadRef" "why" cB iF := by
    refine ⟨PySem.W.mg_of X G eB_mg, cfB.oex (by show PySem.HandSPX.refsVE VE = true; decide +kernel) saB kCB hbE,
      cfB.xc PySem.F.excBase_ValueError (rve_ok _) (rve_pass _) hbO hbE saB kCB iCB tiF gaB ggB haB e_hn e_ht, nfB, _, fun P w base => ini_ForkError ⟨⟨_, _, _, _, _, _, _, _, _, _, rfl, liF, ciF⟩⟩, ?_⟩
    obtain ⟨ds, v, b⟩ := FD.binds1 (ps := ["self", "why"]) 2 1 (fun z => by cases z) rfl (fun T kV doc pm an cdv ct us its h1 h2 => match us, its, h1, h2 with | [_, _], [_], _, _ => ⟨_, rfl, rfl⟩)
    cases v
    exact b
  have FR : FunD K "__init__" "Refs.__init__" (C8.fnArgs s_Refs_init) (C8.fnBody s_Refs_init) (C8.fnScope s_Refs_init) [V.non] [] fmRefs_init (PySem.W.fnOf "__init__" "Refs.__init__" (C8.fnArgs s_Refs_init) (C8.fnBody s_Refs_init) (C8.fnScope s_Refs_init) (.ref dN) kVmRefs_init dcmRefs_init pmmRefs_init anmRefs_init cdmRefs_init ctmRefs_init) :=
    ⟨⟨_, _, _, _, _, _, _, _, _, _, rfl, lmRefs_init, cmRefs_init, .inr ⟨(fun z => by cases z), dN, _, [.none], tnn, rfl, e_dN, rfl, .cons rfl .nil⟩, .inl rfl⟩, kmRefs_init⟩
  have iR : ∃ f fd ds, Mk K CR f ∧ C8.Fun K "__init__" "Refs.__init__" s_Refs_init f fd ∧ Vals [V.non] ds ∧ Binds K fd ["self", "state"] ds := by
    obtain ⟨ds, v, b⟩ := FR.binds1 (ps := ["self", "state"]) 1 0 (fun z => by cases z) rfl (fun T kV doc pm an cdv ct us its h1 h2 => match us, its, h1, h2 with | [_], [_], _, _ => ⟨_, rfl, rfl⟩)
    exact ⟨_, _, ds, ⟨cR_mk, amRefs_init, imRefs_init, cR_kc⟩, ⟨⟨_, _, _, _, _, _, _, _, _, _, rfl, lmRefs_init, cmRefs_init⟩⟩, v, b⟩
  have TR : TopR K mg CE CR cS cB iS iF ns0 r0 h0 l0 := { T with
    cE := ⟨cE_pg, cE_hd, cE_po, cE_sa⟩
    cR := ⟨cR_pg, cR_hd, cR_po, cR_sa⟩
    pEdit := ⟨p_ne, p_eq, p_ob⟩
    ne := fun z => by
      have h := amEdit_stand
      rw [z, p_st] at h
      cases h
    mE := PySem.W.mg_of X G eE_mg
    mR := PySem.W.mg_of X G eR_mg
    m_Edit_stand := ⟨_, _, ⟨⟨_, _, _, _, _, _, _, _, _, _, rfl, lmEdit_stand, cmEdit_stand⟩⟩, ⟨amEdit_stand, imEdit_stand, kmEdit_stand⟩, rfl⟩
    m_Edit_finish := ⟨_, _, ⟨⟨_, _, _, _, _, _, _, _, _, _, rfl, lmEdit_finish, cmEdit_finish⟩⟩, ⟨amEdit_finish, imEdit_finish, kmEdit_finish⟩, rfl⟩
    m_Edit_drop := ⟨_, _, ⟨⟨_, _, _, _, _, _, _, _, _, _, rfl, lmEdit_drop, cmEdit_drop⟩⟩, ⟨amEdit_drop, imEdit_drop, kmEdit_drop⟩, rfl⟩
    m_Edit_moves := ⟨_, _, ⟨⟨_, _, _, _, _, _, _, _, _, _, rfl, lmEdit_moves, cmEdit_moves⟩⟩, ⟨amEdit_moves, imEdit_moves, kmEdit_moves⟩, rfl⟩
    m_Edit_behind := ⟨_, _, ⟨⟨_, _, _, _, _, _, _, _, _, _, rfl, lmEdit_behind, cmEdit_behind⟩⟩, ⟨amEdit_behind, imEdit_behind, kmEdit_behind⟩, rfl⟩
    m_Editcheck_open := ⟨_, _, ⟨⟨_, _, _, _, _, _, _, _, _, _, rfl, lmEditcheck_open, cmEditcheck_open⟩⟩, ⟨amEditcheck_open, imEditcheck_open, kmEditcheck_open⟩, rfl⟩
    m_Editcall := ⟨_, _, ⟨⟨_, _, _, _, _, _, _, _, _, _, rfl, lmEditcall, cmEditcall⟩⟩, ⟨amEditcall, imEditcall, kmEditcall⟩, rfl⟩
    m_Editids := ⟨_, _, ⟨⟨_, _, _, _, _, _, _, _, _, _, rfl, lmEditids, cmEditids⟩⟩, ⟨amEditids, imEditids, kmEditids⟩, rfl⟩
    m_Refs_getitem := ⟨_, _, ⟨⟨_, _, _, _, _, _, _, _, _, _, rfl, lmRefs_getitem, cmRefs_getitem⟩⟩, ⟨amRefs_getitem, imRefs_getitem, kmRefs_getitem⟩, rfl⟩
    m_Refs_contains := ⟨_, _, ⟨⟨_, _, _, _, _, _, _, _, _, _, rfl, lmRefs_contains, cmRefs_contains⟩⟩, ⟨amRefs_contains, imRefs_contains, kmRefs_contains⟩, rfl⟩
    m_Refs_len := ⟨_, _, ⟨⟨_, _, _, _, _, _, _, _, _, _, rfl, lmRefs_len, cmRefs_len⟩⟩, ⟨amRefs_len, imRefs_len, kmRefs_len⟩, rfl⟩
    m_Refs_names := ⟨_, _, ⟨⟨_, _, _, _, _, _, _, _, _, _, rfl, lmRefs_names, cmRefs_names⟩⟩, ⟨amRefs_names, imRefs_names, kmRefs_names⟩, rfl⟩
    m_Refs_head := ⟨_, _, ⟨⟨_, _, _, _, _, _, _, _, _, _, rfl, lmRefs_head, cmRefs_head⟩⟩, ⟨amRefs_head, imRefs_head, kmRefs_head⟩, rfl⟩
    m_Refs_at_head := ⟨_, _, ⟨⟨_, _, _, _, _, _, _, _, _, _, rfl, lmRefs_at_head, cmRefs_at_head⟩⟩, ⟨amRefs_at_head, imRefs_at_head, kmRefs_at_head⟩, rfl⟩
    m_Refs_state := ⟨_, _, ⟨⟨_, _, _, _, _, _, _, _, _, _, rfl, lmRefs_state, cmRefs_state⟩⟩, ⟨amRefs_state, imRefs_state, kmRefs_state⟩, rfl⟩
    m_Refs_log := ⟨_, _, ⟨⟨_, _, _, _, _, _, _, _, _, _, rfl, lmRefs_log, cmRefs_log⟩⟩, ⟨amRefs_log, imRefs_log, kmRefs_log⟩, rfl⟩
    m_Refs_edit := ⟨_, _, ⟨⟨_, _, _, _, _, _, _, _, _, _, rfl, lmRefs_edit, cmRefs_edit⟩⟩, ⟨amRefs_edit, imRefs_edit, kmRefs_edit⟩, rfl⟩
    m_Refs_lock := ⟨_, _, ⟨⟨_, _, _, _, _, _, _, _, _, _, rfl, lmRefs_lock, cmRefs_lock⟩⟩, ⟨amRefs_lock, imRefs_lock, kmRefs_lock⟩, rfl⟩
    m_Refstake_over := ⟨_, _, ⟨⟨_, _, _, _, _, _, _, _, _, _, rfl, lmRefstake_over, cmRefstake_over⟩⟩, ⟨amRefstake_over, imRefstake_over, kmRefstake_over⟩, rfl⟩
    m_Refs_become := ⟨_, _, ⟨⟨_, _, _, _, _, _, _, _, _, _, rfl, lmRefs_become, cmRefs_become⟩⟩, ⟨amRefs_become, imRefs_become, kmRefs_become⟩, rfl⟩
    nE_refs := nE_refs
    nE_note := nE_note
    nE_calls := nE_calls
    nE_new_head := nE_new_head
    nEclosed := nEclosed
    nR_locks := nR_locks
    nR_table := nR_table
    nR_head := nR_head
    nR_logs := nR_logs
    eS := eS
    eB := eB
    iE := ⟨_, _, ⟨cE_mk, amEdit_init, imEdit_init, cE_kc⟩, ⟨⟨_, _, _, _, _, _, _, _, _, _, rfl, lmEdit_init, cmEdit_init⟩⟩, rfl⟩
    iR := iR
    kP := ⟨_, _, ⟨amEdit_point, imEdit_point, kmEdit_point⟩, ⟨⟨_, _, _, _, _, _, _, _, _, _, rfl, lmEdit_point, cmEdit_point⟩⟩, rfl⟩
    kD := ⟨_, _, ⟨amEdit_delete, imEdit_delete, kmEdit_delete⟩, ⟨⟨_, _, _, _, _, _, _, _, _, _, rfl, lmEdit_delete, cmEdit_delete⟩⟩, rfl⟩
    g_NEW_STATE := ⟨_, PySem.W.mg_of X G g_NS, rfl⟩
    kS := ⟨_, _, _, t_ns, rfl, rfl, (by show 3 ≤ sizeLine; decide), .cons rfl (.cons rfl (.cons rfl .nil))⟩
    kr := ⟨_, _, _, t_r, rfl, rfl, (by show 0 ≤ sizeLine; decide), .nil⟩
    kh := ⟨_, _, _, t_h, rfl, rfl, (by show 2 ≤ sizeLine; decide), .cons ⟨_, rfl⟩ (.cons ⟨_, rfl⟩ .nil)⟩
    kl := ⟨_, _, _, t_l, rfl, rfl, (by show 0 ≤ sizeLine; decide), .nil⟩
    exSS := cfS.exm cfS hbE (by rw [List.contains_cons, beq_self_eq_true]; rfl)
    exBS := cfB.exm cfS hbE (by rw [List.contains_cons, List.contains_cons, refne nBS, refne nFS]; rfl)
    exBB := cfB.exm cfB hbE (by rw [List.contains_cons, beq_self_eq_true]; rfl) }
  have iR2 : ∃ f fd, Mk K CR f ∧ C8.Fun K "__init__" "Refs.__init__" s_Refs_init f fd ∧ Binds K fd ["self", "state"] [] := by
    obtain ⟨ds, v, b⟩ := FR.binds1 (ps := ["self", "state"]) 2 1 (fun z => by cases z) rfl (fun T kV doc pm an cdv ct us its h1 h2 => match us, its, h1, h2 with | [_, _], [_], _, _ => ⟨_, rfl, rfl⟩)
    cases v
    exact ⟨_, _, ⟨cR_mk, amRefs_init, imRefs_init, cR_kc⟩, ⟨⟨_, _, _, _, _, _, _, _, _, _, rfl, lmRefs_init, cmRefs_init⟩⟩, b⟩
  have TS : TopS K mg CE CR cS cB iS iF ns0 r0 h0 l0 := { TR with
    iR2 := iR2 }
  obtain ⟨cd, Pt, hTD⟩ := hTb
  obtain ⟨fp, fdp, Dp0, dfp⟩ := T.d_l_previewed
  have DC : IsDefC K mg "_law_previewed" s_l_previewed cd := by
    obtain ⟨oc, od, dV, kV, doc, pm, an, cdv, ct, osl, e, lk, hcd⟩ := id Dp0.fn.ex
    exact ⟨fp, fdp, Dp0, dfp, hTD.code X Dp0.mgf lk⟩
  obtain ⟨fa', o', fd', t1, t2, t3, t4, tC, tT⟩ := hTD
  have nT : K.lookup Pt = none := notab_none X nTabs tT
  refine ⟨PySem.W.fnOf "law" "law" (C8.fnArgs s_law) (C8.fnBody s_law) (C8.fnScope s_law) .none kV40 dc40 pm40 an40 cd40 ct40, [(cd, Pt)], spLawT K Pt, fun p hp => ?_, fun p hp => ?_, fun p hp => ?_, fun s v => .of_eq rfl, fun H a ns hl _ hT hS => ⟨a, ns, rfl, hS, hl, fun p hp => ?_, fun _ => rfl⟩, fun base _ _ hB => ok_law TS DC (hB (cd, Pt) (List.mem_singleton.mpr rfl)) ⟨⟨_, _, _, _, _, _, _, _, _, _, rfl, l40, c40⟩⟩⟩
  · rw [List.mem_singleton.mp hp]; exact tT
  · rw [List.mem_singleton.mp hp]; exact nT
  · rw [List.mem_singleton.mp hp]; exact tC
  · rw [List.mem_singleton.mp hp]; exact LamX.TabS.nil (hT (cd, Pt) (List.mem_singleton.mpr rfl))
end Fk
open PySem PySem.W PyProof.Rows
set_option maxHeartbeats 0 in
set_option pp.maxSteps 25 in
theorem PySem.Challenge.cw_forkhaul_k32_states_there_and_back_holds : PySem.Challenge.rw_forkhaul_k32_states_there_and_back.Holds := by
  w_on; o_law; k_head; (case hw => w_witness2)
  k_fill
  refine Fk.walk_ofTabs (l := PySem.Challenge.rw_forkhaul_k32_states_there_and_back) (n := 63) (k := 10) (x := "_law_script") (CX := fun _ => C8.CX0) (ys := ["_law_previewed"]) rfl (by decide) rfl ⟨rfl, by decide, by decide⟩ ?R (fun w h Y => PySem.W.km_in_of Y) ?F (fun _ _ _ _ _ h => h)
  case R => intro y hy; rw [List.mem_singleton.mp hy]; first | rfl | decide +kernel | k_is
  case F =>
    intro w mg fa h Y KX G hmg tabs
    refine' Fk.all_mk KX G hmg ?a1 ?l1 ?c1 ?k1 ?a2 ?l2 ?c2 ?k2 ?a3 ?l3 ?c3 ?k3 ?a4 ?l4 ?c4 ?k4 ?a5 ?l5 ?c5 ?k5 ?a6 ?l6 ?c6 ?k6 ?a7 ?l7 ?c7 ?k7 ?a8 ?l8 ?c8 ?k8 ?a9 ?l9 ?c9 ?k9 ?a10 ?l10 ?c10 ?k10 ?a11 ?l11 ?c11 ?k11 ?a12 ?l12 ?c12 ?k12 ?a13 ?l13 ?c13 ?k13 ?a14 ?l14 ?c14 ?k14 ?a15 ?l15 ?c15 ?k15 ?a16 ?l16 ?c16 ?k16 ?a17 ?l17 ?c17 ?k17 ?a18 ?l18 ?c18 ?k18 ?a19 ?l19 ?c19 ?k19 ?a20 ?l20 ?c20 ?k20 ?a21 ?l21 ?c21 ?k21 ?a22 ?l22 ?c22 ?k22 ?a23 ?l23 ?c23 ?k23 ?a24 ?l24 ?c24 ?k24 ?a25 ?l25 ?c25 ?k25 ?a26 ?l26 ?c26 ?k26 ?a27 ?l27 ?c27 ?k27 ?a28 ?l28 ?c28 ?k28 ?a29 ?l29 ?c29 ?k29 ?a30 ?l30 ?c30 ?k30 ?a31 ?l31 ?c31 ?k31 ?a32 ?l32 ?c32 ?k32 ?a33 ?l33 ?c33 ?k33 ?a34 ?l34 ?c34 ?k34 ?a35 ?l35 ?c35 ?k35 ?a36 ?l36 ?c36 ?k36 ?a37 ?l37 ?c37 ?k37 ?a38 ?l38 ?c38 ?k38 ?a39 ?l39 ?c39 ?k39 ?a40 ?l40 ?c40 ?k40 ?z_KeyError ?z_TypeError ?z_ValueError ?z_all ?z_any ?z_bool ?z_dict ?z_int ?z_isinstance ?z_len ?z_list ?z_range ?z_set ?z_sorted ?z_str ?z_tuple ?z_zip ?g_HEX_DIGITS ?g_REF_SIGNS ?g_LONGEST_WORD ?g_LONGEST_TEXT ?g_LONGEST_MESSAGE ?g_LATEST ?eE_mg ?eR_mg ?eF_mg ?eS_mg ?eB_mg ?cE_pg ?cE_hd ?cE_po ?cE_sa ?cE_mk ?cE_kc ?cR_pg ?cR_hd ?cR_po ?cR_sa ?cR_mk ?cR_kc ?p_ne ?p_eq ?p_ob ?p_st ?amEdit_stand ?imEdit_stand ?lmEdit_stand ?cmEdit_stand ?kmEdit_stand ?amEdit_finish ?imEdit_finish ?lmEdit_finish ?cmEdit_finish ?kmEdit_finish ?amEdit_drop ?imEdit_drop ?lmEdit_drop ?cmEdit_drop ?kmEdit_drop ?amEdit_moves ?imEdit_moves ?lmEdit_moves ?cmEdit_moves ?kmEdit_moves ?amEdit_behind ?imEdit_behind ?lmEdit_behind ?cmEdit_behind ?kmEdit_behind ?amEditcheck_open ?imEditcheck_open ?lmEditcheck_open ?cmEditcheck_open ?kmEditcheck_open ?amEditcall ?imEditcall ?lmEditcall ?cmEditcall ?kmEditcall ?amEditids ?imEditids ?lmEditids ?cmEditids ?kmEditids ?amEdit_init ?imEdit_init ?lmEdit_init ?cmEdit_init ?kmEdit_init ?amEdit_point ?imEdit_point ?lmEdit_point ?cmEdit_point ?kmEdit_point ?amEdit_delete ?imEdit_delete ?lmEdit_delete ?cmEdit_delete ?kmEdit_delete ?amRefs_getitem ?imRefs_getitem ?lmRefs_getitem ?cmRefs_getitem ?kmRefs_getitem ?amRefs_contains ?imRefs_contains ?lmRefs_contains ?cmRefs_contains ?kmRefs_contains ?amRefs_len ?imRefs_len ?lmRefs_len ?cmRefs_len ?kmRefs_len ?amRefs_names ?imRefs_names ?lmRefs_names ?cmRefs_names ?kmRefs_names ?amRefs_head ?imRefs_head ?lmRefs_head ?cmRefs_head ?kmRefs_head ?amRefs_at_head ?imRefs_at_head ?lmRefs_at_head ?cmRefs_at_head ?kmRefs_at_head ?amRefs_state ?imRefs_state ?lmRefs_state ?cmRefs_state ?kmRefs_state ?amRefs_log ?imRefs_log ?lmRefs_log ?cmRefs_log ?kmRefs_log ?amRefs_edit ?imRefs_edit ?lmRefs_edit ?cmRefs_edit ?kmRefs_edit ?amRefs_lock ?imRefs_lock ?lmRefs_lock ?cmRefs_lock ?kmRefs_lock ?amRefstake_over ?imRefstake_over ?lmRefstake_over ?cmRefstake_over ?kmRefstake_over ?amRefs_become ?imRefs_become ?lmRefs_become ?cmRefs_become ?kmRefs_become ?amRefs_init ?imRefs_init ?lmRefs_init ?cmRefs_init ?kmRefs_init ?nE_refs ?nE_note ?nE_calls ?nE_new_head ?nEclosed ?nR_locks ?nR_table ?nR_head ?nR_logs ?xF ?xS ?saS ?kCS ?iCS ?gaS ?ggS ?haS ?nfS ?xB ?saB ?kCB ?iCB ?gaB ?ggB ?haB ?nfB ?e_hn ?e_ht ?tiS ?liS ?ciS ?tiF ?liF ?ciF ?kiF ?e_dT ?e_dN ?g_NS ?t_ns ?t_r ?t_h ?t_l ?nTabs (tabs _ (List.mem_singleton.mpr rfl))
    (case a1 => k_is); (case l1 => k_is); (case c1 => k_is); (case k1 => k_is); (case a2 => k_is); (case l2 => k_is); (case c2 => k_is); (case k2 => k_is); (case a3 => k_is); (case l3 => k_is); (case c3 => k_is); (case k3 => k_is); (case a4 => k_is); (case l4 => k_is); (case c4 => k_is); (case k4 => k_is); (case a5 => k_is); (case l5 => k_is); (case c5 => k_is); (case k5 => k_is); (case a6 => k_is); (case l6 => k_is); (case c6 => k_is); (case k6 => k_is); (case a7 => k_is); (case l7 => k_is); (case c7 => k_is); (case k7 => k_is); (case a8 => k_is); (case l8 => k_is); (case c8 => k_is); (case k8 => k_is); (case a9 => k_is); (case l9 => k_is); (case c9 => k_is); (case k9 => k_is); (case a10 => k_is); (case l10 => k_is); (case c10 => k_is); (case k10 => k_is); (case a11 => k_is); (case l11 => k_is); (case c11 => k_is); (case k11 => k_is); (case a12 => k_is); (case l12 => k_is); (case c12 => k_is); (case k12 => k_is); (case a13 => k_is); (case l13 => k_is); (case c13 => k_is); (case k13 => k_is); (case a14 => k_is); (case l14 => k_is); (case c14 => k_is); (case k14 => k_is); (case a15 => k_is); (case l15 => k_is); (case c15 => k_is); (case k15 => k_is); (case a16 => k_is); (case l16 => k_is); (case c16 => k_is); (case k16 => k_is); (case a17 => k_is); (case l17 => k_is); (case c17 => k_is); (case k17 => k_is); (case a18 => k_is); (case l18 => k_is); (case c18 => k_is); (case k18 => k_is); (case a19 => k_is); (case l19 => k_is); (case c19 => k_is); (case k19 => k_is); (case a20 => k_is); (case l20 => k_is); (case c20 => k_is); (case k20 => k_is); (case a21 => k_is); (case l21 => k_is); (case c21 => k_is); (case k21 => k_is); (case a22 => k_is); (case l22 => k_is); (case c22 => k_is); (case k22 => k_is); (case a23 => k_is); (case l23 => k_is); (case c23 => k_is); (case k23 => k_is); (case a24 => k_is); (case l24 => k_is); (case c24 => k_is); (case k24 => k_is); (case a25 => k_is); (case l25 => k_is); (case c25 => k_is); (case k25 => k_is); (case a26 => k_is); (case l26 => k_is); (case c26 => k_is); (case k26 => k_is); (case a27 => k_is); (case l27 => k_is); (case c27 => k_is); (case k27 => k_is); (case a28 => k_is); (case l28 => k_is); (case c28 => k_is); (case k28 => k_is); (case a29 => k_is); (case l29 => k_is); (case c29 => k_is); (case k29 => k_is); (case a30 => k_is); (case l30 => k_is); (case c30 => k_is); (case k30 => k_is); (case a31 => k_is); (case l31 => k_is); (case c31 => k_is); (case k31 => k_is); (case a32 => k_is); (case l32 => k_is); (case c32 => k_is); (case k32 => k_is); (case a33 => k_is); (case l33 => k_is); (case c33 => k_is); (case k33 => k_is); (case a34 => k_is); (case l34 => k_is); (case c34 => k_is); (case k34 => k_is); (case a35 => k_is); (case l35 => k_is); (case c35 => k_is); (case k35 => k_is); (case a36 => k_is); (case l36 => k_is); (case c36 => k_is); (case k36 => k_is); (case a37 => k_is); (case l37 => k_is); (case c37 => k_is); (case k37 => k_is); (case a38 => k_is); (case l38 => k_is); (case c38 => k_is); (case k38 => k_is); (case a39 => k_is); (case l39 => k_is); (case c39 => k_is); (case k39 => k_is); (case a40 => k_is); (case l40 => k_is); (case c40 => k_is); (case k40 => k_is); (case z_KeyError => k_is); (case z_TypeError => k_is); (case z_ValueError => k_is); (case z_all => k_is); (case z_any => k_is); (case z_bool => k_is); (case z_dict => k_is); (case z_int => k_is); (case z_isinstance => k_is); (case z_len => k_is); (case z_list => k_is); (case z_range => k_is); (case z_set => k_is); (case z_sorted => k_is); (case z_str => k_is); (case z_tuple => k_is); (case z_zip => k_is); (case g_HEX_DIGITS => k_is); (case g_REF_SIGNS => k_is); (case g_LONGEST_WORD => k_is); (case g_LONGEST_TEXT => k_is); (case g_LONGEST_MESSAGE => k_is); (case g_LATEST => k_is); (case eE_mg => k_is); (case eR_mg => k_is); (case eF_mg => k_is); (case eS_mg => k_is); (case eB_mg => k_is); (case cE_pg => k_is); (case cE_hd => k_is); (case cE_po => k_is); (case cE_sa => k_is); (case cE_mk => k_is); (case cE_kc => k_is); (case cR_pg => k_is); (case cR_hd => k_is); (case cR_po => k_is); (case cR_sa => k_is); (case cR_mk => k_is); (case cR_kc => k_is); (case p_ne => k_is); (case p_eq => k_is); (case p_ob => k_is); (case p_st => k_is); (case amEdit_stand => k_is); (case imEdit_stand => k_is); (case lmEdit_stand => k_is); (case cmEdit_stand => k_is); (case kmEdit_stand => k_is); (case amEdit_finish => k_is); (case imEdit_finish => k_is); (case lmEdit_finish => k_is); (case cmEdit_finish => k_is); (case kmEdit_finish => k_is); (case amEdit_drop => k_is); (case imEdit_drop => k_is); (case lmEdit_drop => k_is); (case cmEdit_drop => k_is); (case kmEdit_drop => k_is); (case amEdit_moves => k_is); (case imEdit_moves => k_is); (case lmEdit_moves => k_is); (case cmEdit_moves => k_is); (case kmEdit_moves => k_is); (case amEdit_behind => k_is); (case imEdit_behind => k_is); (case lmEdit_behind => k_is); (case cmEdit_behind => k_is); (case kmEdit_behind => k_is); (case amEditcheck_open => k_is); (case imEditcheck_open => k_is); (case lmEditcheck_open => k_is); (case cmEditcheck_open => k_is); (case kmEditcheck_open => k_is); (case amEditcall => k_is); (case imEditcall => k_is); (case lmEditcall => k_is); (case cmEditcall => k_is); (case kmEditcall => k_is); (case amEditids => k_is); (case imEditids => k_is); (case lmEditids => k_is); (case cmEditids => k_is); (case kmEditids => k_is); (case amEdit_init => k_is); (case imEdit_init => k_is); (case lmEdit_init => k_is); (case cmEdit_init => k_is); (case kmEdit_init => k_is); (case amEdit_point => k_is); (case imEdit_point => k_is); (case lmEdit_point => k_is); (case cmEdit_point => k_is); (case kmEdit_point => k_is); (case amEdit_delete => k_is); (case imEdit_delete => k_is); (case lmEdit_delete => k_is); (case cmEdit_delete => k_is); (case kmEdit_delete => k_is); (case amRefs_getitem => k_is); (case imRefs_getitem => k_is); (case lmRefs_getitem => k_is); (case cmRefs_getitem => k_is); (case kmRefs_getitem => k_is); (case amRefs_contains => k_is); (case imRefs_contains => k_is); (case lmRefs_contains => k_is); (case cmRefs_contains => k_is); (case kmRefs_contains => k_is); (case amRefs_len => k_is); (case imRefs_len => k_is); (case lmRefs_len => k_is); (case cmRefs_len => k_is); (case kmRefs_len => k_is); (case amRefs_names => k_is); (case imRefs_names => k_is); (case lmRefs_names => k_is); (case cmRefs_names => k_is); (case kmRefs_names => k_is); (case amRefs_head => k_is); (case imRefs_head => k_is); (case lmRefs_head => k_is); (case cmRefs_head => k_is); (case kmRefs_head => k_is); (case amRefs_at_head => k_is); (case imRefs_at_head => k_is); (case lmRefs_at_head => k_is); (case cmRefs_at_head => k_is); (case kmRefs_at_head => k_is); (case amRefs_state => k_is); (case imRefs_state => k_is); (case lmRefs_state => k_is); (case cmRefs_state => k_is); (case kmRefs_state => k_is); (case amRefs_log => k_is); (case imRefs_log => k_is); (case lmRefs_log => k_is); (case cmRefs_log => k_is); (case kmRefs_log => k_is); (case amRefs_edit => k_is); (case imRefs_edit => k_is); (case lmRefs_edit => k_is); (case cmRefs_edit => k_is); (case kmRefs_edit => k_is); (case amRefs_lock => k_is); (case imRefs_lock => k_is); (case lmRefs_lock => k_is); (case cmRefs_lock => k_is); (case kmRefs_lock => k_is); (case amRefstake_over => k_is); (case imRefstake_over => k_is); (case lmRefstake_over => k_is); (case cmRefstake_over => k_is); (case kmRefstake_over => k_is); (case amRefs_become => k_is); (case imRefs_become => k_is); (case lmRefs_become => k_is); (case cmRefs_become => k_is); (case kmRefs_become => k_is); (case amRefs_init => k_is); (case imRefs_init => k_is); (case lmRefs_init => k_is); (case cmRefs_init => k_is); (case kmRefs_init => k_is); (case nE_refs => k_is); (case nE_note => k_is); (case nE_calls => k_is); (case nE_new_head => k_is); (case nEclosed => k_is); (case nR_locks => k_is); (case nR_table => k_is); (case nR_head => k_is); (case nR_logs => k_is); (case xF => k_is); (case xS => k_is); (case saS => k_is); (case kCS => k_is); (case iCS => k_is); (case gaS => k_is); (case ggS => k_is); (case haS => k_is); (case nfS => k_is); (case xB => k_is); (case saB => k_is); (case kCB => k_is); (case iCB => k_is); (case gaB => k_is); (case ggB => k_is); (case haB => k_is); (case nfB => k_is); (case e_hn => k_is); (case e_ht => k_is); (case tiS => k_is); (case liS => k_is); (case ciS => k_is); (case tiF => k_is); (case liF => k_is); (case ciF => k_is); (case kiF => k_is); (case e_dT => k_is); (case e_dN => k_is); (case g_NS => k_is); (case t_ns => k_is); (case t_r => k_is); (case t_h => k_is); (case t_l => k_is); (case nTabs => first | k_is | exact rfl | kernel_rfl | decide +kernel)

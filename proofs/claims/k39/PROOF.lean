import PyProof.Rows.All
import Wide.All
import OpenK.AllK
import Wide.FinOn
import HandS.ForMost
import HandS.Codes
import HandS.IsInst
import HandS.Wide
import HandS.CallLocal
import HandS.StrMore
import HandS.Replace
import HandS.ReplaceDef
import HandS.ReplaceLit
import HandS.ReplaceList
import Wide.Txt
import HandS.Exc
import HandS.ExcInit
import HandS.Defaults
import HandS.MakeKw
import HandS.TryOnly
import HandS.ExcField
import KE.KExcIs
import KE.KExcInit
import PyProof.P3Eq
import HandS.ExcIs
import HandS.OwnEq
import HandS.Property
import HandS.ExcOwn
import HandS.NamedTupSort
import KE.KOpsOwn
import PyProof.InstNe
import HandS.MakeKwOnly
import PyProof.InstEq
import PyProof.DictUpdate
import PyProof.DictDisplay
import HandS.DictComp
import KE.KEqDict
import HandS.More
import HandS.TryMany
import HandS.WordsDict
import PyProof.Rows.StrMeet
import HandS.RaiseMore
import HandS.TupAny
import KE.KRevSl
import PyProof.SliceList
import HandS.Zip
import HandS.Conv
import PyProof.ListStr
import HandS.Lambda
import HandS.EndTab
import HandS.EndOwn
import PyProof.ReprReads
import PyProof.ReprRoads
import PyProof.ReprLen
import HandS.ListItems
import HandS.Style
import PySem.Challenge.RW_forkhaul_k39_files_merged
import HandS.ClsMeth
import HandS.Star
import HandS.Iter
import PyProof.SumAny
import PyProof.SumWalk
import Flt.Sum
import PyProof.NeKinds
import KE.KEqNest
import HandS.Comp
import HandS.Finally
set_option Elab.async false
set_option linter.all false
set_option maxRecDepth 100000
set_option maxHeartbeats 4000000
/-! The base of the proofs: repetition of texts, defs by their names, comprehensions by an invariant, frames. -/
namespace Fk
open PySem PySem.Spec PyProof.Rows L2

/-! ### a text repeated -/
theorem fold_cps (x : Array Nat) : ∀ (n : Nat) (acc : Array Nat), ((List.replicate n x).foldl (· ++ ·) acc).toList = acc.toList ++ (List.replicate n x.toList).flatten
  | 0, acc => by simp
  | n + 1, acc => by
    rw [List.replicate_succ, List.foldl_cons, fold_cps x n (acc ++ x), List.replicate_succ, List.flatten_cons, Array.toList_append, List.append_assoc]
def repS (x : Str) (n : Nat) : Str := ⟨(List.replicate n x.cps.toList).flatten.toArray⟩
theorem tl_rep (x : Str) (n : Nat) : TL.tl (repS x n) = (List.replicate n (TL.tl x)).flatten := rfl
theorem rep_len (x : Str) (n : Nat) : (repS x n).length = n * x.length := by
  rw [TL.len_tl, tl_rep, TL.len_tl]
  induction n with
  | zero => simp
  | succ n ih => rw [List.replicate_succ, List.flatten_cons, List.length_append, ih, Nat.succ_mul, Nat.add_comm]
theorem tooLong_no {n : Nat} (h : n ≤ 16777216) : Builtin.Str.tooLong n = false := by
  unfold Builtin.Str.tooLong
  have e : (16777216 : Nat) = sizeLine ∨ 16777216 ≤ sizeLine := by right; decide
  have h2 : 16777216 ≤ sizeLine := by rcases e with e | e <;> omega
  simp
  omega
def rMulSI : R2 := fun x y H Q => ∃ (z : Str) (k : Int), x = .str z ∧ y = .int k ∧ 0 ≤ k ∧ k ≤ 10000 ∧ z.length * k.toNat ≤ 1000000 ∧ Q (.str (repS z k.toNat)) H
theorem op_mul_si {X : Cx} : OpR X (binaryOp .Mult) rMulSI := by
  intro pins s σ H x y v u Q I rx ry h
  obtain ⟨z, k, rfl, rfl, h0, h1, h2, q⟩ := h
  obtain ⟨t, rfl⟩ := rx
  obtain ⟨t', rfl⟩ := ry
  refine PySem.P.mul_str ?_ (fun h3 h4 => ?_) (fun h3 h4 => ?_) ?_
  · have e1 : ¬ k < -(2 ^ 63 : Int) := by omega
    have e2 : ¬ k ≥ 2 ^ 63 := by omega
    rw [decide_eq_false e1, decide_eq_false e2]
    rfl
  · have hk : 1 ≤ k := by omega
    have hz : z.length ≤ 1000000 := by
      have h5 : z.length * 1 ≤ z.length * k.toNat := Nat.mul_le_mul_left _ (by omega)
      omega
    have h6 : (10 ^ 14 : Int) ≤ (2 ^ 63 - 1) / k := by
      refine Int.le_ediv_of_mul_le (by omega) ?_
      have h7 : (10 ^ 14 : Int) * k ≤ 10 ^ 14 * 10000 := Int.mul_le_mul_of_nonneg_left h1 (by decide)
      have h8 : ((10 ^ 14 : Int) * 10000) ≤ 2 ^ 63 - 1 := by decide
      omega
    have h9 : ((z.length : Nat) : Int) ≤ 1000000 := by omega
    have h10 : (1000000 : Int) < 10 ^ 14 := by decide
    omega
  · exact tooLong_no (by omega)
  · by_cases h3 : k < 1
    · rw [if_pos h3]
      have e : k.toNat = 0 := by omega
      rw [e] at q
      have ez : repS z 0 = Str.empty := TL.ext_tl rfl
      rw [ez] at q
      exact ⟨by decide, V.str Str.empty, H, I.tok _, ⟨_, rfl⟩, q⟩
    · rw [if_neg h3]
      by_cases h4 : (k == 1 || z.length == 0) = true
      · rw [if_pos h4]
        have ez : repS z k.toNat = z := by
          apply TL.ext_tl
          rw [tl_rep]
          rcases Bool.or_eq_true_iff.mp h4 with h5 | h5
          · have e : k.toNat = 1 := by
              have := eq_of_beq h5
              omega
            rw [e]
            simp
          · have e : TL.tl z = [] := by
              have := eq_of_beq h5
              rw [TL.len_tl] at this
              exact List.length_eq_zero_iff.mp this
            rw [e]
            simp
        rw [ez] at q
        exact ⟨V.str z, H, I, ⟨_, rfl⟩, q⟩
      · rw [if_neg h4]
        have ez : (⟨(List.replicate k.toNat z.cps).foldl (· ++ ·) #[]⟩ : Str) = repS z k.toNat := by
          apply TL.ext_tl
          show ((List.replicate k.toNat z.cps).foldl (· ++ ·) #[]).toList = _
          rw [fold_cps]
          rfl
        have hl : (repS z k.toNat).length ≤ sizeLine := by
          rw [rep_len, Nat.mul_comm]
          exact Nat.le_trans h2 (by decide)
        rw [← ez] at q hl
        exact ⟨hl, V.str _, H, I.tok _, ⟨_, rfl⟩, q⟩

section
variable {P : Program} {w : World} {K : PySem.W.Frag} {mg : Str → Option Value} {base : Heap}
/-! ### defs by their names -/
/-- a def of the module whose parameters have no defaults -/
def IsDef (K : PySem.W.Frag) (mg : Str → Option Value) (x : Str) (st : Stmt) : Prop := ∃ f fd, C8.Def K mg x st f fd ∧ fd.defaults = .none
theorem cal_of {x : Str} {st : Stmt} {N ps : List Str} {k : Nat} {sp : Sp} (D : IsDef K mg x st) (S : FnScope N ps (C8.fnScope st))
    (hb : ∀ (kV doc pm : Value) (an : Option Addr) (cdv ct : Value) (us : List Value), us.length = ps.length → bindArgs (PySem.W.fnOf x x (C8.fnArgs st) (C8.fnBody st) (C8.fnScope st) .none kV doc pm an cdv ct) ⟨us, []⟩ = pure (ps.zip us))
    (len : ∀ vs H Q E, sp vs H Q E → vs.length = ps.length)
    (hbody : ∀ (f : Addr) (cdv : Value) (A : Around) (outer : List Env) (s : Shared) (H : Hp) (vs : List V) (Q : VK) (E : XK), Room k (A.deeper (envOfC x (C8.fnScope st) s.heap.objs.size f cdv)) → sp vs H Q E →
      ∃ t, PSs (cxOf C8.CX0 P w K mg base N x (C8.fnScope st) f cdv A outer s H E).nox (C8.fnBody st) t ∧ t { nx := fun _ H' => Q .non H', rt := Q } (start N vs) H) : C8.Cal P w K mg base (k + 1) x sp [] := by
  obtain ⟨f, fd, D, df⟩ := D
  exact C8.cal0 D (D.fn.binds df hb) .nil S len (hbody f)
theorem pe_c0 {X : Cx} {k j : Nat} {x : Str} {sp : Sp} {dvs : List V} {p pos : Pos} (c : C8.Cal X.prog X.w X.K X.mg X.base k x sp dvs) (hr : Room j X.A) (hk : k ≤ j) (hg : Gl X x)
    (hdb : (x == ("__debug__" : Str)) = false := by decide) : PE X (.Call (.Name x p) [] [] pos) (tCall sp dvs C8.E0 tNil) := by
  obtain ⟨f, fd, ps, ds, F, hm, kp, b, d⟩ := c.ex
  exact pe_call0 F (hr.mono hk) hg hm kp b d C8.pass0 hdb
/-- a def's address as a value, with its promise -/
theorem held_of {k : Nat} {x : Str} {sp : Sp} {f : Addr} (c : C8.Cal P w K mg base k x sp []) (h : mg x = some (.ref f)) : Held P w K mg base k f sp := by
  obtain ⟨f', fd, ps, ds, F, hm, kp, b, d⟩ := c.ex
  rw [h] at hm
  cases hm
  cases d
  exact ⟨fd, ps, F, kp, b⟩
end

/-! ### heaps -/
/-- all that was tracked is as it was, but what stands at a -/
def Fr (a : Addr) (H H' : Hp) : Prop := ∀ b o, b ≠ a → H b = some o → H' b = some o
theorem Fr.refl (a : Addr) (H : Hp) : Fr a H H := fun _ _ _ h => h
theorem Fr.trans {a : Addr} {H H1 H2 : Hp} (x : Fr a H H1) (y : Fr a H1 H2) : Fr a H H2 := fun b o n h => y b o n (x b o n h)
theorem Fr.at {a : Addr} {H : Hp} {o : HO} : Fr a H (upd H a o) := fun b u n h => by
  rw [upd_ne n]
  exact h
theorem Fr.new {a p : Addr} {H : Hp} {o : HO} (h : H p = none) : Fr a H (upd H p o) := fun b u _ e => by
  rw [upd_ne (ne_of_none e h)]
  exact e
/-- what came later may change -/
theorem Fr.mut {a p : Addr} {H H' : Hp} {o : HO} (x : Fr a H H') (h : H p = none) : Fr a H (upd H' p o) := fun b u n e => by
  rw [upd_ne (ne_of_none e h)]
  exact x b u n e
theorem Fr.same {a : Addr} {H H' : Hp} (h : Same H H') : Fr a H H' := fun b o _ e => h b o e
theorem Fr.free {a p : Addr} {H H' : Hp} (x : Fr a H H') (n : p ≠ a) (h : H' p = none) : H p = none := by
  cases q : H p with
  | none => rfl
  | some o =>
    rw [x p o n q] at h
    cases h
theorem same_new {H : Hp} {p : Addr} {o : HO} (h : H p = none) : Same H (upd H p o) := fun b u e => by
  rw [upd_ne (ne_of_none e h)]
  exact e
theorem same_mut {H H' : Hp} {p : Addr} {o : HO} (x : Same H H') (h : H p = none) : Same H (upd H' p o) := fun b u e => by
  rw [upd_ne (ne_of_none e h)]
  exact x b u e
theorem small_line {n : Nat} (h : n ≤ 1000000) : n ≤ sizeLine := Nat.le_trans h (by decide)
theorem small_lt {n : Nat} (h : n ≤ 1000000) : n < sizeLine := Nat.lt_of_le_of_lt h (by decide)

/-! ### comprehensions -/
theorem set_set {σ : L2.St} {i : Nat} {x y : Option V} : (σ.set i x).set i y = σ.set i y := by
  rw [List.set_set]
/-- what an iterator yields while the list at D grows: the items of a list -/
structure Yields (J : It) (items : List V) (G : Hp → Prop) : Prop where
  go : ∀ k H, G H → k < items.length → J.go k H
  stop : ∀ H, G H → J.stop items.length H
  yld : ∀ k H x H', k < items.length → G H → J.yld k H x H' → H' = H ∧ items[k]? = some x
theorem yields_str (x : Str) : Yields (Its x) (x.cps.toList.map fun c => V.str ⟨#[c]⟩) (fun _ => True) where
  go := fun k H _ h => by
    rw [List.length_map] at h
    exact (by simpa using h : k < x.cps.size)
  stop := fun H _ => by
    show x.cps.size ≤ _
    simp
  yld := fun k H v H' _ _ h => by
    obtain ⟨e, c, hc, hv⟩ := h
    refine ⟨e, ?_⟩
    rw [List.getElem?_map, Array.getElem?_toList, hc, hv]
    rfl
theorem yields_list {K : PySem.W.Frag} {a : Addr} {xs : List V} : Yields (Itl K a) xs (fun H => SqL K H a xs) where
  go := fun k H g h => ⟨xs, xs[k], g, List.getElem?_eq_getElem h⟩
  stop := fun H g => ⟨xs, g, Nat.le_refl _⟩
  yld := fun k H x H' _ g h => ⟨h.1, h.2 xs g⟩
theorem yields_range {lo : Int} {n : Nat} : Yields (Itr lo n) ((List.range n).map fun (i : Nat) => V.int (lo + (i : Int))) (fun _ => True) where
  go := fun k H _ h => by
    rw [List.length_map, List.length_range] at h
    exact h
  stop := fun H _ => by
    show n ≤ _
    rw [List.length_map, List.length_range]
    exact Nat.le_refl _
  yld := fun k H x H' hk _ h => by
    obtain ⟨e, hx⟩ := h
    rw [List.length_map, List.length_range] at hk
    refine ⟨e, ?_⟩
    rw [List.getElem?_map, List.getElem?_range hk, hx]
    rfl
/-- behind k turns of a comprehension: the list at D holds acc, of which I speaks -/
def LcN (I : Nat → List V → Hp → Prop) (D : Addr) (k : Nat) (H : Hp) : Prop := ∃ acc, H D = some (.lst acc) ∧ acc.length ≤ k ∧ I k acc H
theorem lc_take {I : Nat → List V → Hp → Prop} {D : Addr} {k : Nat} {H4 : Hp} {y : V} {acc : List V} (h : H4 D = some (.lst acc)) (l : acc.length ≤ k) (hk : k < 1000000) (q : I (k + 1) (acc ++ [y]) (upd H4 D (.lst (acc ++ [y])))) :
    ∃ acc, H4 D = some (.lst acc) ∧ acc.length < sizeLine ∧ LcN I D (k + 1) (upd H4 D (.lst (acc ++ [y]))) :=
  ⟨acc, h, small_lt (by omega), acc ++ [y], upd_same, by rw [List.length_append, List.length_singleton]; omega, q⟩
theorem lc_skip {I : Nat → List V → Hp → Prop} {D : Addr} {k : Nat} {H4 : Hp} {acc : List V} (h : H4 D = some (.lst acc)) (l : acc.length ≤ k) (q : I (k + 1) acc H4) : LcN I D (k + 1) H4 := ⟨acc, h, by omega, q⟩
/-- a comprehension by an invariant I over (turns, what the new list holds, the heap) -/
theorem lc_inv {J : It} {items : List V} {G : Hp → Prop} {H1 : Hp} {D : Addr} {σ : L2.St} {i : Nat} {tt : TT} {te : TE} {Q : Hp → Prop} (Y : Yields J items G) (I : Nat → List V → Hp → Prop)
    (hG : ∀ k acc H, I k acc H → H D = some (.lst acc) → G H) (h0 : I 0 [] (upd H1 D (.lst [])))
    (hs : ∀ k acc H x, I k acc H → H D = some (.lst acc) → items[k]? = some x → acc.length ≤ k → k < 1000000 → tt (σ.set i (some x)) H fun b H3 =>
      if b = true then te (σ.set i (some x)) H3 fun y H4 => ∃ acc, H4 D = some (.lst acc) ∧ acc.length < sizeLine ∧ LcN I D (k + 1) (upd H4 D (.lst (acc ++ [y]))) else LcN I D (k + 1) H3)
    (hl : items.length ≤ 1000000) (hd : ∀ acc H, I items.length acc H → H D = some (.lst acc) → acc.length ≤ items.length → Q H) :
    ∃ W : Nat → Nat → Hp → Prop, (∃ m, W 0 m (upd H1 D (.lst []))) ∧ ∀ k m H, W k m H →
      (J.stop k H ∧ Q H) ∨ (J.go k H ∧ ∃ Nx : Hp → Prop, (∀ H', Nx H' → ∃ m', m' < m ∧ W (k + 1) m' H') ∧ ∀ x H', J.yld k H x H' → gName i x (wipe σ [i]) H' fun σ2 H2 => wipe σ2 [i] = wipe σ [i] ∧ tt σ2 H2 fun b H3 =>
        if b = true then te σ2 H3 fun y H4 => ∃ acc, H4 D = some (.lst acc) ∧ acc.length < sizeLine ∧ Nx (upd H4 D (.lst (acc ++ [y]))) else Nx H3) := by
  refine ⟨fun k m H => m = items.length - k ∧ k ≤ items.length ∧ LcN I D k H, ⟨items.length, by omega, Nat.zero_le _, [], upd_same, Nat.zero_le _, h0⟩, ?_⟩
  rintro k m H ⟨rfl, hk, acc, hD, hacc, hI⟩
  by_cases hlt : k < items.length
  · refine .inr ⟨Y.go k H (hG _ _ _ hI hD) hlt, LcN I D (k + 1), fun H' q => ⟨items.length - (k + 1), by omega, rfl, hlt, q⟩, fun x H' y => ?_⟩
    obtain ⟨rfl, hx⟩ := Y.yld k H x H' hlt (hG _ _ _ hI hD) y
    show wipe ((wipe σ [i]).set i (some x)) [i] = wipe σ [i] ∧ tt ((wipe σ [i]).set i (some x)) _ _
    have e1 : (wipe σ [i]).set i (some x) = σ.set i (some x) := set_set
    have e2 : wipe (σ.set i (some x)) [i] = wipe σ [i] := set_set
    rw [e1]
    exact ⟨e2, hs k acc _ x hI hD hx hacc (by omega)⟩
  · have e : k = items.length := by omega
    subst e
    exact .inl ⟨Y.stop H (hG _ _ _ hI hD), hd acc H hI hD hacc⟩
/-- a comprehension whose element and test change nothing that is tracked -/
theorem lc_pure {α : Type} {J : It} {us : List α} {g : α → V} {G : Hp → Prop} {H1 : Hp} {D : Addr} {σ : L2.St} {i : Nat} {tt : TT} {te : TE} {Q : Hp → Prop} (Y : Yields J (us.map g) G) (f : α → V) (p : α → Bool) (hD1 : H1 D = none)
    (hG : ∀ H, Same H1 H → G H)
    (hs : ∀ H u, Same H1 H → u ∈ us → ∀ (R : Bool → Hp → Prop), (∀ H3, Same H H3 → R (p u) H3) → tt (σ.set i (some (g u))) H R)
    (he : ∀ H u, Same H1 H → u ∈ us → p u = true → ∀ (R : VK), (∀ H3, Same H H3 → R (f u) H3) → te (σ.set i (some (g u))) H R)
    (hl : us.length ≤ 1000000) (hd : ∀ H, Same H1 H → H D = some (.lst ((us.filter p).map f)) → Q H) :
    ∃ W : Nat → Nat → Hp → Prop, (∃ m, W 0 m (upd H1 D (.lst []))) ∧ ∀ k m H, W k m H →
      (J.stop k H ∧ Q H) ∨ (J.go k H ∧ ∃ Nx : Hp → Prop, (∀ H', Nx H' → ∃ m', m' < m ∧ W (k + 1) m' H') ∧ ∀ x H', J.yld k H x H' → gName i x (wipe σ [i]) H' fun σ2 H2 => wipe σ2 [i] = wipe σ [i] ∧ tt σ2 H2 fun b H3 =>
        if b = true then te σ2 H3 fun y H4 => ∃ acc, H4 D = some (.lst acc) ∧ acc.length < sizeLine ∧ Nx (upd H4 D (.lst (acc ++ [y]))) else Nx H3) := by
  refine lc_inv Y (fun k acc H => Same H1 H ∧ acc = ((us.take k).filter p).map f) (fun k acc H h _ => hG H h.1) ⟨same_new hD1, rfl⟩ (fun k acc H x hI hD hx hacc hk => ?_) (by rw [List.length_map]; exact hl) (fun acc H hI hD _ => ?_)
  · obtain ⟨sm, ea⟩ := hI
    rw [List.getElem?_map] at hx
    cases hu : us[k]? with
    | none => rw [hu] at hx; cases hx
    | some u =>
      rw [hu] at hx
      cases hx
      have hm : u ∈ us := List.mem_of_getElem? hu
      have et : us.take (k + 1) = us.take k ++ [u] := by
        rw [List.take_add_one, hu]
        rfl
      refine hs H u sm hm _ (fun H3 s3 => ?_)
      by_cases hp : p u = true
      · rw [if_pos hp]
        refine he H3 u (sm.trans s3) hm hp _ (fun H4 s4 => ?_)
        refine lc_take (s4 _ _ (s3 _ _ hD)) hacc hk ⟨same_mut ((sm.trans s3).trans s4) hD1, ?_⟩
        rw [et, List.filter_append, List.map_append, ← ea, List.filter_cons, hp]
        rfl
      · rw [if_neg hp]
        refine lc_skip (s3 _ _ hD) hacc ⟨sm.trans s3, ?_⟩
        rw [et, List.filter_append, List.map_append, ← ea, List.filter_cons, if_neg hp]
        simp
  · obtain ⟨sm, ea⟩ := hI
    rw [List.length_map, List.take_length] at ea
    rw [ea] at hD
    exact hd H sm hD

/-! ### what may be asked -/
def evalV (f : Str → Bool) : V → Bool
  | .str x => f x
  | _ => false
/-- its signs are signs -/
def OkS (x : Str) : Prop := ∀ u ∈ TL.tl x, u < 1114112
/-- a text, not too long, or a thing that is no text -/
inductive Thing (H : Hp) : V → Prop where
  | str (x : Str) (h : x.length ≤ 100000) (o : OkS x) : Thing H (.str x)
  | non : Thing H .non
  | bl (b : Bool) : Thing H (.bl b)
  | int (i : Int) : Thing H (.int i)
  | lst (a : Addr) (xs : List V) (h : H a = some (.lst xs)) : Thing H (.ref a)
  | tup (a : Addr) (xs : List V) (h : H a = some (.tup xs)) : Thing H (.ref a)
  | dK (a : Addr) (kvs : List (Key × V)) (h : H a = some (.dK kvs)) : Thing H (.ref a)
theorem Thing.fr {a : Addr} {H H' : Hp} {v : V} (t : Thing H v) (n : v ≠ .ref a) (f : Fr a H H') : Thing H' v := by
  cases t with
  | str x h o => exact .str x h o
  | non => exact .non
  | bl b => exact .bl b
  | int i => exact .int i
  | lst b xs h => exact .lst b xs (f b _ (fun e => n (by rw [e])) h)
  | tup b xs h => exact .tup b xs (f b _ (fun e => n (by rw [e])) h)
  | dK b xs h => exact .dK b xs (f b _ (fun e => n (by rw [e])) h)
theorem Thing.same {H H' : Hp} {v : V} (t : Thing H v) (f : Same H H') : Thing H' v := by
  cases t with
  | str x h o => exact .str x h o
  | non => exact .non
  | bl b => exact .bl b
  | int i => exact .int i
  | lst b xs h => exact .lst b xs (f b _ h)
  | tup b xs h => exact .tup b xs (f b _ h)
  | dK b xs h => exact .dK b xs (f b _ h)
/-- isinstance(thing, str) -/
theorem Thing.isi {K : PySem.W.Frag} {H : Hp} {v : V} {Q : VK} (t : Thing H v) (h : Q (.bl (evalV (fun _ => true) v)) H) : rIsi K [v, .ty "str"] H Q := by
  cases t with
  | str x _ _ => exact ⟨_, _, .type "str", .type "str", true, rfl, .ty "str", .base (.str x), kit_ty (by decide +kernel), h⟩
  | non => exact ⟨_, _, .type "NoneType", .type "str", false, rfl, .ty "str", .base .non, kit_ty (by decide +kernel), h⟩
  | bl b => exact ⟨_, _, .type "bool", .type "str", false, rfl, .ty "str", .base (.bl b), kit_ty (by decide +kernel), h⟩
  | int i => exact ⟨_, _, .type "int", .type "str", false, rfl, .ty "str", .base (.int i), kit_ty (by decide +kernel), h⟩
  | lst a xs e => exact ⟨_, _, .type "list", .type "str", false, rfl, .ty "str", .base (.lst e), kit_ty (by decide +kernel), h⟩
  | tup a xs e => exact ⟨_, _, .type "tuple", .type "str", false, rfl, .ty "str", .base (.tup e), kit_ty (by decide +kernel), h⟩
  | dK a xs e => exact ⟨_, _, .type "dict", .type "str", false, rfl, .ty "str", .base (.dK e), kit_ty (by decide +kernel), h⟩
theorem Thing.cases {H : Hp} {v : V} (t : Thing H v) : (∃ x, v = .str x ∧ x.length ≤ 100000 ∧ OkS x) ∨ ∀ f, evalV f v = false := by
  cases t with
  | str x h o => exact .inl ⟨x, rfl, h, o⟩
  | _ => exact .inr fun _ => rfl
/-- the promise of a def that tells whether its argument is such a text -/
def spWord (f : Str → Bool) : Sp := fun vs H Q _ => ∃ v, vs = [v] ∧ Thing H v ∧ ∀ H', Same H H' → Q (.bl (evalV f v)) H'

/-! ### the words, as functions of a text -/
def HEX : Str := "0123456789abcdef"
def LET : Str := "abcdefghijklmnopqrstuvwxyz"
def RSG : Str := "abcdefghijklmnopqrstuvwxyz0123456789-"
def SSG : Str := "abcdefghijklmnopqrstuvwxyz0123456789._-"
def sgn (c : Nat) : V := .str ⟨#[c]⟩
def hasOnly (x y : Str) : Bool := (TL.tl x).all fun c => decide (c ∈ TL.tl y)
def dots (x : Str) : Bool := !(Builtin.Str.occurrences x (".." : Str) 0 x.length 1).isEmpty
def isWordF (y x : Str) : Bool := decide (1 ≤ x.length) && (decide (x.length ≤ 12) && hasOnly x y)
def isSegF (x : Str) : Bool := isWordF SSG x && (!decide (x = ".") && !dots x)
def segs (x : Str) : List Str := Txt.split x "/"
def isIdF (x : Str) : Bool := decide (x.length = 16) && hasOnly x HEX
def isPathF (x : Str) : Bool := decide ((segs x).length ≤ 6) && (segs x).all isSegF
def mostF (x : Str) : Nat := if (segs x)[0]? = some ("far" : Str) then 7 else 5
def isRefF (x : Str) : Bool := decide ((segs x).length ≤ mostF x) && (segs x).all (isWordF RSG)
def plainC (c : Nat) : Bool := !decide ([c] < [32]) && !decide ([126] < [c])
def isTextF (x : Str) : Bool := decide (x.length ≤ 2000) && (TL.tl x).all fun c => decide (c = 10) || plainC c
end Fk
namespace Fk
open PySem PySem.Spec PyProof.Rows L2
theorem sql_fr {K : PySem.W.Frag} {a b : Addr} {H H' : Hp} {xs : List V} (h : SqL K H b xs) (n : b ≠ a) (f : Fr a H H') : SqL K H' b xs := by
  rcases h with (h | ⟨o, h⟩) | h
  · exact .inl (.inl (f _ _ n h))
  · exact .inl (.inr ⟨o, f _ _ n h⟩)
  · exact .inr h
/-- a well of numbers at a, from which c were drawn -/
def Wl (H : Hp) (a : Addr) (c : Int) : Prop := 0 ≤ c ∧ ∃ x y : Int, H a = some (.lst [.int x, .int y, .int c])
theorem Wl.same {H H' : Hp} {a : Addr} {c : Int} (h : Wl H a c) (f : Same H H') : Wl H' a c := by
  obtain ⟨h0, x, y, e⟩ := h
  exact ⟨h0, x, y, f _ _ e⟩
/-- behind at most d draws from the well at a -/
def Aft (a : Addr) (c d : Int) (H : Hp) (R : Hp → Prop) : Prop := ∀ H' c', Fr a H H' → Wl H' a c' → c ≤ c' → c' ≤ c + d → R H'
theorem join_signs : ∀ cs : List Nat, TL.tl (Txt.join ("" : Str) (cs.map fun c => (⟨#[c]⟩ : Str))) = cs := by
  intro cs
  rw [TL.join_eq, TL.tl_join]
  have e : TL.tl ("" : Str) = [] := by decide +kernel
  rw [e]
  induction cs with
  | nil => rfl
  | cons c r ih =>
    cases r with
    | nil => rfl
    | cons d r =>
      show [c] ++ [] ++ TL.joinL [] (((d :: r).map fun c => (⟨#[c]⟩ : Str)).map TL.tl) = _
      rw [ih]
      rfl
theorem signs_sum : ∀ cs : List Nat, ((cs.map fun c => (⟨#[c]⟩ : Str)).map (·.length)).sum = cs.length
  | [] => rfl
  | c :: r => by
    rw [List.map_cons, List.map_cons, List.sum_cons, signs_sum r, List.length_cons]
    show 1 + _ = _
    omega
theorem atI_int {α : Type} {xs : List α} {r : Int} (h0 : 0 ≤ r) (h1 : r < xs.length) : ∃ v, v ∈ xs ∧ xs[r.toNat]? = some v ∧ atI xs r = some v := by
  have h2 : r.toNat < xs.length := by omega
  have e : r = ((r.toNat : Nat) : Int) := by omega
  refine ⟨xs[r.toNat], List.getElem_mem h2, List.getElem?_eq_getElem h2, ?_⟩
  have q := atI_nat (List.getElem?_eq_getElem h2)
  rw [← e] at q
  exact q
theorem Wl.upd {H : Hp} {a : Addr} {x y c : Int} (h : 0 ≤ c) : Wl (upd H a (.lst [.int x, .int y, .int c])) a c := ⟨h, x, y, upd_same⟩
theorem Fr.fr_new {a p : Addr} {H H' : Hp} {o : HO} (x : Fr a H H') (h : H' p = none) : Fr a H (L2.upd H' p o) := x.trans (Fr.new h)
theorem Wl.new {H : Hp} {a p : Addr} {c : Int} {o : HO} (h : Wl H a c) (n : H p = none) : Wl (L2.upd H p o) a c := h.same (same_new n)
theorem Wl.mut {H : Hp} {a p : Addr} {c : Int} {o : HO} (h : Wl H a c) (n : p ≠ a) : Wl (L2.upd H p o) a c := by
  obtain ⟨h0, x, y, e⟩ := h
  exact ⟨h0, x, y, by rw [upd_ne n.symm]; exact e⟩
theorem Wl.ne {H : Hp} {a p : Addr} {c : Int} (h : Wl H a c) (n : H p = none) : p ≠ a := by
  obtain ⟨h0, x, y, e⟩ := h
  exact (ne_of_none e n).symm
theorem Aft.start {a : Addr} {c d : Int} {H : Hp} {R : Hp → Prop} (h : Aft a c d H R) (w : Wl H a c) (hd : 0 ≤ d) : R H := h H c (Fr.refl a H) w (Int.le_refl _) (by omega)
theorem Aft.more {a : Addr} {c c1 d d1 : Int} {H H1 : Hp} {R : Hp → Prop} (h : Aft a c d H R) (f : Fr a H H1) (h1 : c ≤ c1) (h2 : c1 + d1 ≤ c + d) : Aft a c1 d1 H1 R := fun H' c' f' w h3 h4 => h H' c' (f.trans f') w (by omega) (by omega)
theorem yes_ {σ : L2.St} {H : Hp} {A B : Hp → Prop} (h : A H) : tYes σ H (fun b H3 => if b = true then A H3 else B H3) := by
  show (if true = true then A H else B H)
  rw [if_pos rfl]
  exact h
end Fk

set_option maxHeartbeats 4000000
namespace Fk
open PySem PySem.Spec PyProof.Rows L2
/-! ### texts that are drawn: what holds of them -/
theorem tl_cut (z : Str) (lo hi : Option Int) : TL.tl (cutS z lo hi) = ((TL.tl z).drop (HT.sIx z.length 0 lo)).take (HT.sIx z.length z.length hi - HT.sIx z.length 0 lo) := rfl
theorem cut_to (z : Str) (n : Nat) : TL.tl (cutS z none (some (n : Int))) = (TL.tl z).take n := by
  rw [tl_cut, HT.sIx_none, HT.sIx_nat, List.drop_zero, Nat.sub_zero, TL.len_tl]
  rcases Nat.le_total n (TL.tl z).length with h | h
  · rw [Nat.min_eq_left h]
  · rw [Nat.min_eq_right h, List.take_length, List.take_of_length_le h]
theorem cut_from (z : Str) (n : Nat) : TL.tl (cutS z (some (n : Int)) none) = (TL.tl z).drop n := by
  rw [tl_cut, HT.sIx_none, HT.sIx_nat, TL.len_tl]
  rcases Nat.le_total n (TL.tl z).length with h | h
  · rw [Nat.min_eq_left h, List.take_of_length_le (by rw [List.length_drop]; omega)]
  · rw [Nat.min_eq_right h, List.drop_length, List.take_nil, List.drop_of_length_le h]
theorem cutS_le (z : Str) (lo hi : Option Int) : (cutS z lo hi).length ≤ z.length := cutS_length z lo hi
def LTS : Str := "abcdefghijklmnopqrstuvwxyz0123456789_-"
theorem dots_count {x : Str} (h : dots x = true) : 2 ≤ (TL.tl x).count 46 := by
  obtain ⟨i, _, h2⟩ := (StrLaws.found_iff x (".." : Str)).mp h
  rw [StrLaws.subAt_eq] at h2
  have e : ((TL.tl x).drop i).take 2 = [46, 46] := by
    have e1 := eq_of_beq h2
    have e2 : (".." : Str).length = 2 := by decide +kernel
    have e3 : (".." : Str).cps.toList = [46, 46] := by decide +kernel
    rw [e2, e3] at e1
    exact e1
  have s : List.Sublist [46, 46] (TL.tl x) := by
    rw [← e]
    exact (List.take_sublist _ _).trans (List.drop_sublist _ _)
  exact s.count_le 46
theorem has_only {x y : Str} (h : ∀ u ∈ TL.tl x, u ∈ TL.tl y) : hasOnly x y = true := by
  unfold hasOnly
  rw [List.all_eq_true]
  exact fun u hu => decide_eq_true (h u hu)
theorem dot_tl : TL.tl ("." : Str) = [46] := by decide +kernel
theorem seg_of {x : Str} (h : ∀ u ∈ TL.tl x, u ∈ TL.tl SSG) (h1 : 1 ≤ x.length) (h2 : x.length ≤ 12) (h3 : (TL.tl x).count 46 ≤ 1) (h4 : (TL.tl x).count 46 = 0 ∨ 2 ≤ x.length) : isSegF x = true := by
  unfold isSegF isWordF
  have d : dots x = false := Bool.eq_false_iff.mpr fun z => by
    have := dots_count z
    omega
  have n : ¬ x = "." := fun e => by
    have e1 : TL.tl x = [46] := by rw [e]; exact dot_tl
    rw [TL.len_tl, e1] at h4
    rcases h4 with h4 | h4
    · exact absurd h4 (by decide)
    · exact absurd h4 (by decide)
  rw [decide_eq_true h1, decide_eq_true h2, has_only h, decide_eq_false n, d]
  rfl
theorem lts_ssg : ∀ u ∈ TL.tl LTS, u ∈ TL.tl SSG := by decide +kernel
theorem lts_dot : 46 ∉ TL.tl LTS := by decide +kernel
theorem seg_plain {x : Str} (h : ∀ u ∈ TL.tl x, u ∈ TL.tl LTS) (h1 : 1 ≤ x.length) (h2 : x.length ≤ 12) : isSegF x = true := by
  have c0 : (TL.tl x).count 46 = 0 := List.count_eq_zero.mpr fun z => lts_dot (h _ z)
  exact seg_of (fun u hu => lts_ssg u (h u hu)) h1 h2 (by omega) (.inl c0)
theorem seg_dotted {x : Str} (n : Nat) (h : ∀ u ∈ TL.tl x, u ∈ TL.tl LTS) (h1 : 1 ≤ x.length) (h2 : x.length < 12) :
    isSegF ((cutS x none (some (n : Int)) ++ ("." : Str)) ++ cutS x (some (n : Int)) none) = true ∧ ((cutS x none (some (n : Int)) ++ ("." : Str)) ++ cutS x (some (n : Int)) none).length ≤ 12 := by
  have e : TL.tl ((cutS x none (some (n : Int)) ++ ("." : Str)) ++ cutS x (some (n : Int)) none) = ((TL.tl x).take n ++ [46]) ++ (TL.tl x).drop n := by
    rw [TL.tl_append, TL.tl_append, cut_to, cut_from, dot_tl]
  have c0 : (TL.tl x).count 46 = 0 := List.count_eq_zero.mpr fun z => lts_dot (h _ z)
  have len : (((TL.tl x).take n ++ [46]) ++ (TL.tl x).drop n).length = x.length + 1 := by
    have := congrArg List.length (List.take_append_drop n (TL.tl x))
    rw [List.length_append] at this
    rw [List.length_append, List.length_append, List.length_singleton, TL.len_tl]
    omega
  have cnt : (((TL.tl x).take n ++ [46]) ++ (TL.tl x).drop n).count 46 = 1 := by
    have := congrArg (List.count 46) (List.take_append_drop n (TL.tl x))
    rw [List.count_append, c0] at this
    rw [List.count_append, List.count_append]
    have : [46].count 46 = 1 := rfl
    omega
  refine ⟨seg_of (fun u hu => ?_) (by rw [TL.len_tl, e, len]; omega) (by rw [TL.len_tl, e, len]; omega) (by rw [e, cnt]; exact Nat.le_refl _) (.inr (by rw [TL.len_tl, e, len]; omega)), by rw [TL.len_tl, e, len]; omega⟩
  rw [e] at hu
  rcases List.mem_append.mp hu with hu | hu
  · rcases List.mem_append.mp hu with hu | hu
    · exact lts_ssg u (h u (List.mem_of_mem_take hu))
    · rw [List.mem_singleton.mp hu]
      decide +kernel
  · exact lts_ssg u (h u (List.mem_of_mem_drop hu))
theorem slash_tl : TL.tl ("/" : Str) = [47] := by decide +kernel
theorem seg_slash {x : Str} (h : isSegF x = true) : 47 ∉ TL.tl x := by
  unfold isSegF isWordF hasOnly at h
  simp only [Bool.and_eq_true] at h
  have h1 := h.1.2.2
  rw [List.all_eq_true] at h1
  intro z
  have h2 := of_decide_eq_true (h1 47 z)
  exact absurd h2 (by decide +kernel)
theorem seg_len {x : Str} (h : isSegF x = true) : x.length ≤ 12 := by
  unfold isSegF isWordF at h
  simp only [Bool.and_eq_true] at h
  exact of_decide_eq_true h.1.2.1
theorem path_of {ps : List Str} (h0 : ps ≠ []) (h1 : ps.length ≤ 6) (h : ∀ p ∈ ps, isSegF p = true) : isPathF (Txt.join "/" ps) = true := by
  unfold isPathF segs
  rw [TL.split_join (S := []) slash_tl (by decide +kernel) h0 fun p hp => seg_slash (h p hp), decide_eq_true h1, List.all_eq_true.mpr h]
  rfl
theorem join_len (y : Str) : ∀ ps : List Str, (∀ p ∈ ps, p.length ≤ 12) → (Txt.join y ps).length ≤ ps.length * (12 + y.length) := by
  intro ps h
  rw [TL.join_eq]
  refine Nat.le_trans (StrLaws.join_length_le y ps) ?_
  rw [Nat.mul_add]
  refine Nat.add_le_add_right ?_ _
  induction ps with
  | nil => exact Nat.le_refl _
  | cons p r ih =>
    rw [List.map_cons, List.sum_cons, List.length_cons, Nat.succ_mul]
    have := ih fun q hq => h q (List.mem_cons_of_mem _ hq)
    have := h p List.mem_cons_self
    omega
theorem sum_len : ∀ ps : List Str, (∀ p ∈ ps, p.length ≤ 12) → (ps.map (·.length)).sum ≤ ps.length * 12 := by
  intro ps h
  induction ps with
  | nil => exact Nat.le_refl _
  | cons p r ih =>
    rw [List.map_cons, List.sum_cons, List.length_cons, Nat.succ_mul]
    have := ih fun q hq => h q (List.mem_cons_of_mem _ hq)
    have := h p List.mem_cons_self
    omega
def ALL : Str := (" !\"#$&'()*+,-./0123456789:;<=>?@ABCDEFGHIJKLMNOPQRSTUVWXYZ[]^_`abcdefghijklmnopqrstuvwxyz{|}~" : Str) ++ ("\\" : Str) ++ ("\n" : Str)
theorem all_plain : ∀ u ∈ TL.tl ALL, (decide (u = 10) || plainC u) = true := by decide +kernel
theorem text_of {x : Str} (h : ∀ u ∈ TL.tl x, u ∈ TL.tl ALL) (h1 : x.length ≤ 2000) : isTextF x = true := by
  unfold isTextF
  rw [decide_eq_true h1, List.all_eq_true.mpr fun u hu => all_plain u (h u hu)]
  rfl
theorem id_of {x : Str} (h : ∀ u ∈ TL.tl x, u ∈ TL.tl HEX) (h1 : x.length = 16) : isIdF x = true := by
  unfold isIdF
  rw [decide_eq_true h1, has_only h]
  rfl
theorem filt_all {α : Type} (l : List α) : l.filter (fun _ => true) = l := List.filter_eq_self.mpr fun _ _ => rfl
theorem of_ev {f : Str → Bool} {x : Str} {b : Bool} {Q : VK} {H : Hp} (q : Q (.bl (evalV f (.str x))) H) (e : f x = b) : Q (.bl b) H := by
  rw [← e]
  exact q
theorem of_ev0 {f : Str → Bool} {v : V} {Q : VK} {H : Hp} (hn : ∀ f, evalV f v = false) (q : Q (.bl (evalV f v)) H) : Q (.bl false) H := by
  rw [← hn f]
  exact q
theorem segs_ne (x : Str) : segs x ≠ [] := by
  intro h
  have e := TL.split_spl x "/" (by decide +kernel) (TL.kind_ok (by decide +kernel))
  have h' : Txt.split x "/" = [] := h
  rw [h'] at e
  have e2 : ∀ l k acc, TL.spl (TL.tl "/") k acc l ≠ [] := by
    intro l
    induction l with
    | nil => intro k acc h; rw [TL.spl_nil] at h; cases h
    | cons c r ih =>
      intro k acc h
      cases k with
      | zero =>
        unfold TL.spl at h
        split at h
        · cases h
        · exact ih _ _ h
      | succ k => exact ih _ _ h
  exact e2 _ _ _ e.symm
theorem segs_len (x : Str) (h : x.length ≤ 100000) : (segs x).length ≤ 100001 ∧ ∀ y ∈ segs x, y.length ≤ 100000 := by
  have e := TL.split_spl x "/" (by decide +kernel) (TL.kind_ok (by decide +kernel))
  have e2 : ∀ l k acc, (TL.spl (TL.tl "/") k acc l).length ≤ l.length + 1 ∧ ∀ y ∈ TL.spl (TL.tl "/") k acc l, y.length ≤ acc.length + l.length := by
    intro l
    induction l with
    | nil => intro k acc; rw [TL.spl_nil]; exact ⟨Nat.le_refl _, fun y hy => by rw [List.mem_singleton.mp hy]; simp⟩
    | cons c r ih =>
      intro k acc
      cases k with
      | zero =>
        unfold TL.spl
        split
        · obtain ⟨i1, i2⟩ := ih ((TL.tl "/").length - 1) []
          refine ⟨by simp only [List.length_cons]; omega, fun y hy => ?_⟩
          rcases List.mem_cons.mp hy with rfl | hy
          · simp only [List.length_cons]; omega
          · have := i2 y hy
            simp only [List.length_cons, List.length_nil] at this ⊢
            omega
        · obtain ⟨i1, i2⟩ := ih 0 (acc ++ [c])
          refine ⟨by simp only [List.length_cons]; omega, fun y hy => ?_⟩
          have := i2 y hy
          simp only [List.length_cons, List.length_append, List.length_nil] at this ⊢
          omega
      | succ k =>
        obtain ⟨i1, i2⟩ := ih k acc
        unfold TL.spl
        refine ⟨by simp only [List.length_cons]; omega, fun y hy => ?_⟩
        have := i2 y hy
        simp only [List.length_cons] at this ⊢
        omega
  obtain ⟨i1, i2⟩ := e2 (TL.tl x) 0 []
  rw [← e] at i1 i2
  rw [List.length_map, ← TL.len_tl] at i1
  refine ⟨?_, fun y hy => ?_⟩
  · show (Txt.split x "/").length ≤ _
    omega
  · have := i2 (TL.tl y) (List.mem_map_of_mem hy)
    rw [← TL.len_tl, ← TL.len_tl] at this
    simp at this
    omega
theorem segs_ok (x : Str) (h : OkS x) : ∀ y ∈ segs x, OkS y := by
  have e := TL.split_spl x "/" (by decide +kernel) (TL.kind_ok (by decide +kernel))
  have e2 : ∀ l k acc, (∀ u ∈ l, u < 1114112) → (∀ u ∈ acc, u < 1114112) → ∀ y ∈ TL.spl (TL.tl "/") k acc l, ∀ u ∈ y, u < 1114112 := by
    intro l
    induction l with
    | nil =>
      intro k acc h1 h2 y hy
      rw [TL.spl_nil] at hy
      rw [List.mem_singleton.mp hy]
      exact h2
    | cons c r ih =>
      intro k acc h1 h2 y hy
      have h3 : ∀ u ∈ r, u < 1114112 := fun u hu => h1 u (List.mem_cons_of_mem _ hu)
      cases k with
      | zero =>
        unfold TL.spl at hy
        split at hy
        · rcases List.mem_cons.mp hy with rfl | hy
          · exact h2
          · exact ih _ _ h3 (fun u hu => (List.not_mem_nil hu).elim) y hy
        · refine ih _ _ h3 (fun u hu => ?_) y hy
          rcases List.mem_append.mp hu with hu | hu
          · exact h2 u hu
          · rw [List.mem_singleton.mp hu]
            exact h1 c List.mem_cons_self
      | succ k => exact ih _ _ h3 h2 y hy
  intro y hy
  have i2 := e2 (TL.tl x) 0 [] h (fun u hu => (List.not_mem_nil hu).elim) (TL.tl y)
  rw [← e] at i2
  exact i2 (List.mem_map_of_mem hy)
theorem dp_nil {K : PySem.W.Frag} {H : Hp} {p : Addr} (h : H p = some (.lst [])) : Dp K H (.ref p) (.list []) := .lst (SqL.of h) .nil
theorem dp_strs {K : PySem.W.Frag} {H : Hp} : ∀ ys : List Str, DpAll K H (ys.map V.str) (ys.map PyData.str)
  | [] => .nil
  | y :: r => .cons (.str y) (dp_strs r)
theorem strOk_of {x : Str} (h : OkS x) : PyData.strOk x = true := by
  unfold PyData.strOk
  rw [← Array.all_toList, List.all_eq_true]
  exact fun u hu => decide_eq_true (h u hu)
theorem lay_strs : ∀ ys : List Str, (∀ y ∈ ys, OkS y) → PyData.canLayAll0 (ys.map PyData.str) = true
  | [], _ => rfl
  | y :: r, h => by simp [PyData.canLayAll0, PyData.canLay0, lay_strs r fun z hz => h z (List.mem_cons_of_mem _ hz), strOk_of (h y List.mem_cons_self)]
theorem depth_strs : ∀ ys : List Str, PyData.depthAll (ys.map PyData.str) = 0
  | [] => rfl
  | _ :: r => by simp [PyData.depthAll, PyData.depth, depth_strs r]
theorem shaped_strs (ys : List Str) (h : ∀ y ∈ ys, OkS y) : SeqAt.shaped (.list (ys.map PyData.str)) = true := by
  simp [SeqAt.shaped, PyData.canLay0, PyData.depth, lay_strs ys h, depth_strs]
theorem shaped_nil : SeqAt.shaped (.list []) = true := shaped_strs [] fun _ h => (List.not_mem_nil h).elim
theorem eqv_nil (ys : List Str) : PyData.eqv (.list (ys.map PyData.str)) (.list []) = ys.isEmpty := by
  cases ys with
  | nil => simp [PyData.eqv, PyData.eqvAll]
  | cons y r => simp [PyData.eqv, PyData.eqvAll]
theorem ifF {c A B : Prop} [Decidable c] (h : ¬ c) (b : B) : if c then A else B := by
  rw [if_neg h]
  exact b
theorem ifT {c A B : Prop} [Decidable c] (h : c) (b : A) : if c then A else B := by
  rw [if_pos h]
  exact b
/-- a list of texts is asked for being empty -/
theorem ask_nil {K : PySem.W.Frag} {H' : Hp} {p q : Addr} {ys : List Str} {Q : VK} (ho : ∀ y ∈ ys, OkS y) (h : H' p = some (.lst (ys.map V.str))) (hq : H' q = some (.lst [])) (k : Q (.bl ys.isEmpty) H') : rEqD K (.ref p) (.ref q) H' Q :=
  ⟨_, _, .lst (SqL.of h) (dp_strs ys), dp_nil hq, shaped_strs ys ho, shaped_nil, by rw [eqv_nil]; exact k⟩
theorem filt_empty {α : Type} (l : List α) (p : α → Bool) : (l.filter fun u => !p u).isEmpty = l.all p := by
  induction l with
  | nil => rfl
  | cons a r ih =>
    rw [List.filter_cons, List.all_cons]
    cases h : p a with
    | true => simpa [h] using ih
    | false => simp [h]
theorem map_sgn (cs : List Nat) : cs.map sgn = (cs.map fun c => (⟨#[c]⟩ : Str)).map V.str := by
  rw [List.map_map]
  rfl
theorem ok_sgn {c : Nat} (h : c < 1114112) : OkS ⟨#[c]⟩ := fun u hu => by
  have e : u = c := List.mem_singleton.mp hu
  rw [e]
  exact h
theorem ok_sgns {x : Str} (h : OkS x) (p : Nat → Bool) : ∀ y ∈ ((TL.tl x).filter p).map fun c => (⟨#[c]⟩ : Str), OkS y := fun y hy => by
  obtain ⟨c, hc, rfl⟩ := List.mem_map.mp hy
  exact ok_sgn (h c ((List.mem_filter.mp hc).1))
end Fk
namespace Fk
open PySem PySem.Spec PyProof.Rows L2
theorem ok_app {x y : Str} (hx : OkS x) (hy : OkS y) : OkS (x ++ y) := fun u hu => by
  rw [TL.tl_append] at hu
  rcases List.mem_append.mp hu with hu | hu
  · exact hx u hu
  · exact hy u hu
theorem ok_cut {x : Str} (hx : OkS x) (lo hi : Option Int) : OkS (cutS x lo hi) := fun u hu => by
  rw [tl_cut] at hu
  exact hx u (List.mem_of_mem_drop (List.mem_of_mem_take hu))
theorem ok_rep {x : Str} (hx : OkS x) (n : Nat) : OkS (repS x n) := fun u hu => by
  rw [tl_rep] at hu
  obtain ⟨l, hl, hu⟩ := List.mem_flatten.mp hu
  rw [(List.mem_replicate.mp hl).2] at hu
  exact hx u hu
theorem ok_join {y : Str} (hy : OkS y) {ps : List Str} (h : ∀ p ∈ ps, OkS p) : OkS (Txt.join y ps) := fun u hu => by
  rw [TL.join_eq, TL.tl_join] at hu
  have e : ∀ ls : List (List Nat), (∀ l ∈ ls, ∀ u ∈ l, u < 1114112) → ∀ u ∈ TL.joinL (TL.tl y) ls, u < 1114112 := by
    intro ls
    induction ls with
    | nil => intro _ u hu; exact (List.not_mem_nil hu).elim
    | cons l r ih =>
      intro h u hu
      cases r with
      | nil => exact h l List.mem_cons_self u hu
      | cons m r =>
        have hu : u ∈ l ++ (TL.tl y ++ TL.joinL (TL.tl y) (m :: r)) := hu
        rcases List.mem_append.mp hu with hu | hu
        · exact h l List.mem_cons_self u hu
        · rcases List.mem_append.mp hu with hu | hu
          · exact hy u hu
          · exact ih (fun l hl => h l (List.mem_cons_of_mem _ hl)) u hu
  refine e _ (fun l hl => ?_) u hu
  obtain ⟨p, hp, rfl⟩ := List.mem_map.mp hl
  exact h p hp
theorem ok_by {x : Str} (h : (TL.tl x).all (fun u => decide (u < 1114112)) = true) : OkS x := fun u hu => of_decide_eq_true (List.all_eq_true.mp h u hu)
theorem ok_sub {x y : Str} (h : ∀ u ∈ TL.tl x, u ∈ TL.tl y) (hy : OkS y) : OkS x := fun u hu => hy u (h u hu)
theorem ok_hex : OkS HEX := ok_by (by decide +kernel)
theorem ok_ssg : OkS SSG := ok_by (by decide +kernel)
theorem ok_rsg : OkS RSG := ok_by (by decide +kernel)
theorem ok_let : OkS LET := ok_by (by decide +kernel)
theorem ok_all : OkS ALL := ok_by (by decide +kernel)
theorem ok_slash : OkS "/" := ok_by (by decide +kernel)
theorem only_sub {x y : Str} (h : hasOnly x y = true) : ∀ u ∈ TL.tl x, u ∈ TL.tl y := fun u hu => of_decide_eq_true (List.all_eq_true.mp h u hu)
theorem ok_seg {x : Str} (h : isSegF x = true) : OkS x := by
  unfold isSegF isWordF at h
  simp only [Bool.and_eq_true] at h
  exact ok_sub (only_sub h.1.2.2) ok_ssg
theorem word_of {x y : Str} (h : ∀ u ∈ TL.tl x, u ∈ TL.tl y) (h1 : 1 ≤ x.length) (h2 : x.length ≤ 12) : isWordF y x = true := by
  unfold isWordF
  rw [decide_eq_true h1, decide_eq_true h2, has_only h]
  rfl
theorem Same.of_fr {a : Addr} {H H1 H2 : Hp} (h : H a = none) (s : Same H H1) (f : Fr a H1 H2) : Same H H2 := fun b o e => f b o (ne_of_none e h) (s b o e)
theorem def_ne {K : PySem.W.Frag} {mg : Str → Option Value} {x y : Str} {st st' : Stmt} {f f' : Addr} {fd fd' : FuncData} (D : C8.Def K mg x st f fd) (D' : C8.Def K mg y st' f' fd') (h : x ≠ y) : f ≠ f' := by
  intro e
  subst e
  obtain ⟨oc, od, dV, kV, doc, pm, an, cdv, ct, osl, rfl, lk, _⟩ := D.fn.ex
  obtain ⟨oc', od', dV', kV', doc', pm', an', cdv', ct', osl', rfl, lk', _⟩ := D'.fn.ex
  rw [lk] at lk'
  have e1 := Option.some.inj lk'
  injection e1 with e1 e2 e3 e4
  injection e3 with e3
  exact h (congrArg FuncData.name e3)
end Fk
namespace Fk
open PySem PySem.Spec PyProof.Rows L2
theorem plain_lt {c : Nat} (h : (decide (c = 10) || plainC c) = true) : c < 1114112 := by
  rcases Bool.or_eq_true_iff.mp h with h | h
  · have := of_decide_eq_true h
    omega
  · unfold plainC at h
    have h2 := (Bool.and_eq_true_iff.mp h).2
    have h3 : ¬ ([126] < [c]) := fun z => by
      rw [decide_eq_true z] at h2
      exact absurd h2 (by decide)
    have h4 : ¬ 126 < c := fun z => h3 (List.Lex.rel z)
    omega
theorem ok_text {x : Str} (h : isTextF x = true) : OkS x := fun u hu => plain_lt (List.all_eq_true.mp (Bool.and_eq_true_iff.mp h).2 u hu)
end Fk

set_option maxHeartbeats 4000000
/-! strip(signs), isascii, replace, isprintable: what they say of the words; a def that begins with a token out. -/
namespace Fk
open PySem PySem.Spec PyProof.Rows L2
section
variable {X : Cx} {a b o : Expr} {rest : List Expr} {ta tb t to : TE} {pos : Pos}
theorem pet_one {op} (h : PET X a t) : PET X (.BoolOp op [a] pos) t := fun pins s σ H Q h0 I hw => BoolOp_one (h pins s σ H Q h0 I hw)
theorem pet_and (ha : PE X a ta) (hb : PET X (.BoolOp .And (b :: rest) pos) tb) : PET X (.BoolOp .And (a :: b :: rest) pos) (tAndV ta tb) := by
  intro pins s σ H Q h0 I h
  refine BoolOp_and (wpAny_mono (PySem.wpAny_toks (ha.run pins s σ H _ I h)) (fun v s1 q => ?_) fun _ _ z => z.2)
  obtain ⟨hk, x, H1, I1, r1, q1⟩ := q
  obtain ⟨c, rfl, q1⟩ := q1
  cases r1
  refine wpAny_truthy_bool ?_
  cases c with
  | true => exact hb pins s1 σ H1 Q (by omega) I1 q1
  | false => exact ⟨.bl false, H1, I1, rfl, q1⟩
theorem pet_bm0 {T id name : String} {apos cpos : Pos} {r : V → List V → Hp → VK → Prop} (pa : PlainAttrs T) (slot : Slot T name id) (hty : typeOf (.builtin id) = pure (.type "method_descriptor")) (hm : MtR X id r) (ho : PET X o to)
    (hbase : attributeBase o name X.env (eval o X.env) = eval o X.env := by rfl) (hline : (apos.endLine == cpos.line) = true := by rfl) : PET X (.Call (.Attribute o name apos) [] [] cpos) (tBM0 X.K T r to) := by
  intro pins s σ H Q h0 I h
  refine wpAny_Call_method0_late hbase hline (thn (ho pins s σ H _ h0 I h) fun v s1 ⟨x, H1, I1, r1, ty, q1⟩ => ?_)
  obtain ⟨h1, h2⟩ := tyV_is I1 r1 ty
  exact ⟨T, id, pa, slot, hty, h1, h2, Calls.callWith_builtin rfl (PySem.evalArgs_none (hm pins s1 σ H1 x [] v [] Q I1 r1 .nil q1))⟩
end
section
variable {P : Program} {w : World} {K : PySem.W.Frag} {mg : Str → Option Value} {base : Heap}
/-- a def whose parameters are no cells: a token is out when its body begins -/
theorem cal_ofT {x : Str} {st : Stmt} {N ps : List Str} {k : Nat} {sp : Sp} (D : IsDef K mg x st) (S : FnScope N ps (C8.fnScope st))
    (hnc : ∀ y ∈ (C8.fnScope st).names, y.2 ≠ .cell) (hps : 1 ≤ ps.length)
    (hb : ∀ (kV doc pm : Value) (an : Option Addr) (cdv ct : Value) (us : List Value), us.length = ps.length → bindArgs (PySem.W.fnOf x x (C8.fnArgs st) (C8.fnBody st) (C8.fnScope st) .none kV doc pm an cdv ct) ⟨us, []⟩ = pure (ps.zip us))
    (len : ∀ vs H Q E, sp vs H Q E → vs.length = ps.length)
    (hbody : ∀ (f : Addr) (cdv : Value) (A : Around) (outer : List Env) (s : Shared) (H : Hp) (vs : List V) (Q : VK) (E : XK), Room k (A.deeper (envOfC x (C8.fnScope st) s.heap.objs.size f cdv)) → sp vs H Q E →
      ∃ t, PSsT (cxOf C8.CX0 P w K mg base N x (C8.fnScope st) f cdv A outer s H E) (C8.fnBody st) t ∧ t { nx := fun _ H' => Q .non H', rt := Q } (start N vs) H) : C8.Cal P w K mg base (k + 1) x sp [] := by
  obtain ⟨f, fd, D, df⟩ := D
  obtain ⟨oc, od, dV, kV, doc, pm, an, cdv, ct, osl, rfl, lk, hcd⟩ := D.fn.ex
  have e : dV = .none := df
  subst e
  exact ⟨f, _, ps, [], fn_ofT lk hcd S hnc hps len (hbody f cdv), D.mgf, D.kp, .all (hb kV doc pm an cdv ct), .nil⟩
end

/-! ### what strip leaves -/
theorem tw_all {p : Nat → Bool} {l : List Nat} (h : ∀ c ∈ l, p c = true) : l.takeWhile p = l := by
  induction l with
  | nil => rfl
  | cons c r ih =>
    rw [List.takeWhile_cons, h c List.mem_cons_self, if_pos rfl, ih fun d hd => h d (List.mem_cons_of_mem _ hd)]
theorem tw_short {p : Nat → Bool} {l : List Nat} {c : Nat} (h : p c = false) : ((l ++ [c]).takeWhile p).length ≤ l.length := by
  induction l with
  | nil => simp [List.takeWhile_cons, h]
  | cons d r ih =>
    rw [List.cons_append, List.takeWhile_cons]
    cases hd : p d with
    | true => simpa using ih
    | false => simp
theorem dw_head {p : Nat → Bool} : ∀ {l : List Nat}, (∃ c ∈ l, p c = false) → ∃ c r, l.drop (l.takeWhile p).length = c :: r ∧ p c = false ∧ (l.takeWhile p).length + r.length + 1 = l.length
  | [], h => by
    obtain ⟨c, hc, _⟩ := h
    exact (List.not_mem_nil hc).elim
  | d :: r, h => by
    cases hd : p d with
    | false => exact ⟨d, r, by simp [List.takeWhile_cons, hd], hd, by simp [List.takeWhile_cons, hd]⟩
    | true =>
      have h' : ∃ c ∈ r, p c = false := by
        obtain ⟨c, hc, q⟩ := h
        rcases List.mem_cons.mp hc with rfl | hc
        · rw [hd] at q
          cases q
        · exact ⟨c, hc, q⟩
      obtain ⟨c, r', e1, e2, e3⟩ := dw_head h'
      refine ⟨c, r', ?_, e2, ?_⟩
      · rw [List.takeWhile_cons, hd, if_pos rfl, List.length_cons, List.drop_succ_cons, e1]
      · rw [List.takeWhile_cons, hd, if_pos rfl, List.length_cons, List.length_cons]
        omega
theorem strip_tl (g : Nat → Bool) (x : Str) : TL.tl (Txt.stripBy g true true x) = ((TL.tl x).drop ((TL.tl x).takeWhile g).length).take (x.length - (((TL.tl x).drop ((TL.tl x).takeWhile g).length).reverse.takeWhile g).length - ((TL.tl x).takeWhile g).length) := by
  rw [PySem.W.stripBy_eq]
  exact StrLaws.strSub_toList x _ _
theorem strip_none (x y : Str) : decide (V.str (Txt.stripChars x y) = V.str "") = hasOnly x y := by
  have e0 : TL.tl ("" : Str) = [] := by decide +kernel
  have hg : ∀ c, y.cps.contains c = decide (c ∈ TL.tl y) := fun c => by
    rw [Bool.eq_iff_iff]
    simp [TL.tl]
  have key : (Txt.stripChars x y = ("" : Str)) ↔ hasOnly x y = true := by
    have et := strip_tl (fun c => y.cps.contains c) x
    constructor
    · intro h
      refine Bool.not_eq_false _ ▸ fun hf => ?_
      have hx : ∃ c ∈ TL.tl x, y.cps.contains c = false := by
        refine Classical.byContradiction fun z => ?_
        have : hasOnly x y = true := by
          unfold hasOnly
          refine List.all_eq_true.mpr fun c hc => ?_
          rw [← hg]
          cases q : y.cps.contains c with
          | true => rfl
          | false => exact absurd ⟨c, hc, q⟩ z
        rw [this] at hf
        cases hf
      obtain ⟨c, r, e1, e2, e3⟩ := dw_head (p := fun c => y.cps.contains c) hx
      have h' : Txt.stripBy (fun c => y.cps.contains c) true true x = ("" : Str) := h
      rw [h', e0, e1] at et
      have hs := tw_short (p := fun c => y.cps.contains c) (l := r.reverse) e2
      rw [List.length_reverse, ← List.reverse_cons] at hs
      rw [← TL.len_tl] at e3
      have hp : ∃ m, x.length - (((c :: r).reverse.takeWhile fun c => y.cps.contains c)).length - ((TL.tl x).takeWhile fun c => y.cps.contains c).length = m + 1 := ⟨x.length - (((c :: r).reverse.takeWhile fun c => y.cps.contains c)).length - ((TL.tl x).takeWhile fun c => y.cps.contains c).length - 1, by omega⟩
      obtain ⟨m, hm⟩ := hp
      rw [hm, List.take_succ_cons] at et
      cases et
    · intro h
      have hx : ∀ c ∈ TL.tl x, y.cps.contains c = true := fun c hc => by
        rw [hg]
        unfold hasOnly at h
        exact List.all_eq_true.mp h c hc
      apply TL.ext_tl
      rw [e0]
      refine Eq.trans et ?_
      rw [tw_all hx, List.drop_length, List.take_nil]
  rw [Bool.eq_iff_iff, decide_eq_true_iff, ← key]
  exact ⟨fun h => V.str.inj h, fun h => by rw [h]⟩

/-! ### texts of plain signs -/
theorem plain_of {c : Nat} (h : c < 128) : plainC c = Unicode.isPrintable c := by
  have : ∀ c < 128, plainC c = Unicode.isPrintable c := by decide +kernel
  exact this c h
theorem plain_far {c : Nat} (h : ¬ c < 128) : plainC c = false := by
  have h2 : [126] < [c] := List.Lex.rel (by omega)
  unfold plainC
  rw [decide_eq_true h2]
  simp
theorem repl_one (k : Nat) : ∀ l : List Nat, StrLaws.replL [k] [] l = l.filter fun c => !decide (c = k)
  | [] => by rw [StrLaws.replL_nil]; rfl
  | c :: r => by
    by_cases h : c = k
    · rw [StrLaws.replL_hit (by simp) (by simp [h])]
      rw [List.filter_cons, h]
      simp [repl_one k r]
    · rw [StrLaws.replL_miss (by simp [h]), repl_one k r, List.filter_cons]
      simp [h]
def plainT (x : Str) : Bool := Txt.isascii x && Txt.isprintable (Txt.replace x "\n" "")
theorem plain_text (x : Str) : plainT x = (TL.tl x).all fun c => decide (c = 10) || plainC c := by
  have e10 : ("\n" : Str).cps.toList = [10] := by decide +kernel
  have e00 : ("" : Str).cps.toList = [] := by decide +kernel
  have hr : (Txt.replace x "\n" "").cps.toList = (TL.tl x).filter fun c => !decide (c = 10) := by
    rw [StrLaws.replace_list (by decide +kernel), e10, e00, repl_one]
  unfold plainT Txt.isascii Txt.isprintable
  rw [← Array.all_toList, ← Array.all_toList, hr]
  show ((TL.tl x).all _ && _) = _
  induction TL.tl x with
  | nil => rfl
  | cons c r ih =>
    rw [List.all_cons, List.all_cons, ← ih, List.filter_cons]
    by_cases h1 : c < 128
    · rw [plain_of h1]
      by_cases h2 : c = 10
      · simp [h1, h2]
      · simp [h1, h2]
        cases Unicode.isPrintable c <;> simp
    · rw [plain_far h1]
      have h2 : ¬ c = 10 := by omega
      simp [h1, h2]
end Fk

set_option maxHeartbeats 4000000
/-! An error of an own class as a value: made with keywords or without, its base any whose making is the plain one. -/
namespace Fk
open PySem PySem.Spec L2
open Builtin
section
variable {prog : Program} {w : World} {A : Around} {R : Result → Shared → Prop} {h : Heap} {g : Array GenState} {d : Drawn} {t : Nat} {os : OsState}
variable {nm q : Str} {C N : Addr} {bs bm bmB : List Value} {hdct : Bool} {sn : List Str} {sub : List Value} {ab : Bool} {col : Option Bool} {dd : Option Addr} {k0 k1 k2 k3 k5 : Option Value} {B newId initId : String} {kws : List (Str × Value)}
/-- what the class's own list of bases must say -/
structure BmOk (B : String) (bm : List Value) : Prop where
  b : bm.contains (.type B) = true
  a : bm.contains (.type "AttributeError") = false
  n : bm.contains (.type "NameError") = false
theorem BmOk.b' (o : BmOk B bm) : (Value.ref C :: bm).contains (.type B) = true := by
  have := o.b
  simp only [List.contains_cons, this, Bool.or_true]
theorem BmOk.a' (o : BmOk B bm) : (Value.ref C :: bm).contains (.type "AttributeError") = false := by
  have := o.a
  rw [List.contains_cons, this] <;> rfl
theorem BmOk.n' (o : BmOk B bm) : (Value.ref C :: bm).contains (.type "NameError") = false := by
  have := o.n
  rw [List.contains_cons, this] <;> rfl
theorem xcheck_new (F : ExcBaseFacts B newId initId bmB) (o : BmOk B bm) {rest : List Value} {M : Model} {E : Value → Shared → Prop} {Q : Unit → Shared → Prop} (hC : h.get? C = some (excClassObj nm q C N bs bm hdct sn sub ab col dd k0 k1 k2 k3 k5 newId))
    (hq : Q () ⟨h, g, d, t, os⟩) : wpAny M A (checkBuiltinCall newId ⟨.ref C :: rest, kws⟩) Q E ⟨h, g, d, t, os⟩ := by
  have z1 := o.b' (C := C)
  have z2 := F.noStar
  simp only [checkBuiltinCall, F.newKind, F.newSplit, F.newRow]
  repeat (first
    | refine wpAny_loadPart_at hC ?_
    | (refine wpAny_isSubtype_exc hC ?_; rw [z1])
    | refine wpAny_staticBase_exc hC ?_
    | refine wpAny_madeBy_exc hC ?_
    | simp only [bne_self_eq_false, Bool.false_eq_true, if_false]
    | wp_step)
  exact hq
theorem xnew (F : ExcBaseFacts B newId initId bmB) (o : BmOk B bm) {rest : List Value} (hC : h.get? C = some (excClassObj nm q C N bs bm hdct sn sub ab col dd k0 k1 k2 k3 k5 newId)) (hrest : rest.length ≤ sizeLine)
    (hq : R (.ok (.ret (.ref (h.objs.size + 1)))) ⟨(h.push (W.kdv_tup rest)).push (PySem.HandSPX.excO C h.objs.size), g, d, t, os⟩) :
    codeAny (model prog w) A (.builtin newId ⟨.ref C :: rest, kws⟩) R ⟨h, g, d, t, os⟩ := by
  have z0 := F.ends
  have z1 := o.b' (C := C)
  have z2 := o.a' (C := C)
  have z3 := o.n' (C := C)
  refine codeAny_builtinAt F.entry ?_
  unfold Builtin.«BaseException.__new__»
  refine wpAt_bind ?_
  show wpAt _ _ _ (stack >>= _) _ _ _
  refine wpAt_bind (wpAt_stack fun p below => wpAt_of_wpAny ?_)
  wp_walk
  refine wpAt_of_wpAny ?_
  rw [F.owner]
  repeat (first
    | with_reducible refine wpAny_madeHere_exc F.canon hC ?_
    | with_reducible refine wpAny_loadPart_at hC ?_
    | (with_reducible refine wpAny_isSubtype_exc hC ?_; first | rw [z1] | rw [z2] | rw [z3])
    | wp_step)
  show R _ _
  rw [Heap.size_push]
  exact hq
theorem xtype_call (F : ExcBaseFacts B newId initId bmB) (o : BmOk B bm) {rest : List Value} {fI : Addr} {Q : Fin → Shared → Prop} {E : Value → Shared → Prop} (hC : h.get? C = some (excClassObj nm q C N bs bm hdct sn sub ab col dd k0 k1 k2 k3 k5 newId))
    (hi : W.Looks (model prog w) h (typeLookup (.ref C) "__init__") (some (.ref fI))) (hb : ∀ self, W.Looks (model prog w) h (bindSpecial (.ref fI) self) (.ref fI, [self])) (hrest : rest.length ≤ sizeLine)
    (hq : codeAny (model prog w) A (.call (.ref fI) ⟨.ref (h.objs.size + 1) :: rest, kws⟩) (fun r s' => match r with | .ok (.ret v) => v = .none ∧ Q (.done (.ret (.ref (h.objs.size + 1)))) s' | .ok _ => False | .error e => E e s')
      ⟨(h.push (W.kdv_tup rest)).push (PySem.HandSPX.excO C h.objs.size), g, d, t, os⟩) :
    wpAny (model prog w) A (Builtin.«type.__call__» ⟨.ref C :: rest, kws⟩) Q E ⟨h, g, d, t, os⟩ := by
  repeat (first
    | with_reducible refine wpAny_loadPart_at hC ?_
    | with_reducible refine wpAny_madeBy_exc hC ?_
    | wp_step)
  refine codeAny_call_builtin_code (Code.quiet_builtin _ F.quiet) (xcheck_new F o hC ?_)
  refine xnew F o hC hrest ?_
  show wpAny _ _ _ _ _ _
  have kk : ∀ b u, h.get? b = some u → ((h.push (W.kdv_tup rest)).push (PySem.HandSPX.excO C h.objs.size)).get? b = some u := fun b u e => Heap.get?_push_of_some _ (Heap.get?_push_of_some _ e)
  have c1 := kk _ _ hC
  have gt : ((h.push (W.kdv_tup rest)).push (PySem.HandSPX.excO C h.objs.size)).get? (h.objs.size + 1) = some (PySem.HandSPX.excO C h.objs.size) := by heap_get
  have zC : (Value.ref C :: bm).contains (.ref C) = true := by
    rw [List.contains_cons, beq_self_eq_true, Bool.true_or]
  have j1 := hi.keeps kk
  have j2 := (hb (.ref (h.objs.size + 1))).keeps kk
  unfold isInstance
  repeat (first
    | with_reducible refine wpAny_loadPart_at gt ?_
    | (with_reducible refine wpAny_isSubtype_exc c1 ?_; rw [zC])
    | wp_step)
  show wpAny _ _ (typeLookup (.ref C) _) _ _ _
  refine j1.at (wpAny_holding (wpAny_bind (j2.at (wpAny_bind (wpAny_call (codeAny_mono hq fun r s' z => ?_))))))
  rcases r with e | (v | _ | _ | _) <;> first | exact z | exact z.elim | skip
  obtain ⟨rfl, z⟩ := z
  first
    | exact wpAny_pure (wpAny_pure z)
    | (wp_walk; exact z)

theorem xcall (F : ExcBaseFacts B newId initId bmB) (o : BmOk B bm) {rest : List Value} {fI : Addr} (hC : h.get? C = some (excClassObj nm q C N bs bm hdct sn sub ab col dd k0 k1 k2 k3 k5 newId))
    (hi : W.Looks (model prog w) h (typeLookup (.ref C) "__init__") (some (.ref fI))) (hb : ∀ self, W.Looks (model prog w) h (bindSpecial (.ref fI) self) (.ref fI, [self])) (hrest : rest.length ≤ sizeLine)
    (hq : codeAny (model prog w) (A.under (.builtin "type.__call__" ⟨.ref C :: rest, kws⟩)) (.call (.ref fI) ⟨.ref (h.objs.size + 1) :: rest, kws⟩) (W.InitBack (h.objs.size + 1) R) ⟨(h.push (W.kdv_tup rest)).push (PySem.HandSPX.excO C h.objs.size), g, d, t, os⟩) :
    codeAny (model prog w) A (.call (.ref C) ⟨rest, kws⟩) R ⟨h, g, d, t, os⟩ := by
  have z1 := tc_lookup
  have z2 := tc_bind (.ref C)
  have zT : (⟨h, g, d, t, os⟩ : Shared).TypeIs (.ref C) "type" := ⟨_, hC, rfl⟩
  refine codeAny_of_tree ?_
  show wpAny _ _ (callAny (.ref C) _) _ _ _
  repeat (any_goals (first
    | assumption
    | with_reducible refine wpAny_loadPart_at hC ?_
    | wp_step))
  refine ⟨rfl, codeAny_call_builtin_at (Code.quiet_builtin _ (by decide +kernel)) entry_typeCall (wpAny_check_type_call_sub hC (xtype_call F o hC hi hb hrest (codeAny_mono hq fun r s' z => ?_)))⟩
  rcases r with e | (v | _ | _ | _) <;> exact z

open Builtin.ObjectAttr in
theorem xosa {K : W.Frag} {name : Str} {tk : Tok} {v : Value} {x C : Addr} {fv : Array Value} {cd : ClassData} (XK : K.In h) (hx : h.get? x = some { cls := .ref C, data := .fields fv }) (hcd : W.clsIn K C = some cd) (hne : cd.mro.isEmpty = false)
    (hob : cd.mro.contains (.type "object") = true) (hps : refuseLoop (.ref x) "__setattr__" cd.mro = pure ()) (hh : cd.hasDict = true) (ha : W.findIn K (.ref C) name = some none)
    (hq : ∀ h' tk' dx, (∀ b u, b ≠ x → h.get? b = some u → h'.get? b = some u) → h.objs.size ≤ dx → dx ≠ x → h'.get? x = some { cls := .ref C, dict := some dx, data := .fields fv } → h'.Ns1 dx (fun y => if y = name then some v else none) → R (.ok (.ret .none)) ⟨h', g, d, tk', os⟩) :
    codeAny (model prog w) A (.call (.builtin "object.__setattr__") ⟨[.ref x, .str name tk, v], []⟩) R ⟨h, g, d, t, os⟩ := by
  have iT : W.InstAt h x { cls := .ref C, data := .fields fv } C none := ⟨hx, rfl, rfl, trivial⟩
  have sF := PySem.F.store_object
  have nx : x ≠ h.objs.size := Nat.ne_of_lt (Heap.lt_size hx)
  have isO : W.Looks (model prog w) h (isInstance (.ref x) (.type "object")) true := by
    refine iT.type.andThen (W.looks_mroIn XK ?_)
    unfold W.mroIn
    rw [hcd, Option.bind_some, if_neg (by rw [hne]; decide), hob]
  refine codeAny_call_builtin sF.slot.plain sF.entry (@W.check_slot (model prog w) _ _ ⟨h, g, d, t, os⟩ "object.__setattr__" "object" "__setattr__" (.ref x)
    [.str name tk, v] [] _ sF.kind sF.split isO (sF.args (.ref x) (.str name tk) v) ?_)
  have y1 : W.Looks (model prog w) h (mroOf (.ref C)) cd.mro := (W.looks_clsIn XK hcd).andThen .now
  have y2 : W.Looks (model prog w) h (storeTaker? none) none := .now
  have y3 : W.Looks (model prog w) h (classData C) cd := W.looks_clsIn XK hcd
  rw [W.osa_eq, refuse_eq]
  refine wpAny_bind (wpAny_bind (iT.type.at (wpAny_bind (y1.at ?_))))
  rw [hps]
  refine wpAny_pure (wpAny_bind (iT.type.at (wpAny_bind ((W.looks_findIn XK ha).at (wpAny_bind (y2.at ?_))))))
  show wpAny _ _ (storeInOwnDict (.ref x) (.ref C) (.str name tk) name v false) _ _ _
  obtain ⟨z1, z2, z3, z4, z5, hd, z6, z7, z8, z9, z10⟩ := cd
  dsimp only at hh
  subst hh
  unfold storeInOwnDict ownDictForStores
  repeat (first
    | with_reducible refine PySem.HandSPX.store_in_new ?_ ?_
    | with_reducible refine wpAny_loadPart_at hx ?_
    | with_reducible refine y3.at ?_
    | wp_step)
  · exact ⟨_, #[], _, (Heap.get?_update_ne _ _ _ _ nx.symm).trans (Heap.get?_push_at rfl rfl), rfl, fun e he => absurd he (by simp), fun _ => rfl⟩
  · intro h' tk' hn' hs
    have hx' : (h.push { cls := .type "dict", data := .dict #[] }).get? x = some { cls := .ref C, data := .fields fv } := Heap.get?_push_of_some _ hx
    refine hq h' tk' h.objs.size (fun b u hb hu => ?_) (Nat.le_refl _) nx.symm ?_ hn'
    · exact (hs.2 b (Nat.ne_of_lt (Heap.lt_size hu))).trans ((Heap.get?_update_ne _ _ _ _ hb).trans (Heap.get?_push_of_some _ hu))
    · exact (hs.2 x nx).trans (Heap.get?_update_self _ hx' rfl)
end
end Fk

set_option maxHeartbeats 4000000
namespace Fk
open PySem PySem.Spec L2
/-- what the written part says of an error's class, whose __init__ stands at fI -/
structure XC (K : PySem.W.Frag) (C fI : Addr) : Prop where
  cls : ∃ (B newId initId : String) (bmB : List Value) (nm q : Str) (N : Addr) (bs bm : List Value) (sn : List Str) (sub : List Value) (ab : Bool) (col : Option Bool) (dd : Option Addr) (k0 k1 k2 k3 k5 : Option Value),
    ExcBaseFacts B newId initId bmB ∧ BmOk B bm ∧ (∀ self, refuseLoop self "__setattr__" bm = pure ()) ∧ bm.contains (.type "object") = true ∧ K.lookup C = some (excClassObj nm q C N bs bm true sn sub ab col dd k0 k1 k2 k3 k5 newId)
  sa : PySem.W.findIn K (.ref C) "__setattr__" = some (some (.builtin "object.__setattr__"))
  kC : PySem.W.keepIn K (.ref C) = true
  iC : PySem.W.findIn K (.ref C) "__init__" = some (some (.ref fI))
  tI : PySem.W.typeIn K (.ref fI) = some (.type "function")
  ga : PySem.W.findIn K (.ref C) "__getattribute__" = some (some (.builtin "BaseException.__getattribute__"))
  gg : PySem.W.findIn K (.ref C) "__getattr__" = some none
  su : PySem.W.subIn K (.ref C) (.type "BaseException") = some true
  hd : PySem.W.hasDictIn K C = true
  ha : PySem.W.findIn K (.ref C) "__class__" = some (some (.builtin "object.__class__"))
  hn : PySem.W.specialIn K (.builtin "object.__class__") "__get__" = some (some (.builtin "getset_descriptor.__get__"))
  ht : PySem.W.takesIn K (.builtin "object.__class__") = some true
  hm : PySem.W.mroIn K C (.type "object") = some true
section
variable {X : Cx} {CX : CXT} {k : Nat} {fI C : Addr} {fd : FuncData} {ps : List Str} {sp : Sp}
theorem run_mkv {pins : List (Addr × Obj)} {σ : L2.St} {H : Hp} {s : Shared} {Q : VK} {us vals : List Value} {kz : List (Str × Value)} {vvs : List V} (T : XC X.K C fI) (F1 : FnOk X.prog X.w X.K X.mg X.base CX k fI fd ps sp) (hr : Room (k + 1) X.A)
    (hx : Passes CX X (fun _ _ _ => False)) (I : Inv X pins σ H s) (rv : Vals vvs vals) (hus : us.length ≤ 1000) (hbind : ∀ (s' : Shared) (self : Value), X.K.In s'.heap → BindsTo s' fd ⟨self :: us, kz⟩ (ps.zip (self :: vals)))
    (h : ∀ a, H a = none → sp (.ref a :: vvs) (upd H a (exo a C none)) (fun v H2 => v = .non ∧ Q (.ref a) H2) (fun _ _ _ => False)) :
    wpAny (model X.prog X.w) X.A (call (.ref C) us kz) (EP X pins σ Q) X.xe s := by
  obtain ⟨B, newId, initId, bmB, nm, q, N, bs, bm, sn, sub, ab, col, dd, k0, k1, k2, k3, k5, FB, ok, _, _, hC⟩ := T.cls
  obtain ⟨hp, g, dr, tk, os⟩ := s
  have hsz : hp.objs.size ≤ hp.objs.size + 1 := Nat.le_succ _
  have hq := h (hp.objs.size + 1) (I.hok.fresh hsz)
  have gt : ((hp.push (PySem.W.kdv_tup us)).push (PySem.HandSPX.excO C hp.objs.size)).get? (hp.objs.size + 1) = some (PySem.HandSPX.excO C hp.objs.size) := by heap_get
  have I2 : Inv X pins σ (upd H (hp.objs.size + 1) (exo (hp.objs.size + 1) C none)) ⟨(hp.push (PySem.W.kdv_tup us)).push (PySem.HandSPX.excO C hp.objs.size), g, dr, tk, os⟩ :=
    I.laid (t' := tk) (a := hp.objs.size + 1) (o := exo (hp.objs.size + 1) C none) (fun b u e => Heap.get?_push_of_some _ (Heap.get?_push_of_some _ e)) hsz (exo_ok gt)
  have r2 : Vals (V.ref (hp.objs.size + 1) :: vvs) (Value.ref (hp.objs.size + 1) :: vals) := .cons rfl rv
  have hz : us.length ≤ sizeLine := Nat.le_trans hus (by decide)
  refine wpAny_call (xcall FB ok (I.kIn _ _ hC) (PySem.W.looks_findIn I.kIn T.iC) (fun self => PySem.W.bind_fn I.kIn self T.tI) hz
    (codeAny_mono (F1.run _ X.stack _ _ ⟨Value.ref (hp.objs.size + 1) :: us, kz⟩ _ _ _ (fun _ _ _ => False) (hr.make C us kz) (I2.env0.make C us kz) (hbind _ _ I2.kIn) r2 hq) fun r s' z => ?_))
  cases r with
  | error e => exact hx pins σ _ _ e s' I2 z
  | ok fl =>
    cases fl with
    | ret u =>
      obtain ⟨v, H', I3, rv', ev, q3⟩ := I2.after z
      subst ev
      exact ⟨rv', ⟨V.ref (hp.objs.size + 1), H', I3, rfl, q3⟩⟩
    | next => exact z.elim
    | brk => exact z.elim
    | cont => exact z.elim
variable {x : Str} {p p' pos : Pos} {e o : Expr} {es : List Expr} {kws : List Keyword} {t tk : TA} {ds : List Value} {dvs : List V} {ks : List Str} {te to : TE} {f : Str}
/-- C(e, ..) as a value: an error's object stands at a, then __init__ -/
def tMkV (C : Addr) (sp : Sp) (dvs : List V) (t : TA) : TE := fun σ H Q => t σ H fun vs H1 => vs.length ≤ 1000 ∧ ∀ a, H1 a = none → sp (.ref a :: (vs ++ dvs)) (upd H1 a (exo a C none)) (fun v H2 => v = .non ∧ Q (.ref a) H2) (fun _ _ _ => False)
theorem pe_mkv (T : XC X.K C fI) (F1 : FnOk X.prog X.w X.K X.mg X.base CX k fI fd ps sp) (hr : Room (k + 1) X.A) (hb : Binds X.K fd ps ds) (hd : Vals dvs ds) (hx : Passes CX X (fun _ _ _ => False)) (hg : Gl X x) (hm : X.mg x = some (.ref C)) (ha : PA X (e :: es) t)
    (hdb : (x == ("__debug__" : Str)) = false := by decide) (he : starEach (e :: es) X.env = (false, eval e X.env) :: starEach es X.env := by rfl) (hpl : (backTo pos (starEach es X.env)).any (·.1) = false := by rfl) :
    PE X (.Call (.Name x p) (e :: es) [] pos) (tMkV C sp dvs t) := by
  refine ⟨fun pins s σ H Q I h => ?_⟩
  refine wpAny_Call_Name_kw (ld_glob I hg hm ?_ hdb)
  refine PySem.W.callWith_K (h₀ := X.base) I.ok.mod.kin T.kC (thn (ha.run pos pins s σ H _ I h) fun us s1 ⟨vs, H1, I1, r1, hz, q1⟩ => ⟨I1.kIn, ?_⟩) he hpl
  have q0 := q1 _ (I1.hok.fresh (Nat.le_refl _))
  have l0 := F1.len _ _ _ _ q0
  have l1 := (r1.append hd).length
  rw [List.length_cons] at l0
  exact run_mkv (us := us) (kz := []) T F1 hr hx I1 (r1.append hd) (by rw [← r1.length]; exact hz) (fun s' self X1 => hb s' (self :: us) X1 (by rw [List.cons_append, List.length_cons, ← l1]; exact l0)) q1
theorem pe_mkv0 (T : XC X.K C fI) (F1 : FnOk X.prog X.w X.K X.mg X.base CX k fI fd ps sp) (hr : Room (k + 1) X.A) (hb : Binds X.K fd ps ds) (hd : Vals dvs ds) (hx : Passes CX X (fun _ _ _ => False)) (hg : Gl X x) (hm : X.mg x = some (.ref C))
    (hdb : (x == ("__debug__" : Str)) = false := by decide) : PE X (.Call (.Name x p) [] [] pos) (tMkV C sp dvs tNil) := by
  refine ⟨fun pins s σ H Q I h => ?_⟩
  obtain ⟨_, q1⟩ := h
  refine wpAny_Call_Name_kw (ld_glob I hg hm ?_ hdb)
  refine PySem.W.callWith_K0 I.kIn T.kC ?_
  have q0 := q1 _ (I.hok.fresh (Nat.le_refl _))
  have l0 := F1.len _ _ _ _ q0
  rw [List.length_cons] at l0
  exact run_mkv (us := []) (kz := []) T F1 hr hx I hd (Nat.zero_le _) (fun s' self X1 => hb s' [self] X1 (by rw [List.singleton_append, List.length_cons, ← hd.length]; exact l0)) q1
/-- C(k = e, ..) as a value -/
def tMkVK (C : Addr) (n : Nat) (sp : Sp) (t : TA) : TE := fun σ H Q => t σ H fun zs H1 => zs.length = n ∧ ∀ a, H1 a = none → sp (.ref a :: zs) (upd H1 a (exo a C none)) (fun v H2 => v = .non ∧ Q (.ref a) H2) (fun _ _ _ => False)
theorem pe_mkvK (T : XC X.K C fI) (F1 : FnOk X.prog X.w X.K X.mg X.base CX k fI fd ps sp) (hr : Room (k + 1) X.A) (hb : ∀ (s : Shared) (self : Value) (ws : List Value), X.K.In s.heap → ws.length = ks.length → BindsTo s fd ⟨[self], ks.zip ws⟩ (ps.zip (self :: ws))) (hx : Passes CX X (fun _ _ _ => False))
    (hg : Gl X x) (hm : X.mg x = some (.ref C)) (hkw : PK X kws tk) (hall : (backToKw pos (keywordEach kws X.env)).all (·.1.isSome) = true := by rfl) (hks : (backToKw pos (keywordEach kws X.env)).filterMap (·.1) = ks := by rfl) (hdb : (x == ("__debug__" : Str)) = false := by decide)
    (hpl : ((backTo pos (starEach [] X.env)).any (·.1) || (backToKw pos (keywordEach kws X.env)).any (·.1.isNone)) = false := by rfl) : PE X (.Call (.Name x p) [] kws pos) (tMkVK C ks.length sp tk) := by
  refine ⟨fun pins s σ H Q I h => ?_⟩
  refine wpAny_Call_Name_kw (ld_glob I hg hm ?_ hdb)
  refine PySem.W.callWith_KW0 (h₀ := X.base) I.ok.mod.kin T.kC hall ?_ hpl
  refine thn (hkw.run pos pins s σ H _ I h) fun ws s2 ⟨zs, H2, I2, rz, l2, q2⟩ => ⟨I2.kIn, ?_⟩
  rw [hks]
  exact run_mkv (us := []) T F1 hr hx I2 rz (Nat.zero_le _) (fun s' self X1 => hb s' self ws X1 (by rw [← rz.length]; exact l2)) q2

theorem inst_v {H : Hp} {h : Heap} {P : Program} {w : World} {a d : Addr} {fs : List (Str × V)} (hok : HOk P w H h) (ea : H a = some (exo a C (some d))) (ed : H d = some (exd d fs)) :
    ∃ (ox od : Obj) (mA : Str → Option Value), PySem.W.InstAt h a ox C (some od) ∧ h.get? d = some od ∧ h.Ns1 d mA ∧ ∀ g, RelO (fs.lookup g) (mA g) := by
  obtain ⟨t1, ho⟩ := exo_at hok ea
  obtain ⟨mA, hns, rel⟩ := exd_at hok ed
  obtain ⟨od, es', ep, h1, h2, h3⟩ := id hns
  exact ⟨_, od, mA, ⟨ho, rfl, rfl, h1⟩, h1, hns, rel⟩
/-- e.f, e an error's value -/
def tFv (K : PySem.W.Frag) (f : Str) (te : TE) : TE := fun σ H Q => te σ H fun x H1 => ∃ (a C fI d : Addr) (fs : List (Str × V)) (v : V), x = .ref a ∧ XC K C fI ∧ PySem.W.findIn K (.ref C) f = some none ∧ H1 a = some (exo a C (some d)) ∧ H1 d = some (exd d fs) ∧ fs.lookup f = some v ∧ Q v H1
theorem pe_fv (he : PE X e te) (hb : attributeBase e f X.env (eval e X.env) = eval e X.env := by rfl) : PE X (.Attribute e f pos) (tFv X.K f te) := by
  refine ⟨fun pins s σ H Q I h => ?_⟩
  refine attr_of hb (thn (he.run pins s σ H _ I h) fun u s1 hh => ?_)
  obtain ⟨x, H1, I1, rx, a, C, fI, d, fs, v, ex, T, hno, ea, ed, l, q⟩ := hh
  subst ex
  obtain rfl : u = Value.ref a := rx
  obtain ⟨ox, od, mA, J, hod, hns, rel⟩ := inst_v I1.hok ea ed
  obtain ⟨od', ho', hl'⟩ := lookIn_ns hns
  rw [hod] at ho'
  cases ho'
  obtain ⟨u, hu, ru⟩ := RelO.some_of (v := v) (o := mA f) (by rw [← l]; exact rel f)
  exact PySem.HandSPX.exc_get I1.kIn J T.ga T.gg T.su (PySem.W.findObj_own T.hd hno rfl (by rw [hl', hu])) (handed_of ru) ⟨v, H1, I1.tok _, ru, q⟩
theorem kit_v {K : PySem.W.Frag} {a : Addr} {od : Option Obj} {ox : Obj} (T : XC K C fI) : PySem.W.KitX K (.ref a) (.ref C) (fun h => PySem.W.InstAt h a ox C od) := by
  refine PySem.W.kitx_exc ?_ T.ga T.gg T.su T.ha T.hn T.ht T.hm
  obtain ⟨B, newId, initId, bmB, nm, q, N, bs, bm, sn, sub, ab, col, dd, k0, k1, k2, k3, k5, FB, ok, _, _, hC⟩ := T.cls
  unfold PySem.W.clsIn
  rw [hC]
  rfl
/-- isinstance(e, c), e an error's value -/
def rIsV (K : PySem.W.Frag) : List V → Hp → VK → Prop := fun xs H Q => ∃ (a C fI d : Addr) (fs : List (Str × V)) (c : V) (u : Value) (b : Bool), xs = [.ref a, c] ∧ ClsV c u ∧ XC K C fI ∧ H a = some (exo a C (some d)) ∧ H d = some (exd d fs) ∧ PySem.W.kitOne K (.ref C) u = some b ∧ Q (.bl b) H
theorem call_isv : CallR X (.builtin "isinstance") (rIsV X.K) := by
  intro pins s σ H xs us Q I r h
  obtain ⟨a, C, fI, d, fs, c, u, b, rfl, kc, T, ea, ed, e, q⟩ := h
  obtain ⟨u1, u2, rfl, r1, r2⟩ := vals2 r
  have e2 := kc.eq r2
  subst e2
  obtain rfl : u1 = Value.ref a := r1
  obtain ⟨ox, od, mA, J, hod, hns, rel⟩ := inst_v I.hok ea ed
  exact PySem.W.kia_one (kit_v T) I.kIn J e (fun z => nomatch z) fun tk => ⟨.bl b, H, I.tok tk, rfl, q⟩
/-- isinstance(e, (c, ..)), e the error that the suite holds -/
def rIsS (K : PySem.W.Frag) (a : Addr) (cls : Value) (d : Option Addr) : List V → Hp → VK → Prop := fun xs H Q => ∃ (C fI tp dd : Addr) (fs : List (Str × V)) (cs : List V) (us : List Value) (b : Bool), xs = [.ref a, .ref tp] ∧ cls = .ref C ∧ d = some dd ∧ XC K C fI ∧ H dd = some (.xd fs) ∧
  H tp = some (.tup cs) ∧ Paired ClsV cs us ∧ PySem.W.kitAny K (.ref C) us = some b ∧ Q (.bl b) H
theorem call_isS {a : Addr} {oe : Obj} {cls : Value} {d : Option Addr} {pn : List (Addr × Obj)} (hz : Zc cls d oe) (hf : ∃ vs, oe.data = .fields vs) : CallR (X.suite a ((a, oe) :: pn)) (.builtin "isinstance") (rIsS X.K a cls d) := by
  intro pins s σ H xs us Q I r h
  obtain ⟨C, fI, tp, dd, fs, cs, ws, b, rfl, rfl, rfl, T, ed, hT, kc, e, q⟩ := h
  obtain ⟨u1, u2, rfl, r1, r2⟩ := vals2 r
  obtain rfl : u1 = Value.ref a := r1
  cases (show u2 = Value.ref tp from r2)
  obtain ⟨hget, _⟩ := I.pin (a, oe) (List.mem_append_left _ List.mem_cons_self)
  obtain ⟨vs, hv⟩ := hf
  obtain ⟨mA, hns, rel⟩ := (show ObjOk X.prog X.w H s.heap dd (.xd fs) from I.hok dd _ ed)
  obtain ⟨od, ho, hl⟩ := lookIn_ns hns
  have J : PySem.W.InstAt s.heap a oe C (some od) := ⟨hget, hz.1, by unfold PySem.W.notCls; rw [hv] <;> rfl, by rw [hz.2]; exact ho⟩
  obtain ⟨_, its, rv, o, h1, h2, n, h3⟩ := (show ObjOk X.prog X.w H s.heap tp (.tup cs) from I.hok tp _ hT)
  have e3 := ClsV.all kc rv
  subst e3
  obtain ⟨oc, od', dt, sl⟩ := o
  simp only at h2 h3
  subst h2 h3
  exact PySem.W.kia_tup (kit_v T) I.kIn J h1 e (fun z => nomatch z) fun tk => ⟨.bl b, H, I.tok tk, rfl, q⟩
theorem xost {pins : List (Addr × Obj)} {σ : L2.St} {H : Hp} {s : Shared} {a : Addr} {y : V} {u : Value} {Q : Unit → Shared → Prop} {E : Value → Shared → Prop} {A : Around} (T : XC X.K C fI) (I : Inv X pins σ H s) (ea : H a = some (exo a C none))
    (hno : PySem.W.findIn X.K (.ref C) f = some none) (ry : RelV y u)
    (h : ∀ dx s', H dx = none → dx ≠ a → Inv X pins σ (upd (upd H dx (exd dx [(f, y)])) a (exo a C (some dx))) s' → Q () s') : wpAny (model X.prog X.w) A (setAttr (.ref a) f u) Q E s := by
  obtain ⟨B, newId, initId, bmB, nm, q, N, bs, bm, sn, sub, ab, col, dd, k0, k1, k2, k3, k5, FB, ok, hps, hob, hC⟩ := T.cls
  have hcl : PySem.W.clsIn X.K C = some { name := nm, bases := bs, mro := .ref C :: bm, ns := N, qualname := q, hasDict := true, slotNames := sn, subclasses := sub, abstract := ab, collection := col, hasDel := false } := by
    unfold PySem.W.clsIn
    rw [hC]
  obtain ⟨t1, ho⟩ := exo_at I.hok ea
  obtain ⟨hp, g, d, t, os⟩ := s
  refine PySem.W.set_plain I.kIn (ox := { cls := .ref C, dict := none, data := .fields #[.ref t1, .none, .none, .none, .bool false, .none] }) (od := none) ⟨ho, rfl, rfl, trivial⟩ T.sa ?_
  refine xosa I.kIn ho hcl rfl (by rw [List.contains_cons, hob, Bool.or_true]) (by rw [refuseLoop_ref]; exact hps _) rfl hno (fun h' tk' dx kp dn dne hx hn => ?_)
  have zd : H dx = none := I.hok.fresh dn
  have nd : ∀ {b : Addr} {o : Obj}, hp.get? b = some o → b ≠ dx := fun {b o} w => Nat.ne_of_lt (Nat.lt_of_lt_of_le (Heap.lt_size w) dn)
  have na : ∀ {b : Addr}, H b = none → b ≠ a := fun {b} n z => by
    rw [z, ea] at n
    cases n
  have U : Un X.fs [] H (upd (upd H dx (exd dx [(f, y)])) a (exo a C (some dx))) hp h' := by
    refine ⟨fun b o w n _ _ => kp b o (na n) w, fun b o w n _ _ => ⟨o.slots, kp b o (na n) w⟩, fun b o w n _ => ?_, fun b o w _ => ?_, fun b xs w => ?_, fun b o v w => ?_, fun b ps w => ⟨#[], ?_⟩⟩
    · rw [upd_ne (na n), upd_ne (nd w)]
      exact n
    · by_cases hb : b = a
      · rw [hb]
        exact ⟨_, hx⟩
      · exact ⟨o, kp b o hb w⟩
    · rw [upd_ne (at_ne ea w exo_tup), upd_ne (ne_of_none w zd)]
      exact w
    · rw [upd_ne (at_ne ea w exo_frz), upd_ne (ne_of_none w zd)]
      exact w
    · rw [upd_ne (at_ne ea w exo_tbl), upd_ne (ne_of_none w zd), w]
      simp
  refine h dx _ zd dne (I.un (t' := tk') U fun b o w => ?_)
  by_cases hb : b = a
  · rw [hb, upd_same] at w
    cases w
    rw [hb]
    exact exo_ok hx
  rw [upd_ne hb] at w
  by_cases hd : b = dx
  · rw [hd, upd_same] at w
    cases w
    rw [hd]
    exact exd_ok hn (relO_put (fs := []) ry fun g => True.intro)
  rw [upd_ne hd] at w
  refine (I.hok b o w).stay (fun c v hc z => kp c v ?_ z) (fun c hc => ?_) (fun c xs hc => ?_)
  · rcases hc with hc | hc
    · rw [hc]
      exact hb
    · exact at_ne ea hc exo_own
  · rw [upd_ne (at_ne ea hc exo_own), upd_ne (ne_of_none hc zd)]
    exact hc
  · rw [upd_ne (at_ne ea hc exo_tup), upd_ne (ne_of_none hc zd)]
    exact hc
/-- self.f = e, self an error that has no field yet -/
def tOsv (K : PySem.W.Frag) (f : Str) (to te : TE) : TS := fun D σ H => te σ H fun y H1 => to σ H1 fun x H2 => ∃ a C fI : Addr, x = .ref a ∧ XC K C fI ∧ PySem.W.findIn K (.ref C) f = some none ∧ H2 a = some (exo a C none) ∧
  ∀ dx, H2 dx = none → dx ≠ a → D.nx σ (upd (upd H2 dx (exd dx [(f, y)])) a (exo a C (some dx)))
theorem ps_osv (ho : PE X o to) (he : PE X e te) (hs : swapsWith e (some (.Attribute o f p')) pos.line X.env = pure false := by rfl) : PS X (.Assign [.Attribute o f p'] e pos) (tOsv X.K f to te) := by
  refine ⟨fun pins s σ H D I h => ?_⟩
  refine plainObj_wpAny_Assign_Attribute (thn (he.run pins s σ H _ I h) fun v s1 ⟨y, H1, I1, r1, q1⟩ => thn (ho.run pins s1 σ H1 _ I1 q1) fun u s2 ⟨x, H2, I2, r2, a, C, fI, ex, T, hno, ea, q⟩ => ?_) hs
  subst ex
  obtain rfl : u = Value.ref a := r2
  exact xost T I2 ea hno r1 fun dx s' n ne J => ⟨σ, _, J, q dx n ne⟩
end
end Fk

set_option maxHeartbeats 4000000
/-! What is known of an error's class by its entry in the written part. -/
namespace Fk
open PySem PySem.Spec L2
def VE : List Value := [.type "ValueError", .type "Exception", .type "BaseException", .type "object"]
def KE : List Value := [.type "KeyError", .type "LookupError", .type "Exception", .type "BaseException", .type "object"]
structure CF (K : PySem.W.Frag) (nm : Str) (newId : String) (bm : List Value) (C : Addr) : Prop where
  x : ∃ (q : Str) (N : Addr) (bs : List Value) (sn : List Str) (sub : List Value) (ab : Bool) (col : Option Bool) (dd : Option Addr) (k0 k1 k2 k3 k5 : Option Value), K.lookup C = some (excClassObj nm q C N bs bm true sn sub ab col dd k0 k1 k2 k3 k5 newId)
section
variable {K : PySem.W.Frag} {nm nm' : Str} {newId newId' : String} {bm bm' : List Value} {C C' : Addr}
theorem CF.sub (c : CF K nm newId bm C) (u : Value) : PySem.W.subIn K (.ref C) u = some ((Value.ref C :: bm).contains u) := by
  obtain ⟨q, N, bs, sn, sub, ab, col, dd, k0, k1, k2, k3, k5, e⟩ := c.x
  show PySem.W.mroIn K C u = _
  unfold PySem.W.mroIn PySem.W.clsIn
  rw [e]
  rfl
theorem CF.mro (c : CF K nm newId bm C) (u : Value) : PySem.W.mroIn K C u = some ((Value.ref C :: bm).contains u) := c.sub u
theorem CF.typ (c : CF K nm newId bm C) : PySem.W.typeIn K (.ref C) = some (.type "type") := by
  obtain ⟨q, N, bs, sn, sub, ab, col, dd, k0, k1, k2, k3, k5, e⟩ := c.x
  show (K.lookup C).map (·.cls) = _
  rw [e]
  rfl
theorem CF.hd (c : CF K nm newId bm C) : PySem.W.hasDictIn K C = true := by
  obtain ⟨q, N, bs, sn, sub, ab, col, dd, k0, k1, k2, k3, k5, e⟩ := c.x
  unfold PySem.W.hasDictIn PySem.W.clsIn
  rw [e]
  rfl
theorem CF.isc (c : CF K nm newId bm C) : (PySem.W.clsIn K C).isSome = true := by
  obtain ⟨q, N, bs, sn, sub, ab, col, dd, k0, k1, k2, k3, k5, e⟩ := c.x
  unfold PySem.W.clsIn
  rw [e]
  rfl
theorem CF.kit (c : CF K nm newId bm C) (c' : CF K nm' newId' bm' C') : PySem.W.kitOne K (.ref C) (.ref C') = some ((Value.ref C :: bm).contains (.ref C')) := by
  unfold PySem.W.kitOne
  by_cases h : C = C'
  · subst h
    have e : (Value.ref C == .ref C) = true := beq_self_eq_true _
    rw [if_pos e, List.contains_cons, e, Bool.true_or]
  · have e : ¬ (Value.ref C == .ref C') = true := fun z => by
      have := eq_of_beq z
      cases this
      exact h rfl
    have t : ((PySem.W.clsIn K C').isSome && PySem.W.typeIn K (.ref C') == some (.type "type")) = true := by
      rw [c'.isc, c'.typ] <;> rfl
    rw [if_neg e]
    show (if ((PySem.W.clsIn K C').isSome && PySem.W.typeIn K (.ref C') == some (.type "type")) = true then PySem.W.subIn K (.ref C) (.ref C') else none) = _
    rw [if_pos t]
    exact c.sub _
theorem CF.kitT (c : CF K nm newId bm C) {n : String} (h : PySem.W.kitMeta n = true) : PySem.W.kitOne K (.ref C) (.type n) = some ((Value.ref C :: bm).contains (.type n)) := by
  unfold PySem.W.kitOne
  have e : ¬ (Value.ref C == .type n) = true := fun z => by
    have := eq_of_beq z
    cases this
  rw [if_neg e]
  show (if PySem.W.kitMeta n = true then PySem.W.subIn K (.ref C) (.type n) else none) = _
  rw [if_pos h]
  exact c.sub _
theorem CF.name (c : CF K nm newId bm C) (c' : CF K nm' newId' bm' C) : nm = nm' := by
  obtain ⟨q, N, bs, sn, sub, ab, col, dd, k0, k1, k2, k3, k5, e⟩ := c.x
  obtain ⟨q', N', bs', sn', sub', ab', col', dd', k0', k1', k2', k3', k5', e'⟩ := c'.x
  rw [e] at e'
  have z := Option.some.inj e'
  injection z with z1 z2 z3 z4
  injection z3 with z5
  injection z5
theorem CF.oex (c : CF K nm "ValueError.__new__" bm C) (h : PySem.HandSPX.refsVE bm = true) (sa : PySem.W.findIn K (.ref C) "__setattr__" = some (some (.builtin "object.__setattr__"))) (kC : PySem.W.keepIn K (.ref C) = true) (hb : bm.contains (.type "BaseException") = true) : OexC K C := by
  obtain ⟨q, N, bs, sn, sub, ab, col, dd, k0, k1, k2, k3, k5, e⟩ := id c.x
  refine { cls := ⟨nm, q, N, bs, bm, sn, sub, ab, col, dd, k0, k1, k2, k3, k5, e, h⟩, sa := sa, exC := ?_, tyC := c.typ, kC := kC }
  rw [c.sub, List.contains_cons, hb, Bool.or_true]
theorem CF.exm (c : CF K nm newId bm C) (c' : CF K nm' newId' bm' C') (hb : bm'.contains (.type "BaseException") = true) {b : Bool} (e : (Value.ref C :: bm).contains (.ref C') = b) : PySem.W.exmOne K (.ref C) (.ref C') = some b := by
  refine PySem.W.exm_ref ?_ c'.hd c'.typ ((c.sub _).trans (congrArg some e))
  rw [c'.sub, List.contains_cons, hb, Bool.or_true]
theorem CF.xc (c : CF K nm newId bm C) {B initId : String} {bmB : List Value} {fI : Addr} (FB : ExcBaseFacts B newId initId bmB) (ok : BmOk B bm) (ps : ∀ self, refuseLoop self "__setattr__" bm = pure ()) (ob : bm.contains (.type "object") = true) (hb : bm.contains (.type "BaseException") = true)
    (sa : PySem.W.findIn K (.ref C) "__setattr__" = some (some (.builtin "object.__setattr__"))) (kC : PySem.W.keepIn K (.ref C) = true) (iC : PySem.W.findIn K (.ref C) "__init__" = some (some (.ref fI))) (tI : PySem.W.typeIn K (.ref fI) = some (.type "function"))
    (ga : PySem.W.findIn K (.ref C) "__getattribute__" = some (some (.builtin "BaseException.__getattribute__"))) (gg : PySem.W.findIn K (.ref C) "__getattr__" = some none) (ha : PySem.W.findIn K (.ref C) "__class__" = some (some (.builtin "object.__class__")))
    (hn : PySem.W.specialIn K (.builtin "object.__class__") "__get__" = some (some (.builtin "getset_descriptor.__get__"))) (ht : PySem.W.takesIn K (.builtin "object.__class__") = some true) : XC K C fI := by
  obtain ⟨q, N, bs, sn, sub, ab, col, dd, k0, k1, k2, k3, k5, e⟩ := id c.x
  refine { cls := ⟨B, newId, initId, bmB, nm, q, N, bs, bm, sn, sub, ab, col, dd, k0, k1, k2, k3, k5, FB, ok, ps, ob, e⟩, sa := sa, kC := kC, iC := iC, tI := tI, ga := ga, gg := gg, su := ?_, hd := c.hd, ha := ha, hn := hn, ht := ht, hm := ?_ }
  · rw [c.sub, List.contains_cons, hb, Bool.or_true]
  · rw [c.mro, List.contains_cons, ob, Bool.or_true]
end
theorem ve_ok : BmOk "ValueError" VE := ⟨by decide +kernel, by decide +kernel, by decide +kernel⟩
theorem ke_ok : BmOk "LookupError" KE := ⟨by decide +kernel, by decide +kernel, by decide +kernel⟩
theorem rve_ok (c : Addr) : BmOk "ValueError" (.ref c :: VE) := ⟨ve_ok.b', ve_ok.a', ve_ok.n'⟩
theorem ve_pass (self : Value) : refuseLoop self "__setattr__" VE = pure () := PySem.F.store_ValueError.passes self
theorem rve_pass (c : Addr) (self : Value) : refuseLoop self "__setattr__" (.ref c :: VE) = pure () := by
  rw [refuseLoop_ref]
  exact ve_pass self
theorem ke_pass (self : Value) : refuseLoop self "__setattr__" KE = pure () := by
  kernel_rfl
end Fk

set_option maxHeartbeats 4000000
/-! Operators of an own class: ==, !=, +, unary -. -/
namespace Fk
open PySem PySem.Spec PyProof.Rows L2
/-- nothing is let out where E0 is asked -/
def NoEx (CX : CXT) : Prop := ∀ outer H s u s', CX outer H s C8.E0 u s' → False
theorem noEx0 : NoEx C8.CX0 := fun _ _ _ _ _ h => h
theorem noExL {P : Program} {w : World} : NoEx (L2.CX P w) := fun outer H s u s' h => by
  obtain ⟨_, _, _, _, _, _, _, _, _, _, _, _, e⟩ := h
  exact e
/-- a method of an own class -/
structure OwnM (P : Program) (w : World) (K : PySem.W.Frag) (mg : Str → Option Value) (base : Heap) (CX : CXT) (k : Nat) (C : Addr) (m : Str) (sp : Sp) : Prop where
  ex : ∃ (f : Addr) (fd : FuncData) (ps : List Str), PySem.W.findIn K (.ref C) m = some (some (.ref f)) ∧ PySem.W.isFn K (.ref f) = true ∧ FnOk P w K mg base CX k f fd ps sp ∧ Binds K fd ps []
section
variable {X : Cx} {CX : CXT} {k : Nat} {C a dx : Addr} {sp : Sp} {fs : List (Str × V)} {y : V} {u tb : Value} {pins : List (Addr × Obj)} {σ : L2.St} {H : Hp} {s : Shared} {Q : VK}
/-- a def runs, somewhere below the body; it lets nothing out -/
theorem run_in {f : Addr} {fd : FuncData} {ps : List Str} {us : List Value} {vs : List V} {E' : Value → Shared → Prop} {A : Around} (F : FnOk X.prog X.w X.K X.mg X.base CX k f fd ps sp) (hr : Room k A) (hA : Env0 X.prog X.w X.K X.mg X.base A X.stack s H) (hb : Binds X.K fd ps []) (hx : NoEx CX)
    (I : Inv X pins σ H s) (r : Vals vs us) (h : sp vs H Q C8.E0) : wpAny (model X.prog X.w) A (call (.ref f) us) (EP X pins σ Q) E' s := by
  have hl : us.length = ps.length := by
    rw [← r.length]
    exact F.len _ _ _ _ h
  have b := hb s us I.kIn (by rw [List.append_nil]; exact hl)
  rw [List.append_nil] at b
  refine wpAny_call (codeAny_mono (F.run A X.stack s H ⟨us, []⟩ us vs Q C8.E0 hr hA b r h) fun r s' hq => ?_)
  cases r with
  | error e => exact (hx _ _ _ _ _ hq).elim
  | ok fl =>
    cases fl with
    | ret u => exact I.after hq
    | next => exact hq.elim
    | brk => exact hq.elim
    | cont => exact hq.elim
/-- x == y, x an own object -/
def rOwnEq (K : PySem.W.Frag) (C : Addr) (sp : Sp) : R2 := fun x y H Q => ∃ (a dx : Addr) (fs : List (Str × V)) (tb : Value), x = .ref a ∧ H a = some (.ins C dx fs) ∧ TyX K H y tb ∧ PySem.W.notFirst K C tb = true ∧ sp [x, y] H (fun v H' => ∃ b, v = .bl b ∧ Q (.bl b) H') C8.E0
theorem op_ownEq (M : OwnM X.prog X.w X.K X.mg X.base CX k C "__eq__" sp) (hr : Room k X.A) (hx : NoEx CX) : OpR X (compareOp .Eq) (rOwnEq X.K C sp) := by
  intro pins s σ H x y v u Q I rx ry h
  obtain ⟨a, dx, fs, tb, rfl, ha, ty, hn, q⟩ := h
  obtain ⟨f, fd, ps, hs, hf, F, hb⟩ := M.ex
  cases (show v = Value.ref a from rx)
  obtain ⟨mA, J, _⟩ := ins_get I.hok ha
  obtain ⟨od, J, _⟩ := J.look
  obtain ⟨m, hF⟩ := I.fr
  obtain ⟨P', Z, p, _⟩ := kit_of I ry ty
  show wpAny (model X.prog X.w) X.A (richCompare .Eq (.ref a) u) (EP X pins σ Q) X.xe s
  refine PySem.W.cmp_K (op := .Eq) hr.units0 hF I.ok.mod.kin J (Z.ty _ _ I.kIn p) hn hs hf (wpAny_mono (run_in F hr I.env0 hb hx I (show Vals [V.ref a, y] [Value.ref a, u] from .cons rfl (.cons ry .nil)) q) (fun v s' z => ?_) fun _ _ x => x)
  obtain ⟨x, H', I', rv, b, rfl, q'⟩ := z
  cases (show v = Value.bool b from rv)
  exact ⟨.bl b, H', I', rfl, q'⟩
/-- x != y by object.__ne__, which asks x's own == -/
def rOwnNe (K : PySem.W.Frag) (C : Addr) (sp : Sp) : R2 := fun x y H Q => ∃ (a dx : Addr) (fs : List (Str × V)) (tb : Value), x = .ref a ∧ H a = some (.ins C dx fs) ∧ TyX K H y tb ∧ PySem.W.notFirst K C tb = true ∧ sp [x, y] H (fun v H' => ∃ b, v = .bl b ∧ Q (.bl (!b)) H') C8.E0
theorem op_ownNe (M : OwnM X.prog X.w X.K X.mg X.base CX k C "__eq__" sp) (hr : Room (k + 1) X.A) (hx : NoEx CX) (hne : PySem.W.findIn X.K (.ref C) "__ne__" = some (some (.builtin "object.__ne__"))) (hob : PySem.W.mroIn X.K C (.type "object") = some true) :
    OpR X (compareOp .NotEq) (rOwnNe X.K C sp) := by
  intro pins s σ H x y v u Q I rx ry h
  obtain ⟨a, dx, fs, tb, rfl, ha, ty, hn, q⟩ := h
  obtain ⟨f, fd, ps, hs, hf, F, hb⟩ := M.ex
  cases (show v = Value.ref a from rx)
  obtain ⟨mA, J, _⟩ := ins_get I.hok ha
  obtain ⟨od, J, _⟩ := J.look
  obtain ⟨P', Z, p, _⟩ := kit_of I ry ty
  have hbT := Z.ty (model X.prog X.w) s.heap I.kIn p
  have X0 := I.kIn
  have one : wpAny (model X.prog X.w) X.A (tryCompare (.ref a) "__ne__" u) (fun r s' => ∃ v, r = some v ∧ EP X pins σ Q v s') X.xe s := by
    unfold tryCompare
    have sp : PySem.W.Looks (model X.prog X.w) s.heap (specialOf (.ref a) "__ne__") (some (.builtin "object.__ne__")) := J.type.andThen (PySem.W.looks_findIn X0 hne)
    have iv : PySem.W.Looks (model X.prog X.w) s.heap (isInstance (.ref a) (.type "object")) true := J.type.andThen (PySem.W.looks_mroIn X0 hob)
    refine wpAny_bind (NtL.csib (E := X.xe) sp (PySem.F.cmp_object.ne.bind _) ?_)
    refine wpAny_call (codeAny_call_builtin PySem.F.cmp_object.ne.plain PySem.F.cmpEntry_ne (PySem.W.check_slot PySem.F.cmpKind_ne PySem.F.cmpSplit_ne iv (PySem.F.cmpArgs_ne _ _) ?_))
    have hu : X.A.in1.units < cLine := hr.in1.units0
    unfold Builtin.«object.__ne__»
    repeat (first
      | with_reducible refine wpAny_cRoomFor hu ?_
      | (refine wpAny_bind (m := callSpecialIfBound? (.ref a) (Str.ofString "__eq__") [u]) (PySem.W.ifBound_K X0 J hs hf (wpAny_mono (run_in (E' := fun _ _ => False) F hr.in1 I.env0.in1 hb hx I (show Vals [V.ref a, y] [Value.ref a, u] from .cons rfl (.cons ry .nil)) q) (fun v s' z => ?_) fun _ _ x => x.elim)))
      | wp_step)
    obtain ⟨x, H', I', rv, b, rfl, q'⟩ := z
    cases (show v = Value.bool b from rv)
    show wpAny _ _ (truthy (.bool b) >>= _) _ _ _
    refine wpAny_bind (wpAny_truthy_bool ?_)
    exact wpAny_pure (wpAny_pure ⟨_, rfl, .bl (!b), H', I', rfl, q'⟩)
  show wpAny (model X.prog X.w) X.A (richCompare .NotEq (.ref a) u) (EP X pins σ Q) X.xe s
  unfold richCompare
  simp only [oneThing_ref]
  refine wpAny_holding (wpAny_bind (wpAny_cRoomFor hr.units0 ?_))
  refine wpAny_bind (J.type.here (wpAny_bind (hbT.here ?_)))
  split
  · rename_i z
    have e : PySem.W.subIn X.K tb (.ref C) = some false := by
      rcases Bool.or_eq_true_iff.mp hn with e | e
      · rw [beq_iff_eq.mp e] at z
        simp at z
      · exact beq_iff_eq.mp e
    refine wpAny_bind ((PySem.W.looks_subIn X0 e).here ?_)
    simp only [Bool.false_eq_true, if_false]
    refine wpAny_bind (wpAny_mono one (fun r s' z => ?_) fun _ _ e => e)
    obtain ⟨v, rfl, hq⟩ := z
    exact wpAny_pure hq
  · refine wpAny_bind (wpAny_pure ?_)
    simp only [Bool.false_eq_true, if_false]
    refine wpAny_bind (wpAny_mono one (fun r s' z => ?_) fun _ _ e => e)
    obtain ⟨v, rfl, hq⟩ := z
    exact wpAny_pure hq
/-- -x -/
def rOwnNeg (C : Addr) (sp : Sp) : V → Hp → VK → Prop := fun x H Q => ∃ (a dx : Addr) (fs : List (Str × V)), x = .ref a ∧ H a = some (.ins C dx fs) ∧ sp [x] H Q C8.E0
theorem un_ownNeg (M : OwnM X.prog X.w X.K X.mg X.base CX k C "__neg__" sp) (hr : Room k X.A) (hx : NoEx CX) : UnR X (unaryOp .USub) (rOwnNeg C sp) := by
  intro pins s σ H x v Q I rx h
  obtain ⟨a, dx, fs, rfl, ha, q⟩ := h
  obtain ⟨f, fd, ps, hs, hf, F, hb⟩ := M.ex
  cases (show v = Value.ref a from rx)
  obtain ⟨mA, J, _⟩ := ins_get I.hok ha
  obtain ⟨od, J, _⟩ := J.look
  obtain ⟨m, hF⟩ := I.fr
  exact PySem.W.ksp_neg hF I.ok.mod.kin J hs hf (run_in F hr I.env0 hb hx I (show Vals [V.ref a] [Value.ref a] from .cons rfl .nil) q)
end
end Fk
namespace PySem.W
open PySem PySem.Spec PyProof.Rows
section
variable {prog : Program} {w : World} {A : Around} {E : Value → Shared → Prop} {s : Shared} {K : Frag} {x C L f : Addr} {h₀ : Heap} {m : Str → Option Value} {ox : Obj} {od : Option Obj} {nm T : String}
theorem fk_binT {op : Operator} {b : Value} {fo ro rc : Option Value} {Q : Value → Shared → Prop} (F : Fr h₀ L s.heap m) (X₀ : K.In h₀) (I : InstAt s.heap x ox C od) (hb : Looks (model prog w) s.heap (typeOf b) (.type T)) (hc : selfFirst K C = true)
    (hs : findIn K (.ref C) (PySem.dunder op.info.2) = some (some (.ref f))) (hf : isFn K (.ref f) = true) (hr : findIn K (.ref C) (dunderR op.info.2) = some rc) (hp : rc = none ∨ ∃ g : Addr, rc = some (.ref g))
    (h1 : findIn K (.type T) (PySem.dunder op.info.2) = some fo) (h2 : findIn K (.type T) (dunderR op.info.2) = some ro) (hsub : subIn K (.type T) (.ref C) = some false)
    (h : wpAny (model prog w) A (call (.ref f) [.ref x, b]) (CmpBack Q) E s) : wpAny (model prog w) A (binaryOp op (.ref x) b) Q E s := by
  have X := X₀.keeps F.keep
  obtain ⟨cd, rest, hcd, hm⟩ := ksp_first hc
  rcases hi : op.info with ⟨sym, nm'⟩
  rw [hi] at hs hr h1 h2
  dsimp only at hs hr h1 h2
  have one := ksp_try X I hs hf h
  obtain ⟨hh, g, d, tt, os⟩ := s
  have L1 : Looks (model prog w) hh (typeOf (.ref x)) (.ref C) := I.type
  have L2 : Looks (model prog w) hh (typeOf b) (.type T) := hb
  have L3 : Looks (model prog w) hh (fillsNumberSlot (.ref C) nm') true := fills_K X hcd hm hs
  have L4 : Looks (model prog w) hh (fillsNumberSlot (.type T) nm') ((fo.isSome && !isSeqSlot fo) || (ro.isSome && !isSeqSlot ro)) := ksp_fillsT X h1 h2
  have L5 : Looks (model prog w) hh (isSubtype (.type T) (.ref C)) false := looks_subIn X hsub
  have L6 : Looks (model prog w) hh (numberSlotInPython (.ref C) nm') true := ksp_inPy X hs hr hp
  have L7 : Looks (model prog w) hh (numberSlotInPython (.type T) nm') false := Looks.of_pure rfl
  have L8 : Looks (model prog w) hh (typeLookup (.type T) (dunderR nm')) ro := looks_findIn X h2
  generalize ((fo.isSome && !isSeqSlot fo) || (ro.isSome && !isSeqSlot ro)) = right at L4
  have hne : (Value.ref C == Value.type T) = false := Bool.eq_false_iff.mpr fun q => by cases beq_iff_eq.mp q
  simp only [binaryOp, hi]
  refine wpAny_holding (wpAny_bind ?_)
  unfold binaryOp1
  refine wpAny_bind (L1.at (wpAny_bind (L2.at (wpAny_bind (L3.at ?_)))))
  simp only [hne, Bool.false_eq_true, if_false]
  cases right with
  | false =>
    ksp_lk
    refine wpAny_mono one (fun r s' hr' => ?_) fun _ _ e => e
    obtain ⟨v, rfl, hq⟩ := hr'
    ksp_lk
    exact hq
  | true =>
    ksp_lk
    refine wpAny_mono one (fun r s' hr' => ?_) fun _ _ e => e
    obtain ⟨v, rfl, hq⟩ := hr'
    ksp_lk
    exact hq
end
end PySem.W
namespace Fk
open PySem PySem.Spec PyProof.Rows L2
/-- what is asked of a class for its + -/
structure AddF (K : PySem.W.Frag) (C : Addr) : Prop where
  first : PySem.W.selfFirst K C = true
  noR : PySem.W.findIn K (.ref C) "__radd__" = some none
/-- what may stand on the right of an own + -/
inductive RightOf (K : PySem.W.Frag) (H : Hp) (C : Addr) : V → Prop where
  | ins {b dy : Addr} {gs : List (Str × V)} (h : H b = some (.ins C dy gs)) : RightOf K H C (.ref b)
  | ty {y : V} {T : String} {fo ro : Option Value} (h : TyX K H y (.type T)) (h1 : PySem.W.findIn K (.type T) "__add__" = some fo) (h2 : PySem.W.findIn K (.type T) "__radd__" = some ro) (hs : PySem.W.subIn K (.type T) (.ref C) = some false) : RightOf K H C y
/-- x + y by x's own +: what may be let out is E, at the slots; the answer is an object -/
def tOwnAdd (K : PySem.W.Frag) (C : Addr) (sp : Sp) (E : L2.St → XK) (ta tb : TE) : TE := fun σ H Q => ta σ H fun x H1 => tb σ H1 fun y H2 => ∃ (a dx : Addr) (fs : List (Str × V)), x = .ref a ∧ H2 a = some (.ins C dx fs) ∧ RightOf K H2 C y ∧
  sp [x, y] H2 (fun v H' => ∃ b, v = .ref b ∧ Q v H') (E σ)
theorem pe_ownAdd {X : Cx} {CX : CXT} {k : Nat} {C : Addr} {sp : Sp} {E : L2.St → XK} {a b : Expr} {ta tb : TE} {pos : Pos} (M : OwnM X.prog X.w X.K X.mg X.base CX k C "__add__" sp) (T : AddF X.K C) (hr : Room k X.A) (hx : ∀ σ, PassesAt CX X σ (E σ)) (ha : PE X a ta) (hb : PE X b tb) :
    PE X (.BinOp a .Add b pos) (tOwnAdd X.K C sp E ta tb) := by
  refine ⟨fun pins s σ H Q I h => ?_⟩
  refine wpAny_BinOp (binT ha hb I h fun v u s2 x y H2 I2 rx ry q => ?_)
  obtain ⟨a, dx, fs, rfl, ea, ri, q⟩ := q
  obtain ⟨f, fd, ps, hs, hf, F, hb⟩ := M.ex
  cases (show v = Value.ref a from rx)
  obtain ⟨mA, J, _⟩ := ins_get I2.hok ea
  obtain ⟨od, J, _⟩ := J.look
  obtain ⟨m, hF⟩ := I2.fr
  have go : wpAny (model X.prog X.w) X.A (call (.ref f) [.ref a, u]) (PySem.W.CmpBack (EP X pins σ Q)) X.xe s2 := by
    refine wpAny_mono (run_fnS F hr hb (hx σ) I2 (show Vals [V.ref a, y] [Value.ref a, u] from .cons rfl (.cons ry .nil)) q) (fun v s' z => ?_) fun _ _ e => e
    obtain ⟨x, H', I', rv, b, rfl, q'⟩ := z
    cases (show v = Value.ref b from rv)
    exact ⟨.ref b, H', I', rfl, q'⟩
  cases ri with
  | @ins b dy gs eb =>
    cases (show u = Value.ref b from ry)
    obtain ⟨mB, J', _⟩ := ins_get I2.hok eb
    obtain ⟨od', J', _⟩ := J'.look
    exact PySem.W.binop_K (op := .Add) hF I2.ok.mod.kin J J'.type T.first hs hf go
  | @ty _ T' fo ro ty h1 h2 hsb =>
    obtain ⟨P', Z, p, _⟩ := kit_of I2 ry ty
    exact PySem.W.fk_binT (op := .Add) hF I2.ok.mod.kin J (Z.ty _ _ I2.kIn p) T.first hs hf T.noR (.inl rfl) h1 h2 hsb go
end Fk

set_option maxHeartbeats 4000000
/-! len, in, [] of an own class; methods that may raise, in a try and out of it; classes made. -/
namespace Fk
open PySem PySem.Spec PyProof.Rows L2
section
variable {X : Cx} {CX : CXT} {k : Nat} {C : Addr} {sp : Sp}
/-- len(x) -/
theorem call_ownLen (M : OwnM X.prog X.w X.K X.mg X.base CX k C "__len__" sp) (hr : Room (k + 1) X.A) (hx : NoEx CX) :
    CallR X (.builtin "len") (fun xs H Q => ∃ (a dx : Addr) (fs : List (Str × V)), xs = [.ref a] ∧ H a = some (.ins C dx fs) ∧ sp xs H (fun v H' => ∃ n : Nat, v = .int n ∧ n ≤ 1000000 ∧ Q v H') C8.E0) := by
  intro pins s σ H xs us Q I r h
  obtain ⟨a, dx, fs, rfl, ha, q⟩ := h
  obtain ⟨u, rfl, ru⟩ := vals1 r
  cases (show u = Value.ref a from ru)
  obtain ⟨f, fd, ps, hs, hf, F, hb⟩ := M.ex
  obtain ⟨mA, J, _⟩ := ins_get I.hok ha
  obtain ⟨od, J, _⟩ := J.look
  obtain ⟨m, hF⟩ := I.fr
  refine PySem.W.len_K hF I.ok.mod.kin J hs hf (wpAny_mono (run_in F hr.in1 I.env0.in1 hb hx I (show Vals [V.ref a] [Value.ref a] from .cons rfl .nil) q) (fun v s' z => ?_) fun _ _ x => x)
  obtain ⟨x, H', I', rv, n, rfl, hn, q'⟩ := z
  obtain ⟨t, rfl⟩ := (show ∃ t, v = Value.int n t from rv)
  exact ⟨⟨by omega, by omega⟩, .int n, H', I'.tok _, ⟨_, rfl⟩, q'⟩
/-- y in x, y not in x -/
def rOwnIn (C : Addr) (sp : Sp) : R2 := fun y x H Q => ∃ (a dx : Addr) (fs : List (Str × V)), x = .ref a ∧ H a = some (.ins C dx fs) ∧ sp [x, y] H (fun v H' => ∃ b, v = .bl b ∧ Q (.bl b) H') C8.E0
def rOwnNotIn (C : Addr) (sp : Sp) : R2 := fun y x H Q => ∃ (a dx : Addr) (fs : List (Str × V)), x = .ref a ∧ H a = some (.ins C dx fs) ∧ sp [x, y] H (fun v H' => ∃ b, v = .bl b ∧ Q (.bl (!b)) H') C8.E0
theorem op_ownIn (M : OwnM X.prog X.w X.K X.mg X.base CX k C "__contains__" sp) (hr : Room k X.A) (hx : NoEx CX) : OpR X (compareOp .In) (rOwnIn C sp) := by
  intro pins s σ H y x u v Q I ry rx h
  obtain ⟨a, dx, fs, rfl, ha, q⟩ := h
  cases (show v = Value.ref a from rx)
  obtain ⟨f, fd, ps, hs, hf, F, hb⟩ := M.ex
  obtain ⟨mA, J, _⟩ := ins_get I.hok ha
  obtain ⟨od, J, _⟩ := J.look
  obtain ⟨m, hF⟩ := I.fr
  refine PySem.W.in_K hF I.ok.mod.kin J hs hf (wpAny_mono (run_in F hr I.env0 hb hx I (show Vals [V.ref a, y] [Value.ref a, u] from .cons rfl (.cons ry .nil)) q) (fun v s' z => ?_) fun _ _ x => x)
  obtain ⟨x, H', I', rv, b, rfl, q'⟩ := z
  cases (show v = Value.bool b from rv)
  exact wpAny_truthy_bool ⟨.bl b, H', I', rfl, q'⟩
theorem op_ownNotIn (M : OwnM X.prog X.w X.K X.mg X.base CX k C "__contains__" sp) (hr : Room k X.A) (hx : NoEx CX) : OpR X (compareOp .NotIn) (rOwnNotIn C sp) := by
  intro pins s σ H y x u v Q I ry rx h
  obtain ⟨a, dx, fs, rfl, ha, q⟩ := h
  cases (show v = Value.ref a from rx)
  obtain ⟨f, fd, ps, hs, hf, F, hb⟩ := M.ex
  obtain ⟨mA, J, _⟩ := ins_get I.hok ha
  obtain ⟨od, J, _⟩ := J.look
  obtain ⟨m, hF⟩ := I.fr
  refine PySem.W.notIn_K hF I.ok.mod.kin J hs hf (wpAny_mono (run_in F hr I.env0 hb hx I (show Vals [V.ref a, y] [Value.ref a, u] from .cons rfl (.cons ry .nil)) q) (fun v s' z => ?_) fun _ _ x => x)
  obtain ⟨x, H', I', rv, b, rfl, q'⟩ := z
  cases (show v = Value.bool b from rv)
  exact wpAny_truthy_bool ⟨.bl (!b), H', I', rfl, q'⟩
end
/-- a method of an own class with its defaults -/
structure MetX (P : Program) (w : World) (K : PySem.W.Frag) (mg : Str → Option Value) (base : Heap) (CX : CXT) (k : Nat) (C : Addr) (m : Str) (sp : Sp) (dvs : List V) : Prop where
  ex : ∃ (f : Addr) (fd : FuncData) (ps : List Str) (ds : List Value), Cls K C ∧ Meth K C m f ∧ FnOk P w K mg base CX k f fd ps sp ∧ Binds K fd ps ds ∧ Vals dvs ds
/-- a class that may be made -/
structure MakX (P : Program) (w : World) (K : PySem.W.Frag) (mg : Str → Option Value) (base : Heap) (CX : CXT) (k : Nat) (x : Str) (C : Addr) (sp : Sp) (dvs : List V) : Prop where
  ex : ∃ (f : Addr) (fd : FuncData) (ps : List Str) (ds : List Value), Mk K C f ∧ FnOk P w K mg base CX k f fd ps sp ∧ mg x = some (.ref C) ∧ Binds K fd ps ds ∧ Vals dvs ds
/-- a def that may raise -/
structure CalX (P : Program) (w : World) (K : PySem.W.Frag) (mg : Str → Option Value) (base : Heap) (CX : CXT) (k : Nat) (x : Str) (sp : Sp) (dvs : List V) : Prop where
  ex : ∃ (f : Addr) (fd : FuncData) (ps : List Str) (ds : List Value), FnOk P w K mg base CX k f fd ps sp ∧ mg x = some (.ref f) ∧ PySem.W.keepIn K (.ref f) = true ∧ Binds K fd ps ds ∧ Vals dvs ds
section
variable {X : Cx} {CX : CXT} {k j : Nat} {C : Addr} {sp : Sp} {dvs : List V} {m x : Str} {E : L2.St → XK} {o e : Expr} {es : List Expr} {ta : TE} {t : TA} {p pos apos : Pos}
theorem run_at {pins : List (Addr × Obj)} {σ : L2.St} {H : Hp} {s : Shared} {Q : VK} {f : Addr} {fd : FuncData} {ps : List Str} {us ds : List Value} {vs : List V} (F : FnOk X.prog X.w X.K X.mg X.base CX k f fd ps sp) (hr : Room k X.A) (hb : Binds X.K fd ps ds) (hd : Vals dvs ds) (hx : PassesAt CX X σ (E σ))
    (I : Inv X pins σ H s) (r : Vals vs us) (h : sp (vs ++ dvs) H Q (E σ)) : wpAny (model X.prog X.w) X.A (call (.ref f) us) (EP X pins σ Q) X.xe s := by
  have r2 : Vals (vs ++ dvs) (us ++ ds) := r.append hd
  have hl : (us ++ ds).length = ps.length := by
    rw [← r2.length]
    exact F.len _ _ _ _ h
  refine wpAny_call (codeAny_mono (F.run X.A X.stack s H ⟨us, []⟩ (us ++ ds) (vs ++ dvs) Q (E σ) hr I.env0 (hb s us I.kIn hl) r2 h) fun r s' hq => ?_)
  cases r with
  | error e => exact hx pins H s e s' I hq
  | ok fl =>
    cases fl with
    | ret u => exact I.after hq
    | next => exact hq.elim
    | brk => exact hq.elim
    | cont => exact hq.elim
/-- o.m(e, ..) -/
def tMx (C : Addr) (m : Str) (sp : Sp) (dvs : List V) (E : L2.St → XK) (ta : TE) (t : TA) : TE := fun σ H Q => ta σ H fun x H1 => ∃ (a dx : Addr) (fs : List (Str × V)), x = .ref a ∧ H1 a = some (.ins C dx fs) ∧ fs.lookup m = none ∧ t σ H1 fun vs H2 => sp (.ref a :: (vs ++ dvs)) H2 Q (E σ)
theorem pe_mx {pl : Sem Bool} (c : MetX X.prog X.w X.K X.mg X.base CX k C m sp dvs) (hr : Room j X.A) (hk : k ≤ j) (hx : ∀ σ, PassesAt CX X σ (E σ)) (he : PE X o ta) (ha : PA X (e :: es) t)
    (hst : starEach (e :: es) X.env = (false, eval e X.env) :: starEach es X.env := by rfl) (hpl : (backTo pos (starEach es X.env)).any (·.1) = false := by rfl)
    (ht : eval (.Call (.Attribute o m apos) (e :: es) [] pos) X.env = (do
      let ov ← eval o X.env
      standAt apos.atName
      let (f, first) ← holding [ov] (getMethod ov m pl)
      callWith pos f first (backTo pos (starEach (e :: es) X.env)) (backToKw pos (keywordEach [] X.env))) := by rfl) :
    PE X (.Call (.Attribute o m apos) (e :: es) [] pos) (tMx C m sp dvs E ta t) := by
  obtain ⟨f, fd, ps, ds, cl, hm, F, b, d⟩ := c.ex
  refine ⟨fun pins s σ H Q I h => ?_⟩
  refine PySem.W.methodCall_KW (pl := pl) (thn (he.run pins s σ H _ I h) fun u s1 ⟨x, H1, I1, rx, a, dx, fs, ex, ea, l, q⟩ => ?_) ht
  subst ex
  obtain rfl : u = Value.ref a := rx
  refine getmeth_ok I1 ea cl hm l ?_
  refine PySem.W.callWith_K (first := [.ref a]) (h₀ := X.base) I.ok.mod.kin hm.kp (thn (ha.run pos pins s1 σ H1 _ I1 q) fun us s2 ⟨vs, H2, I2, r, q2⟩ => ⟨I2.kIn, ?_⟩) hst hpl
  exact run_at (us := .ref a :: us) (vs := .ref a :: vs) F (hr.mono hk) b d (hx σ) I2 (.cons rfl r) q2
theorem pe_mx0 {pl : Sem Bool} (c : MetX X.prog X.w X.K X.mg X.base CX k C m sp dvs) (hr : Room j X.A) (hk : k ≤ j) (hx : ∀ σ, PassesAt CX X σ (E σ)) (he : PE X o ta)
    (ht : eval (.Call (.Attribute o m apos) [] [] pos) X.env = (do
      let ov ← eval o X.env
      standAt apos.atName
      let (f, first) ← holding [ov] (getMethod ov m pl)
      callWith pos f first (backTo pos (starEach [] X.env)) (backToKw pos (keywordEach [] X.env))) := by rfl) :
    PE X (.Call (.Attribute o m apos) [] [] pos) (tMx C m sp dvs E ta tNil) := by
  obtain ⟨f, fd, ps, ds, cl, hm, F, b, d⟩ := c.ex
  refine ⟨fun pins s σ H Q I h => ?_⟩
  refine PySem.W.methodCall_KW (pl := pl) (thn (he.run pins s σ H _ I h) fun u s1 ⟨x, H1, I1, rx, a, dx, fs, ex, ea, l, q⟩ => ?_) ht
  subst ex
  obtain rfl : u = Value.ref a := rx
  refine getmeth_ok I1 ea cl hm l ?_
  exact PySem.W.callWith_K0 (first := [.ref a]) I1.kIn hm.kp (run_at (us := [.ref a]) (vs := [.ref a]) F (hr.mono hk) b d (hx σ) I1 (.cons rfl .nil) q)
/-- a def by its name -/
def tCx (sp : Sp) (dvs : List V) (E : L2.St → XK) (t : TA) : TE := fun σ H Q => t σ H fun vs H1 => sp (vs ++ dvs) H1 Q (E σ)
theorem pe_cx (c : CalX X.prog X.w X.K X.mg X.base CX k x sp dvs) (hr : Room j X.A) (hk : k ≤ j) (hx : ∀ σ, PassesAt CX X σ (E σ)) (hg : Gl X x) (ha : PA X (e :: es) t)
    (hdb : (x == ("__debug__" : Str)) = false := by decide) (he : starEach (e :: es) X.env = (false, eval e X.env) :: starEach es X.env := by rfl) (hpl : (backTo pos (starEach es X.env)).any (·.1) = false := by rfl) :
    PE X (.Call (.Name x p) (e :: es) [] pos) (tCx sp dvs E t) := by
  obtain ⟨f, fd, ps, ds, F, hm, kp, b, d⟩ := c.ex
  refine ⟨fun pins s σ H Q I h => ?_⟩
  refine wpAny_Call_Name_kw (ld_glob I hg hm ?_ hdb)
  refine PySem.W.callWith_K (h₀ := X.base) I.ok.mod.kin kp (thn (ha.run pos pins s σ H _ I h) fun us s1 ⟨vs, H1, I1, r, q⟩ => ⟨I1.kIn, ?_⟩) he hpl
  exact run_at F (hr.mono hk) b d (hx σ) I1 r q
end
end Fk

set_option maxHeartbeats 4000000
/-! x != y of objects of one class without an own ==: whether they are two. -/
namespace Fk
open PySem PySem.Spec PyProof.Rows L2
structure PlainEq (K : PySem.W.Frag) (C : Addr) : Prop where
  ne : PySem.W.findIn K (.ref C) "__ne__" = some (some (.builtin "object.__ne__"))
  eq : PySem.W.findIn K (.ref C) "__eq__" = some (some (.builtin "object.__eq__"))
  ob : PySem.W.mroIn K C (.type "object") = some true
def rIdNe (C : Addr) : R2 := fun x y H Q => ∃ (a b dx dy : Addr) (fs gs : List (Str × V)), x = .ref a ∧ y = .ref b ∧ H a = some (.ins C dx fs) ∧ H b = some (.ins C dy gs) ∧ Q (.bl (!decide (a = b))) H
section
variable {X : Cx} {C : Addr}
theorem idEq {pins : List (Addr × Obj)} {σ : L2.St} {H : Hp} {s : Shared} {A : Around} {E : Value → Shared → Prop} {a b dx dy : Addr} {fs gs : List (Str × V)} {Q : Option Value → Shared → Prop} (T : PlainEq X.K C) (I : Inv X pins σ H s) (ha : H a = some (.ins C dx fs)) (hb : H b = some (.ins C dy gs))
    (h : Q (some (if a = b then .bool true else .notImplemented)) s) : wpAny (model X.prog X.w) A (callSpecialIfBound? (.ref a) "__eq__" [.ref b]) Q E s := by
  obtain ⟨mA, J, _⟩ := ins_get I.hok ha
  obtain ⟨od, J, _⟩ := J.look
  obtain ⟨mB, J', _⟩ := ins_get I.hok hb
  obtain ⟨od', J', _⟩ := J'.look
  have sp : PySem.W.Looks (model X.prog X.w) s.heap (specialOf (.ref a) "__eq__") (some (.builtin "object.__eq__")) := J.type.andThen (PySem.W.looks_findIn I.kIn T.eq)
  have iv : PySem.W.Looks (model X.prog X.w) s.heap (isInstance (.ref a) (.type "object")) true := J.type.andThen (PySem.W.looks_mroIn I.kIn T.ob)
  refine NtL.csib (E := E) sp (PySem.F.cmp_object.eq.bind _) ?_
  refine wpAny_call (codeAny_call_builtin PySem.F.cmp_object.eq.plain PySem.F.cmpEntry_eq (PySem.W.check_slot PySem.F.cmpKind_eq PySem.F.cmpSplit_eq iv (PySem.F.cmpArgs_eq _ _) ?_))
  by_cases e : a = b
  · subst e
    rw [if_pos rfl] at h
    exact objEq_entry_same h
  · rw [if_neg e] at h
    exact objEq_entry_other e J.at_ J'.at_ (by rw [J.cls]; intro z; cases z) h
theorem idNe {pins : List (Addr × Obj)} {σ : L2.St} {H : Hp} {s : Shared} {A : Around} {E : Value → Shared → Prop} {a b dx dy : Addr} {fs gs : List (Str × V)} {Q : Option Value → Shared → Prop} (T : PlainEq X.K C) (hu : A.units + 1 < cLine) (I : Inv X pins σ H s) (ha : H a = some (.ins C dx fs)) (hb : H b = some (.ins C dy gs))
    (h : Q (if a = b then some (.bool false) else none) s) : wpAny (model X.prog X.w) A (tryCompare (.ref a) "__ne__" (.ref b)) Q E s := by
  obtain ⟨mA, J, _⟩ := ins_get I.hok ha
  obtain ⟨od, J, _⟩ := J.look
  have sp : PySem.W.Looks (model X.prog X.w) s.heap (specialOf (.ref a) "__ne__") (some (.builtin "object.__ne__")) := J.type.andThen (PySem.W.looks_findIn I.kIn T.ne)
  have iv : PySem.W.Looks (model X.prog X.w) s.heap (isInstance (.ref a) (.type "object")) true := J.type.andThen (PySem.W.looks_mroIn I.kIn T.ob)
  have hu' : A.in1.units < cLine := hu
  unfold tryCompare
  refine wpAny_bind (NtL.csib (E := E) sp (PySem.F.cmp_object.ne.bind _) ?_)
  refine wpAny_call (codeAny_call_builtin PySem.F.cmp_object.ne.plain PySem.F.cmpEntry_ne (PySem.W.check_slot PySem.F.cmpKind_ne PySem.F.cmpSplit_ne iv (PySem.F.cmpArgs_ne _ _) ?_))
  unfold Builtin.«object.__ne__»
  repeat (first
    | with_reducible refine wpAny_cRoomFor hu' ?_
    | (refine wpAny_bind (m := callSpecialIfBound? (.ref a) (Str.ofString "__eq__") [.ref b]) (idEq T I ha hb ?_))
    | wp_step)
  by_cases e : a = b
  · rw [if_pos e] at h ⊢
    show wpAny _ _ (truthy (.bool true) >>= _) _ _ _
    refine wpAny_bind (wpAny_truthy_bool ?_)
    exact wpAny_pure (wpAny_pure h)
  · rw [if_neg e] at h ⊢
    exact wpAny_pure (wpAny_pure h)
theorem op_idNe (T : PlainEq X.K C) (hu : X.A.units + 1 < cLine) : OpR X (compareOp .NotEq) (rIdNe C) := by
  intro pins s σ H x y v u Q I rx ry h
  obtain ⟨a, b, dx, dy, fs, gs, rfl, rfl, ha, hb, q⟩ := h
  cases (show v = Value.ref a from rx)
  cases (show u = Value.ref b from ry)
  obtain ⟨mA, J, _⟩ := ins_get I.hok ha
  obtain ⟨od, J, _⟩ := J.look
  obtain ⟨mB, J', _⟩ := ins_get I.hok hb
  obtain ⟨od', J', _⟩ := J'.look
  show wpAny (model X.prog X.w) X.A (richCompare .NotEq (.ref a) (.ref b)) (EP X pins σ Q) X.xe s
  unfold richCompare
  simp only [oneThing_ref]
  refine wpAny_holding (wpAny_bind (wpAny_cRoomFor (by omega) ?_))
  refine wpAny_bind (J.type.here (wpAny_bind (J'.type.here ?_)))
  simp only [bne_self_eq_false, Bool.false_eq_true, if_false]
  refine wpAny_bind (wpAny_pure ?_)
  simp only [Bool.false_eq_true, if_false]
  refine wpAny_bind (idNe (E := X.xe) T hu I ha hb ?_)
  by_cases e : a = b
  · rw [if_pos e]
    exact wpAny_pure ⟨.bl false, H, I, rfl, by simpa [e] using q⟩
  · rw [if_neg e]
    simp only [Bool.not_false, if_true]
    refine wpAny_bind (idNe (E := X.xe) T hu I hb ha ?_)
    rw [if_neg (fun z => e z.symm)]
    refine wpAny_bind (m := isSame (.ref a) (.ref b)) (wpAny_isSame_ref_other e J.at_ J'.at_ (by rw [J.cls]; intro z; cases z) ?_)
    exact wpAny_pure ⟨.bl true, H, I, rfl, by simpa [e] using q⟩
end
end Fk

set_option maxHeartbeats 4000000
/-! dict(d); a displayed dict of ** alone. -/
namespace Fk
open PySem PySem.Spec PyProof.Rows L2
theorem call_dictC {X : Cx} : CallR X (.type "dict") (fun xs H Q => ∃ a kvs, xs = [.ref a] ∧ Rd H a (.dK kvs) ∧ ∀ p, H p = none → Q (.ref p) (upd H p (.dK kvs))) := by
  intro pins s σ H xs us Q I r h
  obtain ⟨a, kvs, rfl, e, q⟩ := h
  obtain ⟨u, rfl, ru⟩ := vals1 r
  cases (show u = Value.ref a from ru)
  exact d_copyOf I e fun p s' hp I' => ⟨.ref p, _, I', rfl, q p hp⟩
section
variable {prog : Program} {w : World} {K : Type} [DecidableEq K] {knd : KeyKind prog w K} {A : Around} {E : Value → Shared → Prop} {s : Shared}
theorem wpAny_dictPut {d : Addr} {kvs : List (K × Value)} {k : K} {key v : Value} {Q : Unit → Shared → Prop} (hkey : knd.is k key = true) (hm : s.heap.DictOf knd d kvs)
    (hQ : ∀ h', h'.DictOf knd d (stored kvs k v) → Heap.SameBut d s.heap h' → Q () { s with heap := h' }) (hsz : kvs.length ≤ sizeLine) :
    wpAny (model prog w) A (dictPut d (knd.hash k) key v) Q E s := by
  obtain ⟨o, es, ep, ho, hc, hd, hk, hp, hn⟩ := hm
  have hes : es.size ≤ sizeLine := by
    have e1 := hp.length
    have e2 : es.toList.length = es.size := by simp
    omega
  unfold dictPut
  try with_reducible refine wpAny_holding ?_
  refine wpAny_bind (wpAny_dictFind_of hkey ho hd hk ?_)
  have hidx : (es.findIdx? fun e => knd.is k e.key) = kvs.findIdx? fun kv => decide (kv.1 = k) := by
    rw [← hp.findIdx k]; obtain ⟨l⟩ := es; simp
  cases hi : es.findIdx? fun e => knd.is k e.key with
  | some i =>
    refine (wpAny_updateDict ho hd (hQ _ ⟨_, _, ep, Heap.get?_update_self _ ho (Obj.isFreed_of_dict (Obj.data_mapDict hd _)),
      hc.mapDict _, Obj.data_mapDict hd _, hk.modify _ _, ?_, ?_⟩ (Heap.SameBut.update ..)))
    · rw [stored, if_pos (any_of_findIdx_some (hidx ▸ hi))]
      have hl : (es.toList.findIdx? fun e => knd.is k e.key) = some i := by rw [← hi]; obtain ⟨l⟩ := es; simp
      have := hp.modify hn hl v
      obtain ⟨l⟩ := es
      simpa using this
    · rw [stored, if_pos (any_of_findIdx_some (hidx ▸ hi)), keys_map_store]; exact hn
  | none =>
    have hnot : k ∉ kvs.map (·.1) := not_mem_of_findIdx_none (hidx ▸ hi)
    have hany : ¬ (kvs.any fun kv => decide (kv.1 = k)) = true := by
      rw [List.any_eq_true]; rintro ⟨kv, hkv, he⟩
      exact hnot (List.mem_map.mpr ⟨kv, hkv, of_decide_eq_true he⟩)
    refine (wpAny_updateDictKeys (hz := hes) ho hd (hQ _ ⟨_, _, ep + 1, Heap.get?_update_self _ ho (Obj.isFreed_of_dict (Obj.data_mapDictKeys hd _)),
      hc.mapDictKeys _, Obj.data_mapDictKeys hd _, hk.push hkey _, ?_, ?_⟩ (Heap.SameBut.update ..)))
    · rw [stored, if_neg hany]
      have := hp.append hkey (knd.hash k) v
      obtain ⟨l⟩ := es
      simpa using this
    · rw [stored, if_neg hany, List.map_append, List.nodup_append]
      refine ⟨hn, by simp, ?_⟩
      intro a ha b hb
      simp only [List.map_cons, List.map_nil, List.mem_singleton] at hb
      subst hb
      exact fun e => hnot (e ▸ ha)
theorem dict_iter : typeLookup (.type "dict") "__iter__" = pure (some (.builtin "dict.__iter__")) := by rw [typeLookup_type, builtinLookup_eq_fast]; kernel_rfl
theorem wpAny_mergeMapping {d o : Addr} {kvs more : List (K × Value)} {Q : Unit → Shared → Prop} (hkr : ∀ (k : K) (a : Addr), knd.is k (.ref a) = false) (hdo : d ≠ o) (hoS : (o == sysModules) = false)
    (hd : s.heap.DictOf knd d kvs) (ho : s.heap.DictOf knd o more)
    (hQ : ∀ h', h'.DictOf knd d (merged kvs more) → h'.DictOf knd o more → Heap.SameBut d s.heap h' → Q () { s with heap := h' })
    (hsz : kvs.length + more.length ≤ sizeLine) :
    wpAny (model prog w) A (mergeMapping d (.ref o) false) Q E s := by
  obtain ⟨od, esd, epd, hod, hcd, hdd, hkd, hpd, hnd⟩ := id hd
  obtain ⟨oo, eso, epo, hoo, hco, hdo', hko, hpo, hno⟩ := id ho
  have hlen : more.length = eso.size := by rw [← hpo.length]; simp
  have loop : wpAny (model prog w) A (do
      let epoch ← dictEpoch o
      forIn (List.range eso.size) PUnit.unit fun i (_ : PUnit) => (do
          let l' ← dictEntries o
          match l'[i]? with
            | some e => do
              holding [e.key, e.val] (dictPut d e.hash e.key e.val)
              let ep' ← dictEpoch o
              if (ep' != epoch) = true then do
                  (unsupported "dict.changed-during-merge" : Sem PUnit)
                  pure (ForInStep.yield PUnit.unit)
                else pure (ForInStep.yield PUnit.unit)
            | _ => do
              (unsupported "dict.changed-during-merge" : Sem PUnit)
              pure (ForInStep.yield PUnit.unit) : Sem (ForInStep PUnit))
      pure ()) Q E s := by
    refine wpAny_bind (wpAny_dictEpoch hoo hdo' ?_)
    refine wpAny_bind ?_
    refine wpAny_forIn_list _
      (fun rest _ s' => ∃ h' i, s' = { s with heap := h' } ∧ rest = (List.range eso.size).drop i ∧ i ≤ eso.size ∧ h'.DictOf knd d (merged kvs (more.take i)) ∧ h'.get? o = some oo ∧ Heap.SameBut d s.heap h')
      _ ?_ ?_ _ _ ⟨s.heap, 0, rfl, rfl, Nat.zero_le _, by simpa [merged] using hd, hoo, Heap.SameBut.refl _ _⟩
    · rintro x rest b s' ⟨h', i, rfl, hr, hi, hd', hoo', hs'⟩
      have hlt : i < eso.size := by
        rcases Nat.lt_or_ge i eso.size with h | h
        · exact h
        · rw [List.drop_of_length_le (by rw [List.length_range]; exact h)] at hr; cases hr
      have hlt' : i < (List.range eso.size).length := by rw [List.length_range]; exact hlt
      rw [List.drop_eq_getElem_cons hlt', List.getElem_range] at hr
      injection hr with h1 hrest
      subst h1
      refine wpAny_bind (wpAny_dictEntries hoo' hdo' ?_)
      rw [Array.getElem?_eq_getElem hlt]
      obtain ⟨kv, hkv⟩ : ∃ kv, more[x]? = some kv := ⟨more[x]'(by rw [hlen]; exact hlt), List.getElem?_eq_getElem _⟩
      obtain ⟨k, v⟩ := kv
      obtain ⟨hkey, hval⟩ := hpo.get? (e := eso[x]) (by simp [hlt]) hkv
      obtain ⟨k', hkey', hhash⟩ := hko eso[x] (Array.getElem_mem hlt)
      obtain rfl : k' = k := knd.inj _ _ _ hkey' hkey
      show wpAny _ _ (holding [eso[x].key, eso[x].val] (dictPut d eso[x].hash eso[x].key eso[x].val) >>= _) _ _ _
      rw [hhash, hval]
      have hmx : (merged kvs (more.take x)).length ≤ sizeLine := by
        have e1 := merged_length_le kvs (more.take x)
        have e2 : (more.take x).length ≤ more.length := by rw [List.length_take]; omega
        omega
      refine wpAny_bind (wpAny_holding (wpAny_dictPut (hsz := hmx) hkey hd' fun h'' hd'' hs'' => ?_))
      have hoo'' : h''.get? o = some oo := (hs''.2 o (Ne.symm hdo)).trans hoo'
      refine wpAny_bind (wpAny_dictEpoch hoo'' hdo' ?_)
      rw [if_neg (by simp)]
      exact wpAny_pure ⟨h'', x + 1, rfl, hrest, hlt, by rw [merged_take_succ kvs more x (k', v) hkv]; exact hd'', hoo'', hs'.trans hs''⟩
    · rintro b s' ⟨h', i, rfl, hr, hi, hd', hoo', hs'⟩
      have hin : i = eso.size := by
        rcases Nat.lt_or_ge i eso.size with h | h
        · have hlt' : i < (List.range eso.size).length := by rw [List.length_range]; exact h
          rw [List.drop_eq_getElem_cons hlt'] at hr; exact nomatch hr
        · exact Nat.le_antisymm hi h
      refine wpAny_pure (hQ h' ?_ ⟨oo, eso, epo, hoo', hco, hdo', hko, hpo, hno⟩ hs')
      rw [hin, ← hlen, List.take_length] at hd'; exact hd'
  have loop2 : wpAny (model prog w) A (dictEntries o >>= fun l => (do
      let epoch ← dictEpoch o
      forIn (List.range l.size) PUnit.unit fun i (_ : PUnit) => (do
          let l' ← dictEntries o
          match l'[i]? with
            | some e => do
              holding [e.key, e.val] (dictPut d e.hash e.key e.val)
              let ep' ← dictEpoch o
              if (ep' != epoch) = true then do
                  (unsupported "dict.changed-during-merge" : Sem PUnit)
                  pure (ForInStep.yield PUnit.unit)
                else pure (ForInStep.yield PUnit.unit)
            | _ => do
              (unsupported "dict.changed-during-merge" : Sem PUnit)
              pure (ForInStep.yield PUnit.unit) : Sem (ForInStep PUnit))
      pure ())) Q E s := wpAny_bind (wpAny_dictEntries hoo hdo' loop)
  unfold mergeMapping
  refine wpAny_bind (m := isInstance (.ref o) (.type "dict")) (wpAny_isInstance ho.typeIs isSubtype_dict_dict ?_)
  simp only [if_true]
  refine wpAny_bind (m := specialOf (.ref o) "__iter__") (wpAny_specialOf ho.typeIs dict_iter ?_)
  rw [show ((some (Value.builtin "dict.__iter__") == some (Value.builtin "dict.__iter__")) = true) from beq_self_eq_true _]
  first | rw [if_neg (by rw [hoS]; exact Bool.false_ne_true)] | (refine wpAny_ite ?_; rw [if_neg (by rw [hoS]; exact Bool.false_ne_true)]) | (refine wpAny_pure ?_; rw [if_neg (by rw [hoS]; exact Bool.false_ne_true)])
  refine wpAny_bind (wpAny_dictEntries hod hdd ?_)
  split
  · refine wpAny_bind (wpAny_dictEntries hoo hdo' ?_)
    refine wpAny_bind ?_
    rw [← Array.forIn_toList]
    refine wpAny_forIn_list _ (fun rest _ s' => s' = s ∧ ∀ e ∈ rest, e ∈ eso.toList) _ ?_ ?_ _ _ ⟨rfl, fun e he => he⟩
    · rintro e rest b s' ⟨rfl, hr⟩
      obtain ⟨k, hk, _⟩ := hko e (Array.mem_toList_iff.mp (hr e List.mem_cons_self))
      have hrest : ∀ e' ∈ rest, e' ∈ eso.toList := fun e' he' => hr e' (List.mem_cons_of_mem _ he')
      cases hkey : e.key with
      | ref a =>
        rw [hkey, hkr] at hk
        cases hk
      | _ => exact wpAny_pure ⟨rfl, hrest⟩
    · rintro b s' ⟨rfl, _⟩
      exact loop2
  · exact loop2
end
end Fk

set_option maxHeartbeats 4000000
namespace Fk
open PySem PySem.Spec PyProof.Rows L2
section
variable {prog : Program} {w : World} {K : Type} [DecidableEq K] {knd : KeyKind prog w K} {A : Around} {E : Value → Shared → Prop} {s : Shared} {Q : Value → Shared → Prop}
theorem wp_stars {items : List (Option (Sem Value) × Sem Value)} (hkr : ∀ (k : K) (a : Addr), knd.is k (.ref a) = false) (hn : ∀ x ∈ items, x.1 = none) (hne : items ≠ []) (R : List (Option (Sem Value) × Sem Value) → Addr → Shared → Prop)
    (h0 : R items s.heap.objs.size { s with heap := s.heap.push { cls := .type "dict", data := .dict #[] } })
    (hs : ∀ x rest p s1, R (x :: rest) p s1 → wpAny (model prog w) A x.2 (fun m s2 => ∃ (a : Addr) (kvs more : List (K × Value)), m = .ref a ∧ p ≠ a ∧ (a == sysModules) = false ∧ s2.heap.DictOf knd p kvs ∧ s2.heap.DictOf knd a more ∧ kvs.length + more.length ≤ sizeLine ∧
      ∀ h', h'.DictOf knd p (merged kvs more) → h'.DictOf knd a more → Heap.SameBut p s2.heap h' → R rest p { s2 with heap := h' }) E s1)
    (hd : ∀ p s1, R [] p s1 → Q (.ref p) s1) : wpAny (model prog w) A (dictDisplay items) Q E s := by
  unfold dictDisplay
  dsimp only
  have turn : ∀ (x : Option (Sem Value) × Sem Value) (rest : List (Option (Sem Value) × Sem Value)) (p : Addr) (s1 : Shared) {Q' : ForInStep (Option Addr × List (Sem Value × Sem Value)) → Shared → Prop}, R (x :: rest) p s1 → (∀ s2, R rest p s2 → Q' (.yield (some p, [])) s2) →
      wpAny (model prog w) A (do
        let m ← holding [Value.ref p] x.2
        (((holding [Value.ref p, m] (mergeMapping p m false)).onRaise fun y => do
                    let _ ← holding [Value.ref p, m, y] (runValue (Code.builtin "proto.let_go" { }))
                    pure ()).tryCatch
                fun e => do
                let b ← isInstance e (Value.type "AttributeError")
                if b = true then do
                    rule "dict.display.not-a-mapping"
                    let n ← typeNameOf m
                    raiseErrorMade "TypeError"
                        (toString "'" ++ toString n ++ toString "' object is not a mapping")
                    throw e
                  else throw e).onRaise
            fun y => do
            let _ ← holding [Value.ref p, y] (runValue (Code.builtin "proto.let_go" { }))
            pure ()
        pure (ForInStep.yield (some p, ([] : List (Sem Value × Sem Value))))) Q' E s1 := by
    intro x rest p s1 Q' hr hq
    refine wpAny_bind (wpAny_holding (wpAny_mono (hs x rest p s1 hr) (fun m s2 q => ?_) fun _ _ e => e))
    obtain ⟨a, kvs, more, rfl, hpa, hoS, dp, da, hz, k⟩ := q
    refine wpAny_bind (wpAny_onRaise (wpAny_tryCatch (wpAny_onRaise (wpAny_holding (wpAny_mergeMapping hkr hpa hoS dp da (fun h' d1 d2 sb => ?_) hz)))))
    exact wpAny_pure (hq _ (k h' d1 d2 sb))
  refine wpAny_bind ?_
  refine wpAny_forIn_list _ (fun rest b s' => b.2 = [] ∧ (∀ x ∈ rest, x.1 = none) ∧ ((b.1 = none ∧ s' = s ∧ rest = items) ∨ ∃ p, b.1 = some p ∧ R rest p s')) _ ?_ ?_ _ _ ⟨rfl, hn, .inl ⟨rfl, rfl, rfl⟩⟩
  · rintro ⟨k, v⟩ rest ⟨main, run⟩ s' ⟨hb, hk, h⟩
    have hk0 : k = none := hk (k, v) List.mem_cons_self
    have hkr' : ∀ x ∈ rest, x.1 = none := fun x hx => hk x (List.mem_cons_of_mem _ hx)
    subst hk0
    dsimp only at hb h
    subst hb
    rcases h with ⟨rfl, rfl, rfl⟩ | ⟨p, rfl, hr⟩
    · refine wpAny_bind (wpAny_pure ?_)
      dsimp only
      refine wpAny_bind (wpAny_alloc ?_)
      exact turn (none, v) rest _ _ h0 fun s2 q => ⟨rfl, hkr', .inr ⟨_, rfl, q⟩⟩
    · refine wpAny_bind (wpAny_pure ?_)
      dsimp only
      refine wpAny_bind (wpAny_pure ?_)
      exact turn (none, v) rest p s' hr fun s2 q => ⟨rfl, hkr', .inr ⟨_, rfl, q⟩⟩
  · rintro ⟨main, run⟩ s' ⟨hb, _, h⟩
    dsimp only at hb h
    subst hb
    rcases h with ⟨_, _, e⟩ | ⟨p, rfl, hr⟩
    · exact (hne e.symm).elim
    · refine wpAny_bind (wpAny_pure ?_)
      exact wpAny_pure (hd p s' hr)
end
/-- the dict at p takes the dicts in turn -/
def goStars : List TE → Addr → TE
  | [], p => fun _ H Q => Q (.ref p) H
  | t :: ts, p => fun σ H Q => t σ H fun x H1 => ∃ (a : Addr) (kvs more : List (Key × V)), x = .ref a ∧ p ≠ a ∧ H1 p = some (.dK kvs) ∧ H1 a = some (.dK more) ∧ kvs.length + more.length ≤ sizeLine ∧ goStars ts p σ (upd H1 p (.dK (mergeK kvs more))) Q
def tStars (ts : List TE) : TE := fun σ H Q => ∀ p, H p = none → goStars ts p σ (upd H p (.dK [])) Q
theorem mix_noref {P : Program} {w : World} (k : Key) (a : Addr) : (mixKind P w).is k (.ref a) = false := by
  cases k <;> rfl
/-- {**e1, **e2, ..} -/
inductive StE (X : Cx) : List Expr → List TE → Prop where
  | nil : StE X [] []
  | cons {e : Expr} {es : List Expr} {t : TE} {ts : List TE} (h : PE X e t) (hs : StE X es ts) : StE X (e :: es) (t :: ts)
theorem pe_stars {X : Cx} {keys : List (Option Expr)} {values : List Expr} {pos : Pos} {ts : List TE} (h : StE X values ts) (hv : values ≠ []) (hk : keys = values.map fun _ => none) : PE X (.Dict keys values pos) (tStars ts) := by
  refine ⟨fun pins s σ H Q I q => ?_⟩
  have hn := I.hok.fresh (Nat.le_refl s.heap.objs.size)
  have I1 := I.laid (a := s.heap.objs.size) (o := .dK []) (h' := s.heap.push { cls := .type "dict", data := .dict #[] }) (t' := s.toks) (fun _ _ q => Heap.get?_push_of_some _ q) (Nat.le_refl _) (dk_empty s.heap I.big)
  rw [arm_eval_Dict]
  subst hk
  refine wpAny_bind (wpAny_standAt ?_)
  have hz : ∀ vs : List Expr, (evalEachOpt (vs.map fun _ => (none : Option Expr)) X.env).zip ((evalEach vs X.env).map fun v => do let x ← v; standAt pos; pure x) = vs.map fun e => ((none : Option (Sem Value)), (do let x ← eval e X.env; standAt pos; pure x : Sem Value)) := by
    intro vs
    induction vs with
    | nil => rfl
    | cons e r ih =>
      show ((none : Option (Sem Value)), (do let x ← eval e X.env; standAt pos; pure x : Sem Value)) :: _ = _
      rw [List.map_cons]
      congr 1
  rw [hz]
  refine wp_stars (knd := mixKind X.prog X.w) mix_noref (fun x hx => ?_) ?_ (fun rest p s' => ∃ es us H', rest = es.map (fun e => ((none : Option (Sem Value)), (do let x ← eval e X.env; standAt pos; pure x : Sem Value))) ∧ StE X es us ∧ Inv X pins σ H' s' ∧ goStars us p σ H' Q) ⟨values, ts, _, rfl, h, I1, q _ hn⟩ ?_ ?_
  · obtain ⟨e, _, rfl⟩ := List.mem_map.mp hx
    rfl
  · intro z
    exact hv (List.map_eq_nil_iff.mp z)
  · rintro x rest p s1 ⟨es, us, H', er, hs, I', g⟩
    cases hs with
    | nil => cases er
    | @cons e es t us he hs =>
      rw [List.map_cons] at er
      injection er with e1 e2
      subst e1
      subst e2
      refine wpAny_bind (wpAny_mono (he.run pins s1 σ H' _ I' g) (fun v s2 z => ?_) fun _ _ x => x)
      obtain ⟨y, H2, I2, ry, a, kvs, more, rfl, hpa, hp, ha, hz2, g2⟩ := z
      cases (show v = Value.ref a from ry)
      refine wpAny_bind (wpAny_standAt (wpAny_pure ?_))
      obtain ⟨z1, hd1, vs1, r1, d1⟩ := dk_of I2.hok hp
      obtain ⟨z2, hd2, vs2, r2, d2⟩ := dk_of I2.hok ha
      refine ⟨a, vs1, vs2, rfl, hpa, hd2, d1, d2, by rw [← r1.length, ← r2.length]; exact hz2, fun h' e1 e2 sb => ⟨es, us, _, rfl, hs, ?_, g2⟩⟩
      have he : ∃ q, h'.get? p = some q := let ⟨q, _, _, hq, _⟩ := e1; ⟨q, hq⟩
      refine d_write I2 (by rw [hp]; exact True.intro) sb he (dk_new ?_ hd1 (r2.merge r1) e1)
      have := length_mergeK more kvs
      omega
  · rintro p s1 ⟨es, us, H', er, hs, I', g⟩
    cases hs with
    | nil => exact ⟨.ref p, H', I', rfl, g⟩
    | cons => cases er
end Fk

set_option maxHeartbeats 4000000
/-! dicts of data: what they hold, == and != of them; repr. -/
namespace Fk
open PySem PySem.Spec PyProof.Rows L2
/-- a dict's entries are these data -/
def DD (K : PySem.W.Frag) (H : Hp) (kvs : List (Key × V)) (ds : List (Key × PyData)) : Prop := Paired (fun p q => p.1 = q.1 ∧ Dp K H p.2 q.2) kvs ds
def DatAt (K : PySem.W.Frag) (H : Hp) (a : Addr) (ds : List (Key × PyData)) : Prop := ∃ kvs, H a = some (.dK kvs) ∧ DD K H kvs ds
def valD (ds : List (Key × PyData)) (k : Key) : Option PyData := (ds.find? fun p => decide (p.1 = k)).map (·.2)
theorem valD_pos {p : Key × PyData} {r : List (Key × PyData)} {k : Key} (e : p.1 = k) : valD (p :: r) k = some p.2 := by simp [valD, List.find?_cons, e]
theorem valD_neg {p : Key × PyData} {r : List (Key × PyData)} {k : Key} (e : ¬ p.1 = k) : valD (p :: r) k = valD r k := by simp [valD, List.find?_cons, e]
def hitD (es : List (Key × PyData)) (p : Key × PyData) : Bool := match valD es p.1 with
  | none => false
  | some e => PyData.eqv p.2 e
def eqvDict (ds es : List (Key × PyData)) : Bool := decide (ds.length = es.length) && ds.all (hitD es)
def shapedAll (ds : List (Key × PyData)) : Prop := ∀ p ∈ ds, SeqAt.shaped p.2 = true
theorem DD.val {K : PySem.W.Frag} {H : Hp} {kvs : List (Key × V)} {ds : List (Key × PyData)} (h : DD K H kvs ds) (k : Key) : (valV kvs k = none ∧ valD ds k = none) ∨ ∃ v d, valV kvs k = some v ∧ valD ds k = some d ∧ Dp K H v d := by
  unfold DD at h
  induction h with
  | nil => exact .inl ⟨rfl, rfl⟩
  | @cons p q ps qs h t ih =>
    obtain ⟨h1, h2⟩ := h
    by_cases e : p.1 = k
    · exact .inr ⟨p.2, q.2, valV_pos e, valD_pos (h1 ▸ e), h2⟩
    · rw [valV_neg e, valD_neg (h1 ▸ e)]
      exact ih
theorem DD.len {K : PySem.W.Frag} {H : Hp} {kvs : List (Key × V)} {ds : List (Key × PyData)} (h : DD K H kvs ds) : kvs.length = ds.length := Paired.length h
mutual
theorem dp_same {K : PySem.W.Frag} {H H' : Hp} (f : Same H H') : ∀ {v : V} {d : PyData}, Dp K H v d → Dp K H' v d
  | _, _, .non => .non
  | _, _, .bl b => .bl b
  | _, _, .int i => .int i
  | _, _, .str x => .str x
  | _, _, .lst hs ha => .lst (by
      rcases hs with (h | ⟨o, h⟩) | h
      · exact .inl (.inl (f _ _ h))
      · exact .inl (.inr ⟨o, f _ _ h⟩)
      · exact .inr h) (dpAll_same f ha)
  | _, _, .tup hs ha => .tup (by
      rcases hs with (h | ⟨o, h⟩) | h
      · exact .inl (.inl (f _ _ h))
      · exact .inl (.inr ⟨o, f _ _ h⟩)
      · exact .inr h) (dpAll_same f ha)
theorem dpAll_same {K : PySem.W.Frag} {H H' : Hp} (f : Same H H') : ∀ {vs : List V} {ds : List PyData}, DpAll K H vs ds → DpAll K H' vs ds
  | _, _, .nil => .nil
  | _, _, .cons h t => .cons (dp_same f h) (dpAll_same f t)
end
theorem DD.same {K : PySem.W.Frag} {H H' : Hp} {kvs : List (Key × V)} {ds : List (Key × PyData)} (h : DD K H kvs ds) (f : Same H H') : DD K H' kvs ds := by
  unfold DD at h ⊢
  induction h with
  | nil => exact .nil
  | cons h t ih => exact .cons ⟨h.1, dp_same f h.2⟩ ih
theorem DatAt.same {K : PySem.W.Frag} {H H' : Hp} {a : Addr} {ds : List (Key × PyData)} (h : DatAt K H a ds) (f : Same H H') : DatAt K H' a ds := by
  obtain ⟨kvs, e, d⟩ := h
  exact ⟨kvs, f _ _ e, d.same f⟩
theorem room66 {k : Nat} {A : Around} (r : Room k A) : A.units + 66 < cLine := by
  have := r.un
  omega
section
variable {X : Cx}
theorem hits_data {pins : List (Addr × Obj)} {σ : L2.St} {H : Hp} {s : Shared} {A : Around} (I : Inv X pins σ H s) (hu : A.units + 64 < cLine) {ls : List (Key × V)} {es : List (Key × PyData)} {vb : List (Key × Value)} (rb : KV ls vb) (hb : DD X.K H ls es) (se : shapedAll es) {ks : List (Key × V)} {ds : List (Key × PyData)} {va : List (Key × Value)}
    (ra : KV ks va) (hd : DD X.K H ks ds) (sd : shapedAll ds) : PySem.W.KeqHits A s vb va (ds.all (hitD es)) := by
  unfold KV at ra
  unfold DD at hd
  induction ra generalizing ds with
  | nil =>
    cases hd
    exact .nil
  | @cons p q ps qs h t ih =>
    cases hd with
    | @cons _ d _ ds hd1 hds =>
      obtain ⟨h1, h2⟩ := h
      obtain ⟨e1, e2⟩ := hd1
      obtain ⟨key, v⟩ := q
      have h1' : p.1 = key := h1
      have tl := ih hds (fun x hx => sd x (List.mem_cons_of_mem _ hx))
      rw [List.all_cons]
      rcases hb.val key with ⟨n1, n2⟩ | ⟨y, e, v1, v2, dy⟩
      · have : hitD es d = false := by
          unfold hitD
          rw [← e1, h1', n2]
        rw [this, Bool.false_and]
        refine .miss ?_
        have rr : RelO none (valueAt vb key) := by rw [← n1]; exact rb.val key
        cases z : valueAt vb key with
        | none => rfl
        | some u =>
          rw [z] at rr
          cases rr
      · have : hitD es d = PyData.eqv d.2 e := by
          unfold hitD
          rw [← e1, h1', v2]
        rw [this]
        have rr : RelO (some y) (valueAt vb key) := by rw [← v1]; exact rb.val key
        obtain ⟨u, hy, ry⟩ := rr.some_of
        obtain ⟨as, r1⟩ := Dp.reads I d.2 p.2 v e2 h2
        obtain ⟨bs, r2⟩ := Dp.reads I e y u dy ry
        have s1 := sd d List.mem_cons_self
        have s2 : SeqAt.shaped e = true := by
          unfold valD at v2
          cases z : es.find? (fun p => decide (p.1 = key)) with
          | none => rw [z] at v2; cases v2
          | some w =>
            rw [z] at v2
            cases v2
            exact se _ (List.mem_of_find?_eq_some z)
        exact .hit hy (SeqAt.eqAt_reads d.2 e A s v u as bs r1 r2 (SeqAt.canLay_of_shaped s1) (SeqAt.canLay_of_shaped s2) (SeqAt.room_of_shaped s1 hu)) tl
/-- d == e of dicts of data -/
def rEqDD (K : PySem.W.Frag) : R2 := fun x y H Q => ∃ a b ds es, x = .ref a ∧ y = .ref b ∧ DatAt K H a ds ∧ DatAt K H b es ∧ shapedAll ds ∧ shapedAll es ∧ Q (.bl (eqvDict ds es)) H
def rNeDD (K : PySem.W.Frag) : R2 := fun x y H Q => ∃ a b ds es, x = .ref a ∧ y = .ref b ∧ DatAt K H a ds ∧ DatAt K H b es ∧ shapedAll ds ∧ shapedAll es ∧ Q (.bl (!eqvDict ds es)) H
theorem op_eqDD (hu : X.A.units + 66 < cLine) : OpR X (compareOp .Eq) (rEqDD X.K) := by
  intro pins s σ H x y v u Q I rx ry h
  obtain ⟨a, b, ds, es, rfl, rfl, ⟨ks, ea, da⟩, ⟨ls, eb, db⟩, sd, se, q⟩ := h
  obtain rfl : v = Value.ref a := rx
  obtain rfl : u = Value.ref b := ry
  obtain ⟨_, ya, va, ra, dda⟩ := (show ObjOk X.prog X.w H s.heap a (.dK ks) from I.hok a _ ea)
  obtain ⟨_, yb, vb, rb, ddb⟩ := (show ObjOk X.prog X.w H s.heap b (.dK ls) from I.hok b _ eb)
  have e : (va.length == vb.length && ds.all (hitD es)) = eqvDict ds es := by
    unfold eqvDict
    rw [← ra.length, ← rb.length, da.len, db.len]
    rfl
  refine PySem.W.keq_eq (knd := mixKind X.prog X.w) (r := ds.all (hitD es)) ya yb dda ddb (by omega) (fun _ => hits_data I ?_ rb db se ra da sd) ?_
  · show X.A.units + 1 + 64 < cLine
    omega
  · rw [e]
    exact ⟨.bl _, H, I, rfl, q⟩
theorem op_neDD (hu : X.A.units + 66 < cLine) : OpR X (compareOp .NotEq) (rNeDD X.K) := by
  intro pins s σ H x y v u Q I rx ry h
  obtain ⟨a, b, ds, es, rfl, rfl, ⟨ks, ea, da⟩, ⟨ls, eb, db⟩, sd, se, q⟩ := h
  obtain rfl : v = Value.ref a := rx
  obtain rfl : u = Value.ref b := ry
  obtain ⟨_, ya, va, ra, dda⟩ := (show ObjOk X.prog X.w H s.heap a (.dK ks) from I.hok a _ ea)
  obtain ⟨_, yb, vb, rb, ddb⟩ := (show ObjOk X.prog X.w H s.heap b (.dK ls) from I.hok b _ eb)
  have e : (va.length == vb.length && ds.all (hitD es)) = eqvDict ds es := by
    unfold eqvDict
    rw [← ra.length, ← rb.length, da.len, db.len]
    rfl
  refine PySem.W.keq_ne (knd := mixKind X.prog X.w) (r := ds.all (hitD es)) ya yb dda ddb (by omega) (fun _ => hits_data I ?_ rb db se ra da sd) ?_
  · show X.A.units + 1 + 64 < cLine
    omega
  · rw [e]
    exact ⟨.bl _, H, I, rfl, q⟩
end
end Fk

set_option maxHeartbeats 4000000
/-! Walks and comprehensions by an invariant, over lists, tuples, dicts; a raise within a locked walk; frames. -/
namespace Fk
open PySem PySem.Spec PyProof.Rows L2
/-! ### frames -/
/-- all that was tracked is as it was, but what stands at L -/
def FrL (L : List Addr) (H H' : Hp) : Prop := ∀ b o, b ∉ L → H b = some o → H' b = some o
theorem FrL.refl (L : List Addr) (H : Hp) : FrL L H H := fun _ _ _ h => h
theorem FrL.trans {L : List Addr} {H H1 H2 : Hp} (x : FrL L H H1) (y : FrL L H1 H2) : FrL L H H2 := fun b o n h => y b o n (x b o n h)
theorem FrL.mono {L M : List Addr} {H H' : Hp} (x : FrL L H H') (h : ∀ a ∈ L, a ∈ M) : FrL M H H' := fun b o n e => x b o (fun z => n (h b z)) e
theorem FrL.at {L : List Addr} {a : Addr} {H : Hp} {o : HO} (h : a ∈ L) : FrL L H (upd H a o) := fun b u n e => by
  have z : b ≠ a := fun z => n (by rw [z]; exact h)
  rw [upd_ne z]
  exact e
theorem FrL.same {L : List Addr} {H H' : Hp} (h : Same H H') : FrL L H H' := fun b o _ e => h b o e
theorem FrL.to {H H' : Hp} (h : FrL [] H H') : Same H H' := fun b o e => h b o (fun z => nomatch z) e
theorem FrL.of {a : Addr} {H H' : Hp} (h : Fr a H H') : FrL [a] H H' := fun b o n e => h b o (fun z => n (z ▸ List.mem_singleton_self a)) e
theorem FrL.new {L : List Addr} {p : Addr} {H : Hp} {o : HO} (h : H p = none) : FrL L H (upd H p o) := FrL.same (same_new h)
/-! ### what is yielded -/
theorem yields_keys {d : Addr} {o : Obj} {kvs : List (Key × V)} : Yields (Itk d o kvs) (kvs.map fun p => kV p.1) (fun H => H d = some (.frz o (.dK kvs))) where
  go := fun k H g h => ⟨g, by rw [List.length_map] at h; exact h⟩
  stop := fun H g => ⟨g, by rw [List.length_map]; exact Nat.le_refl _⟩
  yld := fun k H x H' _ g h => by
    obtain ⟨e, key, v, hk, hx⟩ := h
    refine ⟨e, ?_⟩
    rw [List.getElem?_map, hk, hx]
    rfl
theorem yields_tup {K : PySem.W.Frag} {a : Addr} {xs : List V} : Yields (Itt K a) xs (fun H => SqT K H a xs) where
  go := fun k H g h => ⟨xs, xs[k], g, List.getElem?_eq_getElem h⟩
  stop := fun H g => ⟨xs, g, Nat.le_refl _⟩
  yld := fun k H x H' _ g h => ⟨h.1, h.2 xs g⟩
/-! ### comprehensions -/
theorem lcG {J : It} {items : List V} {G : Hp → Prop} {H1 : Hp} {D : Addr} {σ : L2.St} {vs : List Nat} {g : TG} {tt : TT} {te : TE} {Q : Hp → Prop} (Y : Yields J items G) (I : Nat → List V → Hp → Prop)
    (hG : ∀ k acc H, I k acc H → H D = some (.lst acc) → G H) (h0 : I 0 [] (upd H1 D (.lst [])))
    (hs : ∀ k acc H x, I k acc H → H D = some (.lst acc) → items[k]? = some x → acc.length ≤ k → k < 1000000 → g x (wipe σ vs) H fun σ2 H2 => wipe σ2 vs = wipe σ vs ∧ tt σ2 H2 fun b H3 =>
      if b = true then te σ2 H3 fun y H4 => ∃ acc, H4 D = some (.lst acc) ∧ acc.length < sizeLine ∧ LcN I D (k + 1) (upd H4 D (.lst (acc ++ [y]))) else LcN I D (k + 1) H3)
    (hl : items.length ≤ 1000000) (hd : ∀ acc H, I items.length acc H → H D = some (.lst acc) → acc.length ≤ items.length → Q H) :
    ∃ W : Nat → Nat → Hp → Prop, (∃ m, W 0 m (upd H1 D (.lst []))) ∧ ∀ k m H, W k m H →
      (J.stop k H ∧ Q H) ∨ (J.go k H ∧ ∃ Nx : Hp → Prop, (∀ H', Nx H' → ∃ m', m' < m ∧ W (k + 1) m' H') ∧ ∀ x H', J.yld k H x H' → g x (wipe σ vs) H' fun σ2 H2 => wipe σ2 vs = wipe σ vs ∧ tt σ2 H2 fun b H3 =>
        if b = true then te σ2 H3 fun y H4 => ∃ acc, H4 D = some (.lst acc) ∧ acc.length < sizeLine ∧ Nx (upd H4 D (.lst (acc ++ [y]))) else Nx H3) := by
  refine ⟨fun k m H => m = items.length - k ∧ k ≤ items.length ∧ LcN I D k H, ⟨items.length, by omega, Nat.zero_le _, [], upd_same, Nat.zero_le _, h0⟩, ?_⟩
  rintro k m H ⟨rfl, hk, acc, hD, hacc, hI⟩
  by_cases hlt : k < items.length
  · refine .inr ⟨Y.go k H (hG _ _ _ hI hD) hlt, LcN I D (k + 1), fun H' q => ⟨items.length - (k + 1), by omega, rfl, hlt, q⟩, fun x H' y => ?_⟩
    obtain ⟨rfl, hx⟩ := Y.yld k H x H' hlt (hG _ _ _ hI hD) y
    exact hs k acc _ x hI hD hx hacc (by omega)
  · have e : k = items.length := by omega
    subst e
    exact .inl ⟨Y.stop H (hG _ _ _ hI hD), hd acc H hI hD hacc⟩
/-- behind k turns of a dict's comprehension -/
def DcN (I : Nat → List (Key × V) → Hp → Prop) (D : Addr) (k : Nat) (H : Hp) : Prop := ∃ kvs, H D = some (.dK kvs) ∧ kvs.length ≤ k ∧ I k kvs H
theorem dc_take {I : Nat → List (Key × V) → Hp → Prop} {D : Addr} {k : Nat} {H5 : Hp} {key : Key} {z : V} {kvs : List (Key × V)} (h : H5 D = some (.dK kvs)) (l : kvs.length ≤ k) (hk : k < 1000000) (q : I (k + 1) (putK kvs key z) (upd H5 D (.dK (putK kvs key z)))) :
    ∃ kvs k', (kV key) = kV k' ∧ H5 D = some (.dK kvs) ∧ kvs.length < sizeLine ∧ DcN I D (k + 1) (upd H5 D (.dK (putK kvs k' z))) :=
  ⟨kvs, key, rfl, h, small_lt (by omega), _, upd_same, by have := length_putK kvs key z; omega, q⟩
theorem dc_skip {I : Nat → List (Key × V) → Hp → Prop} {D : Addr} {k : Nat} {H5 : Hp} {kvs : List (Key × V)} (h : H5 D = some (.dK kvs)) (l : kvs.length ≤ k) (q : I (k + 1) kvs H5) : DcN I D (k + 1) H5 := ⟨kvs, h, by omega, q⟩
theorem dcG {J : It} {items : List V} {G : Hp → Prop} {H1 : Hp} {D : Addr} {σ : L2.St} {vs : List Nat} {g : TG} {tt : TT} {tk tv : TE} {Q : Hp → Prop} (Y : Yields J items G) (I : Nat → List (Key × V) → Hp → Prop)
    (hG : ∀ k kvs H, I k kvs H → H D = some (.dK kvs) → G H) (h0 : I 0 [] (upd H1 D (.dK [])))
    (hs : ∀ k kvs H x, I k kvs H → H D = some (.dK kvs) → items[k]? = some x → kvs.length ≤ k → k < 1000000 → g x (wipe σ vs) H fun σ2 H2 => wipe σ2 vs = wipe σ vs ∧ tt σ2 H2 fun b H3 =>
      if b = true then tk σ2 H3 fun y H4 => tv σ2 H4 fun z H5 => ∃ kvs key, y = kV key ∧ H5 D = some (.dK kvs) ∧ kvs.length < sizeLine ∧ DcN I D (k + 1) (upd H5 D (.dK (putK kvs key z))) else DcN I D (k + 1) H3)
    (hl : items.length ≤ 1000000) (hd : ∀ kvs H, I items.length kvs H → H D = some (.dK kvs) → kvs.length ≤ items.length → Q H) :
    ∃ W : Nat → Nat → Hp → Prop, (∃ m, W 0 m (upd H1 D (.dK []))) ∧ ∀ k m H, W k m H →
      (J.stop k H ∧ Q H) ∨ (J.go k H ∧ ∃ Nx : Hp → Prop, (∀ H', Nx H' → ∃ m', m' < m ∧ W (k + 1) m' H') ∧ ∀ x H', J.yld k H x H' → g x (wipe σ vs) H' fun σ2 H2 => wipe σ2 vs = wipe σ vs ∧ tt σ2 H2 fun b H3 =>
        if b = true then tk σ2 H3 fun y H4 => tv σ2 H4 fun z H5 => ∃ kvs key, y = kV key ∧ H5 D = some (.dK kvs) ∧ kvs.length < sizeLine ∧ Nx (upd H5 D (.dK (putK kvs key z))) else Nx H3) := by
  refine ⟨fun k m H => m = items.length - k ∧ k ≤ items.length ∧ DcN I D k H, ⟨items.length, by omega, Nat.zero_le _, [], upd_same, Nat.zero_le _, h0⟩, ?_⟩
  rintro k m H ⟨rfl, hk, kvs, hD, hacc, hI⟩
  by_cases hlt : k < items.length
  · refine .inr ⟨Y.go k H (hG _ _ _ hI hD) hlt, DcN I D (k + 1), fun H' q => ⟨items.length - (k + 1), by omega, rfl, hlt, q⟩, fun x H' y => ?_⟩
    obtain ⟨rfl, hx⟩ := Y.yld k H x H' hlt (hG _ _ _ hI hD) y
    exact hs k kvs _ x hI hD hx hacc (by omega)
  · have e : k = items.length := by omega
    subst e
    exact .inl ⟨Y.stop H (hG _ _ _ hI hD), hd kvs H hI hD hacc⟩
/-! ### walks -/
theorem forG {J : It} {items : List V} {G : Hp → Prop} {g : TG} {tb : TS} {D : Ends} {σ : L2.St} {H : Hp} (Y : Yields J items G) (Pv : Nat → L2.St → Hp → Prop) (h0 : Pv 0 σ H) (hG : ∀ i σ H, Pv i σ H → G H)
    (hs : ∀ i x σ H, items[i]? = some x → Pv i σ H → g x σ H fun σ2 H2 => tb { D with nx := Pv (i + 1), ct := Pv (i + 1), bk := D.nx } σ2 H2) (hd : ∀ σ H, Pv items.length σ H → D.nx σ H) :
    ∃ W : Nat → Nat → L2.St → Hp → Prop, (∃ m, W 0 m σ H) ∧ ∀ i m σ H, W i m σ H →
      (J.stop i H ∧ D.nx σ H) ∨ (J.go i H ∧ ∃ N : L2.St → Hp → Prop, (∀ σ' H', N σ' H' → ∃ m', m' < m ∧ W (i + 1) m' σ' H') ∧ ∀ x H', J.yld i H x H' → g x σ H' fun σ2 H2 => tb { D with nx := N, ct := N, bk := D.nx } σ2 H2) := by
  refine ⟨fun i m σ H => m = items.length - i ∧ i ≤ items.length ∧ Pv i σ H, ⟨items.length, by omega, Nat.zero_le _, h0⟩, ?_⟩
  rintro i m σ H ⟨rfl, hi, p⟩
  by_cases hlt : i < items.length
  · refine .inr ⟨Y.go i H (hG _ _ _ p) hlt, Pv (i + 1), fun σ' H' p' => ⟨items.length - (i + 1), by omega, rfl, hlt, p'⟩, fun x H' y => ?_⟩
    obtain ⟨rfl, hx⟩ := Y.yld i H x H' hlt (hG _ _ _ p) y
    exact hs i x σ _ hx p
  · have e : i = items.length := by omega
    subst e
    exact .inl ⟨Y.stop H (hG _ _ _ p), hd σ H p⟩
/-! ### a raise within a locked walk -/
/-- what is let out of a locked walk, told of the heap with the lock off -/
def wLock (X : Cx) (W : WX) : WX := fun cls dd σ H => ∃ (d : Addr) (od : Obj) (u : HO), H d = some (.frz od u) ∧ (∀ o' u', X.H_0 d ≠ some (.frz o' u')) ∧ W cls dd σ (upd H d u)
theorem takes_lock {X : Cx} {W : WX} (tk : Takes X W) : Takes X (wLock X W) := by
  rintro v s' ⟨a, B, sI, pins, σ, H, cls, dd, e, I, nb, up, sky, na, os, ag, d, od, u, hd, hn, w⟩
  refine tk v s' ⟨a, B, sI, pins, σ, upd H d u, cls, dd, e, I.unlock hd hn, nb, up, sky, ?_, os, ag, w⟩
  rw [upd_ne (fun z => by rw [z, hd] at na; cases na)]
  exact na
end Fk

set_option maxHeartbeats 4000000
/-! A dict's comprehension that is given a name; tables with texts as keys; texts in order. -/
namespace Fk
open PySem PySem.Spec PyProof.Rows L2
section
variable {X : Cx}
theorem sw_trueD {kx vx : Expr} {gs : List Comprehension} {scope : Scope} {pos py : Pos} {y : Str} {l : Nat} {env : Env} (hk : env.scope.kind = .function) (hy : env.scope.names.lookup y = some .local) (hl : (py.line == pos.line) = true)
    (ha : (scope.names.any fun (n, k) => n == y && (k == .local || k == .cell)) = false) : swapsWith (.DictComp kx vx gs scope pos) (some (.Name y py)) l env = pure true := by
  have ky : env.kindOf y = some .local := hy
  have hb : env.blockKind = .function := by unfold Env.blockKind; rw [hk]; rfl
  unfold swapsWith
  simp only [hb, ky, ha, Expr.pos, hl]
  rfl
/-- name = {k: v for ..} on one line, the name a local -/
theorem ps_setDc {i : Nat} {y : Str} {py : Pos} {kx vx tg iter : Expr} {ifs : List Expr} {scope : Scope} {own : List (Str × Nat)} {pos spos : Pos} {wi : TI} {g : TG} {tt : TT} {tk tv : TE} (hc : X.calm = true) (hN : X.N.Nodup) (hy : X.N[i]? = some y) (hyl : X.env.scope.names.lookup y = some .local)
    (hsw : swapsWith (.DictComp kx vx [⟨tg, iter, ifs, 0⟩] scope pos) (some (.Name y py)) spos.line X.env = pure true) (hi : PI X tg iter wi) (ok : BlkOk X.N X.env.scope scope own)
    (hg : ∀ (s : Shared) (H : Hp) (C : Addr) (cl : List (Str × Addr)) (fp : List Addr), PG (X.blk s H scope (compEnvC scope cl C X.env) fp) tg g) (ht : ∀ (s : Shared) (H : Hp) (C : Addr) (cl : List (Str × Addr)) (fp : List Addr), PTs (X.blk s H scope (compEnvC scope cl C X.env) fp) ifs tt)
    (hk : ∀ (s : Shared) (H : Hp) (C : Addr) (cl : List (Str × Addr)) (fp : List Addr), PE (X.blk s H scope (compEnvC scope cl C X.env) fp) kx tk)
    (he : ∀ (s : Shared) (H : Hp) (C : Addr) (cl : List (Str × Addr)) (fp : List Addr), PE (X.blk s H scope (compEnvC scope cl C X.env) fp) vx tv) (hs : ∀ x, foldedSetIterable iter X.env x = pure x := by intro _; rfl) :
    PS X (.Assign [.Name y py] (.DictComp kx vx [⟨tg, iter, ifs, 0⟩] scope pos) spos) (tAsg (tDc wi g tt tk tv (own.map (·.2))) (gName i)) := by
  refine ⟨fun pins s σ H D I h => ?_⟩
  rw [exec_Assign_Name_used _ _ _ _ hsw]
  refine wpAny_bind (wpAny_standAt (wpAny_bind ?_))
  show wpAny _ X.A (do let _ ← comprehension (.DictComp kx vx [⟨tg, iter, ifs, 0⟩] scope pos) scope X.env (firstIterPos [⟨tg, iter, ifs, 0⟩] pos) newDict false (eval iter X.env) (some (assign (.Name y py) X.env))) _ _ s
  have h : tDc wi g tt tk tv (own.map (·.2)) σ H (fun x H1 => gName i x σ H1 D.nx) := h
  refine wpAny_bind (thn (dc_core (Qf := fun _ s' => SP X pins D .next s') hc hN I hi ok hg ht hk he hs h fun L C s' m H' I' q hn f => ?_) fun _ s' hq => wpAny_pure (wpAny_pure hq))
  show wpAny _ _ (assign (.Name y py) X.env (.ref L)) _ _ _
  refine wpAny_assign_Name (store_ok2 (v := V.ref L) I' hN hy (.inl hyl) rfl (fun s2 I2 ⟨a, sb, ha⟩ => ?_) (.inr hyl))
  obtain ⟨f0, f1, f2, f3, f4, f5⟩ := f
  have haC : C ≠ a := by
    rcases ha with z | z
    · rw [z]; exact f1
    · exact fun e => f4 y a z e.symm
  refine ⟨m, hn.sameBut sb haC, fun h3 sb3 => ?_⟩
  exact ⟨_, H', I2.turned (t' := s2.toks) (fun b o hb e => (sb3.2 b hb).trans e) f0 f1 f3 f4 f5, q⟩
end
/-! ### tables with texts as keys -/
abbrev Tab := List (Str × V)
def kT (t : Tab) : List (Key × V) := t.map fun p => (.inr p.1, p.2)
theorem valV_kT (t : Tab) (x : Str) : valV (kT t) (.inr x) = valV t x := by
  induction t with
  | nil => rfl
  | cons p r ih =>
    show valV ((.inr p.1, p.2) :: kT r) (.inr x) = _
    by_cases h : p.1 = x
    · rw [valV_pos (show (Sum.inr p.1 : Key) = .inr x by rw [h]), valV_pos h]
    · rw [valV_neg (fun e => h (Sum.inr.inj e)), valV_neg h, ih]
theorem any_kT (t : Tab) (x : Str) : ((kT t).any fun kv => decide (kv.1 = .inr x)) = t.any fun kv => decide (kv.1 = x) := by
  rw [valV_any, valV_any, valV_kT]
theorem putK_kT (t : Tab) (x : Str) (v : V) : putK (kT t) (.inr x) v = kT (putK t x v) := by
  unfold putK
  rw [any_kT]
  split
  · unfold kT
    rw [List.map_map, List.map_map]
    refine List.map_congr_left fun p _ => ?_
    show (if (Sum.inr p.1 : Key) = .inr x then _ else _) = _
    by_cases h : p.1 = x
    · rw [if_pos (by rw [h])]
      show _ = ((Sum.inr (if p.1 = x then (p.1, v) else p).1, (if p.1 = x then (p.1, v) else p).2) : Key × V)
      rw [if_pos h]
    · rw [if_neg (fun e => h (Sum.inr.inj e))]
      show _ = ((Sum.inr (if p.1 = x then (p.1, v) else p).1, (if p.1 = x then (p.1, v) else p).2) : Key × V)
      rw [if_neg h]
  · unfold kT
    rw [List.map_append]
    rfl
theorem dropK_kT (t : Tab) (x : Str) : dropK (kT t) (.inr x) = kT (dropK t x) := by
  unfold dropK kT
  rw [List.filter_map]
  congr 1
  refine List.filter_congr fun p _ => ?_
  show decide ((Sum.inr p.1 : Key) ≠ .inr x) = decide (p.1 ≠ x)
  exact decide_eq_decide.mpr ⟨fun n e => n (by rw [e]), fun n e => n (Sum.inr.inj e)⟩
theorem keys_kT (t : Tab) : (kT t).map (·.1) = (t.map (·.1)).map Sum.inr := by
  unfold kT
  rw [List.map_map, List.map_map]
  rfl
theorem kV_kT (t : Tab) : ((kT t).map fun p => kV p.1) = (t.map (·.1)).map V.str := by
  unfold kT
  rw [List.map_map, List.map_map]
  rfl
theorem len_kT (t : Tab) : (kT t).length = t.length := List.length_map ..
/-- what a[x] is -/
theorem dget_kT {H : Hp} {a : Addr} {t : Tab} (h : Rd H a (.dK (kT t))) (x : Str) : DGet H a (.str x) (valV t x) := .inl ⟨kT t, .inr x, h, rfl, (valV_kT t x).symm⟩
theorem valV_drop {κ : Type} [DecidableEq κ] (t : List (κ × V)) (x y : κ) : valV (dropK t x) y = if y = x then none else valV t y := by
  induction t with
  | nil => split <;> rfl
  | cons p r ih =>
    by_cases h : p.1 = x
    · rw [dropK_pos h, ih]
      by_cases e : y = x
      · rw [if_pos e, if_pos e]
      · rw [if_neg e, if_neg e, valV_neg (fun z => e (by rw [← z, h]))]
    · rw [dropK_neg h]
      by_cases e : p.1 = y
      · rw [valV_pos e, valV_pos e, if_neg (fun z => h (by rw [e, z]))]
      · rw [valV_neg e, valV_neg e, ih]
/-- no key twice -/
def Nd (t : Tab) : Prop := (t.map (·.1)).Nodup
theorem nd_put {t : Tab} (h : Nd t) (x : Str) (v : V) : Nd (putK t x v) := by
  cases e : valV t x with
  | none => exact nd_putK v h e
  | some u =>
    unfold Nd putK
    rw [if_pos (by rw [valV_any, e]; rfl), List.map_map]
    have : ((fun p : Str × V => p.1) ∘ fun kv : Str × V => if kv.1 = x then (kv.1, v) else kv) = fun p => p.1 := by
      funext p
      show (if p.1 = x then (p.1, v) else p).1 = p.1
      split <;> rfl
    rw [this]
    exact h
theorem nd_drop {t : Tab} (h : Nd t) (x : Str) : Nd (dropK t x) := nd_dropK h
theorem mem_val {t : Tab} {x : Str} : x ∈ t.map (·.1) ↔ (valV t x).isSome = true := by
  rw [← valV_any, List.any_eq_true]
  constructor
  · intro m
    obtain ⟨p, hp, e⟩ := List.mem_map.mp m
    exact ⟨p, hp, decide_eq_true e⟩
  · rintro ⟨p, hp, e⟩
    exact List.mem_map.mpr ⟨p, hp, of_decide_eq_true e⟩
/-- tables with the same keys -/
theorem keys_perm {t u : Tab} (ht : Nd t) (hu : Nd u) (h : ∀ x, (valV t x).isSome = (valV u x).isSome) : (t.map (·.1)).Perm (u.map (·.1)) :=
  (List.perm_ext_iff_of_nodup ht hu).mpr fun x => by rw [mem_val, mem_val, h]
/-! ### texts in order -/
def leS (a b : Str) : Prop := ¬ b.cps.toList < a.cps.toList
theorem leS_trans {a b c : Str} (h : leS a b) (k : leS b c) : leS a c := by
  unfold leS at *
  intro z
  exact h (List.lt_of_le_of_lt (List.not_lt.mp k) z)
theorem str_ext {a b : Str} (h : a.cps.toList = b.cps.toList) : a = b := by
  cases a; cases b
  congr 1
  exact Array.toList_inj.mp h
theorem leS_anti {a b : Str} (h : leS a b) (k : leS b a) : a = b := str_ext (List.le_antisymm (List.not_lt.mp h) (List.not_lt.mp k))
theorem rising_pw : ∀ (l : List Str) (p : Str), risingS p l = true → (p :: l).Pairwise leS
  | [], p, _ => List.pairwise_singleton _ _
  | x :: r, p, h => by
    have h : (!ltCps x.cps.toList p.cps.toList && risingS x r) = true := h
    obtain ⟨h1, h2⟩ := Bool.and_eq_true_iff.mp h
    have ih := rising_pw r x h2
    have px : leS p x := fun z => by
      rw [ltCps_eq, decide_eq_true z] at h1
      exact absurd h1 (by decide)
    refine List.pairwise_cons.mpr ⟨fun y hy => ?_, ih⟩
    rcases List.mem_cons.mp hy with e | hy
    · rw [e]
      exact px
    · exact leS_trans px ((List.pairwise_cons.mp ih).1 y hy)
theorem sorted_pw {l : List Str} (h : sortedS l = true) : l.Pairwise leS := by
  cases l with
  | nil => exact List.Pairwise.nil
  | cons x r => exact rising_pw r x h
theorem pw_uniq : ∀ {l m : List Str}, l.Pairwise leS → m.Pairwise leS → l.Perm m → l = m
  | [], m, _, _, p => (List.nil_perm.mp p).symm ▸ rfl
  | a :: r, [], _, _, p => absurd (List.perm_nil.mp p) (by simp)
  | a :: r, b :: s, h, k, p => by
    obtain ⟨h1, h2⟩ := List.pairwise_cons.mp h
    obtain ⟨k1, k2⟩ := List.pairwise_cons.mp k
    have e : a = b := by
      rcases List.mem_cons.mp (p.mem_iff.mp List.mem_cons_self) with z | z
      · exact z
      · rcases List.mem_cons.mp (p.mem_iff.mpr (List.mem_cons_self (a := b))) with y | y
        · exact y.symm
        · exact leS_anti (h1 b y) (k1 a z)
    subst e
    rw [pw_uniq h2 k2 ((List.perm_cons a).mp p)]
theorem sort_uniq {l m : List Str} (h : sortedS l = true) (k : sortedS m = true) (p : l.Perm m) : l = m := pw_uniq (sorted_pw h) (sorted_pw k) p
end Fk

set_option maxHeartbeats 4000000
/-! Statements that are never come to; methods with a keyword; methods that may raise. -/
namespace Fk
open PySem PySem.Spec PyProof.Rows L2
section
variable {X : Cx}
/-- what is never come to -/
theorem ps_never {st : Stmt} : PS X st (fun _ _ _ => False) := ⟨fun _ _ _ _ _ _ h => h.elim⟩
theorem pe_never {e : Expr} : PE X e (fun _ _ _ => False) := ⟨fun _ _ _ _ _ _ h => h.elim⟩
variable {k j : Nat} {C : Addr} {m : Str} {sp : Sp} {E : L2.St → XK} {o e : Expr} {es : List Expr} {kws : List Keyword} {ta : TE} {t tk : TA} {pos apos : Pos} {ks : List Str} {gV : List V → List V → List V}
/-- a method with these keywords -/
structure MetK (P : Program) (w : World) (K : PySem.W.Frag) (mg : Str → Option Value) (base : Heap) (k : Nat) (C : Addr) (m : Str) (sp : Sp) (ks : List Str) (gV : List V → List V → List V) : Prop where
  ex : ∃ (f : Addr) (fd : FuncData) (ps : List Str) (g : List Value → List Value → List Value), Cls K C ∧ Meth K C m f ∧ FnOk P w K mg base C8.CX0 k f fd ps sp ∧ KBinds K fd ps ks g gV
def tMeK (C : Addr) (m : Str) (sp : Sp) (gV : List V → List V → List V) (ta : TE) (t tk : TA) : TE := fun σ H Q => ta σ H fun x H1 => ∃ (a dx : Addr) (fs : List (Str × V)), x = .ref a ∧ H1 a = some (.ins C dx fs) ∧ fs.lookup m = none ∧
  t σ H1 fun vs H2 => tk σ H2 fun zs H3 => sp (gV (x :: vs) zs) H3 Q C8.E0
/-- o.m(e, .., k = v, ..) -/
theorem pe_mtK {pl : Sem Bool} (c : MetK X.prog X.w X.K X.mg X.base k C m sp ks gV) (hr : Room j X.A) (hk : k ≤ j) (he : PE X o ta) (ha : PA X (e :: es) t) (hkw : PK X kws tk)
    (hall : (backToKw pos (keywordEach kws X.env)).all (·.1.isSome) = true := by rfl) (hks : (backToKw pos (keywordEach kws X.env)).filterMap (·.1) = ks := by rfl)
    (hst : starEach (e :: es) X.env = (false, eval e X.env) :: starEach es X.env := by rfl) (hpl : ((backTo pos (starEach (e :: es) X.env)).any (·.1) || (backToKw pos (keywordEach kws X.env)).any (·.1.isNone)) = false := by rfl)
    (ht : eval (.Call (.Attribute o m apos) (e :: es) kws pos) X.env = (do
      let ov ← eval o X.env
      standAt apos.atName
      let (f, first) ← holding [ov] (getMethod ov m pl)
      callWith pos f first (backTo pos (starEach (e :: es) X.env)) (backToKw pos (keywordEach kws X.env))) := by rfl) :
    PE X (.Call (.Attribute o m apos) (e :: es) kws pos) (tMeK C m sp gV ta t tk) := by
  obtain ⟨f, fd, ps, g, cl, hm, F, b⟩ := c.ex
  refine ⟨fun pins s σ H Q I h => ?_⟩
  refine PySem.W.methodCall_KW (pl := pl) (thn (he.run pins s σ H _ I h) fun u s1 ⟨x, H1, I1, rx, a, dx, fs, ex, ea, l, q⟩ => ?_) ht
  subst ex
  obtain rfl : u = Value.ref a := rx
  refine getmeth_ok I1 ea cl hm l ?_
  refine PySem.W.callWith_KW (first := [.ref a]) (h₀ := X.base) I.ok.mod.kin hm.kp hall (thn (ha.run pos pins s1 σ H1 _ I1 q) fun us s2 ⟨vs, H2, I2, r, q2⟩ => ?_) hpl hst
  refine thn (hkw.run pos pins s2 σ H2 _ I2 q2) fun ws s3 ⟨zs, H3, I3, rz, q3⟩ => ⟨I3.kIn, ?_⟩
  rw [hks]
  exact run_fnk F (hr.mono hk) b C8.pass0 I3 (show Vals (.ref a :: vs) (.ref a :: us) from .cons rfl r) rz q3
end
section
variable {P : Program} {w : World} {K : PySem.W.Frag} {mg : Str → Option Value} {base : Heap}
/-- a method of the text as it stands behind the top, with no defaults -/
structure MDef (K : PySem.W.Frag) (C : Addr) (m qual : Str) (st : Stmt) : Prop where
  ex : ∃ (f : Addr) (fd : FuncData), C8.Fun K m qual st f fd ∧ Meth K C m f ∧ fd.defaults = .none
theorem met_of {m qual : Str} {C : Addr} {st : Stmt} {N ps : List Str} {k : Nat} {sp : Sp} (c : Cls K C) (D : MDef K C m qual st) (S : FnScope N ps (C8.fnScope st))
    (hb : ∀ (kV doc pm : Value) (an : Option Addr) (cdv ct : Value) (us : List Value), us.length = ps.length → bindArgs (PySem.W.fnOf m qual (C8.fnArgs st) (C8.fnBody st) (C8.fnScope st) .none kV doc pm an cdv ct) ⟨us, []⟩ = pure (ps.zip us))
    (len : ∀ vs H Q E, sp vs H Q E → vs.length = ps.length)
    (hbody : ∀ (f : Addr) (cdv : Value) (A : Around) (outer : List Env) (s : Shared) (H : Hp) (vs : List V) (Q : VK) (E : XK), Room k (A.deeper (envOfC qual (C8.fnScope st) s.heap.objs.size f cdv)) → sp vs H Q E →
      ∃ t, PSs (cxOf C8.CX0 P w K mg base N qual (C8.fnScope st) f cdv A outer s H E).nox (C8.fnBody st) t ∧ t { nx := fun _ H' => Q .non H', rt := Q } (start N vs) H) : C8.Met P w K mg base (k + 1) C m sp [] := by
  obtain ⟨f, fd, F, M, df⟩ := D.ex
  exact C8.met0 c M F (F.binds df hb) S len (hbody f)
/-- a method that may let errors out -/
theorem metX_of {m qual : Str} {C : Addr} {st : Stmt} {N ps : List Str} {k : Nat} {sp : Sp} (c : Cls K C) (D : MDef K C m qual st) (S : FnScope N ps (C8.fnScope st))
    (hb : ∀ (kV doc pm : Value) (an : Option Addr) (cdv ct : Value) (us : List Value), us.length = ps.length → bindArgs (PySem.W.fnOf m qual (C8.fnArgs st) (C8.fnBody st) (C8.fnScope st) .none kV doc pm an cdv ct) ⟨us, []⟩ = pure (ps.zip us))
    (len : ∀ vs H Q E, sp vs H Q E → vs.length = ps.length)
    (hbody : ∀ (f : Addr) (cdv : Value) (A : Around) (outer : List Env) (s : Shared) (H : Hp) (vs : List V) (Q : VK) (E : XK), Room k (A.deeper (envOfC qual (C8.fnScope st) s.heap.objs.size f cdv)) → sp vs H Q E →
      ∃ t, PSs (cxOf (L2.CX P w) P w K mg base N qual (C8.fnScope st) f cdv A outer s H E) (C8.fnBody st) t ∧ t { nx := fun _ H' => Q .non H', rt := Q } (start N vs) H) : MetX P w K mg base (L2.CX P w) (k + 1) C m sp [] := by
  obtain ⟨f, fd, F, M, df⟩ := D.ex
  obtain ⟨oc, od, dV, kV, doc, pm, an, cdv, ct, osl, rfl, lk, hcd⟩ := F.ex
  exact ⟨f, _, ps, [], c, M, fn_of lk hcd S len fun A outer s H vs Q E hr hsp => hbody f cdv A outer s H vs Q E hr hsp, F.binds df hb, .nil⟩
end
end Fk

set_option maxHeartbeats 4000000
/-! A comprehension with two fors that changes nothing; the prefixes of paths. -/
namespace Fk
open PySem PySem.Spec PyProof.Rows L2
theorem same_frl {D : Addr} {H1 H H' : Hp} (h : H1 D = none) (s : Same H1 H) (f : FrL [D] H H') : Same H1 H' := fun b o e => f b o (fun z => by
  rw [List.mem_singleton.mp z, h] at e
  cases e) (s b o e)
theorem lc2_pure {α β : Type} {J : It} {us : List α} {g : α → V} {h : β → V} {G : Hp → Prop} {H1 : Hp} {D : Addr} {σ : L2.St} {vs : List Nat} {i j : Nat} {wi1 : TI} {te : TE} {Q : Hp → Prop} (Y : Yields J (us.map g) G) (fs : α → List β) (f : α → β → V) (hD1 : H1 D = none) (hG : ∀ H, Same H1 H → G H)
    (e1 : ∀ x, wipe ((wipe σ vs).set i (some x)) vs = wipe σ vs)
    (e2 : ∀ x y, wipe ((wipe ((wipe σ vs).set i (some x)) [j]).set j (some y)) [j] = wipe ((wipe σ vs).set i (some x)) [j])
    (hw : ∀ H u, Same H1 H → H D ≠ none → u ∈ us → ∀ (R : It → Hp → Prop), (∀ J1 G1 H3, Yields J1 ((fs u).map h) G1 → Same H H3 → (∀ H', FrL [D] H3 H' → G1 H') → R J1 H3) → wi1 ((wipe σ vs).set i (some (g u))) H R)
    (he : ∀ H u w, Same H1 H → u ∈ us → w ∈ fs u → ∀ (R : VK), (∀ H3, Same H H3 → R (f u w) H3) → te ((wipe ((wipe σ vs).set i (some (g u))) [j]).set j (some (h w))) H R)
    (hl : (us.flatMap fs).length ≤ 1000000) (hd : ∀ H, Same H1 H → H D = some (.lst (us.flatMap fun u => (fs u).map (f u))) → Q H) :
    ∃ W : Nat → Nat → Hp → Prop, (∃ m, W 0 m (upd H1 D (.lst []))) ∧ ∀ k m H, W k m H →
      (J.stop k H ∧ Q H) ∨ (J.go k H ∧ ∃ Nx : Hp → Prop, (∀ H', Nx H' → ∃ m', m' < m ∧ W (k + 1) m' H') ∧ ∀ x H', J.yld k H x H' → gName i x (wipe σ vs) H' fun σ2 H2 => wipe σ2 vs = wipe σ vs ∧ tYes σ2 H2 fun b H3 =>
        if b = true then wi1 σ2 H3 fun J1 H4 => ∃ W1 : Nat → Nat → Hp → Prop, (∃ m, W1 0 m H4) ∧ ∀ k2 m2 H, W1 k2 m2 H →
          (J1.stop k2 H ∧ Nx H) ∨ (J1.go k2 H ∧ ∃ Nx1 : Hp → Prop, (∀ H', Nx1 H' → ∃ k', k' < m2 ∧ W1 (k2 + 1) k' H') ∧ ∀ x H', J1.yld k2 H x H' → gName j x (wipe σ2 [j]) H' fun σ3 H5 => wipe σ3 [j] = wipe σ2 [j] ∧ tYes σ3 H5 fun b H6 =>
            if b = true then te σ3 H6 fun y H7 => ∃ acc, H7 D = some (.lst acc) ∧ acc.length < sizeLine ∧ Nx1 (upd H7 D (.lst (acc ++ [y]))) else Nx1 H6)
        else Nx H3) := by
  refine ⟨fun k m H => m = us.length - k ∧ k ≤ us.length ∧ Same H1 H ∧ H D = some (.lst ((us.take k).flatMap fun u => (fs u).map (f u))), ⟨us.length, by omega, Nat.zero_le _, same_new hD1, upd_same⟩, ?_⟩
  rintro k m H ⟨rfl, hk, sm, hD⟩
  by_cases hlt : k < us.length
  · refine .inr ⟨Y.go k H (hG _ sm) (by rw [List.length_map]; exact hlt), fun H' => Same H1 H' ∧ H' D = some (.lst ((us.take (k + 1)).flatMap fun u => (fs u).map (f u))), fun H' q => ⟨us.length - (k + 1), by omega, rfl, hlt, q⟩, fun x H' y => ?_⟩
    obtain ⟨rfl, hx⟩ := Y.yld k H x H' (by rw [List.length_map]; exact hlt) (hG _ sm) y
    rw [List.getElem?_map, List.getElem?_eq_getElem hlt] at hx
    obtain rfl := Option.some.inj hx
    have hu : us[k] ∈ us := List.getElem_mem hlt
    refine ⟨e1 _, ?_⟩
    dsimp only [tYes]
    first | rw [if_pos (rfl : true = true)] | skip
    refine hw _ us[k] sm (by rw [hD]; exact fun z => nomatch z) hu _ fun J1 G1 H3 Y1 s3 hG1 => ?_
    have et : us.take (k + 1) = us.take k ++ [us[k]] := by rw [List.take_add_one, List.getElem?_eq_getElem hlt]; rfl
    have total : ((us.take k).flatMap fun u => (fs u).map (f u)).length + (fs us[k]).length ≤ 1000000 := by
      have e : us.flatMap fs = ((us.take (k + 1)) ++ us.drop (k + 1)).flatMap fs := by rw [List.take_append_drop]
      rw [e, List.flatMap_append, et, List.flatMap_append, List.length_append, List.length_append] at hl
      have e2 : ∀ l : List α, (l.flatMap fun u => (fs u).map (f u)).length = (l.flatMap fs).length := fun l => by
        induction l with
        | nil => rfl
        | cons a r ih => rw [List.flatMap_cons, List.flatMap_cons, List.length_append, List.length_append, ih, List.length_map]
      rw [e2]
      have : ([us[k]].flatMap fs).length = (fs us[k]).length := by simp
      omega
    refine ⟨fun k2 m2 H => m2 = (fs us[k]).length - k2 ∧ k2 ≤ (fs us[k]).length ∧ FrL [D] H3 H ∧ H D = some (.lst (((us.take k).flatMap fun u => (fs u).map (f u)) ++ ((fs us[k]).take k2).map (f us[k]))),
      ⟨(fs us[k]).length, by omega, Nat.zero_le _, FrL.refl _ _, by rw [List.take_zero, List.map_nil, List.append_nil]; exact s3 _ _ hD⟩, ?_⟩
    rintro k2 m2 H5 ⟨rfl, hk2, f5, hD5⟩
    by_cases hlt2 : k2 < (fs us[k]).length
    · refine .inr ⟨Y1.go k2 H5 (hG1 _ f5) (by rw [List.length_map]; exact hlt2), _, fun H' q => ⟨(fs us[k]).length - (k2 + 1), by omega, rfl, hlt2, q⟩, fun x H' y => ?_⟩
      obtain ⟨rfl, hx⟩ := Y1.yld k2 H5 x H' (by rw [List.length_map]; exact hlt2) (hG1 _ f5) y
      rw [List.getElem?_map, List.getElem?_eq_getElem hlt2] at hx
      obtain rfl := Option.some.inj hx
      refine ⟨e2 _ _, ?_⟩
      first | rw [if_pos (rfl : true = true)] | skip
      have s5 : Same H1 _ := same_frl hD1 (sm.trans s3) f5
      refine he _ us[k] (fs us[k])[k2] s5 hu (List.getElem_mem hlt2) _ fun H6 s6 => ?_
      refine ⟨_, s6 _ _ hD5, small_lt (by rw [List.length_append, List.length_map, List.length_take]; omega), FrL.trans (f5.trans (FrL.same s6)) (FrL.at (List.mem_singleton_self D)), ?_⟩
      rw [upd_same, List.take_add_one, List.getElem?_eq_getElem hlt2, List.append_assoc, List.map_append]
      rfl
    · have e : k2 = (fs us[k]).length := by omega
      subst e
      refine .inl ⟨by have := Y1.stop H5 (hG1 _ f5); rw [List.length_map] at this; exact this, same_frl hD1 (sm.trans s3) f5, ?_⟩
      rw [hD5, et, List.flatMap_append, List.take_length]
      simp
  · have e : k = us.length := by omega
    subst e
    refine .inl ⟨by have := Y.stop H (hG _ sm); rw [List.length_map] at this; exact this, hd _ sm ?_⟩
    rw [hD, List.take_length]
/-! ### prefixes -/
def prefixesF (x : Str) : List Str := (List.range ((segs x).length - 1)).map fun k => Txt.join "/" ((segs x).take (k + 1))
def haveF (ks : List Str) : Bool := ks.any fun x => (prefixesF x).any fun y => decide (y ∈ ks)
theorem have_perm {ks ls : List Str} (h : ks.Perm ls) : haveF ks = haveF ls := by
  have e : ∀ a b : List Str, a.Perm b → haveF a = true → haveF b = true := fun a b p z => by
    obtain ⟨x, hx, z⟩ := List.any_eq_true.mp z
    obtain ⟨y, hy, z⟩ := List.any_eq_true.mp z
    exact List.any_eq_true.mpr ⟨x, p.mem_iff.mp hx, List.any_eq_true.mpr ⟨y, hy, decide_eq_true (p.mem_iff.mp (of_decide_eq_true z))⟩⟩
  cases c : haveF ls with
  | true => exact e ls ks h.symm c
  | false => exact Bool.eq_false_iff.mpr fun z => by rw [e ks ls h z] at c; cases c
theorem pre_len (x : Str) (h : x.length ≤ 100000) : (prefixesF x).length ≤ 100000 := by
  unfold prefixesF
  rw [List.length_map, List.length_range]
  have := (segs_len x h).1
  omega
theorem any_flat {α β : Type} (us : List α) (fs : α → List β) (f : α → β → Bool) : (us.flatMap fun u => (fs u).map (f u)).any id = us.any fun u => (fs u).any (f u) := by
  induction us with
  | nil => rfl
  | cons a r ih => rw [List.flatMap_cons, List.any_append, ih, List.any_cons, List.any_map]; rfl
end Fk
namespace Fk
open PySem PySem.Spec PyProof.Rows L2
theorem segs_lens (x : Str) : (segs x).length ≤ x.length + 1 ∧ ∀ y ∈ segs x, y.length ≤ x.length := by
  have e := TL.split_spl x "/" (by decide +kernel) (TL.kind_ok (by decide +kernel))
  have e2 : ∀ l k acc, (TL.spl (TL.tl "/") k acc l).length ≤ l.length + 1 ∧ ∀ y ∈ TL.spl (TL.tl "/") k acc l, y.length ≤ acc.length + l.length := by
    intro l
    induction l with
    | nil => intro k acc; rw [TL.spl_nil]; exact ⟨Nat.le_refl _, fun y hy => by rw [List.mem_singleton.mp hy]; simp⟩
    | cons c r ih =>
      intro k acc
      cases k with
      | zero =>
        unfold TL.spl
        split
        · obtain ⟨i1, i2⟩ := ih ((TL.tl "/").length - 1) []
          refine ⟨by simp only [List.length_cons]; omega, fun y hy => ?_⟩
          rcases List.mem_cons.mp hy with rfl | hy
          · simp only [List.length_cons]; omega
          · have := i2 y hy
            simp only [List.length_cons, List.length_nil] at this ⊢
            omega
        · obtain ⟨i1, i2⟩ := ih 0 (acc ++ [c])
          refine ⟨by simp only [List.length_cons]; omega, fun y hy => ?_⟩
          have := i2 y hy
          simp only [List.length_cons, List.length_append, List.length_nil] at this ⊢
          omega
      | succ k =>
        obtain ⟨i1, i2⟩ := ih k acc
        unfold TL.spl
        refine ⟨by simp only [List.length_cons]; omega, fun y hy => ?_⟩
        have := i2 y hy
        simp only [List.length_cons] at this ⊢
        omega
  obtain ⟨i1, i2⟩ := e2 (TL.tl x) 0 []
  rw [← e] at i1 i2
  rw [List.length_map, ← TL.len_tl] at i1
  refine ⟨?_, fun y hy => ?_⟩
  · show (Txt.split x "/").length ≤ _
    omega
  · have := i2 (TL.tl y) (List.mem_map_of_mem hy)
    rw [← TL.len_tl, ← TL.len_tl] at this
    simp at this
    omega
theorem sum_most (n : Nat) : ∀ ps : List Str, (∀ p ∈ ps, p.length ≤ n) → (ps.map (·.length)).sum ≤ ps.length * n := by
  intro ps h
  induction ps with
  | nil => exact Nat.zero_le _
  | cons p r ih =>
    rw [List.map_cons, List.sum_cons, List.length_cons, Nat.succ_mul]
    have := ih fun q hq => h q (List.mem_cons_of_mem _ hq)
    have := h p List.mem_cons_self
    omega
theorem cut_front {α : Type} (l : List α) (g : α → V) (k : Nat) : cutV (l.map g) none (some (1 + (k : Int))) = (l.take (k + 1)).map g := by
  have e : (1 + (k : Int)) = ((k + 1 : Nat) : Int) := by omega
  unfold cutV
  rw [e, HT.sIx_none, HT.sIx_nat, List.drop_zero, Nat.sub_zero, List.map_take]
  rcases Nat.le_total (k + 1) (l.map g).length with h | h
  · rw [Nat.min_eq_left h]
  · rw [Nat.min_eq_right h, List.take_length, List.take_of_length_le h]
/-! ### rules whose reading names the written part, within a comprehension -/
section
variable {X : Cx} {K : PySem.W.Frag} {o e : Expr} {to te : TE} {f : Str}
theorem slK_list (h : X.K = K) : SlR X (rSlL K) := h ▸ sl_list
theorem ixK_list (h : X.K = K) : IxR X (rIxL K) := h ▸ ix_list
theorem ixK_tup (h : X.K = K) : IxR X (rIxT K) := h ▸ ix_tup
theorem pi_listK {tg : Expr} (h : X.K = K) (he : PE X e te) : PI X tg e (iList K te) := h ▸ pi_list he
theorem pi_tupK {tg : Expr} (h : X.K = K) (he : PE X e te) : PI X tg e (iTup K te) := h ▸ pi_tup he
theorem pg_tupK {es : List Expr} {k : Nat} {t : TGs} {n : Nat} {pos : Pos} (h : X.K = K) (hc : X.calm = true) (hp : PGs X es t)
    (hn : (assignEach es X.env).length = n := by rfl) (hst : (assignEach es X.env).findIdx? (·.1) = none := by rfl) : PG X (.Tuple es k pos) (gTup K n t) := h ▸ pg_tup hc hp hn hst
theorem pe_fldK {pos : Pos} (h : X.K = K) (he : PE X e te) (hb : attributeBase e f X.env (eval e X.env) = eval e X.env) : PE X (.Attribute e f pos) (tFld K te f) := h ▸ pe_fld he hb
def rJoin (K : PySem.W.Frag) : V → List V → Hp → VK → Prop := fun x xs H Q => ∃ a p, ∃ ys : List Str, x = .str a ∧ xs = [.ref p] ∧ (SqL K H p (ys.map V.str) ∨ SqT K H p (ys.map V.str)) ∧
  (ys.map (·.length)).sum + ys.length * a.length ≤ 16777216 ∧ Q (.str (Txt.join a ys)) H
theorem pe_joinK {apos pos : Pos} (h : X.K = K) (ho : PE X o to) (he : PE X e te) (hs : starEach [e] X.env = [(false, eval e X.env)] := by rfl) (hbase : attributeBase o "join" X.env (eval o X.env) = eval o X.env := by rfl) (hline : (apos.endLine == pos.line) = true := by rfl) :
    PE X (.Call (.Attribute o "join" apos) [e] [] pos) (tM1 (rJoin K) to te) := by
  subst h
  exact pe_join ho he hs hbase hline
end
end Fk

set_option maxHeartbeats 4000000
/-! Lists and dicts that comprehensions make of tuples; tuples of tuples. -/
namespace Fk
open PySem PySem.Spec PyProof.Rows L2
/-- at these addresses stand tuples of these things -/
def Tups (H : Hp) (as : List Addr) (ls : List (List V)) : Prop := as.length = ls.length ∧ ∀ (i : Nat) (a : Addr) (l : List V), as[i]? = some a → ls[i]? = some l → H a = some (.tup l)
def TupsAt (H : Hp) (p : Addr) (ls : List (List V)) : Prop := ∃ as : List Addr, H p = some (.tup (as.map V.ref)) ∧ Tups H as ls
/-- tuples stay -/
def TupKeep (H H' : Hp) : Prop := ∀ b xs, H b = some (.tup xs) → H' b = some (.tup xs)
theorem TupKeep.of {H H' : Hp} (s : Same H H') : TupKeep H H' := fun b xs e => s b _ e
theorem TupKeep.refl (H : Hp) : TupKeep H H := fun _ _ e => e
theorem TupKeep.trans {H H1 H2 : Hp} (a : TupKeep H H1) (b : TupKeep H1 H2) : TupKeep H H2 := fun c xs e => b c xs (a c xs e)
theorem TupKeep.at {a : Addr} {H : Hp} {o : HO} (n : ∀ xs, H a ≠ some (.tup xs)) : TupKeep H (upd H a o) := fun b xs e => by
  have z : b ≠ a := fun z => n xs (by rw [← z]; exact e)
  rw [upd_ne z]
  exact e
theorem Tups.keep {H H' : Hp} {as : List Addr} {ls : List (List V)} (t : Tups H as ls) (k : TupKeep H H') : Tups H' as ls := ⟨t.1, fun i a l h1 h2 => k _ _ (t.2 i a l h1 h2)⟩
theorem TupsAt.keep {H H' : Hp} {p : Addr} {ls : List (List V)} (t : TupsAt H p ls) (k : TupKeep H H') : TupsAt H' p ls := by
  obtain ⟨as, h, t⟩ := t
  exact ⟨as, k _ _ h, t.keep k⟩
theorem Tups.nil {H : Hp} : Tups H [] [] := ⟨rfl, fun i a l h => by simp at h⟩
theorem Tups.snoc {H : Hp} {as : List Addr} {ls : List (List V)} {a : Addr} {l : List V} (t : Tups H as ls) (h : H a = some (.tup l)) : Tups H (as ++ [a]) (ls ++ [l]) := by
  obtain ⟨e, t⟩ := t
  refine ⟨by rw [List.length_append, List.length_append, e]; rfl, fun i b m h1 h2 => ?_⟩
  by_cases hi : i < as.length
  · rw [List.getElem?_append_left hi] at h1
    rw [List.getElem?_append_left (by omega)] at h2
    exact t i b m h1 h2
  · rw [List.getElem?_append_right (by omega)] at h1
    rw [List.getElem?_append_right (by omega)] at h2
    have i1 := (List.getElem?_eq_some_iff.mp h1).1
    have e0 : i - as.length = 0 := by
      rw [List.length_singleton] at i1
      omega
    rw [e0] at h1
    rw [← e, e0] at h2
    rw [← Option.some.inj h1, ← Option.some.inj h2]
    exact h
theorem Tups.get {H : Hp} {as : List Addr} {ls : List (List V)} (t : Tups H as ls) {u : Addr × List V} (h : u ∈ as.zip ls) : H u.1 = some (.tup u.2) := by
  obtain ⟨i, hi⟩ := List.mem_iff_getElem?.mp h
  rw [List.getElem?_zip_eq_some] at hi
  exact t.2 i _ _ hi.1 hi.2
theorem zip_fst {as : List Addr} {ls : List (List V)} (e : as.length = ls.length) : (as.zip ls).map (fun u => V.ref u.1) = as.map V.ref := by
  have : (fun u : Addr × List V => V.ref u.1) = V.ref ∘ Prod.fst := rfl
  rw [this, ← List.map_map, List.map_fst_zip (by omega)]
theorem zip_snd {as : List Addr} {ls : List (List V)} (e : as.length = ls.length) : (as.zip ls).map (·.2) = ls := List.map_snd_zip (by omega)
/-- a tuple of the written part -/
def KTup (K : PySem.W.Frag) (a : Addr) (xs : List V) : Prop := ∃ (o : Obj) (its : Array Value) (n : Nat), K.lookup a = some o ∧ o.cls = .type "tuple" ∧ o.data = .seq its n ∧ its.size ≤ sizeLine ∧ Vals xs its.toList
/-- a tuple, tracked or of the written part -/
def TupK (K : PySem.W.Frag) (H : Hp) (a : Addr) (xs : List V) : Prop := H a = some (.tup xs) ∨
  ∃ (o : Obj) (its : Array Value) (n : Nat), K.lookup a = some o ∧ o.cls = .type "tuple" ∧ o.data = .seq its n ∧ its.size ≤ sizeLine ∧ Vals xs its.toList
theorem TupK.sq {K : PySem.W.Frag} {H : Hp} {a : Addr} {xs : List V} (h : TupK K H a xs) : SqT K H a xs := h.imp (fun e => .inl e) id
theorem TupK.keep {K : PySem.W.Frag} {H H' : Hp} {a : Addr} {xs : List V} (h : TupK K H a xs) (k : TupKeep H H') : TupK K H' a xs := h.imp (fun e => k _ _ e) id
def TupsK (K : PySem.W.Frag) (H : Hp) (p : Addr) (ls : List (List V)) : Prop := ∃ as : List Addr, TupK K H p (as.map V.ref) ∧ Tups H as ls
theorem TupsK.of {K : PySem.W.Frag} {H : Hp} {p : Addr} {ls : List (List V)} (h : TupsAt H p ls) : TupsK K H p ls := let ⟨as, a, b⟩ := h; ⟨as, .inl a, b⟩
theorem TupsK.keep {K : PySem.W.Frag} {H H' : Hp} {p : Addr} {ls : List (List V)} (h : TupsK K H p ls) (k : TupKeep H H') : TupsK K H' p ls := let ⟨as, a, b⟩ := h; ⟨as, a.keep k, b.keep k⟩
section
variable {α : Type} {J : It} {us : List α} {val : α → V} {G : Hp → Prop} {H1 : Hp} {D : Addr} {σ : L2.St} {vs : List Nat} {g : TG} {tt : TT} {te tk tv : TE} {Q : Hp → Prop}
/-- a list of new tuples -/
theorem lc_new (Y : Yields J (us.map val) G) (f : α → List V) (p : α → Bool) (σf : α → L2.St) (hD1 : H1 D = none) (hG : ∀ H, Same H1 H → G H) (hw : ∀ u ∈ us, wipe (σf u) vs = wipe σ vs)
    (hg : ∀ H u, Same H1 H → u ∈ us → ∀ (R : L2.St → Hp → Prop), R (σf u) H → g (val u) (wipe σ vs) H R)
    (ht : ∀ H u, Same H1 H → u ∈ us → ∀ (R : Bool → Hp → Prop), (∀ H3, Same H H3 → R (p u) H3) → tt (σf u) H R)
    (he : ∀ H u, Same H1 H → u ∈ us → p u = true → ∀ (R : VK), (∀ a H3, Same H H3 → H3 a = some (.tup (f u)) → R (.ref a) H3) → te (σf u) H R)
    (hl : us.length ≤ 1000000) (hd : ∀ as H, Same H1 H → H D = some (.lst (as.map V.ref)) → Tups H as ((us.filter p).map f) → Q H) :
    ∃ W : Nat → Nat → Hp → Prop, (∃ m, W 0 m (upd H1 D (.lst []))) ∧ ∀ k m H, W k m H →
      (J.stop k H ∧ Q H) ∨ (J.go k H ∧ ∃ Nx : Hp → Prop, (∀ H', Nx H' → ∃ m', m' < m ∧ W (k + 1) m' H') ∧ ∀ x H', J.yld k H x H' → g x (wipe σ vs) H' fun σ2 H2 => wipe σ2 vs = wipe σ vs ∧ tt σ2 H2 fun b H3 =>
        if b = true then te σ2 H3 fun y H4 => ∃ acc, H4 D = some (.lst acc) ∧ acc.length < sizeLine ∧ Nx (upd H4 D (.lst (acc ++ [y]))) else Nx H3) := by
  refine lcG Y (fun k acc H => Same H1 H ∧ ∃ as : List Addr, acc = as.map V.ref ∧ Tups H as (((us.take k).filter p).map f)) (fun k acc H h _ => hG H h.1) ⟨same_new hD1, [], rfl, by simpa using Tups.nil⟩ (fun k acc H x hI hD hx hacc hk => ?_) (by rw [List.length_map]; exact hl) (fun acc H hI hD _ => ?_)
  · obtain ⟨sm, as, ea, tp⟩ := hI
    rw [List.getElem?_map] at hx
    cases hu : us[k]? with
    | none => rw [hu] at hx; cases hx
    | some u =>
      rw [hu] at hx
      cases hx
      have hm : u ∈ us := List.mem_of_getElem? hu
      have et : us.take (k + 1) = us.take k ++ [u] := by
        rw [List.take_add_one, hu]
        rfl
      refine hg H u sm hm _ ⟨hw u hm, ?_⟩
      refine ht H u sm hm _ (fun H3 s3 => ?_)
      by_cases hp : p u = true
      · rw [if_pos hp]
        refine he H3 u (sm.trans s3) hm hp _ (fun a H4 s4 h4 => ?_)
        have hD4 := s4 _ _ (s3 _ _ hD)
        have kp : TupKeep H4 (upd H4 D (.lst (acc ++ [V.ref a]))) := TupKeep.at fun xs z => by rw [hD4] at z; cases z
        refine lc_take hD4 hacc hk ⟨same_mut ((sm.trans s3).trans s4) hD1, as ++ [a], by rw [ea, List.map_append]; rfl, ?_⟩
        rw [et, List.filter_append, List.map_append, List.filter_cons, hp]
        exact ((tp.keep (TupKeep.of (s3.trans s4))).snoc h4).keep kp
      · rw [if_neg hp]
        refine lc_skip (s3 _ _ hD) hacc ⟨sm.trans s3, as, ea, ?_⟩
        rw [et, List.filter_append, List.map_append, List.filter_cons, if_neg hp]
        simpa using tp.keep (TupKeep.of s3)
  · obtain ⟨sm, as, ea, tp⟩ := hI
    rw [List.length_map, List.take_length] at tp
    rw [ea] at hD
    exact hd as H sm hD tp
/-- a dict with texts as its keys -/
theorem dc_tab (Y : Yields J (us.map val) G) (kf : α → Str) (vf : α → V) (p : α → Bool) (σf : α → L2.St) (hD1 : H1 D = none) (hG : ∀ H, Same H1 H → G H) (hw : ∀ u ∈ us, wipe (σf u) vs = wipe σ vs)
    (hg : ∀ H u, Same H1 H → u ∈ us → ∀ (R : L2.St → Hp → Prop), R (σf u) H → g (val u) (wipe σ vs) H R)
    (ht : ∀ H u, Same H1 H → u ∈ us → ∀ (R : Bool → Hp → Prop), (∀ H3, Same H H3 → R (p u) H3) → tt (σf u) H R)
    (hk : ∀ H u, Same H1 H → u ∈ us → p u = true → ∀ (R : VK), (∀ H3, Same H H3 → R (.str (kf u)) H3) → tk (σf u) H R)
    (hv : ∀ H u, Same H1 H → u ∈ us → p u = true → ∀ (R : VK), (∀ H3, Same H H3 → R (vf u) H3) → tv (σf u) H R)
    (hl : us.length ≤ 1000000) (nd : ((us.filter p).map kf).Nodup) (hd : ∀ H, Same H1 H → H D = some (.dK (kT ((us.filter p).map fun u => (kf u, vf u)))) → Q H) :
    ∃ W : Nat → Nat → Hp → Prop, (∃ m, W 0 m (upd H1 D (.dK []))) ∧ ∀ k m H, W k m H →
      (J.stop k H ∧ Q H) ∨ (J.go k H ∧ ∃ Nx : Hp → Prop, (∀ H', Nx H' → ∃ m', m' < m ∧ W (k + 1) m' H') ∧ ∀ x H', J.yld k H x H' → g x (wipe σ vs) H' fun σ2 H2 => wipe σ2 vs = wipe σ vs ∧ tt σ2 H2 fun b H3 =>
        if b = true then tk σ2 H3 fun y H4 => tv σ2 H4 fun z H5 => ∃ kvs key, y = kV key ∧ H5 D = some (.dK kvs) ∧ kvs.length < sizeLine ∧ Nx (upd H5 D (.dK (putK kvs key z))) else Nx H3) := by
  refine dcG Y (fun k kvs H => Same H1 H ∧ kvs = kT (((us.take k).filter p).map fun u => (kf u, vf u))) (fun k acc H h _ => hG H h.1) ⟨same_new hD1, rfl⟩ (fun k kvs H x hI hD hx hacc hk' => ?_) (by rw [List.length_map]; exact hl) (fun acc H hI hD _ => ?_)
  · obtain ⟨sm, ea⟩ := hI
    rw [List.getElem?_map] at hx
    cases hu : us[k]? with
    | none => rw [hu] at hx; cases hx
    | some u =>
      rw [hu] at hx
      cases hx
      have hm : u ∈ us := List.mem_of_getElem? hu
      have et : us.take (k + 1) = us.take k ++ [u] := by
        rw [List.take_add_one, hu]
        rfl
      refine hg H u sm hm _ ⟨hw u hm, ?_⟩
      refine ht H u sm hm _ (fun H3 s3 => ?_)
      by_cases hp : p u = true
      · rw [if_pos hp]
        refine hk H3 u (sm.trans s3) hm hp _ (fun H4 s4 => ?_)
        refine hv H4 u ((sm.trans s3).trans s4) hm hp _ (fun H5 s5 => ?_)
        have new : valV (((us.take k).filter p).map fun u => (kf u, vf u)) (kf u) = none := by
          cases c : valV (((us.take k).filter p).map fun u => (kf u, vf u)) (kf u) with
          | none => rfl
          | some z =>
            have m := valV_in c
            rw [List.map_map] at m
            have e : us.filter p = (us.take k).filter p ++ (u :: (us.drop (k + 1)).filter p) := by
              conv => lhs; rw [← List.take_append_drop (k + 1) us, et, List.filter_append, List.filter_append, List.filter_cons, hp]
              simp
            rw [e, List.map_append] at nd
            have := (List.nodup_append.mp nd).2.2 (kf u) m (kf u) List.mem_cons_self
            exact absurd rfl this
        refine dc_take (key := .inr (kf u)) (s5 _ _ (s4 _ _ (s3 _ _ hD))) hacc hk' ⟨same_mut (((sm.trans s3).trans s4).trans s5) hD1, ?_⟩
        rw [ea, putK_kT, putK_new _ new, et, List.filter_append, List.map_append, List.filter_cons, hp]
        rfl
      · rw [if_neg hp]
        refine dc_skip (s3 _ _ hD) hacc ⟨sm.trans s3, ?_⟩
        rw [et, List.filter_append, List.map_append, List.filter_cons, if_neg hp]
        simp [ea]
  · obtain ⟨sm, ea⟩ := hI
    rw [List.length_map, List.take_length] at ea
    rw [ea] at hD
    exact hd H sm hD
end
theorem val_keys (f : Str → V) (z : Str) : ∀ ys : List Str, valV (ys.map fun x => (x, f x)) z = if z ∈ ys then some (f z) else none
  | [] => rfl
  | y :: r => by
    show valV ((y, f y) :: r.map fun x => (x, f x)) z = _
    by_cases h : y = z
    · rw [valV_pos h, if_pos (by rw [h]; exact List.mem_cons_self), h]
    · rw [valV_neg h, val_keys f z r]
      by_cases m : z ∈ r
      · rw [if_pos m, if_pos (List.mem_cons_of_mem _ m)]
      · rw [if_neg m, if_neg (fun k => (List.mem_cons.mp k).elim (fun e => h e.symm) m)]
/-- the rows of a table in order -/
def SortOf (t u : Tab) : Prop := sortedS (u.map (·.1)) = true ∧ (u.map (·.1)).Perm (t.map (·.1)) ∧ ∀ x, valV u x = valV t x
theorem sortOf_keys {t : Tab} {ys : List Str} (hp : ys.Perm (t.map (·.1))) (hs : sortedS ys = true) : SortOf t (ys.map fun x => (x, (valV t x).getD .non)) := by
  have e : (ys.map fun x => (x, (valV t x).getD .non)).map (·.1) = ys := by
    rw [List.map_map]
    exact List.map_id' ys
  refine ⟨by rw [e]; exact hs, by rw [e]; exact hp, fun z => ?_⟩
  rw [val_keys (fun x => (valV t x).getD .non)]
  cases c : valV t z with
  | none => rw [if_neg (fun m => by have := mem_val.mp (hp.mem_iff.mp m); rw [c] at this; cases this)]
  | some v => rw [if_pos (hp.mem_iff.mpr (mem_val.mpr (by rw [c]; rfl)))]; rfl
theorem SortOf.nd {t u : Tab} (h : SortOf t u) (n : Nd t) : Nd u := h.2.1.nodup_iff.mpr n
theorem SortOf.len {t u : Tab} (h : SortOf t u) : u.length = t.length := by
  have := h.2.1.length_eq
  rw [List.length_map, List.length_map] at this
  exact this
def rowL (e : Str × V) : List V := [.str e.1, e.2]
/-! ### moves -/
def moveL (m : Str × V × V) : List V := [.str m.1, m.2.1, m.2.2]
def newsT (ms : List (Str × V × V)) : Tab := ms.map fun m => (m.1, m.2.2)
def notNon : V → Bool
  | .non => false
  | _ => true
def keptT (t n : Tab) : Tab := t.filter fun p => (valV n p.1).isNone
def madeT (n : Tab) : Tab := n.filter fun p => notNon p.2
def afterT (t : Tab) (ms : List (Str × V × V)) : Tab := keptT t (newsT ms) ++ madeT (newsT ms)
theorem zip_ms {α : Type} {as : List Addr} {ms : List α} (e : as.length = ms.length) : (as.zip ms).map (fun u => V.ref u.1) = as.map V.ref := by
  have : (fun u : Addr × α => V.ref u.1) = V.ref ∘ Prod.fst := rfl
  rw [this, ← List.map_map, List.map_fst_zip (by omega)]
theorem tups_get {α : Type} {H : Hp} {as : List Addr} {ms : List α} {f : α → List V} (tp : Tups H as (ms.map f)) {u : Addr × α} (h : u ∈ as.zip ms) : H u.1 = some (.tup (f u.2)) := by
  obtain ⟨i, hi⟩ := List.mem_iff_getElem?.mp h
  rw [List.getElem?_zip_eq_some] at hi
  refine tp.2 i _ _ hi.1 ?_
  rw [List.getElem?_map, hi.2]
  rfl
theorem ne_of_none' {H : Hp} {D a : Addr} {o : HO} (h : H D = none) (k : H a = some o) : D ≠ a := (ne_of_none k h).symm
theorem same_unlock {H H2 : Hp} {d : Addr} {od : Obj} {u : HO} (s : Same (upd H d (.frz od u)) H2) (h : H d = some u) : Same H (upd H2 d u) := fun b o e => by
  by_cases hb : b = d
  · rw [hb, upd_same, ← h, ← hb, e]
  · rw [upd_ne hb]
    exact s _ _ (by rw [upd_ne hb]; exact e)
theorem lock_ne {H : Hp} {d D : Addr} {o : HO} (h : upd H d o D = none) : D ≠ d := fun z => by
  rw [z, upd_same] at h
  cases h
theorem lock_free {H : Hp} {d D : Addr} {o : HO} (h : upd H d o D = none) : H D = none := by
  have n := lock_ne h
  rw [upd_ne n] at h
  exact h
/-- a walk over a locked table -/
theorem yields_tab {d : Addr} {o : Obj} {t : Tab} : Yields (Itk d o (kT t)) (t.map fun e => V.str e.1) (fun H => H d = some (.frz o (.dK (kT t)))) := by
  have : (t.map fun e => V.str e.1) = (kT t).map fun p => kV p.1 := by
    unfold kT
    rw [List.map_map]
    rfl
  rw [this]
  exact yields_keys
theorem yields_zip {α : Type} {K : PySem.W.Frag} {a : Addr} {as : List Addr} {ms : List α} (e : as.length = ms.length) : Yields (Itt K a) ((as.zip ms).map fun u => V.ref u.1) (fun H => SqT K H a (as.map V.ref)) := by
  rw [zip_ms e]
  exact yields_tup
theorem nd_filter {t : Tab} (h : Nd t) (p : Str × V → Bool) : Nd (t.filter p) := List.Nodup.sublist ((List.filter_sublist).map _) h
theorem nd_news {ms : List (Str × V × V)} (h : (ms.map (·.1)).Nodup) : Nd (newsT ms) := by
  unfold Nd newsT
  rw [List.map_map]
  exact h
theorem nd_after {t : Tab} {ms : List (Str × V × V)} (h : Nd t) (k : (ms.map (·.1)).Nodup) : Nd (afterT t ms) := by
  unfold Nd afterT
  rw [List.map_append]
  refine List.nodup_append.mpr ⟨nd_filter h _, nd_filter (nd_news k) _, fun x hx y hy e => ?_⟩
  obtain ⟨p, hp, rfl⟩ := List.mem_map.mp hx
  obtain ⟨q, hq, rfl⟩ := List.mem_map.mp hy
  have h1 := (List.mem_filter.mp hp).2
  have h2 := val_nodup (nd_news k) q (List.mem_filter.mp hq).1
  rw [e, h2] at h1
  cases h1
theorem len_after {t : Tab} {ms : List (Str × V × V)} : (afterT t ms).length ≤ t.length + ms.length := by
  unfold afterT
  rw [List.length_append]
  have h1 := List.length_filter_le (fun p : Str × V => (valV (newsT ms) p.1).isNone) t
  have h2 := List.length_filter_le (fun p : Str × V => notNon p.2) (newsT ms)
  have h3 : (newsT ms).length = ms.length := List.length_map ..
  unfold keptT madeT
  omega
theorem val_app {t u : Tab} (x : Str) : valV (t ++ u) x = (valV t x).or (valV u x) := by
  induction t with
  | nil => rfl
  | cons p r ih =>
    by_cases h : p.1 = x
    · rw [List.cons_append, valV_pos h, valV_pos h]
      rfl
    · rw [List.cons_append, valV_neg h, valV_neg h, ih]
theorem merge_kT : ∀ {t u : Tab}, Nd (t ++ u) → mergeK (kT t) (kT u) = kT (t ++ u)
  | t, [], _ => by rw [List.append_nil]; rfl
  | t, p :: r, h => by
    have e : t ++ p :: r = (t ++ [p]) ++ r := by rw [List.append_assoc]; rfl
    have new : valV t p.1 = none := by
      cases c : valV t p.1 with
      | none => rfl
      | some v =>
        have h : ((t ++ p :: r).map (·.1)).Nodup := h
        rw [List.map_append] at h
        exact absurd rfl ((List.nodup_append.mp h).2.2 _ (valV_in c) p.1 List.mem_cons_self)
    show mergeK (putK (kT t) (.inr p.1) p.2) (kT r) = _
    rw [putK_kT, putK_new _ new, e]
    rw [e] at h
    exact merge_kT h
/-- what a table holds behind moves -/
theorem val_filter {t : Tab} (h : Nd t) (p : Str × V → Bool) (x : Str) : valV (t.filter p) x = (valV t x).bind fun v => if p (x, v) = true then some v else none := by
  induction t with
  | nil => rfl
  | cons q r ih =>
    obtain ⟨h1, h2⟩ := List.nodup_cons.mp (show ((q :: r).map (·.1)).Nodup from h)
    have ih := ih h2
    have nr : q.1 = x → valV r x = none := fun e => by
      cases c : valV r x with
      | none => rfl
      | some v => exact absurd (show q.1 ∈ r.map (·.1) by rw [e]; exact valV_in c) h1
    rw [List.filter_cons]
    by_cases e : q.1 = x
    · rw [valV_pos e]
      have eq : q = (x, q.2) := by rw [← e]
      by_cases hp : p q = true
      · rw [if_pos hp, valV_pos e]
        show some q.2 = if p (x, q.2) = true then some q.2 else none
        rw [← eq, if_pos hp]
      · rw [if_neg hp, ih, nr e]
        show none = if p (x, q.2) = true then some q.2 else none
        rw [← eq, if_neg hp]
    · rw [valV_neg e]
      by_cases hp : p q = true
      · rw [if_pos hp, valV_neg e, ih]
      · rw [if_neg hp, ih]
theorem val_after {t : Tab} {ms : List (Str × V × V)} (h : Nd t) (k : (ms.map (·.1)).Nodup) (x : Str) : valV (afterT t ms) x = match valV (newsT ms) x with
    | none => valV t x
    | some v => if notNon v = true then some v else none := by
  unfold afterT keptT madeT
  rw [val_app, val_filter h, val_filter (nd_news k)]
  cases c : valV (newsT ms) x with
  | none =>
    cases d : valV t x with
    | none => rfl
    | some v => simp [c]
  | some v =>
    cases d : valV t x with
    | none => simp
    | some w => simp [c]
/-! ### logs -/
/-- the table tells the logs: tuples of entries -/
def LogsOk (H : Hp) (t : Tab) (L : Str → List (List V)) : Prop := ∀ x, (valV t x = none ∧ L x = []) ∨ ∃ p, (L x ≠ [] ∧ valV t x = some (.ref p)) ∧ TupsAt H p (L x)
def logPut (L : Str → List (List V)) (x : Str) (e : List V) : Str → List (List V) := fun y => if y = x then L y ++ [e] else L y
def logMoves (L : Str → List (List V)) (note : List V) (ms : List (Str × V × V)) : Str → List (List V) := ms.foldl (fun L m => logPut L m.1 ([m.2.1, m.2.2] ++ note)) L
theorem LogsOk.keep {H H' : Hp} {t : Tab} {L : Str → List (List V)} (h : LogsOk H t L) (k : TupKeep H H') : LogsOk H' t L := fun x => (h x).imp id fun ⟨p, a, b⟩ => ⟨p, a, b.keep k⟩
theorem LogsOk.of {H : Hp} {t u : Tab} {L : Str → List (List V)} (h : LogsOk H t L) (e : ∀ x, valV u x = valV t x) : LogsOk H u L := fun x => by
  rw [e]
  exact h x
theorem LogsOk.put {H : Hp} {t : Tab} {L : Str → List (List V)} (h : LogsOk H t L) {x : Str} {p : Addr} {e : List V} (tp : TupsAt H p (L x ++ [e])) : LogsOk H (putK t x (.ref p)) (logPut L x e) := fun y => by
  unfold logPut
  rw [valV_put]
  by_cases c : y = x
  · rw [if_pos c, if_pos c, c]
    exact .inr ⟨p, ⟨List.append_ne_nil_of_right_ne_nil _ (fun z => nomatch z), rfl⟩, tp⟩
  · rw [if_neg c, if_neg c]
    exact h y
theorem len_put (t : Tab) (x : Str) (v : V) : (putK t x v).length ≤ t.length + 1 := length_putK t x v
theorem logMoves_take {L : Str → List (List V)} {note : List V} {ms : List (Str × V × V)} {i : Nat} {m : Str × V × V} (h : ms[i]? = some m) : logMoves L note (ms.take (i + 1)) = logPut (logMoves L note (ms.take i)) m.1 ([m.2.1, m.2.2] ++ note) := by
  unfold logMoves
  rw [List.take_add_one, h, List.foldl_append]
  rfl
theorem catA {K : PySem.W.Frag} {H : Hp} {a b : Addr} {xs ys : List V} {Q : VK} (ha : SqT K H a xs) (hb : H b = some (.tup ys)) (ny : ys ≠ []) (hz : xs.length + ys.length ≤ 1000000) (q : ∀ p H', Same H H' → H' p = some (.tup (xs ++ ys)) → Q (.ref p) H') : rCatA K (.ref a) (.ref b) H Q :=
  ⟨a, b, xs, ys, rfl, rfl, ha, SqT.of hb, small_line hz, fun e => q b H (Same.refl H) (by rw [e]; exact hb), fun _ e => absurd e ny, fun _ _ p hp => q p _ (same_new hp) upd_same⟩
/-- an entry is put behind the log of a name -/
theorem log_step {K : PySem.W.Frag} {H : Hp} {D2 nt : Addr} {lt : Tab} {L : Str → List (List V)} {x : Str} {v1 v2 n1 n2 n3 : V} {tk t1 t2 td tn : TE} {D : Ends} {σ : L2.St} (hD : H D2 = some (.dK (kT lt))) (lk : LogsOk H lt L) (hnt : H nt = some (.tup [n1, n2, n3]))
    (b : (L x).length ≤ 100000) (hl : lt.length ≤ 1000) (ek : ∀ H' Q, Q (.str x) H' → tk σ H' Q) (e1 : ∀ H' Q, Q v1 H' → t1 σ H' Q) (e2 : ∀ H' Q, Q v2 H' → t2 σ H' Q) (ed : ∀ H' Q, Q (.ref D2) H' → td σ H' Q) (en : ∀ H' Q, Q (.ref nt) H' → tn σ H' Q)
    (q : ∀ H' p, FrL [D2] H H' → TupKeep H H' → H' D2 = some (.dK (kT (putK lt x (.ref p)))) → LogsOk H' (putK lt x (.ref p)) (logPut L x ([v1, v2] ++ [n1, n2, n3])) → D.nx σ H') :
    sDPut td tk (tOp (rCatA K) (tDGet2 td tk (tTup tNil)) (tTup (tCons (tOp (rCatA K) (tTup (tCons t1 (tCons t2 tNil))) tn) tNil))) D σ H := by
  refine ed _ _ ⟨D2, rfl, .inl ⟨_, .inl hD⟩, ek _ _ ⟨Nat.zero_le _, fun pe hpe => ⟨valV lt x, ?_, ?_⟩⟩⟩
  · exact dget_kT (.inl (by rw [upd_ne (ne_of_none hD hpe)]; exact hD)) x
  · have s0 : Same H (upd H pe (.tup [])) := same_new hpe
    have p0 : (upd H pe (.tup [])) pe = some (.tup []) := upd_same
    generalize upd H pe (.tup []) = H0 at s0 p0
    obtain ⟨a, as, ea, ha, ta⟩ : ∃ (a : Addr) (as : List Addr), (valV lt x).getD (.ref pe) = .ref a ∧ H0 a = some (.tup (as.map V.ref)) ∧ Tups H0 as (L x) := by
      rcases lk x with ⟨e, l⟩ | ⟨p, ⟨_, e⟩, as, h, t⟩
      · exact ⟨pe, [], by rw [e]; rfl, p0, by rw [l]; exact Tups.nil⟩
      · exact ⟨p, as, by rw [e]; rfl, s0 _ _ h, t.keep (TupKeep.of s0)⟩
    rw [ea]
    have la : as.length ≤ 100000 := by rw [ta.1]; exact b
    refine e1 _ _ (e2 _ _ ⟨(by show 2 ≤ sizeLine; decide), fun p2 hp2 => en _ _ ?_⟩)
    refine catA (SqT.of upd_same) ((same_new hp2) _ _ (s0 _ _ hnt)) (fun z => nomatch z) (by show 2 + 3 ≤ _; decide) fun p3 H3 s3 h3 => ?_
    refine ⟨(by show 1 ≤ sizeLine; decide), fun p4 hp4 => ?_⟩
    have s04 : Same H0 (upd H3 p4 (.tup [V.ref p3])) := ((same_new hp2).trans s3).trans (same_new hp4)
    have h3' : (upd H3 p4 (.tup [V.ref p3])) p3 = some (.tup ([v1, v2] ++ [n1, n2, n3])) := (same_new hp4) _ _ h3
    have h4' : (upd H3 p4 (.tup [V.ref p3])) p4 = some (.tup [V.ref p3]) := upd_same
    generalize upd H3 p4 (.tup [V.ref p3]) = H4 at s04 h3' h4'
    refine catA (SqT.of (s04 _ _ ha)) h4' (fun z => nomatch z) (by rw [List.length_map]; show _ + 1 ≤ _; omega) fun p5 H5 s5 h5 => ?_
    have s05 := (s0.trans s04).trans s5
    have hD5 := s05 _ _ hD
    refine ed _ _ (ek _ _ ⟨D2, _, rfl, .inl ⟨kT lt, .inr x, hD5, rfl, small_lt (by rw [len_kT]; omega), rfl⟩, ?_⟩)
    rw [putK_kT]
    have kp : TupKeep H5 (upd H5 D2 (.dK (kT (putK lt x (.ref p5))))) := TupKeep.at fun xs z => by rw [hD5] at z; cases z
    have kp2 : TupKeep H (upd H5 D2 (.dK (kT (putK lt x (.ref p5))))) := (TupKeep.of s05).trans kp
    refine q _ p5 ((FrL.same s05).trans (FrL.at (List.mem_singleton_self D2))) kp2 upd_same ?_
    refine (lk.keep kp2).put ⟨as ++ [p3], ?_, ?_⟩
    · refine kp _ _ ?_
      rw [h5, List.map_append]
      rfl
    · exact ((ta.keep (TupKeep.of (s04.trans s5))).snoc (s5 _ _ h3')).keep kp
theorem logMoves_len (L : Str → List (List V)) (note : List V) (x : Str) : ∀ ms : List (Str × V × V), (logMoves L note ms x).length ≤ (L x).length + ms.length := by
  intro ms
  induction ms generalizing L with
  | nil => exact Nat.le_refl _
  | cons m r ih =>
    have := ih (logPut L m.1 ([m.2.1, m.2.2] ++ note))
    have e : (logPut L m.1 ([m.2.1, m.2.2] ++ note) x).length ≤ (L x).length + 1 := by
      unfold logPut
      split
      · rw [List.length_append]
        exact Nat.le_refl _
      · omega
    show (logMoves (logPut L m.1 ([m.2.1, m.2.2] ++ note)) note r x).length ≤ _
    rw [List.length_cons]
    omega
theorem dp_head {K : PySem.W.Frag} {H : Hp} {p : Addr} {a b : Str} (h : TupK K H p [.str a, .str b]) : Dp K H (.ref p) (.tuple [.str a, .str b]) := .tup h.sq (.cons (.str a) (.cons (.str b) .nil))
theorem shaped_head {a b : Str} (ha : OkS a) (hb : OkS b) : SeqAt.shaped (.tuple [.str a, .str b]) = true := by
  simp [SeqAt.shaped, PyData.canLay0, PyData.canLayAll0, strOk_of ha, strOk_of hb, PyData.depth, PyData.depthAll]
theorem eqv_head (a b c d : Str) : PyData.eqv (.tuple [.str a, .str b]) (.tuple [.str c, .str d]) = decide ((c, d) = (a, b)) := by
  simp only [PyData.eqv, PyData.eqvAll]
  rw [Bool.eq_iff_iff]
  simp only [Bool.and_eq_true, beq_iff_eq, decide_eq_true_eq, Prod.mk.injEq, and_true]
  exact ⟨fun ⟨x, y⟩ => ⟨x.symm, y.symm⟩, fun ⟨x, y⟩ => ⟨x.symm, y.symm⟩⟩
def flatN : V → Prop
  | .non => True
  | .str _ => True
  | _ => False
theorem scal_flat {x y : V} (hx : flatN x) (hy : flatN y) : scal x y = true := by
  cases x <;> cases y <;> first | rfl | exact hx.elim | exact hy.elim
def ledF (t : Tab) (x n : Str) : V := if x = "id" then .str n else (valV t n).getD .non
theorem flat_val {t : Tab} (h : ∀ e ∈ t, flatN e.2) (x : Str) : flatN ((valV t x).getD .non) := by
  induction t with
  | nil => exact True.intro
  | cons p r ih =>
    by_cases e : p.1 = x
    · rw [valV_pos e]
      exact h p List.mem_cons_self
    · rw [valV_neg e]
      exact ih fun q hq => h q (List.mem_cons_of_mem _ hq)
theorem flat_led {t : Tab} (h : ∀ e ∈ t, flatN e.2) (x n : Str) : flatN (ledF t x n) := by
  unfold ledF
  split
  · exact True.intro
  · exact flat_val h n
theorem flat_after {t : Tab} {ms : List (Str × V × V)} (h : ∀ e ∈ t, flatN e.2) (k : ∀ m ∈ ms, flatN m.2.2) : ∀ e ∈ afterT t ms, flatN e.2 := fun e he => by
  rcases List.mem_append.mp he with he | he
  · exact h e (List.mem_filter.mp he).1
  · obtain ⟨m, hm, rfl⟩ := List.mem_map.mp (List.mem_filter.mp he).1
    exact k m hm
end Fk

set_option maxHeartbeats 4000000
/-! What stands where references and edits are. -/
namespace Fk
open PySem PySem.Spec PyProof.Rows L2
/-- the fields of references -/
def rf (lk tb hd lg : Addr) : List (Str × V) := [("_locks", .ref lk), ("_table", .ref tb), ("_head", .ref hd), ("_logs", .ref lg)]
/-- the fields of an edit -/
def ef (R nt cl : Addr) (nh : V) (b : Bool) : List (Str × V) := [("_refs", .ref R), ("_note", .ref nt), ("_calls", .ref cl), ("_new_head", nh), ("closed", .bl b)]
/-- the calls of an edit: names, what they shall have, what they had -/
def CallsAt (H : Hp) (cl : Addr) (cs : List (Str × V × V)) : Prop := ∃ zs : List (Addr × (Str × V × V)), zs.map (·.2) = cs ∧ H cl = some (.dK (kT (zs.map fun z => (z.2.1, .ref z.1)))) ∧ ∀ z ∈ zs, H z.1 = some (.tup [z.2.2.1, z.2.2.2])
/-- the locks: those of closed edits and those of the edit at E -/
def LocksAt (H : Hp) (CE lk E : Addr) (n : Nat) : Prop := ∃ kt : Tab, H lk = some (.dK (kT kt)) ∧ Nd kt ∧ kt.length ≤ 64 ∧ (kt.filter fun p => decide (p.2 = .ref E)).length ≤ n ∧ ∀ p ∈ kt, p.2 = .ref E ∨ ∃ e dx fs, p.2 = .ref e ∧ H e = some (.ins CE dx fs) ∧ fs.lookup ("closed" : Str) = some (.bl true)
theorem mem_putK {t : Tab} {x : Str} {v : V} {p : Str × V} (h : p ∈ putK t x v) : p ∈ t ∨ p.2 = v := by
  unfold putK at h
  split at h
  · obtain ⟨q, hq, e⟩ := List.mem_map.mp h
    by_cases c : q.1 = x
    · rw [if_pos c] at e
      exact .inr (by rw [← e])
    · rw [if_neg c] at e
      exact .inl (by rw [← e]; exact hq)
  · rcases List.mem_append.mp h with h | h
    · exact .inl h
    · exact .inr (by rw [List.mem_singleton.mp h])
theorem LocksAt.keep {H H' : Hp} {CE lk E : Addr} {n : Nat} (h : LocksAt H CE lk E n) (e : ∀ o, H lk = some o → H' lk = some o) (k : ∀ a dx fs, H a = some (.ins CE dx fs) → fs.lookup ("closed" : Str) = some (.bl true) → H' a = some (.ins CE dx fs)) : LocksAt H' CE lk E n := by
  obtain ⟨kt, a, b, c, c', d⟩ := h
  exact ⟨kt, e _ a, b, c, c', fun p hp => (d p hp).imp id fun ⟨x, dx, fs, h1, h2, h3⟩ => ⟨x, dx, fs, h1, k _ _ _ h2 h3, h3⟩⟩
theorem LocksAt.same {H H' : Hp} {CE lk E : Addr} {n : Nat} (h : LocksAt H CE lk E n) (s : Same H H') : LocksAt H' CE lk E n := h.keep (fun o e => s _ _ e) fun _ _ _ e _ => s _ _ e
theorem FrL.out {L : List Addr} {H H' : Hp} (f : FrL L H H') {b : Addr} {o : HO} (e : H b = some o) (n : ∀ a ∈ L, b ≠ a) : H' b = some o := f b o (fun z => n b z rfl) e
theorem not1 {a b : Addr} (h : b ≠ a) : ∀ c ∈ [a], b ≠ c := fun c hc => by rw [List.mem_singleton.mp hc]; exact h
theorem not2 {a c b : Addr} (h : b ≠ a) (k : b ≠ c) : ∀ d ∈ [a, c], b ≠ d := fun d hd => by
  rcases List.mem_cons.mp hd with e | hd
  · rw [e]; exact h
  · rw [List.mem_singleton.mp hd]; exact k
theorem at_ne {H : Hp} {a b : Addr} {o u : HO} (h : H a = some o) (k : H b = some u) (n : o ≠ u) : a ≠ b := fun z => by
  rw [z, k] at h
  exact n (Option.some.inj h).symm
/-- what an edit has behind a call -/
def callPut (cs : List (Str × V × V)) (x : Str) (v o : V) : List (Str × V × V) := cs.filter (fun c => decide (c.1 ≠ x)) ++ [(x, v, o)]
theorem CallsAt.keep {H H' : Hp} {cl : Addr} {cs : List (Str × V × V)} (h : CallsAt H cl cs) (k : TupKeep H H') (e : ∀ o, H cl = some o → H' cl = some o) : CallsAt H' cl cs := by
  obtain ⟨zs, a, b, c⟩ := h
  exact ⟨zs, a, e _ b, fun z hz => k _ _ (c z hz)⟩
theorem calls_drop (zs : List (Addr × (Str × V × V))) (x : Str) : dropK (zs.map fun z => (z.2.1, V.ref z.1)) x = (zs.filter fun z => decide (z.2.1 ≠ x)).map fun z => (z.2.1, V.ref z.1) := by
  unfold dropK
  rw [List.filter_map]
  rfl
theorem calls_put {H : Hp} {cl p : Addr} {zs : List (Addr × (Str × V × V))} {x : Str} {v o : V} (hc : H cl = some (.dK (kT (putK (dropK (zs.map fun z => (z.2.1, V.ref z.1)) x) x (.ref p))))) (hz : ∀ z ∈ zs, H z.1 = some (.tup [z.2.2.1, z.2.2.2])) (hp : H p = some (.tup [v, o])) :
    CallsAt H cl (callPut (zs.map (·.2)) x v o) := by
  refine ⟨zs.filter (fun z => decide (z.2.1 ≠ x)) ++ [(p, x, v, o)], ?_, ?_, fun z h => ?_⟩
  · unfold callPut
    rw [List.map_append, List.filter_map]
    rfl
  · rw [hc, calls_drop, putK_new]
    · rw [List.map_append]
      rfl
    · rw [← calls_drop, valV_drop, if_pos rfl]
  · rcases List.mem_append.mp h with h | h
    · exact hz z (List.mem_filter.mp h).1
    · rw [List.mem_singleton.mp h]
      exact hp
/-! ### errors that are raised -/
def spErr (K : PySem.W.Frag) (f : Str) : Sp := fun vs H Q _ => ∃ (a C fI : Addr) (y : V), vs = [.ref a, y] ∧ XC K C fI ∧ PySem.W.findIn K (.ref C) f = some none ∧ H a = some (exo a C none) ∧
  ∀ dx, H dx = none → dx ≠ a → Q .non (upd (upd H dx (exd dx [(f, y)])) a (exo a C (some dx)))
/-- what is asked of an error's class to be raised -/
structure OexW (K : PySem.W.Frag) (C : Addr) : Prop where
  exC : PySem.W.subIn K (.ref C) (.type "BaseException") = some true
  tyC : PySem.W.typeIn K (.ref C) = some (.type "type")
instance {K : PySem.W.Frag} {C : Addr} : Coe (OexC K C) (OexW K C) := ⟨fun h => ⟨h.exC, h.tyC⟩⟩
structure ErrC (K : PySem.W.Frag) (mg : Str → Option Value) (nm f : Str) (C fI : Addr) : Prop where
  mgc : mg nm = some (.ref C)
  ox : OexW K C
  xc : XC K C fI
  nf : PySem.W.findIn K (.ref C) f = some none
  ini : ∃ fd, (∀ (P : Program) (w : World) (base : Heap), FnOk P w K mg base C8.CX0 1 fI fd ["self", f] (spErr K f)) ∧ Binds K fd ["self", f] []
section
variable {X : Cx} {nm f : Str} {C fI : Addr} {e : Expr} {es : List Expr} {t : TA} {p pos : Pos}
theorem rs_of (T : ErrC X.K X.mg nm f C fI) (hr : Room 2 X.A) (hg : Gl X nm) (ha : PA X (e :: es) t) (hdb : (nm == ("__debug__" : Str)) = false := by decide)
    (he : starEach (e :: es) X.env = (false, eval e X.env) :: starEach es X.env := by rfl) (hpl : (backTo pos (starEach es X.env)).any (·.1) = false := by rfl) :
    PMk X (.Call (.Name nm p) (e :: es) [] pos) (tMkO C (spErr X.K f) [] t) := by
  obtain ⟨fd, FI, bI⟩ := T.ini
  have F1 := FI X.prog X.w X.base
  intro pn s σ H Q I h
  obtain ⟨B, newId, initId, bmB, cn, cq, N, bs, bm, sn, sub, ab, col, dd, k0, k1, k2, k3, k5, FB, ok, _, _, hC⟩ := T.xc.cls
  refine wpAny_Call_Name_kw (ld_glob I hg T.mgc ?_ hdb)
  refine PySem.W.callWith_K (h₀ := X.base) I.ok.mod.kin T.xc.kC (thn (ha.run pos pn s σ H _ I h) fun us sA ⟨vs, HA, IA, rA, zA, qA⟩ => ⟨IA.kIn, ?_⟩) he hpl
  show wpAny _ _ (call (.ref C) us) _ _ _
  obtain ⟨hp, g, dr, tk, os⟩ := sA
  have szE : hp.objs.size ≤ hp.objs.size + 1 := Nat.le_succ _
  have qE := qA (hp.objs.size + 1) (IA.hok.fresh szE)
  rw [List.append_nil] at qE
  have stays : ∀ b o, hp.get? b = some o → ((hp.push (PySem.W.kdv_tup us)).push (PySem.HandSPX.excO C hp.objs.size)).get? b = some o := fun b o z => Heap.get?_push_of_some _ (Heap.get?_push_of_some _ z)
  have atE : ((hp.push (PySem.W.kdv_tup us)).push (PySem.HandSPX.excO C hp.objs.size)).get? (hp.objs.size + 1) = some (PySem.HandSPX.excO C hp.objs.size) := by heap_get
  have IB : Inv X pn σ (upd HA (hp.objs.size + 1) (exo (hp.objs.size + 1) C none)) ⟨(hp.push (PySem.W.kdv_tup us)).push (PySem.HandSPX.excO C hp.objs.size), g, dr, tk, os⟩ :=
    IA.laid (t' := tk) (a := hp.objs.size + 1) (o := exo (hp.objs.size + 1) C none) (h' := (hp.push (PySem.W.kdv_tup us)).push (PySem.HandSPX.excO C hp.objs.size)) stays szE (exo_ok atE)
  have rB : Vals (V.ref (hp.objs.size + 1) :: vs) (Value.ref (hp.objs.size + 1) :: us) := .cons rfl rA
  have lB : (Value.ref (hp.objs.size + 1) :: us ++ []).length = [("self" : Str), f].length := by
    rw [List.append_nil, ← F1.len _ _ _ _ qE]
    exact rB.length.symm
  have usz : us.length ≤ sizeLine := by
    rw [← Paired.length rA, sizeLine_eq]; omega
  have bB := bI _ (Value.ref (hp.objs.size + 1) :: us) IB.kIn lB
  rw [List.append_nil] at bB
  refine wpAny_call (xcall FB ok (IA.kIn _ _ hC) (PySem.W.looks_findIn IA.kIn T.xc.iC) (fun self => PySem.W.bind_fn IA.kIn self T.xc.tI) usz
    (codeAny_mono (F1.run _ X.stack _ _ ⟨Value.ref (hp.objs.size + 1) :: us, []⟩ (Value.ref (hp.objs.size + 1) :: us) _ _ (fun _ _ _ => False) (hr.make C us []) (IB.env0.make C us []) bB rB qE) fun r s' z => ?_))
  rcases r with er | (_ | _ | _ | u)
  · exact absurd z id
  · exact z.elim
  · exact z.elim
  · exact z.elim
  · obtain ⟨v, HB, osB, bareB, unB, okB, rvB, ev, d, fs, ea, ed, nd, qB⟩ := z
    subst ev
    obtain ⟨hB, gB, dB, tB, osC⟩ := s'
    exact ⟨rvB, mk_end (raises_own T.ox.exC T.ox.tyC) IA szE stays unB okB osB bareB ea ed nd qB⟩
end
/-- an error made to be raised -/
theorem do_raise {K : PySem.W.Frag} {mg : Str → Option Value} {nm f : Str} {C fI : Addr} (T : ErrC K mg nm f C fI) {Hc : Hp} {y : V} {Q : XK} (q : ∀ d H', Same Hc H' → Hc d = none → H' d = some (.xd [(f, y)]) → Q (.ref C) (some d) H') :
    ∀ a, Hc a = none → spErr K f (.ref a :: ([y] ++ [])) (upd Hc a (exo a C none)) (fun v H2 => v = .non ∧ ∃ (d : Addr) (fs : List (Str × V)), H2 a = some (exo a C (some d)) ∧ H2 d = some (exd d fs) ∧ Hc d = none ∧ Q (.ref C) (some d) (upd (del H2 a) d (.xd fs))) (fun _ _ _ => False) := by
  intro a na
  refine ⟨a, C, fI, y, rfl, T.xc, T.nf, upd_same, fun dx nd ne => ⟨rfl, dx, [(f, y)], upd_same, by rw [upd_ne ne]; exact upd_same, ?_, ?_⟩⟩
  · rw [upd_ne ne] at nd
    exact nd
  · have nd' : Hc dx = none := by rw [upd_ne ne] at nd; exact nd
    refine q dx _ (fun b o e => ?_) nd' upd_same
    have n1 : b ≠ a := ne_of_none e na
    have n2 : b ≠ dx := ne_of_none e nd'
    rw [upd_ne n2]
    unfold del
    rw [if_neg n1, upd_ne n1, upd_ne n2, upd_ne n1]
    exact e
/-! ### what an edit moves -/
def bad (t : Tab) (c : Str × V × V) : Bool := !decide (c.2.2 = .str "") && !decide (c.2.2 = (valV t c.1).getD .non)
def staleF (t : Tab) (cs : List (Str × V × V)) : Option Str := (cs.find? (bad t)).map (·.1)
def newT (cs : List (Str × V × V)) : Tab := cs.map fun c => (c.1, c.2.1)
def rowsF (t : Tab) (cs : List (Str × V × V)) (ys : List Str) : List (Str × V × V) := ys.map fun x => (x, (valV t x).getD .non, (valV (newT cs) x).getD .non)
def movesF (t : Tab) (cs : List (Str × V × V)) (ys : List Str) : List (Str × V × V) := (rowsF t cs ys).filter fun m => !decide (m.2.1 = m.2.2)
theorem stale_at {t : Tab} {cs : List (Str × V × V)} {i : Nat} {c : Str × V × V} (h : cs[i]? = some c) (g : ∀ d ∈ cs.take i, bad t d = false) (b : bad t c = true) : staleF t cs = some c.1 := by
  have e : cs = cs.take i ++ c :: cs.drop (i + 1) := by
    have hi := (List.getElem?_eq_some_iff.mp h)
    obtain ⟨hi, hc⟩ := hi
    rw [← hc, List.getElem_cons_drop, List.take_append_drop]
  unfold staleF
  rw [e, List.find?_append]
  have n : (cs.take i).find? (bad t) = none := List.find?_eq_none.mpr fun d hd z => by rw [g d hd] at z; cases z
  rw [n, List.find?_cons, b]
  rfl
theorem stale_none {t : Tab} {cs : List (Str × V × V)} (g : ∀ d ∈ cs, bad t d = false) : staleF t cs = none := by
  unfold staleF
  rw [List.find?_eq_none.mpr fun d hd z => by rw [g d hd] at z; cases z]
  rfl
theorem movesF_nd {t : Tab} {cs : List (Str × V × V)} {ys : List Str} (h : ys.Nodup) : ((movesF t cs ys).map (·.1)).Nodup := by
  refine List.Nodup.sublist ((List.filter_sublist).map _) ?_
  unfold rowsF
  rw [List.map_map]
  have : ((fun x : Str × V × V => x.1) ∘ fun x : Str => (x, (valV t x).getD V.non, (valV (newT cs) x).getD V.non)) = id := rfl
  rw [this, List.map_id]
  exact h
theorem movesF_len (t : Tab) (cs : List (Str × V × V)) (ys : List Str) : (movesF t cs ys).length ≤ ys.length := by
  have := List.length_filter_le (fun m : Str × V × V => !decide (m.2.1 = m.2.2)) (rowsF t cs ys)
  unfold rowsF at this
  rw [List.length_map] at this
  exact this
theorem flat_new {cs : List (Str × V × V)} (h : ∀ c ∈ cs, flatN c.2.1) : ∀ e ∈ newT cs, flatN e.2 := fun e he => by
  obtain ⟨c, hc, rfl⟩ := List.mem_map.mp he
  exact h c hc
theorem flat_moves {t : Tab} {cs : List (Str × V × V)} {ys : List Str} (ht : ∀ e ∈ t, flatN e.2) (h : ∀ c ∈ cs, flatN c.2.1) : ∀ m ∈ rowsF t cs ys, flatN m.2.1 ∧ flatN m.2.2 := fun m hm => by
  obtain ⟨x, _, rfl⟩ := List.mem_map.mp hm
  exact ⟨flat_val ht x, flat_val (flat_new h) x⟩
theorem have_after {t u : Tab} {ms : List (Str × V × V)} (nt : Nd t) (so : SortOf t u) (nm : (ms.map (·.1)).Nodup) : haveF ((afterT u ms).map (·.1)) = haveF ((afterT t ms).map (·.1)) :=
  have_perm (keys_perm (nd_after (so.nd nt) nm) (nd_after nt nm) fun x => by rw [val_after (so.nd nt) nm, val_after nt nm, so.2.2])
theorem yields_zipL {α : Type} {K : PySem.W.Frag} {a : Addr} {as : List Addr} {ms : List α} (e : as.length = ms.length) : Yields (Itl K a) ((as.zip ms).map fun u => V.ref u.1) (fun H => SqL K H a (as.map V.ref)) := by
  rw [zip_ms e]
  exact yields_list
end Fk

set_option maxHeartbeats 4000000
/-! x[y] of an own class. -/
namespace Fk
open PySem PySem.Spec PyProof.Rows L2
section
variable {P : Program} {w : World} {K : PySem.W.Frag} {mg : Str → Option Value} {base : Heap} {k : Nat} {C : Addr} {m : Str} {sp : Sp}
theorem ownM_of (M : C8.Met P w K mg base k C m sp []) : OwnM P w K mg base C8.CX0 k C m sp := by
  obtain ⟨f, fd, ps, ds, _, hm, F, b, d⟩ := M.ex
  cases d
  exact ⟨f, fd, ps, hm.at_, hm.fn, F, b⟩
/-- .. whose def is known as a def -/
structure GetM (P : Program) (w : World) (K : PySem.W.Frag) (mg : Str → Option Value) (base : Heap) (k : Nat) (C : Addr) (sp : Sp) : Prop where
  ex : ∃ (f : Addr) (fd : FuncData) (ps : List Str), PySem.W.findIn K (.ref C) "__getitem__" = some (some (.ref f)) ∧ PySem.W.isFn K (.ref f) = true ∧ PySem.W.fnIn K f = true ∧ FnOk P w K mg base C8.CX0 k f fd ps sp ∧ Binds K fd ps []
theorem getM_of {qual : Str} {st : Stmt} {N ps : List Str} (D : MDef K C "__getitem__" qual st) (S : FnScope N ps (C8.fnScope st))
    (hb : ∀ (kV doc pm : Value) (an : Option Addr) (cdv ct : Value) (us : List Value), us.length = ps.length → bindArgs (PySem.W.fnOf "__getitem__" qual (C8.fnArgs st) (C8.fnBody st) (C8.fnScope st) .none kV doc pm an cdv ct) ⟨us, []⟩ = pure (ps.zip us))
    (len : ∀ vs H Q E, sp vs H Q E → vs.length = ps.length)
    (hbody : ∀ (f : Addr) (cdv : Value) (A : Around) (outer : List Env) (s : Shared) (H : Hp) (vs : List V) (Q : VK) (E : XK), Room k (A.deeper (envOfC qual (C8.fnScope st) s.heap.objs.size f cdv)) → sp vs H Q E →
      ∃ t, PSs (cxOf C8.CX0 P w K mg base N qual (C8.fnScope st) f cdv A outer s H E).nox (C8.fnBody st) t ∧ t { nx := fun _ H' => Q .non H', rt := Q } (start N vs) H) : GetM P w K mg base (k + 1) C sp := by
  obtain ⟨f, fd, F, M, df⟩ := D.ex
  have G := C8.fn0 (P := P) (w := w) (mg := mg) (base := base) F S len (hbody f)
  have b := F.binds df hb
  obtain ⟨oc, od, dV, kV, doc, pm, an, cdv, ct, osl, rfl, lk, hcd⟩ := F.ex
  refine ⟨f, _, ps, M.at_, M.fn, ?_, G, b⟩
  unfold PySem.W.fnIn
  rw [lk]
end
section
variable {X : Cx} {k : Nat} {C : Addr} {sp : Sp} {o i : Expr} {td ty : TE} {pos : Pos}
def tOwnGet (C : Addr) (sp : Sp) (td ty : TE) : TE := fun σ H Q => td σ H fun x H1 => ty σ H1 fun y H2 => ∃ (a dx : Addr) (fs : List (Str × V)), x = .ref a ∧ H2 a = some (.ins C dx fs) ∧ sp [x, y] H2 Q C8.E0
theorem pe_ownGet (M : GetM X.prog X.w X.K X.mg X.base k C sp) (hr : Room (k + 1) X.A) (ho : PE X o td) (hi : PE X i ty)
    (hsl : ∀ x iv, subscripted i true (.ref x) iv = runValue (.builtin "lifetime.subscript" ⟨[.ref x, iv], []⟩) := by intro _ _; with_unfolding_all rfl) : PE X (.Subscript o i pos) (tOwnGet C sp td ty) := by
  refine ⟨fun pins s σ H Q I h => ?_⟩
  refine Subscript_ (thn (ho.run pins s σ H _ I h) fun v s1 ⟨x, H1, I1, rx, q1⟩ => thn (hi.run pins s1 σ H1 _ I1 q1) fun u s2 ⟨y, H2, I2, ry, a, dx, fs, ex, ha, q⟩ => ?_)
  subst ex
  obtain rfl : v = Value.ref a := rx
  obtain ⟨f, fd, ps, hs, hf, hfi, F, hb⟩ := M.ex
  obtain ⟨mA, J, _⟩ := ins_get I2.hok ha
  obtain ⟨od, J, _⟩ := J.look
  obtain ⟨m, hF⟩ := I2.fr
  exact PySem.W.sub_K hF I2.ok.mod.kin J hs hfi hf (run_in F hr.in1 I2.env0.in1 hb noEx0 I2 (show Vals [V.ref a, y] [Value.ref a, u] from .cons rfl (.cons ry .nil)) q) (hsl _ _)
end
end Fk

set_option maxHeartbeats 4000000
/-! xs[::-1] of a list, t[::-1] of a tuple. -/
namespace Fk
open PySem PySem.Spec PyProof.Rows L2 HT
theorem back_places (n : Nat) : Builtin.Slice.sliceAdjust none none (-1) (n : Int) = ((n : Int) - 1, -1) ∧ Builtin.Slice.slicePlaces ((n : Int) - 1) (-1) (-1) = n := by
  constructor
  · first | rfl | simp [Builtin.Slice.sliceAdjust]
  · unfold Builtin.Slice.slicePlaces
    rw [if_neg (by decide)]
    by_cases h : (n : Int) - 1 > -1
    · rw [if_pos h, show (- -1 : Int) = 1 by decide, Int.ediv_one]
      omega
    · rw [if_neg h]
      omega
theorem sliceApplied_back {prog : Program} {w : World} {A : Around} {E : Value → Shared → Prop} {s : Shared} {sl : Addr} {vk : Value} {n : Nat} {Q : Int × Int × Nat → Shared → Prop} (hs : s.heap.IsSliceOf sl .none .none vk) (pk : IsPart vk (some (-1)))
    (h : Q ((n : Int) - 1, -1, n) s) : wpAny (model prog w) A (Builtin.Slice.sliceApplied (.ref sl) (pure (n : Int))) Q E s := by
  obtain ⟨os, hos, hcs, hds⟩ := id hs
  unfold Builtin.Slice.sliceApplied Builtin.Slice.sliceFields
  refine wpAny_bind (wpAny_bind (wpAny_field hos hds (x := .none) rfl (wpAny_bind (wpAny_field hos hds (x := .none) rfl (wpAny_bind (wpAny_field hos hds (x := vk) rfl (wpAny_pure ?_)))))))
  refine wpAny_bind (slicePart_ pk ?_)
  show wpAny _ _ (if ((-1 : Int) == 0) = true then _ else _) _ _ s
  rw [if_neg (by decide)]
  refine wpAny_bind (slicePart_ .none (wpAny_bind (slicePart_ .none (wpAny_bind (wpAny_pure ?_)))))
  show wpAny _ _ (match Builtin.Slice.sliceAdjust none none (-1) (n : Int) with | (lo, hi) => pure (lo, (-1 : Int), Builtin.Slice.slicePlaces lo hi (-1))) _ _ s
  rw [(back_places n).1]
  show wpAny _ _ (pure ((n : Int) - 1, (-1 : Int), Builtin.Slice.slicePlaces ((n : Int) - 1) (-1) (-1))) _ _ s
  rw [(back_places n).2]
  exact wpAny_pure h
theorem fm_congr {α β : Type} {f g : α → Option β} : ∀ {l : List α}, (∀ x ∈ l, f x = g x) → l.filterMap f = l.filterMap g
  | [], _ => rfl
  | a :: r, h => by
    rw [List.filterMap_cons, List.filterMap_cons, h a List.mem_cons_self, fm_congr fun x hx => h x (List.mem_cons_of_mem _ hx)]
theorem pick_back (items : Array Value) : ((List.range items.size).filterMap fun (k : Nat) => items[((items.size : Int) - 1 + (k : Int) * (-1)).toNat]?) = items.toList.reverse := by
  have e : ((List.range items.size).filterMap fun (k : Nat) => items[((items.size : Int) - 1 + (k : Int) * (-1)).toNat]?) = ((List.range items.size).map fun k => items.size - 1 - k).filterMap (items[·]?) := by
    rw [List.filterMap_map]
    refine fm_congr fun k hk => ?_
    have := List.mem_range.mp hk
    show _ = items[items.size - 1 - k]?
    congr 1
    omega
  rw [e, PySem.W.krv_range, List.filterMap_reverse, PySem.W.krv_all]
theorem getItem_tuple_back {prog : Program} {w : World} {A : Around} {E : Value → Shared → Prop} {s : Shared} {t sl : Addr} {items : Array Value} {vk : Value} {Q : Value → Shared → Prop} (ht : IsTup s.heap t items) (hs : s.heap.IsSliceOf sl .none .none vk) (pk : IsPart vk (some (-1)))
    (h : Q (.ref s.heap.objs.size) { s with heap := s.heap.push { cls := .type "tuple", data := .seq items.toList.reverse.toArray } }) (hsz : items.size ≤ sizeLine) : wpAny (model prog w) A (getItem (.ref t) (.ref sl)) Q E s := by
  have htake : sizeOk (.seq items.toList.reverse.toArray) := by
    show items.toList.reverse.toArray.size ≤ sizeLine
    rw [List.size_toArray, List.length_reverse, Array.length_toList]
    exact hsz
  obtain ⟨os, hos, hcs, hds⟩ := id hs
  have hTs : s.TypeIs (.ref sl) "slice" := ⟨os, hos, hcs⟩
  unfold getItem
  try with_reducible refine wpAny_holding ?_
  first | refine wpAny_bind (wpAny_pure ?_) | skip
  refine wpAny_bind (wpAny_sequenceKey ht.typeIs (by decide) ?_)
  refine wpAny_bind (wpAny_callSpecial?_slot (name := Str.ofString "__getitem__") ht.typeIs PyProof.Rows.slot_tuple_getitem
    (wpAny_call_entry PyProof.Rows.slot_tuple_getitem ht.typeIs entry_tuple_getitem ?_ (args_tuple_getitem _ _)))
  show wpAny _ _ (Builtin.Tuple.tupleItemsOf (.ref t) >>= _) _ _ s
  refine wpAny_bind (tupleItemsOf_ ht ?_)
  refine wpAny_bind (wpAny_typeOf hTs ?_)
  rw [if_pos (by decide)]
  refine wpAny_bind (sliceApplied_back hs pk ?_)
  have hno : ¬ ((((items.size : Int) - 1) == 0 && (-1 : Int) == 1 && items.size == items.size) = true) := by
    rw [show ((-1 : Int) == 1) = false from by decide, Bool.and_false, Bool.false_and]
    exact Bool.false_ne_true
  show wpAny _ _ (if (((items.size : Int) - 1) == 0 && (-1 : Int) == 1 && items.size == items.size) = true then _ else _) _ _ s
  rw [if_neg hno, pick_back]
  first
    | exact wpAny_bind (m := Builtin.Tuple.tupleExact _) (wpAny_newObj_type (wpAny_pure ⟨_, rfl, wpAny_pure h⟩) htake)
    | exact wpAny_bind (m := Builtin.Tuple.tupleExact _) (wpAny_newObj_type (wpAny_bind (wpAny_pure (wpAny_pure ⟨_, rfl, wpAny_pure h⟩))) htake)
    | exact wpAny_bind (wpAny_bind (m := Builtin.Tuple.tupleExact _) (wpAny_newObj_type (wpAny_pure (wpAny_pure ⟨_, rfl, wpAny_pure h⟩)) htake))
    | exact wpAny_bind (wpAny_bind (m := Builtin.Tuple.tupleExact _) (wpAny_newObj_type (wpAny_pure ⟨_, rfl, wpAny_pure h⟩) htake))
def rBack (K : PySem.W.Frag) : V → Hp → VK → Prop := fun x H Q => (∃ a xs, x = .ref a ∧ SqL K H a xs ∧ ∀ p, H p = none → Q (.ref p) (upd H p (.lst xs.reverse))) ∨ ∃ a xs, x = .ref a ∧ SqT K H a xs ∧ ∀ p, H p = none → Q (.ref p) (upd H p (.tup xs.reverse))
def tBack (K : PySem.W.Frag) (te ts : TE) : TE := fun σ H Q => te σ H fun x H1 => ts σ H1 fun y H2 => y = .int (-1) ∧ rBack K x H2 Q
theorem vals_rev {xs : List V} {us : List Value} (r : Vals xs us) : Vals xs.reverse us.reverse := by
  induction r with
  | nil => exact .nil
  | cons h t ih =>
    rw [List.reverse_cons, List.reverse_cons]
    exact ih.append (.cons h .nil)
/-- e[::-1] -/
theorem pe_back {X : Cx} {e st : Expr} {te ts : TE} {p2 pos : Pos} (he : PE X e te) (hst : PE X st ts) (hp : evalPart (some st) X.env = eval st X.env := by rfl)
    (hsub : ∀ x sl : Addr, ∃ ops, subscripted (.Slice none none (some st) p2) false (.ref x) (.ref sl) = operate ops (getItem (.ref x) (.ref sl)) := by intro x sl; exact ⟨_, by with_unfolding_all rfl⟩) : PE X (.Subscript e (.Slice none none (some st) p2) pos) (tBack X.K te ts) := by
  refine ⟨fun pins s σ H Q I h => ?_⟩
  refine Subscript_ (thn (he.run pins s σ H _ I h) fun v s1 ⟨x, H1, I1, r1, q1⟩ => ?_)
  refine wpAny_Slice ?_
  rw [evalPart_none]
  refine wpAny_pure (wpAny_pure ?_)
  rw [hp]
  refine thn (hst.run pins s1 σ H1 _ I1 q1) fun vk s3 ⟨y, H3, I3, pk, ey, q3⟩ => ?_
  subst ey
  obtain ⟨tk, rfl⟩ := (show ∃ t, vk = Value.int (-1) t from pk)
  have pk' : IsPart (.int (-1) tk) (some (-1)) := .int _ _
  have I4 : Inv X pins σ H3 { s3 with heap := s3.heap.push { cls := .type "slice", data := .fields #[.none, .none, .int (-1) tk] } } := I3.kept (t' := s3.toks) fun b ob q => Heap.get?_push_of_some _ q
  have hs : Heap.IsSliceOf (s3.heap.push { cls := .type "slice", data := .fields #[.none, .none, .int (-1) tk] }) s3.heap.objs.size .none .none (.int (-1) tk) := Heap.IsSliceOf.new ..
  generalize hS : ({ s3 with heap := s3.heap.push { cls := .type "slice", data := .fields #[.none, .none, .int (-1) tk] } } : Shared) = S at I4
  have hs' : S.heap.IsSliceOf s3.heap.objs.size .none .none (.int (-1) tk) := by rw [← hS]; exact hs
  show wpAny (model X.prog X.w) X.A (subscriptTail e (.Slice none none (some st) p2) v (.ref s3.heap.objs.size)) (EP X pins σ Q) X.xe S
  rcases q3 with ⟨a, xs, rfl, hx, q⟩ | ⟨a, xs, rfl, hx, q⟩
  · cases (show v = Value.ref a from r1)
    obtain ⟨its, r, hl, hz⟩ := I4.list hx
    have hlen : its.toArray.size = xs.length := by rw [List.size_toArray]; exact r.length.symm
    obtain ⟨ops, eo⟩ := hsub a s3.heap.objs.size
    refine tail_any (T := "list") (ops := ops) hl.isList.typeIs slot_list_getitem.lookup ?_ eo
    refine wpAny_getItem_list_slice hl.isList hs' .none .none pk' (by decide) ?_ (by rw [hlen]; exact hz)
    rw [PySem.W.krv_pick]
    refine ⟨.ref S.heap.objs.size, _, I4.laid (t' := S.toks) (o := .lst xs.reverse) (fun b ob q => Heap.get?_push_of_some _ q) (Nat.le_refl _) ?_, rfl, q _ (I4.hok.fresh (Nat.le_refl _))⟩
    exact ⟨by rw [List.length_reverse]; exact hz, _, 0, (vals_rev r), Heap.get?_push_size _ rfl⟩
  · cases (show v = Value.ref a from r1)
    obtain ⟨its, r, ht, hz⟩ := I4.tuple hx
    have hlen : its.toArray.size = xs.length := by rw [List.size_toArray]; exact r.length.symm
    obtain ⟨ops, eo⟩ := hsub a s3.heap.objs.size
    refine tail_any (T := "tuple") (ops := ops) ht.typeIs PyProof.Rows.slot_tuple_getitem.lookup ?_ eo
    refine getItem_tuple_back ht hs' pk' ?_ (by rw [hlen]; exact hz)
    refine ⟨.ref S.heap.objs.size, _, I4.laid (t' := S.toks) (o := .tup xs.reverse) (fun b ob q => Heap.get?_push_of_some _ q) (Nat.le_refl _) ?_, rfl, q _ (I4.hok.fresh (Nat.le_refl _))⟩
    exact ⟨by rw [List.length_reverse]; exact hz, _, (vals_rev r), IsTup.new _ _⟩
end Fk

set_option maxHeartbeats 4000000
/-! What calls make of a table, one by one and by moves. -/
namespace Fk
open PySem PySem.Spec PyProof.Rows L2
def stepT (u : Tab) (c : Str × V × V) : Tab := if notNon c.2.1 = true then putK (dropK u c.1) c.1 c.2.1 else dropK u c.1
def lawT (t : Tab) (cs : List (Str × V × V)) : Tab := cs.foldl stepT t
theorem nd_step {t : Tab} (h : Nd t) (c : Str × V × V) : Nd (stepT t c) := by
  unfold stepT
  split
  · exact nd_put (nd_drop h c.1) _ _
  · exact nd_drop h c.1
theorem nd_lawT {t : Tab} (h : Nd t) : ∀ cs, Nd (lawT t cs) := fun cs => by
  unfold lawT
  induction cs generalizing t with
  | nil => exact h
  | cons c r ih => exact ih (nd_step h c)
theorem len_step (t : Tab) (c : Str × V × V) : (stepT t c).length ≤ t.length + 1 := by
  unfold stepT
  have h := dropK_le t c.1
  split
  · have := len_put (dropK t c.1) c.1 c.2.1
    omega
  · omega
theorem len_lawT (t : Tab) (cs : List (Str × V × V)) : (lawT t cs).length ≤ t.length + cs.length := by
  unfold lawT
  induction cs generalizing t with
  | nil => exact Nat.le_refl _
  | cons c r ih =>
    have := ih (stepT t c)
    have := len_step t c
    rw [List.foldl_cons, List.length_cons]
    omega
theorem val_step (t : Tab) (c : Str × V × V) (x : Str) : valV (stepT t c) x = if x = c.1 then (if notNon c.2.1 = true then some c.2.1 else none) else valV t x := by
  unfold stepT
  by_cases h : notNon c.2.1 = true
  · rw [if_pos h, valV_put, valV_drop]
    by_cases e : x = c.1
    · rw [if_pos e, if_pos e, if_pos h]
    · rw [if_neg e, if_neg e, if_neg e]
  · rw [if_neg h, valV_drop]
    by_cases e : x = c.1
    · rw [if_pos e, if_pos e, if_neg h]
    · rw [if_neg e, if_neg e]
theorem val_lawT (x : Str) : ∀ (cs : List (Str × V × V)) (t : Tab), (cs.map (·.1)).Nodup → valV (lawT t cs) x = match valV (newT cs) x with
    | none => valV t x
    | some v => if notNon v = true then some v else none
  | [], t, _ => rfl
  | c :: r, t, h => by
    obtain ⟨h1, h2⟩ := List.nodup_cons.mp (show (c.1 :: r.map (·.1)).Nodup from h)
    show valV (lawT (stepT t c) r) x = match valV ((c.1, c.2.1) :: newT r) x with
      | none => valV t x
      | some v => if notNon v = true then some v else none
    rw [val_lawT x r (stepT t c) h2]
    by_cases e : c.1 = x
    · have n : valV (newT r) x = none := by
        cases q : valV (newT r) x with
        | none => rfl
        | some v =>
          have m := valV_in q
          unfold newT at m
          rw [List.map_map] at m
          exact absurd (show c.1 ∈ r.map (·.1) by rw [e]; exact m) h1
      rw [n, valV_pos e]
      show valV (stepT t c) x = if notNon c.2.1 = true then some c.2.1 else none
      rw [val_step, if_pos e.symm]
    · rw [valV_neg e]
      cases q : valV (newT r) x with
      | none =>
        show valV (stepT t c) x = valV t x
        rw [val_step, if_neg (fun z => e z.symm)]
      | some v => rfl
theorem news_moves (t : Tab) (cs : List (Str × V × V)) {ys : List Str} (h : ys.Nodup) (x : Str) : valV (newsT (movesF t cs ys)) x = if x ∈ ys ∧ ¬ (valV t x).getD .non = (valV (newT cs) x).getD .non then some ((valV (newT cs) x).getD .non) else none := by
  have e : newsT (movesF t cs ys) = (ys.map fun x => (x, (valV (newT cs) x).getD .non)).filter fun p => !decide ((valV t p.1).getD .non = p.2) := by
    unfold newsT movesF rowsF
    rw [List.filter_map, List.filter_map, List.map_map]
    rfl
  have nd : Nd (ys.map fun x => (x, (valV (newT cs) x).getD .non)) := by
    unfold Nd
    rw [List.map_map]
    have : ((fun x : Str × V => x.1) ∘ fun x : Str => (x, (valV (newT cs) x).getD V.non)) = id := rfl
    rw [this, List.map_id]
    exact h
  rw [e, val_filter nd, val_keys (fun x => (valV (newT cs) x).getD .non)]
  by_cases m : x ∈ ys
  · rw [if_pos m]
    by_cases d : (valV t x).getD .non = (valV (newT cs) x).getD .non
    · rw [if_neg (fun z => z.2 d)]
      simp [d]
    · rw [if_pos ⟨m, d⟩]
      simp [d]
  · rw [if_neg m, if_neg (fun z => m z.1)]
    rfl
theorem notNon_some {v : V} (h : notNon v = true) : v ≠ .non := fun z => by rw [z] at h; cases h
theorem nn_of {v : V} (h : ¬ notNon v = true) : v = .non := by
  cases v <;> first | rfl | exact absurd rfl h
/-- moves and calls make the same -/
theorem after_law {t : Tab} {cs : List (Str × V × V)} {ys : List Str} (nt : Nd t) (vs : ∀ e ∈ t, notNon e.2 = true) (nc : (cs.map (·.1)).Nodup) (hp : ys.Perm (cs.map (·.1))) (x : Str) : valV (afterT t (movesF t cs ys)) x = valV (lawT t cs) x := by
  have ny : ys.Nodup := hp.nodup_iff.mpr nc
  rw [val_after nt (movesF_nd ny), news_moves t cs ny, val_lawT x cs t nc]
  have mk : x ∈ ys ↔ (valV (newT cs) x).isSome = true := by
    rw [hp.mem_iff, ← mem_val]
    unfold newT
    rw [List.map_map]
    rfl
  cases q : valV (newT cs) x with
  | none =>
    have nx : ¬ x ∈ ys := fun z => by have := mk.mp z; rw [q] at this; cases this
    rw [if_neg (fun z => nx z.1)]
  | some v =>
    have yx : x ∈ ys := mk.mpr (by rw [q]; rfl)
    by_cases d : (valV t x).getD .non = v
    · rw [if_neg (fun z => z.2 d)]
      show valV t x = if notNon v = true then some v else none
      cases c : valV t x with
      | none =>
        rw [c] at d
        rw [← d]
        rfl
      | some w =>
        rw [c] at d
        have d : w = v := d
        obtain ⟨p, hp2, ep⟩ := List.mem_map.mp (valV_in c)
        have v1 := val_nodup nt p hp2
        rw [ep, c] at v1
        have := vs p hp2
        rw [← Option.some.inj v1, d] at this
        rw [if_pos this, d]
    · rw [if_pos ⟨yx, d⟩]
      rfl
/-- moves, name by name -/
theorem movesF_snoc (t : Tab) (cs : List (Str × V × V)) (ys : List Str) (y : Str) : movesF t cs (ys ++ [y]) = movesF t cs ys ++ (if (valV t y).getD .non = (valV (newT cs) y).getD .non then [] else [(y, (valV t y).getD .non, (valV (newT cs) y).getD .non)]) := by
  unfold movesF rowsF
  rw [List.map_append, List.filter_append]
  congr 1
  by_cases d : (valV t y).getD .non = (valV (newT cs) y).getD .non
  · rw [if_pos d]
    simp [d]
  · rw [if_neg d]
    simp [d]
theorem logMoves_app (L : Str → List (List V)) (note : List V) (ms : List (Str × V × V)) (m : Str × V × V) : logMoves L note (ms ++ [m]) = logPut (logMoves L note ms) m.1 ([m.2.1, m.2.2] ++ note) := by
  unfold logMoves
  rw [List.foldl_append]
  rfl
/-- lists stay -/
def LstKeep (H H' : Hp) : Prop := ∀ b xs, H b = some (.lst xs) → H' b = some (.lst xs)
theorem LstKeep.of {H H' : Hp} (s : Same H H') : LstKeep H H' := fun b xs e => s b _ e
theorem LstKeep.trans {H H1 H2 : Hp} (a : LstKeep H H1) (b : LstKeep H1 H2) : LstKeep H H2 := fun c xs e => b c xs (a c xs e)
theorem LstKeep.at {a : Addr} {H : Hp} {o : HO} (n : ∀ xs, H a ≠ some (.lst xs)) : LstKeep H (upd H a o) := fun b xs e => by
  have z : b ≠ a := fun z => n xs (by rw [← z]; exact e)
  rw [upd_ne z]
  exact e
/-! ### the model -/
def modelT (mt mh ml : Addr) : Tab := [("table", .ref mt), ("head", .ref mh), ("logs", .ref ml)]
/-- the model's logs: lists of entries -/
def LogsL (H : Hp) (t : Tab) (L : Str → List (List V)) : Prop := ∀ x, (valV t x = none ∧ L x = []) ∨ ∃ (p : Addr) (as : List Addr), valV t x = some (.ref p) ∧ H p = some (.lst (as.map V.ref)) ∧ Tups H as (L x)
def ModAt (K : PySem.W.Frag) (H : Hp) (m mt mh ml : Addr) (t lt : Tab) (x n : Str) : Prop := H m = some (.dK (kT (modelT mt mh ml))) ∧ H mt = some (.dK (kT t)) ∧ TupK K H mh [.str x, .str n] ∧ H ml = some (.dK (kT lt))
theorem mod_get {H : Hp} {m mt mh ml : Addr} (h : H m = some (.dK (kT (modelT mt mh ml)))) : DGet H m (.str "table") (some (.ref mt)) ∧ DGet H m (.str "head") (some (.ref mh)) ∧ DGet H m (.str "logs") (some (.ref ml)) := ⟨dget_kT (.inl h) "table", dget_kT (.inl h) "head", dget_kT (.inl h) "logs"⟩
theorem ModAt.same {K : PySem.W.Frag} {H H' : Hp} {m mt mh ml : Addr} {t lt : Tab} {x n : Str} (h : ModAt K H m mt mh ml t lt x n) (s : Same H H') : ModAt K H' m mt mh ml t lt x n := ⟨s _ _ h.1, s _ _ h.2.1, h.2.2.1.keep (TupKeep.of s), s _ _ h.2.2.2⟩
theorem LogsL.same {H H' : Hp} {t : Tab} {L : Str → List (List V)} (h : LogsL H t L) (s : Same H H') : LogsL H' t L := fun x => (h x).imp id fun ⟨p, as, a, b, c⟩ => ⟨p, as, a, s _ _ b, c.keep (TupKeep.of s)⟩
theorem LogsL.keep {H H' : Hp} {t : Tab} {L : Str → List (List V)} (h : LogsL H t L) (k : TupKeep H H') (l : LstKeep H H') : LogsL H' t L := fun x => (h x).imp id fun ⟨p, as, a, b, c⟩ => ⟨p, as, a, l _ _ b, c.keep k⟩
theorem LogsL.put {H : Hp} {t : Tab} {L : Str → List (List V)} (h : LogsL H t L) {x : Str} {p : Addr} {e : List V} {as : List Addr} (hp : H p = some (.lst (as.map V.ref))) (tp : Tups H as (L x ++ [e])) : LogsL H (putK t x (.ref p)) (logPut L x e) := fun y => by
  unfold logPut
  rw [valV_put]
  by_cases c : y = x
  · rw [if_pos c, if_pos c, c]
    exact .inr ⟨p, as, rfl, hp, tp⟩
  · rw [if_neg c, if_neg c]
    exact h y
theorem log_stepL {H : Hp} {ml en : Addr} {lt : Tab} {L : Str → List (List V)} {x : Str} {ent : List V} {tk td te : TE} {D : Ends} {σ : L2.St} (hD : H ml = some (.dK (kT lt))) (ll : LogsL H lt L) (he : H en = some (.tup ent))
    (b : (L x).length ≤ 100000) (hl : lt.length ≤ 1000) (ek : ∀ H' Q, Q (.str x) H' → tk σ H' Q) (ed : ∀ H' Q, Same H H' → Q (.ref ml) H' → td σ H' Q) (ee : ∀ H' Q, Q (.ref en) H' → te σ H' Q)
    (q : ∀ H' p, FrL [ml] H H' → TupKeep H H' → LstKeep H H' → H' ml = some (.dK (kT (putK lt x (.ref p)))) → LogsL H' (putK lt x (.ref p)) (logPut L x ent) → D.nx σ H') :
    sDPut td tk (tOp rCat (tDGet2 td tk (tLst tNil)) (tLst (tCons te tNil))) D σ H := by
  refine ed _ _ (Same.refl H) ⟨ml, rfl, .inl ⟨_, .inl hD⟩, ek _ _ ⟨Nat.zero_le _, fun pe hpe => ⟨valV lt x, ?_, ?_⟩⟩⟩
  · exact dget_kT (.inl (by rw [upd_ne (ne_of_none hD hpe)]; exact hD)) x
  · have s0 : Same H (upd H pe (.lst [])) := same_new hpe
    have p0 : (upd H pe (.lst [])) pe = some (.lst []) := upd_same
    generalize upd H pe (.lst []) = H0 at s0 p0
    obtain ⟨a, as, ea, ha, ta⟩ : ∃ (a : Addr) (as : List Addr), (valV lt x).getD (.ref pe) = .ref a ∧ H0 a = some (.lst (as.map V.ref)) ∧ Tups H0 as (L x) := by
      rcases ll x with ⟨e, l⟩ | ⟨p, as, e, h, t⟩
      · exact ⟨pe, [], by rw [e]; rfl, p0, by rw [l]; exact Tups.nil⟩
      · exact ⟨p, as, by rw [e]; rfl, s0 _ _ h, t.keep (TupKeep.of s0)⟩
    rw [ea]
    have la : as.length ≤ 100000 := by rw [ta.1]; exact b
    refine ee _ _ ⟨(by show 1 ≤ sizeLine; decide), fun p2 hp2 => ⟨a, p2, _, _, rfl, rfl, (same_new hp2) _ _ ha, upd_same, small_line (by rw [List.length_map]; show _ + 1 ≤ _; omega), fun p3 hp3 => ?_⟩⟩
    have s03 : Same H0 (upd (upd H0 p2 (.lst [V.ref en])) p3 (.lst (as.map V.ref ++ [V.ref en]))) := (same_new hp2).trans (same_new hp3)
    have h3 : (upd (upd H0 p2 (.lst [V.ref en])) p3 (.lst (as.map V.ref ++ [V.ref en]))) p3 = some (.lst ((as ++ [en]).map V.ref)) := by
      rw [upd_same, List.map_append]
      rfl
    generalize upd (upd H0 p2 (.lst [V.ref en])) p3 (.lst (as.map V.ref ++ [V.ref en])) = H5 at s03 h3
    have s05 := s0.trans s03
    have hD5 := s05 _ _ hD
    refine ed _ _ s05 (ek _ _ ⟨ml, _, rfl, .inl ⟨kT lt, .inr x, hD5, rfl, small_lt (by rw [len_kT]; omega), rfl⟩, ?_⟩)
    rw [putK_kT]
    have kp : TupKeep H5 (upd H5 ml (.dK (kT (putK lt x (.ref p3))))) := TupKeep.at fun xs z => by rw [hD5] at z; cases z
    have kl : LstKeep H5 (upd H5 ml (.dK (kT (putK lt x (.ref p3))))) := LstKeep.at fun xs z => by rw [hD5] at z; cases z
    have kp2 := (TupKeep.of s05).trans kp
    have kl2 := (LstKeep.of s05).trans kl
    refine q _ p3 ((FrL.same s05).trans (FrL.at (List.mem_singleton_self ml))) kp2 kl2 upd_same ?_
    exact (ll.keep kp2 kl2).put (kl _ _ h3) (((ta.keep (TupKeep.of s03)).snoc (s05 _ _ he)).keep kp)
def callL (c : Str × V × V) : List V := [.str c.1, c.2.1, c.2.2]
/-- the law's own list of the calls -/
def CallsL (H : Hp) (lc : Addr) (cs : List (Str × V × V)) : Prop := ∃ as : List Addr, H lc = some (.lst (as.map V.ref)) ∧ Tups H as (cs.map callL)
theorem ok_prefixes {x : Str} (h : OkS x) : ∀ y ∈ prefixesF x, OkS y := fun y hy => by
  obtain ⟨k, _, rfl⟩ := List.mem_map.mp hy
  exact ok_join ok_slash fun p hp => segs_ok x h p (List.mem_of_mem_take hp)
theorem have_any {ks : List Str} (h : haveF ks = false) : ∀ x ∈ ks, ((prefixesF x).any fun y => decide (y ∈ ks)) = false := fun x hx => by
  unfold haveF at h
  exact Bool.eq_false_iff.mpr fun z => by
    rw [List.any_eq_true.mpr ⟨x, hx, z⟩] at h
    cases h
theorem law_new_at {t : Tab} {cs : List (Str × V × V)} {y : Str} (nc : (cs.map (·.1)).Nodup) (h : y ∈ cs.map (·.1)) : (valV (lawT t cs) y).getD .non = (valV (newT cs) y).getD .non := by
  rw [val_lawT y cs t nc]
  have m : (valV (newT cs) y).isSome = true := by
    rw [← mem_val]
    unfold newT
    rw [List.map_map]
    exact h
  cases c : valV (newT cs) y with
  | none => rw [c] at m; cases m
  | some v =>
    show (if notNon v = true then some v else none).getD .non = v
    by_cases d : notNon v = true
    · rw [if_pos d]
      rfl
    · rw [if_neg d, nn_of d]
      rfl
theorem mem_keys_put {t : Tab} {x y : Str} {v : V} (h : y ∈ (putK t x v).map (·.1)) : y ∈ t.map (·.1) ∨ y = x := by
  have := mem_val.mp h
  rw [valV_put] at this
  by_cases c : y = x
  · exact .inr c
  · rw [if_neg c] at this
    exact .inl (mem_val.mpr this)
theorem flat_lawT {t : Tab} {cs : List (Str × V × V)} (ht : ∀ e ∈ t, flatN e.2) (hc : ∀ c ∈ cs, flatN c.2.1) : ∀ e ∈ lawT t cs, flatN e.2 := by
  unfold lawT
  induction cs generalizing t with
  | nil => exact ht
  | cons c r ih =>
    refine ih (fun e he => ?_) fun d hd => hc d (List.mem_cons_of_mem _ hd)
    unfold stepT at he
    have dr : ∀ e ∈ dropK t c.1, flatN e.2 := fun e he => ht e (dropK_mem he)
    split at he
    · rcases mem_putK he with h | h
      · exact dr e h
      · rw [h]
        exact hc c List.mem_cons_self
    · exact dr e he
end Fk

set_option maxHeartbeats 4000000
/-! A try with several except clauses, of which any may have a name. -/
namespace Fk
open PySem PySem.Spec PyProof.Rows L2
/-- a clause with a name: slot i is the error's within the suite, and nothing's behind it -/
def asTS (i : Nat) (ts : Addr → Value → Option Addr → TS) : Addr → Value → Option Addr → TS := fun a cls d D σ H =>
  ts a cls d { nx := fun σ' H' => D.nx (σ'.set i none) H', rt := D.rt, bk := fun σ' H' => D.bk (σ'.set i none) H', ct := fun σ' H' => D.ct (σ'.set i none) H' } (σ.set i (some (.ref a))) H
inductive HdA (X : Cx) : List ExceptHandler → List (Value × (Addr → Value → Option Addr → TS)) → Prop
  | nil : HdA X [] []
  | cons {x : Str} {c : Value} {ts : Addr → Value → Option Addr → TS} {b₀ : Stmt} {suite : List Stmt} {np pos' : Pos} {hds : List ExceptHandler} {l : List (Value × (Addr → Value → Option Addr → TS))} (hc : Names X x c)
      (hsu : ∀ (a : Addr) (oe : Obj) (cls : Value) (d : Option Addr) (pn : List (Addr × Obj)), Zc cls d oe → (∃ vs, oe.data = .fields vs) → PSs (X.suite a ((a, oe) :: pn)) (b₀ :: suite) (ts a cls d)) (r : HdA X hds l) :
      HdA X (.ExceptHandler (some (.Name x np)) none (b₀ :: suite) pos' :: hds) ((c, ts) :: l)
  | as {x n : Str} {i : Nat} {c : Value} {ts : Addr → Value → Option Addr → TS} {b₀ : Stmt} {suite : List Stmt} {np pos' : Pos} {hds : List ExceptHandler} {l : List (Value × (Addr → Value → Option Addr → TS))} (hN : X.N.Nodup) (hi : X.N[i]? = some n) (hln : X.env.kindOf n = some .local) (hc : Names X x c)
      (hsu : ∀ (a : Addr) (oe : Obj) (cls : Value) (d : Option Addr) (pn : List (Addr × Obj)), Zc cls d oe → (∃ vs, oe.data = .fields vs) → PSs (X.suite a ((a, oe) :: pn)) (b₀ :: suite) (ts a cls d)) (r : HdA X hds l) :
      HdA X (.ExceptHandler (some (.Name x np)) (some n) (b₀ :: suite) pos' :: hds) ((c, asTS i ts) :: l)
section
variable {X : Cx} {body : List Stmt} {h₀ : ExceptHandler} {hds : List ExceptHandler} {l : List (Value × (Addr → Value → Option Addr → TS))} {pos : Pos} {tb : WX → TS} {Wout : WX}
theorem ps_tryA (hs : X.stack = X.env :: X.outer) (hf : X.env.frame = some X.env.locals) (tk : Takes X Wout)
    (hb : ∀ (W : WX) (pn : List (Addr × Obj)) (xe : Value → Shared → Prop), Takes (X.tr pn xe) W → PassesOwn (model X.prog X.w) X.A X.env xe → PSs (X.tr pn xe) body (tb W))
    (hh : HdA X (h₀ :: hds) l) : PS X (.Try body (h₀ :: hds) [] [] pos) (fun D σ H => tb (wMany X.K Wout D l) D σ H) := by
  refine ⟨fun pins s σ H D I h => ?_⟩
  have ok := I.ok
  have hfr : X.A.frames = some (X.env :: X.outer) := by rw [ok.frames, hs]
  refine wpAny_Try_except ?_
  refine wpAny_mono ((hb (wMany X.K Wout D l) (X.pn ++ pins) (fun e s₁ => wpAny (model X.prog X.w) X.A (noteFrame e X.env) (fun _ s₂ => wpAny (model X.prog X.w) X.A (setFlight e none) (fun _ s₃ =>
    wpAny (model X.prog X.w) X.A (handleBy e X.env (h₀ :: hds)) (SP X pins D) X.xe s₃) X.xe s₂) X.xe s₁) (fun u s' xx => ?_) PassesOwn.looking).run [] s σ H D (I.toTry _) h) (fun f s1 hsp => ?_) (fun e s1 he => he)
  · obtain ⟨a, B, sI, pins', σ', H', cls, d, rfl, J', nb, up, sky, na, os, ag, w⟩ := xx
    have J : Inv X pins σ' H' sI := J'.ofTry ok
    have sky' : Sky B (X.env :: X.outer) a (Zc cls d) X.env.locals s'.heap := by rw [← hs]; exact sky
    show wpAny (model X.prog X.w) X.A (noteFrame (.ref a) X.env) _ _ _
    refine Sky.land Zc.steady hfr hf sky' fun h3 fl3 up3 => ?_
    have J3 : Inv X pins σ' H' { s' with heap := h3 } := J.landed nb fl3.1 (up.trans up3) os ag
    obtain ⟨oe3, vs3, he3, hz3, hd3⟩ := fl3.there
    have notFr : ∀ {h : Heap} {o : Obj} {vs : Array Value}, h.FunFrames B (X.env :: X.outer) → h.get? a = some o → o.data = .fields vs → a ∉ frs (X.env :: X.outer) := fun {h o vs} ff e dd hm => by
      obtain ⟨_, o', e', hnf⟩ := ff.mem hm
      rw [e] at e'; cases e'
      exact hnf _ dd
    have nfr := notFr fl3.2.2.1 he3 hd3
    have nL : a ≠ X.env.locals := fun z => nfr (List.mem_filterMap.mpr ⟨X.env, List.mem_cons_self, by rw [hf, z]⟩)
    have nF : a ∉ X.fs := fun hm => by
      obtain ⟨e, he, q⟩ := List.mem_filterMap.mp hm
      exact nfr (List.mem_filterMap.mpr ⟨e, List.mem_cons_of_mem _ he, q⟩)
    have S3 := J3.suite he3 hd3 na nL nF
    have go : ∀ {hds' : List ExceptHandler} {l' : List (Value × (Addr → Value → Option Addr → TS))}, HdA X hds' l' → wMany X.K Wout D l' cls d σ' H' →
        wpAny (model X.prog X.w) X.A (handleBy (.ref a) X.env hds') (SP X pins D) X.xe { s' with heap := h3 } := by
      intro hds' l' hk
      induction hk with
      | nil =>
        intro w
        refine wpAny_handleBy_nil ?_
        obtain ⟨k1, k2, k3, oe, vs, T, oT, ts', he, hz, hd, h1, hr⟩ := id fl3
        unfold PySem.passOn
        refine wpAny_bind (wpAny_field he hd h1 ?_)
        rw [if_neg (show ¬ ((Value.ref T == Value.none) = true) from by simp)]
        have fin : wpAny (model X.prog X.w) X.A (setFlight (.ref a) X.env.frame) (fun _ s4 => wpAny (model X.prog X.w) X.A (throw (.ref a) : Sem Flow) (SP X pins D) X.xe s4) X.xe { s' with heap := h3 } := by
          rw [hf]
          refine HandSPX.setFlight_upZ fl3 fun h4 hh4 up4 => wpAny_throw (tk _ _ ?_)
          exact ⟨a, B, sI, pins, σ', H', cls, d, rfl, J, nb, (up.trans up3).trans up4, .inr (.inr (by rw [hs]; exact hh4)), na, os, ag, w⟩
        first
          | exact wpAny_bind (wpAny_pure (wpAny_bind fin))
          | exact wpAny_bind fin
      | @cons x c ts b₀ suite np pos' hds2 l2 hc hsu r ih =>
        intro w
        obtain ⟨b, hb1, hyes, hno⟩ := w
        refine wpAny_handleBy_cons (codeAny_handlers_test ?_) (by intro q; cases q)
        have LT : PySem.W.Looks (model X.prog X.w) h3 (typeOf (.ref a)) cls := fun A Q E s k q => wpAny_typeOf_ref (k _ _ he3) (by rw [hz3.1]; exact q)
        have LM := PySem.W.exm_one (M := model X.prog X.w) (J3.kIn) LT hb1
        have test : ∀ {Q : Value → Shared → Prop} {E : Value → Shared → Prop}, Q c { s' with heap := h3 } → wpAny (model X.prog X.w) (X.A.mark (some (.ref a))) (eval (.Name x np) X.env) Q E { s' with heap := h3 } := fun {Q E} q => by
          obtain ⟨hg, hdbg, hm | ⟨hm, hv, hnn⟩⟩ := hc
          · exact ld_glob (X := X.suite a ((a, oe3) :: (X.pn ++ pins))) S3 hg hm q hdbg
          · exact ld_blt (X := X.suite a ((a, oe3) :: (X.pn ++ pins))) S3 hg hm hv q hnn hdbg
        refine test (LM.here ?_)
        cases b with
        | true =>
          refine codeAny_handlers_suite ?_
          refine HandSPX.lands_againZ fl3 fun h4 fl4 up4 => ?_
          have J4 : Inv X pins σ' H' { s' with heap := h4 } := J.landed nb fl4.1 ((up.trans up3).trans up4) os ag
          obtain ⟨oe4, vs4, he4, hz4, hd4⟩ := fl4.there
          have S4 := J4.suite he4 hd4 na nL nF
          refine wpAny_mono ((hsu a oe4 cls d (X.pn ++ pins) hz4 ⟨_, hd4⟩).run [] _ _ H' _ S4 (hyes rfl a na)) (fun f s6 hsp => ?_) (fun _ _ z => False.elim z)
          cases f with
          | next =>
            obtain ⟨σ6, H6, S6, q6⟩ := hsp
            exact ⟨_, _, S6.unsuite ok, q6⟩
          | brk =>
            obtain ⟨σ6, H6, S6, q6⟩ := hsp
            exact ⟨_, _, S6.unsuite ok, q6⟩
          | cont =>
            obtain ⟨σ6, H6, S6, q6⟩ := hsp
            exact ⟨_, _, S6.unsuite ok, q6⟩
          | ret u =>
            obtain ⟨v6, σ6, H6, S6, r6, q6⟩ := hsp
            exact ⟨_, _, _, S6.unsuite ok, r6, q6⟩
        | false =>
          show wpAny _ X.A (handleBy (.ref a) X.env hds2) _ _ _
          exact ih (hno rfl)
      | @as x n i c ts b₀ suite np pos' hds2 l2 hN hi hln hc hsu r ih =>
        intro w
        have hloc : Loc X.env.scope n := .inl hln
        obtain ⟨b, hb1, hyes, hno⟩ := w
        refine wpAny_handleBy_cons (codeAny_handlers_test ?_) (by intro q; cases q)
        have LT : PySem.W.Looks (model X.prog X.w) h3 (typeOf (.ref a)) cls := fun A Q E s k q => wpAny_typeOf_ref (k _ _ he3) (by rw [hz3.1]; exact q)
        have LM := PySem.W.exm_one (M := model X.prog X.w) (J3.kIn) LT hb1
        have test : ∀ {Q : Value → Shared → Prop} {E : Value → Shared → Prop}, Q c { s' with heap := h3 } → wpAny (model X.prog X.w) (X.A.mark (some (.ref a))) (eval (.Name x np) X.env) Q E { s' with heap := h3 } := fun {Q E} q => by
          obtain ⟨hg, hdbg, hm | ⟨hm, hv, hnn⟩⟩ := hc
          · exact ld_glob (X := X.suite a ((a, oe3) :: (X.pn ++ pins))) S3 hg hm q hdbg
          · exact ld_blt (X := X.suite a ((a, oe3) :: (X.pn ++ pins))) S3 hg hm hv q hnn hdbg
        refine test (LM.here ?_)
        cases b with
        | true =>
          refine codeAny_handlers_suite_as ?_
          refine HandSPX.lands_againZ fl3 fun h4 fl4 up4 => ?_
          have J4 : Inv X pins σ' H' { s' with heap := h4 } := J.landed nb fl4.1 ((up.trans up3).trans up4) os ag
          obtain ⟨oe4, vs4, he4, hz4, hd4⟩ := fl4.there
          have S4 := J4.suite he4 hd4 na nL nF
          refine store_ok (X := X.suite a ((a, oe4) :: (X.pn ++ pins))) (v := .ref a) S4 hN hi hloc rfl (fun s5 S5 => ?_) (.inr hln)
          refine wpAny_mono ((hsu a oe4 cls d (X.pn ++ pins) hz4 ⟨_, hd4⟩).run [] s5 _ H' _ S5 (hyes rfl a na)) (fun f s6 hsp => ?_) (fun _ _ z => False.elim z)
          have end_ : ∀ {σ6 : L2.St} {H6 : Hp} {Q : Shared → Prop}, Inv (X.suite a ((a, oe4) :: (X.pn ++ pins))) [] σ6 H6 s6 → (∀ s7, Inv X pins (σ6.set i none) H6 s7 → Q s7) →
              wpAny (model X.prog X.w) X.A (do bindName X.env n .none; unbindBehindTheSuite X.env n pos') (fun _ s7 => Q s7) X.xe s6 := fun {σ6 H6 Q} S6 hq => gone_ok (S6.unsuite ok) hN hi hln hq
          cases f with
          | next =>
            obtain ⟨σ6, H6, S6, q6⟩ := hsp
            exact end_ S6 fun s7 J7 => ⟨_, _, J7, q6⟩
          | brk =>
            obtain ⟨σ6, H6, S6, q6⟩ := hsp
            exact end_ S6 fun s7 J7 => ⟨_, _, J7, q6⟩
          | cont =>
            obtain ⟨σ6, H6, S6, q6⟩ := hsp
            exact end_ S6 fun s7 J7 => ⟨_, _, J7, q6⟩
          | ret u =>
            obtain ⟨v6, σ6, H6, S6, r6, q6⟩ := hsp
            exact end_ S6 fun s7 J7 => ⟨_, _, _, J7, r6, q6⟩
        | false =>
          show wpAny _ X.A (handleBy (.ref a) X.env hds2) _ _ _
          exact ih (hno rfl)
    exact go hh w
  · cases f with
    | next =>
      obtain ⟨σ', H', J', q⟩ := hsp
      exact wpAny_execs_nil ⟨σ', H', J'.ofTry ok, q⟩
    | brk =>
      obtain ⟨σ', H', J', q⟩ := hsp
      exact ⟨σ', H', J'.ofTry ok, q⟩
    | cont =>
      obtain ⟨σ', H', J', q⟩ := hsp
      exact ⟨σ', H', J'.ofTry ok, q⟩
    | ret u =>
      obtain ⟨v, σ', H', J', r, q⟩ := hsp
      exact ⟨v, σ', H', J'.ofTry ok, r, q⟩
end
end Fk

set_option maxHeartbeats 4000000
/-! Frames one after the other; logs that stay; references and a model that agree, moved to another heap. -/
namespace Fk
open PySem PySem.Spec PyProof.Rows L2
theorem FrL.then {L M : List Addr} {H H1 H2 : Hp} (f : FrL L H H1) (g : FrL M H1 H2) (h : ∀ b ∈ M, b ∈ L ∨ H b = none) : FrL L H H2 := fun b o n e =>
  g b o (fun hm => (h b hm).elim n (fun z => by rw [e] at z; cases z)) (f b o n e)
theorem FrL.then1 {L : List Addr} {a : Addr} {H H1 H2 : Hp} (f : FrL L H H1) (g : FrL [a] H1 H2) (h : a ∈ L ∨ H a = none) : FrL L H H2 := f.then g fun b hb => by rw [List.mem_singleton.mp hb]; exact h
theorem FrL.free {L : List Addr} {H H1 : Hp} (f : FrL L H H1) {b : Addr} (n : b ∉ L) (e : H1 b = none) : H b = none := by
  cases c : H b with
  | none => rfl
  | some o => rw [f b o n c] at e; cases e
theorem val_mem {t : Tab} {x : Str} {v : V} (h : valV t x = some v) : (x, v) ∈ t := by
  unfold valV at h
  cases c : t.find? fun kv => decide (kv.1 = x) with
  | none => rw [c] at h; cases h
  | some p =>
    rw [c] at h
    have m := List.mem_of_find?_eq_some c
    have e : p.1 = x := by have := List.find?_some (p := fun kv : Str × V => decide (kv.1 = x)) c; exact of_decide_eq_true this
    obtain ⟨a, b⟩ := p
    cases h
    cases e
    exact m
theorem Tups.cons {H : Hp} {a : Addr} {as : List Addr} {l : List V} {ls : List (List V)} (h : H a = some (.tup l)) (t : Tups H as ls) : Tups H (a :: as) (l :: ls) := by
  refine ⟨by rw [List.length_cons, List.length_cons, t.1], fun i b m h1 h2 => ?_⟩
  cases i with
  | zero => cases h1; cases h2; exact h
  | succ j => exact t.2 j b m h1 h2
theorem Tups.head {H : Hp} {a : Addr} {as : List Addr} {l : List V} {ls : List (List V)} (t : Tups H (a :: as) (l :: ls)) : H a = some (.tup l) := t.2 0 a l rfl rfl
theorem Tups.tail {H : Hp} {a : Addr} {as : List Addr} {l : List V} {ls : List (List V)} (t : Tups H (a :: as) (l :: ls)) : Tups H as ls := ⟨by have := t.1; rw [List.length_cons, List.length_cons] at this; omega, fun i b m h1 h2 => t.2 (i + 1) b m h1 h2⟩
theorem tups_filter {α : Type} {H : Hp} (f : α → List V) (p : α → Bool) : ∀ (cs : List α) (as : List Addr), Tups H as (cs.map f) → ∃ bs : List Addr, ((as.zip cs).filter fun z => p z.2).map (fun z => V.ref z.1) = bs.map V.ref ∧ Tups H bs ((cs.filter p).map f)
  | [], as, _ => ⟨[], by rw [List.zip_nil_right]; rfl, Tups.nil⟩
  | c :: cs, [], t => absurd t.1 (by simp)
  | c :: cs, a :: as, t => by
    obtain ⟨bs, e, tb⟩ := tups_filter f p cs as t.tail
    rw [List.zip_cons_cons, List.filter_cons, List.filter_cons]
    by_cases h : p c = true
    · refine ⟨a :: bs, ?_, ?_⟩
      · rw [if_pos h, List.map_cons, List.map_cons, e]
      · rw [if_pos h, List.map_cons]
        exact Tups.cons t.head tb
    · refine ⟨bs, ?_, ?_⟩
      · rw [if_neg h, e]
      · rw [if_neg h]
        exact tb
theorem int_refs {x y z : Int} {as : List Addr} : ([V.int x, .int y, .int z] : List V) ≠ as.map V.ref := fun h => by
  cases as with
  | nil => cases h
  | cons b r => injection h with h _; cases h
theorem LogsL.out {H H' : Hp} {t : Tab} {L : Str → List (List V)} {M : List Addr} (h : LogsL H t L) (k : TupKeep H H') (f : FrL M H H') (n : ∀ b ∈ M, ∀ as : List Addr, H b ≠ some (.lst (as.map V.ref))) : LogsL H' t L := fun x =>
  (h x).imp id fun ⟨p, as, a, b, c⟩ => ⟨p, as, a, f p _ (fun hm => n p hm as b) b, c.keep k⟩
theorem CallsL.out {H H' : Hp} {lc : Addr} {cs : List (Str × V × V)} {M : List Addr} (h : CallsL H lc cs) (k : TupKeep H H') (f : FrL M H H') (n : lc ∉ M) : CallsL H' lc cs := by
  obtain ⟨as, a, b⟩ := h
  exact ⟨as, f lc _ n a, b.keep k⟩
theorem CallsL.same {H H' : Hp} {lc : Addr} {cs : List (Str × V × V)} (h : CallsL H lc cs) (s : Same H H') : CallsL H' lc cs := by
  obtain ⟨as, a, b⟩ := h
  exact ⟨as, s _ _ a, b.keep (TupKeep.of s)⟩
theorem callPut_nd {cs : List (Str × V × V)} {x : Str} {v o : V} (h : (cs.map (·.1)).Nodup) : ((callPut cs x v o).map (·.1)).Nodup := by
  unfold callPut
  rw [List.map_append, List.nodup_append]
  refine ⟨List.Nodup.sublist ((List.filter_sublist).map _) h, by simp, fun a ha b hb => ?_⟩
  obtain ⟨c, hc, rfl⟩ := List.mem_map.mp ha
  have := of_decide_eq_true (List.mem_filter.mp hc).2
  simp at hb
  rw [hb]
  exact this
theorem callPut_len (cs : List (Str × V × V)) (x : Str) (v o : V) : (callPut cs x v o).length ≤ cs.length + 1 := by
  unfold callPut
  rw [List.length_append]
  have := List.length_filter_le (fun c : Str × V × V => decide (c.1 ≠ x)) cs
  show _ + 1 ≤ _
  omega
theorem mem_callPut {cs : List (Str × V × V)} {x : Str} {v o : V} {c : Str × V × V} (h : c ∈ callPut cs x v o) : c ∈ cs ∨ c = (x, v, o) := by
  rcases List.mem_append.mp h with h | h
  · exact .inl (List.mem_filter.mp h).1
  · exact .inr (List.mem_singleton.mp h)
end Fk

set_option maxHeartbeats 4000000
/-! A comprehension over zip of two tuples. -/
namespace Fk
open PySem PySem.Spec PyProof.Rows L2 RZ
theorem lc_zipT {K : PySem.W.Frag} {a b D : Addr} {xs ys : List V} {σ : L2.St} {vs : List Nat} {g : TG} {tt : TT} {te : TE} {Q : Hp → Prop} {H1 : Hp} {n : Nat} (f : Nat → V) (hD1 : H1 D = none) (ha : ∀ H, Same H1 H → SqT K H a xs) (hb : ∀ H, Same H1 H → SqT K H b ys)
    (hx : n ≤ xs.length) (hy : n ≤ ys.length) (hn : xs.length ≤ n ∨ ys.length ≤ n) (hl : n ≤ 1000000)
    (hs : ∀ i x y T H, i < n → xs[i]? = some x → ys[i]? = some y → Same H1 H → H T = some (.tup [x, y]) → ∀ (N : VK) (M : Hp → Prop), (∀ H3, Same H H3 → N (f i) H3) →
      g (.ref T) (wipe σ vs) H fun σ2 H2 => wipe σ2 vs = wipe σ vs ∧ tt σ2 H2 fun bb H3 => if bb = true then te σ2 H3 N else M H3)
    (hd : ∀ H, Same H1 H → H D = some (.lst ((List.range n).map f)) → Q H) :
    ∃ W : Nat → Nat → Hp → Prop, (∃ m, W 0 m (upd H1 D (.lst []))) ∧ ∀ k m H, W k m H →
      ((ItzT K a b).stop k H ∧ Q H) ∨ ((ItzT K a b).go k H ∧ ∃ Nx : Hp → Prop, (∀ H', Nx H' → ∃ m', m' < m ∧ W (k + 1) m' H') ∧ ∀ x H', (ItzT K a b).yld k H x H' → g x (wipe σ vs) H' fun σ2 H2 => wipe σ2 vs = wipe σ vs ∧ tt σ2 H2 fun bb H3 =>
        if bb = true then te σ2 H3 fun y H4 => ∃ acc, H4 D = some (.lst acc) ∧ acc.length < sizeLine ∧ Nx (upd H4 D (.lst (acc ++ [y]))) else Nx H3) := by
  refine ⟨fun k m H => m = n - k ∧ k ≤ n ∧ Same H1 H ∧ H D = some (.lst ((List.range k).map f)), ⟨n, by omega, Nat.zero_le _, same_new hD1, upd_same⟩, ?_⟩
  rintro k m H ⟨rfl, hk, s1, hD⟩
  by_cases hlt : k < n
  · have lx : k < xs.length := by omega
    have ly : k < ys.length := by omega
    refine .inr ⟨⟨xs, ys, xs[k], ys[k], ha H s1, hb H s1, List.getElem?_eq_getElem lx, List.getElem?_eq_getElem ly⟩, fun H' => Same H1 H' ∧ H' D = some (.lst ((List.range (k + 1)).map f)), fun H' q => ⟨n - (k + 1), by omega, rfl, hlt, q⟩, fun x H' y => ?_⟩
    obtain ⟨T, u, v, rfl, hT, rfl, gx, gy⟩ := y
    have s2 := same_new (o := .tup [u, v]) hT
    refine hs k u v T _ hlt (gx xs (ha H s1)) (gy ys (hb H s1)) (s1.trans s2) upd_same _ _ fun H3 s3 => ⟨_, s3 _ _ (s2 _ _ hD), small_lt (by rw [List.length_map, List.length_range]; omega), fun c o e => ?_, ?_⟩
    · rw [upd_ne (ne_of_none e hD1)]
      exact s3 _ _ (s2 _ _ (s1 _ _ e))
    · rw [upd_same, List.range_succ, List.map_append]
      rfl
  · have e : k = n := by omega
    subst e
    exact .inl ⟨⟨xs, ys, ha H s1, hb H s1, hn⟩, hd H s1 hD⟩
theorem lc_gen {α : Type} {J : It} {us : List α} {val : α → V} {G : Hp → Prop} {H1 : Hp} {D : Addr} {σ : L2.St} {vs : List Nat} {g : TG} {tt : TT} {te : TE} {Q : Hp → Prop} (Y : Yields J (us.map val) G) (f : α → V) (p : α → Bool) (σf : α → L2.St) (hD1 : H1 D = none) (hG : ∀ H, Same H1 H → G H) (hw : ∀ u ∈ us, wipe (σf u) vs = wipe σ vs)
    (hg : ∀ H u, Same H1 H → u ∈ us → ∀ (R : L2.St → Hp → Prop), R (σf u) H → g (val u) (wipe σ vs) H R)
    (ht : ∀ H u, Same H1 H → u ∈ us → ∀ (R : Bool → Hp → Prop), (∀ H3, Same H H3 → R (p u) H3) → tt (σf u) H R)
    (he : ∀ H u, Same H1 H → u ∈ us → p u = true → ∀ (R : VK), (∀ H3, Same H H3 → R (f u) H3) → te (σf u) H R)
    (hl : us.length ≤ 1000000) (hd : ∀ H, Same H1 H → H D = some (.lst ((us.filter p).map f)) → Q H) :
    ∃ W : Nat → Nat → Hp → Prop, (∃ m, W 0 m (upd H1 D (.lst []))) ∧ ∀ k m H, W k m H →
      (J.stop k H ∧ Q H) ∨ (J.go k H ∧ ∃ Nx : Hp → Prop, (∀ H', Nx H' → ∃ m', m' < m ∧ W (k + 1) m' H') ∧ ∀ x H', J.yld k H x H' → g x (wipe σ vs) H' fun σ2 H2 => wipe σ2 vs = wipe σ vs ∧ tt σ2 H2 fun b H3 =>
        if b = true then te σ2 H3 fun y H4 => ∃ acc, H4 D = some (.lst acc) ∧ acc.length < sizeLine ∧ Nx (upd H4 D (.lst (acc ++ [y]))) else Nx H3) := by
  refine lcG Y (fun k acc H => Same H1 H ∧ acc = ((us.take k).filter p).map f) (fun k acc H h _ => hG H h.1) ⟨same_new hD1, rfl⟩ (fun k acc H x hI hD hx hacc hk => ?_) (by rw [List.length_map]; exact hl) (fun acc H hI hD _ => ?_)
  · obtain ⟨sm, ea⟩ := hI
    rw [List.getElem?_map] at hx
    cases hu : us[k]? with
    | none => rw [hu] at hx; cases hx
    | some u =>
      rw [hu] at hx
      cases hx
      have hm : u ∈ us := List.mem_of_getElem? hu
      have et : us.take (k + 1) = us.take k ++ [u] := by
        rw [List.take_add_one, hu]
        rfl
      refine hg H u sm hm _ ⟨hw u hm, ?_⟩
      refine ht H u sm hm _ (fun H3 s3 => ?_)
      by_cases hp : p u = true
      · rw [if_pos hp]
        refine he H3 u (sm.trans s3) hm hp _ (fun H4 s4 => ?_)
        refine lc_take (s4 _ _ (s3 _ _ hD)) hacc hk ⟨same_mut ((sm.trans s3).trans s4) hD1, ?_⟩
        rw [et, List.filter_append, List.map_append, List.filter_cons, hp, ea]
        rfl
      · rw [if_neg hp]
        refine lc_skip (s3 _ _ hD) hacc ⟨sm.trans s3, ?_⟩
        rw [et, List.filter_append, List.map_append, List.filter_cons, if_neg hp, ea]
        simp
  · obtain ⟨sm, ea⟩ := hI
    rw [List.length_map, List.take_length] at ea
    exact hd H sm (by rw [hD, ea])
def rLenQ (K : PySem.W.Frag) : List V → Hp → VK → Prop := fun xs H Q => ∃ p ys, xs = [.ref p] ∧ (SqL K H p ys ∨ SqT K H p ys) ∧ Q (.int ys.length) H
theorem ciK {X : Cx} {K : PySem.W.Frag} (h : X.K = K) : CallR X (.builtin "isinstance") (rIsi K) := h ▸ call_isi
theorem clK {X : Cx} {K : PySem.W.Frag} (h : X.K = K) : CallR X (.builtin "len") (rLenQ K) := h ▸ call_len_seq
end Fk

/-! truth of a thing within a comprehension, K given -/
namespace Fk
open PySem PySem.Spec PyProof.Rows L2
def tTruK (K : PySem.W.Frag) (ta : TE) : TT := fun σ H Q => ta σ H fun x H' => ∃ k, TruV K x H' k ∧ Q k H'
theorem ptK_truth {X : Cx} {K : PySem.W.Frag} {a : Expr} {ta : TE} (h : X.K = K) (ha : PE X a ta) (he : ∀ whole, isTrue a X.env whole = (do let v ← whole; standAt a.pos; holding [v] (truthy v))) : PT X a (tTruK K ta) := h ▸ pt_truth ha he
end Fk

set_option maxHeartbeats 4000000
/-! list(text); classes and defs called with keywords; properties. -/
namespace Fk
open PySem PySem.Spec PyProof.Rows L2
section
variable {X : Cx}
/-- list(x), x a text -/
def rListS : List V → Hp → VK → Prop := fun xs H Q => ∃ x : Str, xs = [.str x] ∧ x.length ≤ sizeLine ∧ ∀ q, H q = none → Q (.ref q) (upd H q (.lst ((TL.tl x).map sgn)))
theorem call_listS (hc : X.calm = true) : CallR X (.type "list") rListS := by
  intro pins s σ H xs us Q I r h
  obtain ⟨x, e, hz, q⟩ := h
  subst e
  obtain ⟨u, eu, rx⟩ := vals1 r
  subst eu
  obtain ⟨t, rfl⟩ := rx
  refine PySem.call_list_str (I.ok.hd hc) x t (fun h' tk acc' c' hk hS hacc => ?_) hz
  refine ⟨.ref s.heap.objs.size, upd H s.heap.objs.size (.lst ((TL.tl x).map sgn)), I.laid hk (Nat.le_refl _) (show ObjOk X.prog X.w _ _ _ (.lst ((TL.tl x).map sgn)) from ⟨?_, acc'.toList, c', ?_, ?_⟩), rfl, q _ (I.hok.fresh (Nat.le_refl _))⟩
  · rw [List.length_map, ← TL.len_tl]; exact hz
  · have el : acc'.toList.length = acc'.size := by simp
    refine vals_of_at (by rw [List.length_map, el, hacc.1, ← TL.len_tl]; rfl) fun j x' w h1 h2 => ?_
    obtain ⟨c, u, hcx, rfl⟩ := hacc.2 j w (by rw [← Array.getElem?_toList]; exact h2)
    rw [List.getElem?_map, show (TL.tl x)[j]? = some c from by rw [← hcx]; exact Array.getElem?_toList] at h1
    cases h1
    exact ⟨u, rfl⟩
  · rw [Array.toArray_toList]; exact hS
end
/-! ### classes and defs called with keywords -/
def IniK (K : PySem.W.Frag) (C : Addr) (qual : Str) (st : Stmt) (ps : List Str) (n : Nat) (ks : List Str) (gV : List V → List V → List V) : Prop := ∃ (f : Addr) (fd : FuncData) (g : List Value → List Value → List Value), Mk K C f ∧ C8.Fun K "__init__" qual st f fd ∧ KBn K fd ps n ks g gV
structure MakK (P : Program) (w : World) (K : PySem.W.Frag) (mg : Str → Option Value) (base : Heap) (k : Nat) (x : Str) (C : Addr) (sp : Sp) (n : Nat) (ks : List Str) (gV : List V → List V → List V) : Prop where
  ex : ∃ (f : Addr) (fd : FuncData) (ps : List Str) (g : List Value → List Value → List Value), Mk K C f ∧ FnOk P w K mg base C8.CX0 k f fd ps sp ∧ mg x = some (.ref C) ∧ KBn K fd ps n ks g gV
def DefK (K : PySem.W.Frag) (mg : Str → Option Value) (x : Str) (st : Stmt) (ps : List Str) (n : Nat) (ks : List Str) (gV : List V → List V → List V) : Prop := ∃ (f : Addr) (fd : FuncData) (g : List Value → List Value → List Value), C8.Fun K x x st f fd ∧ mg x = some (.ref f) ∧ PySem.W.keepIn K (.ref f) = true ∧ KBn K fd ps n ks g gV
structure CalK (P : Program) (w : World) (K : PySem.W.Frag) (mg : Str → Option Value) (base : Heap) (k : Nat) (x : Str) (sp : Sp) (n : Nat) (ks : List Str) (gV : List V → List V → List V) : Prop where
  ex : ∃ (f : Addr) (fd : FuncData) (ps : List Str) (g : List Value → List Value → List Value), FnOk P w K mg base C8.CX0 k f fd ps sp ∧ mg x = some (.ref f) ∧ PySem.W.keepIn K (.ref f) = true ∧ KBn K fd ps n ks g gV
section
variable {P : Program} {w : World} {K : PySem.W.Frag} {mg : Str → Option Value} {base : Heap}
theorem makK {x qual : Str} {C : Addr} {st : Stmt} {ps ks : List Str} {n k : Nat} {sp : Sp} {gV : List V → List V → List V} (I : IniK K C qual st ps n ks gV) (hm : mg x = some (.ref C)) (F : ∀ f fd, C8.Fun K "__init__" qual st f fd → FnOk P w K mg base C8.CX0 k f fd ps sp) : MakK P w K mg base k x C sp n ks gV := by
  obtain ⟨f, fd, g, M, U, b⟩ := I
  exact ⟨f, fd, ps, g, M, F f fd U, hm, b⟩
theorem calK {x : Str} {st : Stmt} {ps ks : List Str} {n k : Nat} {sp : Sp} {gV : List V → List V → List V} (I : DefK K mg x st ps n ks gV) (F : ∀ f fd, C8.Fun K x x st f fd → FnOk P w K mg base C8.CX0 k f fd ps sp) : CalK P w K mg base k x sp n ks gV := by
  obtain ⟨f, fd, g, U, hm, hk, b⟩ := I
  exact ⟨f, fd, ps, g, F f fd U, hm, hk, b⟩
/-- a property of a class, by its getter -/
structure PDef (K : PySem.W.Frag) (C : Addr) (f qual : Str) (st : Stmt) : Prop where
  ex : ∃ (p g : Addr) (fd : FuncData), PropOf K C f p g ∧ C8.Fun K f qual st g fd ∧ fd.defaults = .none
structure Prp (P : Program) (w : World) (K : PySem.W.Frag) (mg : Str → Option Value) (base : Heap) (k : Nat) (C : Addr) (f : Str) (sp : Sp) : Prop where
  ex : ∃ (p g : Addr) (fd : FuncData) (ps : List Str), Cls K C ∧ PropOf K C f p g ∧ FnOk P w K mg base C8.CX0 k g fd ps sp ∧ Binds K fd ps []
theorem prp_of {f qual : Str} {C : Addr} {st : Stmt} {N ps : List Str} {k : Nat} {sp : Sp} (c : Cls K C) (D : PDef K C f qual st) (S : FnScope N ps (C8.fnScope st))
    (hb : ∀ (kV doc pm : Value) (an : Option Addr) (cdv ct : Value) (us : List Value), us.length = ps.length → bindArgs (PySem.W.fnOf f qual (C8.fnArgs st) (C8.fnBody st) (C8.fnScope st) .none kV doc pm an cdv ct) ⟨us, []⟩ = pure (ps.zip us))
    (len : ∀ vs H Q E, sp vs H Q E → vs.length = ps.length)
    (hbody : ∀ (f : Addr) (cdv : Value) (A : Around) (outer : List Env) (s : Shared) (H : Hp) (vs : List V) (Q : VK) (E : XK), Room k (A.deeper (envOfC qual (C8.fnScope st) s.heap.objs.size f cdv)) → sp vs H Q E →
      ∃ t, PSs (cxOf C8.CX0 P w K mg base N qual (C8.fnScope st) f cdv A outer s H E).nox (C8.fnBody st) t ∧ t { nx := fun _ H' => Q .non H', rt := Q } (start N vs) H) : Prp P w K mg base (k + 1) C f sp := by
  obtain ⟨p, g, fd, hp, F, df⟩ := D.ex
  exact ⟨p, g, fd, ps, c, hp, C8.fn0 F S len (hbody g), F.binds df hb⟩
end
section
variable {X : Cx} {k j n : Nat} {C : Addr} {x f : Str} {sp : Sp} {p pos : Pos} {e : Expr} {es : List Expr} {kws : List Keyword} {ks : List Str} {t tk : TA} {ta : TE} {gV : List V → List V → List V}
/-- C(e, .., k = v, ..) -/
theorem pe_mkK (c : MakK X.prog X.w X.K X.mg X.base k x C sp (n + 1) ks gV) (hr : Room j X.A) (hk : k + 1 ≤ j) (hg : Gl X x) (ha : PA X (e :: es) t) (hkw : PK X kws tk)
    (hall : (backToKw pos (keywordEach kws X.env)).all (·.1.isSome) = true := by rfl) (hks : (backToKw pos (keywordEach kws X.env)).filterMap (·.1) = ks := by rfl) (hdb : (x == ("__debug__" : Str)) = false := by decide)
    (he : starEach (e :: es) X.env = (false, eval e X.env) :: starEach es X.env := by rfl) (hpl : ((backTo pos (starEach (e :: es) X.env)).any (·.1) || (backToKw pos (keywordEach kws X.env)).any (·.1.isNone)) = false := by rfl) :
    PE X (.Call (.Name x p) (e :: es) kws pos) (tMakeK C n ks.length sp gV C8.E0 t tk) := by
  obtain ⟨f, fd, ps, g, M, F, hm, b⟩ := c.ex
  exact pe_makeK M F (hr.mono hk) hg hm b C8.pass0 ha hkw hall hks hdb he hpl
/-- C(k = v, ..) -/
theorem pe_mkK0 (c : MakK X.prog X.w X.K X.mg X.base k x C sp 1 ks gV) (hr : Room j X.A) (hk : k + 1 ≤ j) (hg : Gl X x) (hkw : PK X kws tk)
    (hall : (backToKw pos (keywordEach kws X.env)).all (·.1.isSome) = true := by rfl) (hks : (backToKw pos (keywordEach kws X.env)).filterMap (·.1) = ks := by rfl) (hdb : (x == ("__debug__" : Str)) = false := by decide)
    (hpl : ((backTo pos (starEach [] X.env)).any (·.1) || (backToKw pos (keywordEach kws X.env)).any (·.1.isNone)) = false := by rfl) :
    PE X (.Call (.Name x p) [] kws pos) (tMakeK C 0 ks.length sp gV C8.E0 tNil tk) := by
  obtain ⟨f, fd, ps, g, M, F, hm, b⟩ := c.ex
  exact pe_makeK0 M F (hr.mono hk) hg hm b C8.pass0 hkw hall hks hdb hpl
/-- x(e, .., k = v, ..) -/
theorem pe_cK (c : CalK X.prog X.w X.K X.mg X.base k x sp n ks gV) (hr : Room j X.A) (hk : k ≤ j) (hg : Gl X x) (ha : PA X (e :: es) t) (hkw : PK X kws tk)
    (hall : (backToKw pos (keywordEach kws X.env)).all (·.1.isSome) = true := by rfl) (hks : (backToKw pos (keywordEach kws X.env)).filterMap (·.1) = ks := by rfl) (hdb : (x == ("__debug__" : Str)) = false := by decide)
    (he : starEach (e :: es) X.env = (false, eval e X.env) :: starEach es X.env := by rfl) (hpl : ((backTo pos (starEach (e :: es) X.env)).any (·.1) || (backToKw pos (keywordEach kws X.env)).any (·.1.isNone)) = false := by rfl) :
    PE X (.Call (.Name x p) (e :: es) kws pos) (tCallN n ks.length sp gV C8.E0 t tk) := by
  obtain ⟨f, fd, ps, g, F, hm, hkp, b⟩ := c.ex
  exact pe_callN F (hr.mono hk) hg hm hkp b C8.pass0 ha hkw hall hks hdb he hpl
/-- e.f, a property -/
theorem pe_pr (c : Prp X.prog X.w X.K X.mg X.base k C f sp) (hr : Room j X.A) (hk : k + 1 ≤ j) (he : PE X e ta) (hab : attributeBase e f X.env (eval e X.env) = eval e X.env := by rfl) : PE X (.Attribute e f pos) (tProp C sp [] C8.E0 ta) := by
  obtain ⟨p, g, fd, ps, cl, hp, F, b⟩ := c.ex
  exact pe_prop he cl hp F (hr.mono hk) b .nil C8.pass0 hab
/-- e, locked behind its making: a thing of its own that is walked -/
def tLocked (te : TE) : TE := fun σ H Q => te σ H fun x H1 => ∃ d u, x = .ref d ∧ H1 d = some u ∧ Mut (some u) ∧ ∀ od, Q x (upd H1 d (.frz od u))
theorem pe_locked (he : PE X e ta) : PE X e (tLocked ta) := by
  refine ⟨fun pins s σ H Q I h => thn (he.run pins s σ H _ I h) fun v s1 ⟨x, H1, I1, r, d, u, ex, hd, mu, q⟩ => ?_⟩
  obtain ⟨od, I2⟩ := I1.lock hd mu
  exact ⟨x, _, I2, r, q od⟩
end
end Fk

set_option maxHeartbeats 4000000
/-! A try with except clauses, of which any may have a name, and an else. -/
namespace Fk
open PySem PySem.Spec PyProof.Rows L2
section
variable {X : Cx} {body : List Stmt} {h₀ : ExceptHandler} {hds : List ExceptHandler} {l : List (Value × (Addr → Value → Option Addr → TS))} {pos : Pos} {tb : WX → TS} {Wout : WX}
theorem ps_tryAE {orelse : List Stmt} {u : TS} (ho : PSs X orelse u) (hs : X.stack = X.env :: X.outer) (hf : X.env.frame = some X.env.locals) (tk : Takes X Wout)
    (hb : ∀ (W : WX) (pn : List (Addr × Obj)) (xe : Value → Shared → Prop), Takes (X.tr pn xe) W → PassesOwn (model X.prog X.w) X.A X.env xe → PSs (X.tr pn xe) body (tb W))
    (hh : HdA X (h₀ :: hds) l) : PS X (.Try body (h₀ :: hds) orelse [] pos) (fun D σ H => tb (wMany X.K Wout D l) { D with nx := u D } σ H) := by
  refine ⟨fun pins s σ H D I h => ?_⟩
  have ok := I.ok
  have hfr : X.A.frames = some (X.env :: X.outer) := by rw [ok.frames, hs]
  refine wpAny_Try_except ?_
  refine wpAny_mono ((hb (wMany X.K Wout D l) (X.pn ++ pins) (fun e s₁ => wpAny (model X.prog X.w) X.A (noteFrame e X.env) (fun _ s₂ => wpAny (model X.prog X.w) X.A (setFlight e none) (fun _ s₃ =>
    wpAny (model X.prog X.w) X.A (handleBy e X.env (h₀ :: hds)) (SP X pins D) X.xe s₃) X.xe s₂) X.xe s₁) (fun u s' xx => ?_) PassesOwn.looking).run [] s σ H { D with nx := u D } (I.toTry _) h) (fun f s1 hsp => ?_) (fun e s1 he => he)
  · obtain ⟨a, B, sI, pins', σ', H', cls, d, rfl, J', nb, up, sky, na, os, ag, w⟩ := xx
    have J : Inv X pins σ' H' sI := J'.ofTry ok
    have sky' : Sky B (X.env :: X.outer) a (Zc cls d) X.env.locals s'.heap := by rw [← hs]; exact sky
    show wpAny (model X.prog X.w) X.A (noteFrame (.ref a) X.env) _ _ _
    refine Sky.land Zc.steady hfr hf sky' fun h3 fl3 up3 => ?_
    have J3 : Inv X pins σ' H' { s' with heap := h3 } := J.landed nb fl3.1 (up.trans up3) os ag
    obtain ⟨oe3, vs3, he3, hz3, hd3⟩ := fl3.there
    have notFr : ∀ {h : Heap} {o : Obj} {vs : Array Value}, h.FunFrames B (X.env :: X.outer) → h.get? a = some o → o.data = .fields vs → a ∉ frs (X.env :: X.outer) := fun {h o vs} ff e dd hm => by
      obtain ⟨_, o', e', hnf⟩ := ff.mem hm
      rw [e] at e'; cases e'
      exact hnf _ dd
    have nfr := notFr fl3.2.2.1 he3 hd3
    have nL : a ≠ X.env.locals := fun z => nfr (List.mem_filterMap.mpr ⟨X.env, List.mem_cons_self, by rw [hf, z]⟩)
    have nF : a ∉ X.fs := fun hm => by
      obtain ⟨e, he, q⟩ := List.mem_filterMap.mp hm
      exact nfr (List.mem_filterMap.mpr ⟨e, List.mem_cons_of_mem _ he, q⟩)
    have S3 := J3.suite he3 hd3 na nL nF
    have go : ∀ {hds' : List ExceptHandler} {l' : List (Value × (Addr → Value → Option Addr → TS))}, HdA X hds' l' → wMany X.K Wout D l' cls d σ' H' →
        wpAny (model X.prog X.w) X.A (handleBy (.ref a) X.env hds') (SP X pins D) X.xe { s' with heap := h3 } := by
      intro hds' l' hk
      induction hk with
      | nil =>
        intro w
        refine wpAny_handleBy_nil ?_
        obtain ⟨k1, k2, k3, oe, vs, T, oT, ts', he, hz, hd, h1, hr⟩ := id fl3
        unfold PySem.passOn
        refine wpAny_bind (wpAny_field he hd h1 ?_)
        rw [if_neg (show ¬ ((Value.ref T == Value.none) = true) from by simp)]
        have fin : wpAny (model X.prog X.w) X.A (setFlight (.ref a) X.env.frame) (fun _ s4 => wpAny (model X.prog X.w) X.A (throw (.ref a) : Sem Flow) (SP X pins D) X.xe s4) X.xe { s' with heap := h3 } := by
          rw [hf]
          refine HandSPX.setFlight_upZ fl3 fun h4 hh4 up4 => wpAny_throw (tk _ _ ?_)
          exact ⟨a, B, sI, pins, σ', H', cls, d, rfl, J, nb, (up.trans up3).trans up4, .inr (.inr (by rw [hs]; exact hh4)), na, os, ag, w⟩
        first
          | exact wpAny_bind (wpAny_pure (wpAny_bind fin))
          | exact wpAny_bind fin
      | @cons x c ts b₀ suite np pos' hds2 l2 hc hsu r ih =>
        intro w
        obtain ⟨b, hb1, hyes, hno⟩ := w
        refine wpAny_handleBy_cons (codeAny_handlers_test ?_) (by intro q; cases q)
        have LT : PySem.W.Looks (model X.prog X.w) h3 (typeOf (.ref a)) cls := fun A Q E s k q => wpAny_typeOf_ref (k _ _ he3) (by rw [hz3.1]; exact q)
        have LM := PySem.W.exm_one (M := model X.prog X.w) (J3.kIn) LT hb1
        have test : ∀ {Q : Value → Shared → Prop} {E : Value → Shared → Prop}, Q c { s' with heap := h3 } → wpAny (model X.prog X.w) (X.A.mark (some (.ref a))) (eval (.Name x np) X.env) Q E { s' with heap := h3 } := fun {Q E} q => by
          obtain ⟨hg, hdbg, hm | ⟨hm, hv, hnn⟩⟩ := hc
          · exact ld_glob (X := X.suite a ((a, oe3) :: (X.pn ++ pins))) S3 hg hm q hdbg
          · exact ld_blt (X := X.suite a ((a, oe3) :: (X.pn ++ pins))) S3 hg hm hv q hnn hdbg
        refine test (LM.here ?_)
        cases b with
        | true =>
          refine codeAny_handlers_suite ?_
          refine HandSPX.lands_againZ fl3 fun h4 fl4 up4 => ?_
          have J4 : Inv X pins σ' H' { s' with heap := h4 } := J.landed nb fl4.1 ((up.trans up3).trans up4) os ag
          obtain ⟨oe4, vs4, he4, hz4, hd4⟩ := fl4.there
          have S4 := J4.suite he4 hd4 na nL nF
          refine wpAny_mono ((hsu a oe4 cls d (X.pn ++ pins) hz4 ⟨_, hd4⟩).run [] _ _ H' _ S4 (hyes rfl a na)) (fun f s6 hsp => ?_) (fun _ _ z => False.elim z)
          cases f with
          | next =>
            obtain ⟨σ6, H6, S6, q6⟩ := hsp
            exact ⟨_, _, S6.unsuite ok, q6⟩
          | brk =>
            obtain ⟨σ6, H6, S6, q6⟩ := hsp
            exact ⟨_, _, S6.unsuite ok, q6⟩
          | cont =>
            obtain ⟨σ6, H6, S6, q6⟩ := hsp
            exact ⟨_, _, S6.unsuite ok, q6⟩
          | ret u =>
            obtain ⟨v6, σ6, H6, S6, r6, q6⟩ := hsp
            exact ⟨_, _, _, S6.unsuite ok, r6, q6⟩
        | false =>
          show wpAny _ X.A (handleBy (.ref a) X.env hds2) _ _ _
          exact ih (hno rfl)
      | @as x n i c ts b₀ suite np pos' hds2 l2 hN hi hln hc hsu r ih =>
        intro w
        have hloc : Loc X.env.scope n := .inl hln
        obtain ⟨b, hb1, hyes, hno⟩ := w
        refine wpAny_handleBy_cons (codeAny_handlers_test ?_) (by intro q; cases q)
        have LT : PySem.W.Looks (model X.prog X.w) h3 (typeOf (.ref a)) cls := fun A Q E s k q => wpAny_typeOf_ref (k _ _ he3) (by rw [hz3.1]; exact q)
        have LM := PySem.W.exm_one (M := model X.prog X.w) (J3.kIn) LT hb1
        have test : ∀ {Q : Value → Shared → Prop} {E : Value → Shared → Prop}, Q c { s' with heap := h3 } → wpAny (model X.prog X.w) (X.A.mark (some (.ref a))) (eval (.Name x np) X.env) Q E { s' with heap := h3 } := fun {Q E} q => by
          obtain ⟨hg, hdbg, hm | ⟨hm, hv, hnn⟩⟩ := hc
          · exact ld_glob (X := X.suite a ((a, oe3) :: (X.pn ++ pins))) S3 hg hm q hdbg
          · exact ld_blt (X := X.suite a ((a, oe3) :: (X.pn ++ pins))) S3 hg hm hv q hnn hdbg
        refine test (LM.here ?_)
        cases b with
        | true =>
          refine codeAny_handlers_suite_as ?_
          refine HandSPX.lands_againZ fl3 fun h4 fl4 up4 => ?_
          have J4 : Inv X pins σ' H' { s' with heap := h4 } := J.landed nb fl4.1 ((up.trans up3).trans up4) os ag
          obtain ⟨oe4, vs4, he4, hz4, hd4⟩ := fl4.there
          have S4 := J4.suite he4 hd4 na nL nF
          refine store_ok (X := X.suite a ((a, oe4) :: (X.pn ++ pins))) (v := .ref a) S4 hN hi hloc rfl (fun s5 S5 => ?_) (.inr hln)
          refine wpAny_mono ((hsu a oe4 cls d (X.pn ++ pins) hz4 ⟨_, hd4⟩).run [] s5 _ H' _ S5 (hyes rfl a na)) (fun f s6 hsp => ?_) (fun _ _ z => False.elim z)
          have end_ : ∀ {σ6 : L2.St} {H6 : Hp} {Q : Shared → Prop}, Inv (X.suite a ((a, oe4) :: (X.pn ++ pins))) [] σ6 H6 s6 → (∀ s7, Inv X pins (σ6.set i none) H6 s7 → Q s7) →
              wpAny (model X.prog X.w) X.A (do bindName X.env n .none; unbindBehindTheSuite X.env n pos') (fun _ s7 => Q s7) X.xe s6 := fun {σ6 H6 Q} S6 hq => gone_ok (S6.unsuite ok) hN hi hln hq
          cases f with
          | next =>
            obtain ⟨σ6, H6, S6, q6⟩ := hsp
            exact end_ S6 fun s7 J7 => ⟨_, _, J7, q6⟩
          | brk =>
            obtain ⟨σ6, H6, S6, q6⟩ := hsp
            exact end_ S6 fun s7 J7 => ⟨_, _, J7, q6⟩
          | cont =>
            obtain ⟨σ6, H6, S6, q6⟩ := hsp
            exact end_ S6 fun s7 J7 => ⟨_, _, J7, q6⟩
          | ret u =>
            obtain ⟨v6, σ6, H6, S6, r6, q6⟩ := hsp
            exact end_ S6 fun s7 J7 => ⟨_, _, _, J7, r6, q6⟩
        | false =>
          show wpAny _ X.A (handleBy (.ref a) X.env hds2) _ _ _
          exact ih (hno rfl)
    exact go hh w
  · cases f with
    | next =>
      obtain ⟨σ', H', J', q⟩ := hsp
      exact ho.run pins s1 σ' H' D (J'.ofTry ok) q
    | brk =>
      obtain ⟨σ', H', J', q⟩ := hsp
      exact ⟨σ', H', J'.ofTry ok, q⟩
    | cont =>
      obtain ⟨σ', H', J', q⟩ := hsp
      exact ⟨σ', H', J'.ofTry ok, q⟩
    | ret u =>
      obtain ⟨v, σ', H', J', r, q⟩ := hsp
      exact ⟨v, σ', H', J'.ofTry ok, r, q⟩
end
end Fk

set_option maxHeartbeats 4000000
/-! What a table holds, as a map; puts, drops, merges, sorted copies; tables as data. -/
namespace Fk
open PySem PySem.Spec PyProof.Rows L2
theorem perm_of_sub {α : Type} [DecidableEq α] : ∀ {l m : List α}, l.Nodup → (∀ x ∈ l, x ∈ m) → m.length ≤ l.length → l.Perm m
  | [], m, _, _, h => by
    rw [List.eq_nil_of_length_eq_zero (Nat.le_zero.mp h)]
  | a :: l, m, n, s, h => by
    obtain ⟨n1, n2⟩ := List.nodup_cons.mp n
    have ha : a ∈ m := s a List.mem_cons_self
    have ih : l.Perm (m.erase a) := perm_of_sub n2 (fun x hx => (List.mem_erase_of_ne (fun e => n1 (by rw [← e]; exact hx))).mpr (s x (List.mem_cons_of_mem _ hx))) (by
      rw [List.length_erase_of_mem ha]
      rw [List.length_cons] at h
      omega)
    exact (ih.cons a).trans (List.perm_cons_erase ha).symm
abbrev Mp (α : Type) := Str → Option α
def putM {α : Type} (f : Mp α) (x : Str) (r : α) : Mp α := fun y => if y = x then some r else f y
def dropM {α : Type} (f : Mp α) (x : Str) : Mp α := fun y => if y = x then none else f y
def orM {α : Type} (f g : Mp α) : Mp α := fun y => (g y).or (f y)
def Holds {α : Type} (R : V → α → Prop) (t : Tab) (f : Mp α) : Prop := ∀ x, (valV t x = none ∧ f x = none) ∨ ∃ v r, valV t x = some v ∧ f x = some r ∧ R v r
section
variable {α : Type} {R R' : V → α → Prop} {t u : Tab} {f g : Mp α} {x : Str} {v : V} {r : α}
theorem Holds.nil : Holds R [] (fun _ => none) := fun _ => .inl ⟨rfl, rfl⟩
theorem Holds.imp (h : Holds R t f) (k : ∀ v r, R v r → R' v r) : Holds R' t f := fun x => (h x).imp id fun ⟨v, r, a, b, c⟩ => ⟨v, r, a, b, k _ _ c⟩
theorem val_putK (t : Tab) (x y : Str) (v : V) : valV (putK t x v) y = if y = x then some v else valV t y := valV_put t x y v
theorem Holds.put (h : Holds R t f) (k : R v r) : Holds R (putK t x v) (putM f x r) := fun y => by
  rw [val_putK]
  unfold putM
  by_cases e : y = x
  · rw [if_pos e, if_pos e]
    exact .inr ⟨v, r, rfl, rfl, k⟩
  · rw [if_neg e, if_neg e]
    exact h y
theorem Holds.drop (h : Holds R t f) : Holds R (dropK t x) (dropM f x) := fun y => by
  rw [valV_drop]
  unfold dropM
  by_cases e : y = x
  · rw [if_pos e, if_pos e]
    exact .inl ⟨rfl, rfl⟩
  · rw [if_neg e, if_neg e]
    exact h y
theorem Holds.isSome (h : Holds R t f) (x : Str) : (valV t x).isSome = (f x).isSome := by
  rcases h x with ⟨a, b⟩ | ⟨v, r, a, b, _⟩ <;> rw [a, b] <;> rfl
theorem Holds.mem (h : Holds R t f) : x ∈ t.map (·.1) ↔ (f x).isSome = true := by rw [mem_val, h.isSome]
theorem Holds.at (h : Holds R t f) (e : f x = some r) : ∃ v, valV t x = some v ∧ R v r := by
  rcases h x with ⟨_, b⟩ | ⟨v, r', a, b, c⟩
  · rw [e] at b; cases b
  · rw [e] at b
    cases b
    exact ⟨v, a, c⟩
theorem Holds.at' (h : Holds R t f) (e : valV t x = some v) : ∃ r, f x = some r ∧ R v r := by
  rcases h x with ⟨a, _⟩ | ⟨v', r, a, b, c⟩
  · rw [e] at a; cases a
  · rw [e] at a
    cases a
    exact ⟨r, b, c⟩
theorem Holds.nil_iff (h : Holds R t f) : t = [] ↔ ∀ x, f x = none := by
  constructor
  · intro e x
    rcases h x with ⟨_, b⟩ | ⟨v, r, a, _, _⟩
    · exact b
    · rw [e] at a; cases a
  · intro e
    cases t with
    | nil => rfl
    | cons p l =>
      rcases h p.1 with ⟨a, _⟩ | ⟨v, r, _, b, _⟩
      · rw [show p = (p.1, p.2) from rfl, valV_pos rfl] at a; cases a
      · rw [e] at b; cases b
/-- picked by keys -/
theorem Holds.sel (h : Holds R t f) {ys : List Str} {g : Mp α} (hg : ∀ x, g x = if x ∈ ys then f x else none) (hs : ∀ y ∈ ys, y ∈ t.map (·.1)) : Holds R (ys.map fun y => (y, (valV t y).getD .non)) g := fun x => by
  rw [val_keys, hg]
  by_cases e : x ∈ ys
  · rw [if_pos e, if_pos e]
    rcases h x with ⟨a, b⟩ | ⟨v, r, a, b, c⟩
    · have := mem_val.mp (hs x e)
      rw [a] at this
      cases this
    · rw [a]
      exact .inr ⟨v, r, rfl, b, c⟩
  · rw [if_neg e, if_neg e]
    exact .inl ⟨rfl, rfl⟩
/-- all of it, in another order -/
theorem Holds.perm (h : Holds R t f) {ys : List Str} (hp : ys.Perm (t.map (·.1))) : Holds R (ys.map fun y => (y, (valV t y).getD .non)) f := by
  refine h.sel (fun x => ?_) fun y hy => hp.mem_iff.mp hy
  by_cases e : x ∈ ys
  · rw [if_pos e]
  · rw [if_neg e]
    cases q : f x with
    | none => rfl
    | some r => exact absurd (hp.mem_iff.mpr (h.mem.mpr (by rw [q]; rfl))) e
/-- made anew by keys -/
theorem holds_by {ys : List Str} {vf : Str → V} {g : Mp α} (hg : ∀ y ∈ ys, ∃ r, g y = some r ∧ R (vf y) r) (hn : ∀ y, y ∉ ys → g y = none) : Holds R (ys.map fun y => (y, vf y)) g := fun x => by
  rw [val_keys]
  by_cases e : x ∈ ys
  · rw [if_pos e]
    obtain ⟨r, a, b⟩ := hg x e
    exact .inr ⟨_, r, rfl, a, b⟩
  · rw [if_neg e]
    exact .inl ⟨rfl, hn x e⟩
theorem nd_by {ys : List Str} (h : ys.Nodup) (vf : Str → V) : Nd (ys.map fun y => (y, vf y)) := by
  unfold Nd
  rw [List.map_map]
  have : ((fun p : Str × V => p.1) ∘ fun y => (y, vf y)) = id := rfl
  rw [this, List.map_id]
  exact h
/-- one table taken into another -/
theorem merge_any (t u : Tab) : ∃ m : Tab, mergeK (kT t) (kT u) = kT m ∧ (Nd t → Nd m) ∧ m.length ≤ t.length + u.length ∧ ∀ x, Nd u → valV m x = (valV u x).or (valV t x) := by
  induction u generalizing t with
  | nil => exact ⟨t, rfl, id, Nat.le_refl _, fun x _ => rfl⟩
  | cons p l ih =>
    obtain ⟨m, e, n, len, vl⟩ := ih (putK t p.1 p.2)
    refine ⟨m, ?_, fun h => n (nd_put h _ _), ?_, fun x hu => ?_⟩
    · show mergeK (putK (kT t) (.inr p.1) p.2) (kT l) = _
      rw [putK_kT, e]
    · have := length_putK t p.1 p.2
      rw [List.length_cons]
      omega
    · obtain ⟨h1, h2⟩ := List.nodup_cons.mp (show ((p :: l).map (·.1)).Nodup from hu)
      rw [vl x h2, val_putK]
      by_cases e : p.1 = x
      · have nl : valV l x = none := by
          cases c : valV l x with
          | none => rfl
          | some w => exact absurd (show p.1 ∈ l.map (·.1) by rw [e]; exact valV_in c) h1
        rw [nl, if_pos e.symm, show p = (p.1, p.2) from rfl, valV_pos e]
        rfl
      · rw [if_neg (fun z => e z.symm), valV_neg e]
theorem Holds.merge (h : Holds R t f) (k : Holds R u g) (nt : Nd t) (nu : Nd u) : ∃ m : Tab, mergeK (kT t) (kT u) = kT m ∧ Nd m ∧ m.length ≤ t.length + u.length ∧ Holds R m (orM f g) := by
  obtain ⟨m, e, n, len, vl⟩ := merge_any t u
  refine ⟨m, e, n nt, len, fun x => ?_⟩
  rw [vl x nu]
  unfold orM
  rcases k x with ⟨a, b⟩ | ⟨v, r, a, b, c⟩
  · rw [a, b]
    exact h x
  · rw [a, b]
    exact .inr ⟨v, r, rfl, rfl, c⟩
/-! ### as data -/
def dataM (dat : α → PyData) (t : Tab) (f : Mp α) : List (Key × PyData) := (t.map (·.1)).map fun y => ((.inr y : Key), ((f y).map dat).getD .none)
theorem Holds.dd {K : PySem.W.Frag} {H : Hp} {dat : α → PyData} (hd : ∀ v r, R v r → Dp K H v (dat r)) (nt : Nd t) (h : Holds R t f) : DD K H (kT t) (dataM dat t f) := by
  have key : ∀ l : Tab, (∀ p ∈ l, ∃ r, f p.1 = some r ∧ R p.2 r) → DD K H (kT l) (dataM dat l f) := by
    intro l
    induction l with
    | nil => intro _; exact .nil
    | cons p l ih =>
      intro hl
      obtain ⟨r, a, b⟩ := hl p List.mem_cons_self
      refine .cons ⟨rfl, ?_⟩ (ih fun q hq => hl q (List.mem_cons_of_mem _ hq))
      show Dp K H p.2 (((f p.1).map dat).getD .none)
      rw [a]
      exact hd _ _ b
  refine key t fun p hp => ?_
  have e : valV t p.1 = some p.2 := by
    clear key h
    induction t with
    | nil => cases hp
    | cons q l ih =>
      obtain ⟨h1, h2⟩ := List.nodup_cons.mp (show ((q :: l).map (·.1)).Nodup from nt)
      rcases List.mem_cons.mp hp with z | z
      · rw [z, show q = (q.1, q.2) from rfl, valV_pos rfl]
      · rw [valV_neg (fun e => h1 (by dsimp only; rw [e]; exact List.mem_map.mpr ⟨p, z, rfl⟩))]
        exact ih h2 z
  exact h.at' e
theorem valD_data (dat : α → PyData) (t : Tab) (f : Mp α) (x : Str) : valD (dataM dat t f) (.inr x) = if x ∈ t.map (·.1) then some (((f x).map dat).getD .none) else none := by
  unfold dataM
  generalize t.map (·.1) = ys
  induction ys with
  | nil => rfl
  | cons y l ih =>
    rw [List.map_cons]
    by_cases e : y = x
    · rw [valD_pos (by rw [e]), if_pos (by rw [e]; exact List.mem_cons_self), e]
    · rw [valD_neg (fun z => e (Sum.inr.inj z)), ih]
      by_cases m : x ∈ l
      · rw [if_pos m, if_pos (List.mem_cons_of_mem _ m)]
      · rw [if_neg m, if_neg (fun z => (List.mem_cons.mp z).elim (fun q => e q.symm) m)]
theorem eqv_data {dat : α → PyData} (inj : ∀ a b, PyData.eqv (dat a) (dat b) = true ↔ a = b) (h : Holds R t f) (k : Holds R u g) (nt : Nd t) (nu : Nd u) : eqvDict (dataM dat t f) (dataM dat u g) = true ↔ f = g := by
  have lt : (dataM dat t f).length = t.length := by unfold dataM; rw [List.length_map, List.length_map]
  have lu : (dataM dat u g).length = u.length := by unfold dataM; rw [List.length_map, List.length_map]
  unfold eqvDict
  rw [Bool.and_eq_true, decide_eq_true_eq, lt, lu, List.all_eq_true]
  constructor
  · rintro ⟨hl, ha⟩
    have sub : ∀ x r, f x = some r → g x = some r := fun x r e => by
      have m : x ∈ t.map (·.1) := h.mem.mpr (by rw [e]; rfl)
      have q := ha ((.inr x : Key), dat r) (by
        unfold dataM
        exact List.mem_map.mpr ⟨x, m, by rw [e]; rfl⟩)
      unfold hitD at q
      rw [valD_data] at q
      by_cases m2 : x ∈ u.map (·.1)
      · rw [if_pos m2] at q
        have z := k.mem.mp m2
        cases y : g x with
        | none => rw [y] at z; cases z
        | some r' =>
          rw [y] at q
          rw [(inj r r').mp q]
      · rw [if_neg m2] at q
        cases q
    have ks : (t.map (·.1)).Perm (u.map (·.1)) := by
      have s1 : ∀ x ∈ t.map (·.1), x ∈ u.map (·.1) := fun x hx => by
        have z := h.mem.mp hx
        cases y : f x with
        | none => rw [y] at z; cases z
        | some r => exact k.mem.mpr (by rw [sub x r y]; rfl)
      exact perm_of_sub nt s1 (by rw [List.length_map, List.length_map]; omega)
    funext x
    cases y : f x with
    | some r => exact (sub x r y).symm
    | none =>
      cases z : g x with
      | none => rfl
      | some r =>
        have := h.mem.mp (ks.mem_iff.mpr (k.mem.mpr (by rw [z]; rfl)))
        rw [y] at this
        cases this
  · intro e
    subst e
    have ks : (t.map (·.1)).Perm (u.map (·.1)) := (List.perm_ext_iff_of_nodup nt nu).mpr fun x => by rw [h.mem, k.mem]
    refine ⟨by have := ks.length_eq; rwa [List.length_map, List.length_map] at this, fun p hp => ?_⟩
    unfold dataM at hp
    obtain ⟨x, hx, rfl⟩ := List.mem_map.mp hp
    unfold hitD
    rw [valD_data, if_pos (ks.mem_iff.mp hx)]
    have z := h.mem.mp hx
    cases y : f x with
    | none => rw [y] at z; cases z
    | some r => exact (inj r r).mpr rfl
end
/-! ### tables made with values that are new -/
theorem paired_keys {α : Type} {kf : α → Str} {R : V → α → Prop} : ∀ {tab : Tab} {us : List α}, Paired (fun e u => e.1 = kf u ∧ R e.2 u) tab us → tab.map (·.1) = us.map kf
  | _, _, .nil => rfl
  | _, _, .cons h r => by rw [List.map_cons, List.map_cons, h.1, paired_keys r]
theorem paired_snoc {α : Type} {R : Str × V → α → Prop} {e : Str × V} {u : α} (h : R e u) : ∀ {tab : Tab} {us : List α}, Paired R tab us → Paired R (tab ++ [e]) (us ++ [u])
  | _, _, .nil => .cons h .nil
  | _, _, .cons a r => .cons a (paired_snoc h r)
theorem holds_paired {α β : Type} {kf : α → Str} {rf : α → β} {R : V → β → Prop} {g : Mp β} : ∀ {tab : Tab} {us : List α}, Paired (fun e u => e.1 = kf u ∧ R e.2 (rf u)) tab us → (us.map kf).Nodup → (∀ u ∈ us, g (kf u) = some (rf u)) → (∀ x, x ∉ us.map kf → g x = none) → Holds R tab g
  | _, _, .nil, _, _, hn => fun x => .inl ⟨rfl, hn x (by simp)⟩
  | _, _, .cons (a := e) (b := u) (l₂ := us) ⟨h1, h2⟩ r, nd, hg, hn => fun x => by
    obtain ⟨n1, n2⟩ := List.nodup_cons.mp (show (kf u :: us.map kf).Nodup from nd)
    by_cases c : e.1 = x
    · refine .inr ⟨e.2, rf u, valV_pos c, ?_, h2⟩
      rw [← c, h1]
      exact hg u List.mem_cons_self
    · rw [valV_neg c]
      have ih := holds_paired (g := fun y => if y = kf u then none else g y) r n2 (fun w hw => by
        rw [if_neg (fun z => n1 (by rw [← z]; exact List.mem_map.mpr ⟨w, hw, rfl⟩))]
        exact hg w (List.mem_cons_of_mem _ hw)) (fun y hy => by
          by_cases z : y = kf u
          · rw [if_pos z]
          · rw [if_neg z]
            exact hn y fun q => (List.mem_cons.mp q).elim z hy) x
      dsimp only at ih
      rw [if_neg (fun z => c (by rw [h1, z]))] at ih
      exact ih
section
variable {α β : Type} {J : It} {us : List α} {val : α → V} {G : Hp → Prop} {H1 : Hp} {D : Addr} {σ : L2.St} {vs : List Nat} {g : TG} {tt : TT} {tk tv : TE} {Q : Hp → Prop}
theorem dc_hold (Y : Yields J (us.map val) G) (kf : α → Str) (R : Hp → V → β → Prop) (rf : α → β) (p : α → Bool) (σf : α → L2.St) (hD1 : H1 D = none) (hG : ∀ H, Same H1 H → G H) (hw : ∀ u ∈ us, wipe (σf u) vs = wipe σ vs)
    (hg : ∀ H u, Same H1 H → u ∈ us → ∀ (S : L2.St → Hp → Prop), S (σf u) H → g (val u) (wipe σ vs) H S)
    (ht : ∀ H u, Same H1 H → u ∈ us → ∀ (S : Bool → Hp → Prop), (∀ H3, Same H H3 → S (p u) H3) → tt (σf u) H S)
    (hk : ∀ H u, Same H1 H → u ∈ us → p u = true → ∀ (S : VK), (∀ H3, Same H H3 → S (.str (kf u)) H3) → tk (σf u) H S)
    (mono : ∀ H H' v r, TupKeep H H' → R H v r → R H' v r)
    (hv : ∀ H u, Same H1 H → u ∈ us → p u = true → ∀ (S : VK), (∀ v H3, Same H H3 → R H3 v (rf u) → S v H3) → tv (σf u) H S)
    (hl : us.length ≤ 1000000) (nd : (us.map kf).Nodup) (hd : ∀ H tab, Same H1 H → H D = some (.dK (kT tab)) → Paired (fun e u => e.1 = kf u ∧ R H e.2 (rf u)) tab (us.filter p) → Q H) :
    ∃ W : Nat → Nat → Hp → Prop, (∃ m, W 0 m (upd H1 D (.dK []))) ∧ ∀ k m H, W k m H →
      (J.stop k H ∧ Q H) ∨ (J.go k H ∧ ∃ Nx : Hp → Prop, (∀ H', Nx H' → ∃ m', m' < m ∧ W (k + 1) m' H') ∧ ∀ x H', J.yld k H x H' → g x (wipe σ vs) H' fun σ2 H2 => wipe σ2 vs = wipe σ vs ∧ tt σ2 H2 fun b H3 =>
        if b = true then tk σ2 H3 fun y H4 => tv σ2 H4 fun z H5 => ∃ kvs key, y = kV key ∧ H5 D = some (.dK kvs) ∧ kvs.length < sizeLine ∧ Nx (upd H5 D (.dK (putK kvs key z))) else Nx H3) := by
  refine dcG Y (fun k kvs H => Same H1 H ∧ ∃ tab, kvs = kT tab ∧ Paired (fun e u => e.1 = kf u ∧ R H e.2 (rf u)) tab ((us.take k).filter p)) (fun k acc H h _ => hG H h.1) ⟨same_new hD1, [], rfl, .nil⟩ (fun k kvs H x hI hD hx hacc hk' => ?_) (by rw [List.length_map]; exact hl) (fun acc H hI hD _ => ?_)
  · obtain ⟨sm, tab, ea, pr⟩ := hI
    rw [List.getElem?_map] at hx
    cases hu : us[k]? with
    | none => rw [hu] at hx; cases hx
    | some u =>
      rw [hu] at hx
      cases hx
      have hm : u ∈ us := List.mem_of_getElem? hu
      have et : us.take (k + 1) = us.take k ++ [u] := by
        rw [List.take_add_one, hu]
        rfl
      refine hg H u sm hm _ ⟨hw u hm, ht H u sm hm _ fun H3 s3 => ?_⟩
      by_cases hp : p u = true
      · rw [if_pos hp]
        refine hk H3 u (sm.trans s3) hm hp _ fun H4 s4 => hv H4 u ((sm.trans s3).trans s4) hm hp _ fun v H5 s5 rv => ?_
        have s35 := (s3.trans s4).trans s5
        have new : valV tab (kf u) = none := by
          cases c : valV tab (kf u) with
          | none => rfl
          | some z =>
            have m := valV_in c
            rw [paired_keys (R := fun v u => R H v (rf u)) pr] at m
            obtain ⟨w, hw', ew⟩ := List.mem_map.mp m
            have e : us = us.take k ++ (u :: us.drop (k + 1)) := by
              conv => lhs; rw [← List.take_append_drop (k + 1) us, et, List.append_assoc]
              rfl
            rw [e, List.map_append] at nd
            exact absurd ew ((List.nodup_append.mp nd).2.2 (kf w) (List.mem_map.mpr ⟨w, (List.mem_filter.mp hw').1, rfl⟩) (kf u) List.mem_cons_self)
        refine dc_take (key := .inr (kf u)) (s35 _ _ hD) hacc hk' ⟨same_mut (sm.trans s35) hD1, tab ++ [(kf u, v)], ?_, ?_⟩
        · rw [ea, putK_kT, putK_new _ new]
        · have k1 : TupKeep H5 (upd H5 D (.dK (putK kvs (.inr (kf u)) v))) := TupKeep.at fun xs z => by rw [s35 _ _ hD] at z; cases z
          have k2 : TupKeep H (upd H5 D (.dK (putK kvs (.inr (kf u)) v))) := (TupKeep.of s35).trans k1
          rw [et, List.filter_append, List.filter_cons, hp]
          exact paired_snoc (R := fun e u => e.1 = kf u ∧ R _ e.2 (rf u)) ⟨rfl, mono _ _ _ _ k1 rv⟩ (Paired.mapP pr fun e w ⟨a, b⟩ => ⟨a, mono _ _ _ _ k2 b⟩)
      · rw [if_neg hp]
        refine dc_skip (s3 _ _ hD) hacc ⟨sm.trans s3, tab, ea, ?_⟩
        rw [et, List.filter_append, List.filter_cons, if_neg hp]
        simp only [List.filter_nil, List.append_nil]
        exact Paired.mapP pr fun e w ⟨a, b⟩ => ⟨a, mono _ _ _ _ (TupKeep.of s3) b⟩
  · obtain ⟨sm, tab, ea, pr⟩ := hI
    rw [List.length_map, List.take_length] at pr
    rw [ea] at hD
    exact hd H tab sm hD pr
end
section
variable {α β : Type} {J : It} {us : List α} {G : Hp → Prop} {H1 : Hp} {D : Addr} {σ : L2.St} {vs : List Nat} {g : TG} {tt : TT} {tk tv : TE} {Q : Hp → Prop}
/-- .. over things that are new at each turn -/
theorem dc_holdS (hgo : ∀ k H, G H → k < us.length → J.go k H) (hstop : ∀ H, G H → J.stop us.length H) (kf : α → Str) (R : Hp → V → β → Prop) (rf : α → β) (p : α → Bool) (σf : α → L2.St) (hD1 : H1 D = none) (hG : ∀ H, Same H1 H → G H) (hw : ∀ u ∈ us, wipe (σf u) vs = wipe σ vs)
    (hg : ∀ k H u x H', Same H1 H → us[k]? = some u → J.yld k H x H' → Same H H' ∧ ∀ (S : L2.St → Hp → Prop), S (σf u) H' → g x (wipe σ vs) H' S)
    (ht : ∀ H u, Same H1 H → u ∈ us → ∀ (S : Bool → Hp → Prop), (∀ H3, Same H H3 → S (p u) H3) → tt (σf u) H S)
    (hk : ∀ H u, Same H1 H → u ∈ us → p u = true → ∀ (S : VK), (∀ H3, Same H H3 → S (.str (kf u)) H3) → tk (σf u) H S)
    (mono : ∀ H H' v r, TupKeep H H' → R H v r → R H' v r)
    (hv : ∀ H u, Same H1 H → u ∈ us → p u = true → ∀ (S : VK), (∀ v H3, Same H H3 → R H3 v (rf u) → S v H3) → tv (σf u) H S)
    (hl : us.length ≤ 1000000) (nd : (us.map kf).Nodup) (hd : ∀ H tab, Same H1 H → H D = some (.dK (kT tab)) → Paired (fun e u => e.1 = kf u ∧ R H e.2 (rf u)) tab (us.filter p) → Q H) :
    ∃ W : Nat → Nat → Hp → Prop, (∃ m, W 0 m (upd H1 D (.dK []))) ∧ ∀ k m H, W k m H →
      (J.stop k H ∧ Q H) ∨ (J.go k H ∧ ∃ Nx : Hp → Prop, (∀ H', Nx H' → ∃ m', m' < m ∧ W (k + 1) m' H') ∧ ∀ x H', J.yld k H x H' → g x (wipe σ vs) H' fun σ2 H2 => wipe σ2 vs = wipe σ vs ∧ tt σ2 H2 fun b H3 =>
        if b = true then tk σ2 H3 fun y H4 => tv σ2 H4 fun z H5 => ∃ kvs key, y = kV key ∧ H5 D = some (.dK kvs) ∧ kvs.length < sizeLine ∧ Nx (upd H5 D (.dK (putK kvs key z))) else Nx H3) := by
  let In : Nat → Hp → Prop := fun k H => Same H1 H ∧ ∃ tab, H D = some (.dK (kT tab)) ∧ tab.length ≤ k ∧ Paired (fun e u => e.1 = kf u ∧ R H e.2 (rf u)) tab ((us.take k).filter p)
  refine ⟨fun k m H => m = us.length - k ∧ k ≤ us.length ∧ In k H, ⟨us.length, rfl, Nat.zero_le _, same_new hD1, [], upd_same, Nat.zero_le _, .nil⟩, ?_⟩
  rintro k m H ⟨rfl, hk', sm, tab, hD, ltab, pr⟩
  by_cases hlt : k < us.length
  · refine .inr ⟨hgo k H (hG _ sm) hlt, In (k + 1), fun H' q => ⟨us.length - (k + 1), by omega, rfl, hlt, q⟩, fun x H' y => ?_⟩
    obtain ⟨u, hu⟩ : ∃ u, us[k]? = some u := ⟨us[k], List.getElem?_eq_getElem hlt⟩
    have hm : u ∈ us := List.mem_of_getElem? hu
    have et : us.take (k + 1) = us.take k ++ [u] := by
      rw [List.take_add_one, hu]
      rfl
    obtain ⟨s0, gg⟩ := hg k H u x H' sm hu y
    refine gg _ ⟨hw u hm, ht H' u (sm.trans s0) hm _ fun H3 s3 => ?_⟩
    have s03 := s0.trans s3
    by_cases hp : p u = true
    · rw [if_pos hp]
      refine hk H3 u (sm.trans s03) hm hp _ fun H4 s4 => hv H4 u ((sm.trans s03).trans s4) hm hp _ fun v H5 s5 rv => ?_
      have s35 := (s03.trans s4).trans s5
      have new : valV tab (kf u) = none := by
        cases c : valV tab (kf u) with
        | none => rfl
        | some z =>
          have m := valV_in c
          rw [paired_keys (R := fun v u => R H v (rf u)) pr] at m
          obtain ⟨w, hw', ew⟩ := List.mem_map.mp m
          have e : us = us.take k ++ (u :: us.drop (k + 1)) := by
            conv => lhs; rw [← List.take_append_drop (k + 1) us, et, List.append_assoc]
            rfl
          rw [e, List.map_append] at nd
          exact absurd ew ((List.nodup_append.mp nd).2.2 (kf w) (List.mem_map.mpr ⟨w, (List.mem_filter.mp hw').1, rfl⟩) (kf u) List.mem_cons_self)
      have k1 : TupKeep H5 (upd H5 D (.dK (putK (kT tab) (.inr (kf u)) v))) := TupKeep.at fun xs z => by rw [s35 _ _ hD] at z; cases z
      have k2 : TupKeep H (upd H5 D (.dK (putK (kT tab) (.inr (kf u)) v))) := (TupKeep.of s35).trans k1
      refine ⟨kT tab, .inr (kf u), rfl, s35 _ _ hD, small_lt (by rw [len_kT]; omega), same_mut (sm.trans s35) hD1, tab ++ [(kf u, v)], ?_, by rw [List.length_append]; show _ + 1 ≤ _; omega, ?_⟩
      · rw [upd_same, putK_kT, putK_new _ new]
      · rw [et, List.filter_append, List.filter_cons, hp]
        exact paired_snoc (R := fun e u => e.1 = kf u ∧ R _ e.2 (rf u)) ⟨rfl, mono _ _ _ _ k1 rv⟩ (Paired.mapP pr fun e w ⟨a, b⟩ => ⟨a, mono _ _ _ _ k2 b⟩)
    · rw [if_neg hp]
      refine ⟨sm.trans s03, tab, s03 _ _ hD, by omega, ?_⟩
      rw [et, List.filter_append, List.filter_cons, if_neg hp]
      simp only [List.filter_nil, List.append_nil]
      exact Paired.mapP pr fun e w ⟨a, b⟩ => ⟨a, mono _ _ _ _ (TupKeep.of s03) b⟩
  · have e : k = us.length := by omega
    subst e
    rw [List.take_length] at pr
    exact .inl ⟨hstop H (hG _ sm), hd H tab sm hD pr⟩
end
end Fk

set_option maxHeartbeats 4000000
/-! Values of files and rows of changes: what they are, where they stand. -/
namespace Fk
open PySem PySem.Spec PyProof.Rows L2
/-- a file's value, or that there is none -/
abbrev Fv := Option (Str × Str)
abbrev Rw := Fv × Fv
def fvD : Fv → PyData
  | none => .none
  | some p => .tuple [.str p.1, .str p.2]
def rwD (r : Rw) : PyData := .tuple [fvD r.1, fvD r.2]
def FKS : List Str := ["file", "exec"]
section
variable {K : PySem.W.Frag} {H H' : Hp}
def FvV (K : PySem.W.Frag) (H : Hp) (v : V) : Fv → Prop
  | none => v = .non
  | some p => ∃ q, v = .ref q ∧ TupK K H q [.str p.1, .str p.2]
def RwV (K : PySem.W.Frag) (H : Hp) (v : V) (r : Rw) : Prop := ∃ q v1 v2, v = .ref q ∧ TupK K H q [v1, v2] ∧ FvV K H v1 r.1 ∧ FvV K H v2 r.2
theorem FvV.keep {v : V} {f : Fv} (h : FvV K H v f) (k : TupKeep H H') : FvV K H' v f := by
  cases f with
  | none => exact h
  | some p =>
    obtain ⟨q, e, t⟩ := h
    exact ⟨q, e, t.keep k⟩
theorem RwV.keep {v : V} {r : Rw} (h : RwV K H v r) (k : TupKeep H H') : RwV K H' v r := by
  obtain ⟨q, v1, v2, e, t, a, b⟩ := h
  exact ⟨q, v1, v2, e, t.keep k, a.keep k, b.keep k⟩
theorem FvV.dp {v : V} {f : Fv} (h : FvV K H v f) : Dp K H v (fvD f) := by
  cases f with
  | none =>
    obtain rfl : v = .non := h
    exact .non
  | some p =>
    obtain ⟨q, rfl, t⟩ := h
    exact dp_head t
theorem RwV.dp {v : V} {r : Rw} (h : RwV K H v r) : Dp K H v (rwD r) := by
  obtain ⟨q, v1, v2, rfl, t, a, b⟩ := h
  exact .tup t.sq (.cons a.dp (.cons b.dp .nil))
def GoodF (f : Fv) : Prop := ∀ p, f = some p → p.1 ∈ FKS ∧ isIdF p.2 = true
def GoodR (r : Rw) : Prop := GoodF r.1 ∧ GoodF r.2
theorem ok_fks : ∀ x ∈ FKS, OkS x := by
  intro x hx
  simp only [FKS, List.mem_cons, List.not_mem_nil, or_false] at hx
  rcases hx with rfl | rfl <;> exact ok_by (by decide +kernel)
theorem ok_idF {x : Str} (h : isIdF x = true) : OkS x ∧ x.length = 16 := by
  unfold isIdF at h
  obtain ⟨h1, h2⟩ := Bool.and_eq_true_iff.mp h
  refine ⟨fun u hu => ?_, of_decide_eq_true h1⟩
  unfold hasOnly at h2
  have := List.all_eq_true.mp h2 u hu
  exact ok_hex u (of_decide_eq_true this)
theorem lay_fv {f : Fv} (h : GoodF f) : PyData.canLay0 (fvD f) = true := by
  cases f with
  | none => rfl
  | some p =>
    obtain ⟨h1, h2⟩ := h p rfl
    show PyData.canLayAll0 ([p.1, p.2].map PyData.str) = true
    exact lay_strs _ fun y hy => by
      simp only [List.mem_cons, List.not_mem_nil, or_false] at hy
      rcases hy with rfl | rfl
      · exact ok_fks _ h1
      · exact (ok_idF h2).1
theorem depth_fv (f : Fv) : PyData.depth (fvD f) ≤ 1 := by
  cases f with
  | none => exact Nat.zero_le _
  | some p => exact Nat.le_refl _
end
theorem shaped_fv {f : Fv} (h : GoodF f) : SeqAt.shaped (fvD f) = true := by
  unfold SeqAt.shaped
  rw [lay_fv h, Bool.true_and]
  exact decide_eq_true (Nat.le_trans (depth_fv f) (by decide))
theorem shaped_rw {r : Rw} (h : GoodR r) : SeqAt.shaped (rwD r) = true := by
  unfold SeqAt.shaped rwD
  have d1 := depth_fv r.1
  have d2 := depth_fv r.2
  have c : PyData.canLay0 (.tuple [fvD r.1, fvD r.2]) = true := by
    simp only [PyData.canLay0, PyData.canLayAll0, lay_fv h.1, lay_fv h.2, Bool.and_self]
  rw [c, Bool.true_and]
  refine decide_eq_true ?_
  show PyData.depthAll [fvD r.1, fvD r.2] + 1 ≤ 64
  simp only [PyData.depthAll]
  omega
theorem eqv_fv (a b : Fv) : PyData.eqv (fvD a) (fvD b) = decide (a = b) := by
  cases a with
  | none => cases b <;> rfl
  | some p =>
    cases b with
    | none => rfl
    | some q =>
      show PyData.eqv (.tuple [.str p.1, .str p.2]) (.tuple [.str q.1, .str q.2]) = _
      rw [eqv_head]
      refine decide_eq_decide.mpr ⟨fun h => ?_, fun h => ?_⟩
      · rw [show p = (p.1, p.2) from rfl, show q = (q.1, q.2) from rfl, h]
      · cases h
        rfl
theorem eqv_rw (a b : Rw) : PyData.eqv (rwD a) (rwD b) = decide (a = b) := by
  show PyData.eqvAll [fvD a.1, fvD a.2] [fvD b.1, fvD b.2] = _
  simp only [PyData.eqvAll, eqv_fv, Bool.and_true]
  rw [Bool.eq_iff_iff, Bool.and_eq_true, decide_eq_true_eq, decide_eq_true_eq, decide_eq_true_eq]
  exact ⟨fun ⟨x, y⟩ => Prod.ext x y, fun e => by rw [e]; exact ⟨rfl, rfl⟩⟩
/-- a path that may stand in files and changes -/
def PathOk (x : Str) : Prop := isPathF x = true ∧ x.length ≤ 1000 ∧ OkS x
/-- rows by paths, each as it should be -/
structure RowsOk (n : Nat) (t : Tab) (m : Mp Rw) : Prop where
  nd : Nd t
  len : t.length ≤ n
  path : ∀ x ∈ t.map (·.1), PathOk x
  good : ∀ x r, m x = some r → GoodR r
/-- a dict of rows at e -/
def RowsAt (K : PySem.W.Frag) (H : Hp) (e : Addr) (n : Nat) (m : Mp Rw) : Prop := ∃ t, H e = some (.dK (kT t)) ∧ Holds (RwV K H) t m ∧ RowsOk n t m
/-- a change at a, its dict at d, the rows in order -/
def ChAt (K : PySem.W.Frag) (C : Addr) (H : Hp) (a dx d : Addr) (n : Nat) (m : Mp Rw) : Prop := H a = some (.ins C dx [("_rows", .ref d)]) ∧ ∃ t, H d = some (.dK (kT t)) ∧ Holds (RwV K H) t m ∧ RowsOk n t m ∧ sortedS (t.map (·.1)) = true
section
variable {K : PySem.W.Frag} {H H' : Hp} {n : Nat} {m : Mp Rw} {C e a dx d : Addr}
theorem RowsAt.same (h : RowsAt K H e n m) (s : Same H H') : RowsAt K H' e n m := by
  obtain ⟨t, h1, h2, h3⟩ := h
  exact ⟨t, s _ _ h1, h2.imp fun _ _ x => x.keep (TupKeep.of s), h3⟩
theorem ChAt.same (h : ChAt K C H a dx d n m) (s : Same H H') : ChAt K C H' a dx d n m := by
  obtain ⟨h0, t, h1, h2, h3⟩ := h
  exact ⟨s _ _ h0, t, s _ _ h1, h2.imp fun _ _ x => x.keep (TupKeep.of s), h3⟩
theorem RowsOk.mono {t : Tab} {n' : Nat} (h : RowsOk n t m) (l : n ≤ n') : RowsOk n' t m := ⟨h.nd, Nat.le_trans h.len l, h.path, h.good⟩
theorem RowsOk.shaped {t : Tab} (h : RowsOk n t m) (hh : Holds (RwV K H) t m) : shapedAll (dataM rwD t m) := fun p hp => by
  unfold dataM at hp
  obtain ⟨x, hx, rfl⟩ := List.mem_map.mp hp
  have z := hh.mem.mp hx
  cases y : m x with
  | none => rw [y] at z; cases z
  | some r => exact shaped_rw (h.good x r y)
theorem rows_eq {b : Addr} {t u : Tab} {n' : Nat} {f g : Mp Rw} {Q : VK} {c : Bool} (ha : H a = some (.dK (kT t))) (hb : H b = some (.dK (kT u))) (h : Holds (RwV K H) t f) (k : Holds (RwV K H) u g) (ho : RowsOk n t f) (ko : RowsOk n' u g) (hc : c = true ↔ f = g) (q : Q (.bl c) H) : rEqDD K (.ref a) (.ref b) H Q := by
  refine ⟨a, b, dataM rwD t f, dataM rwD u g, rfl, rfl, ⟨_, ha, h.dd (fun _ _ x => x.dp) ho.nd⟩, ⟨_, hb, k.dd (fun _ _ x => x.dp) ko.nd⟩, ho.shaped h, ko.shaped k, ?_⟩
  have e : eqvDict (dataM rwD t f) (dataM rwD u g) = c := by
    rw [Bool.eq_iff_iff, eqv_data (fun a b => by rw [eqv_rw, decide_eq_true_eq]) h k ho.nd ko.nd, hc]
  rw [e]
  exact q
end
/-! ### == and != of values -/
def rEqFv (K : PySem.W.Frag) : R2 := fun x y H Q => ∃ f g, FvV K H x f ∧ FvV K H y g ∧ GoodF f ∧ GoodF g ∧ Q (.bl (decide (f = g))) H
def rNeFv (K : PySem.W.Frag) : R2 := fun x y H Q => ∃ f g, FvV K H x f ∧ FvV K H y g ∧ GoodF f ∧ GoodF g ∧ Q (.bl (!decide (f = g))) H
theorem op_eqFv {X : Cx} {K : PySem.W.Frag} (e : X.K = K) (hu : X.A.units + 64 < cLine) : OpR X (compareOp .Eq) (rEqFv K) := fun pn s σ H x y v u Q I rx ry h => by
  subst e
  obtain ⟨f, g, a, b, gf, gg, q⟩ := h
  exact op_eqD hu pn s σ H x y v u Q I rx ry ⟨_, _, a.dp, b.dp, shaped_fv gf, shaped_fv gg, by rw [eqv_fv]; exact q⟩
theorem op_neFv {X : Cx} {K : PySem.W.Frag} (e : X.K = K) (hu : X.A.units + 64 < cLine) : OpR X (compareOp .NotEq) (rNeFv K) := fun pn s σ H x y v u Q I rx ry h => by
  subst e
  obtain ⟨f, g, a, b, gf, gg, q⟩ := h
  exact op_neD hu pn s σ H x y v u Q I rx ry ⟨_, _, a.dp, b.dp, shaped_fv gf, shaped_fv gg, by rw [eqv_fv]; exact q⟩
end Fk

set_option maxHeartbeats 4000000
/-! a def that makes lambdas (its code object known); a lambda handed to a def, by the def's name; the end with the tables of such defs. -/
namespace Fk
open PySem PySem.Spec PyProof.Rows L2 LamX
section
variable {P : Program} {w : World} {K : PySem.W.Frag} {mg : Str → Option Value} {base : Heap}
/-- a def of the module, its code object known -/
def IsDefC (K : PySem.W.Frag) (mg : Str → Option Value) (x : Str) (st : Stmt) (c : Addr) : Prop := ∃ f fd, C8.Def K mg x st f fd ∧ fd.defaults = .none ∧ fd.code = .ref c
theorem cal_ofC {x : Str} {st : Stmt} {N ps : List Str} {k : Nat} {sp : Sp} {c : Addr} (D : IsDefC K mg x st c) (S : FnScope N ps (C8.fnScope st))
    (hb : ∀ (kV doc pm : Value) (an : Option Addr) (cdv ct : Value) (us : List Value), us.length = ps.length → bindArgs (PySem.W.fnOf x x (C8.fnArgs st) (C8.fnBody st) (C8.fnScope st) .none kV doc pm an cdv ct) ⟨us, []⟩ = pure (ps.zip us))
    (len : ∀ vs H Q E, sp vs H Q E → vs.length = ps.length)
    (hbody : ∀ (f : Addr) (A : Around) (outer : List Env) (s : Shared) (H : Hp) (vs : List V) (Q : VK) (E : XK), Room k (A.deeper (envOfC x (C8.fnScope st) s.heap.objs.size f (.ref c))) → sp vs H Q E →
      ∃ t, PSs (cxOf C8.CX0 P w K mg base N x (C8.fnScope st) f (.ref c) A outer s H E).nox (C8.fnBody st) t ∧ t { nx := fun _ H' => Q .non H', rt := Q } (start N vs) H) : C8.Cal P w K mg base (k + 1) x sp [] := by
  obtain ⟨f, fd, D, df, dc⟩ := D
  obtain ⟨oc, od, dV, kV, doc, pm, an, cdv, ct, osl, rfl, lk, hcd⟩ := D.fn.ex
  have e : dV = .none := df
  subst e
  have e2 : cdv = .ref c := dc
  subst e2
  exact ⟨f, _, ps, [], fn_of lk hcd S len fun A outer s H vs Q E hr hsp => by
    obtain ⟨t, h, q⟩ := hbody f A outer s H vs Q E hr hsp
    exact ⟨t, h.nox, q⟩, D.mgf, D.kp, .all (hb kV doc pm an (.ref c) ct), .nil⟩
end
/-- what the lambda's body lets out, its caller is told of -/
theorem takes_lam {X : Cx} {A : Around} {outer : List Env} {s : Shared} {H : Hp} {E : XK} {scope : Scope} {f c' : Addr} : Takes (lamCx X A outer s H E scope f c') (fun cls d _ H' => E cls d H') :=
  takes_of rfl rfl rfl rfl
/-- where an error is let out, the names are as many as ever -/
theorem takes_len {X : Cx} {W : WX} (tk : Takes X W) : Takes X (fun cls d σ H => σ.length = X.N.length → W cls d σ H) := fun u s' ⟨a, B, sI, pins, σ, H, cls, d, e, I, nb, up, sky, na, os, ag, w⟩ =>
  tk u s' ⟨a, B, sI, pins, σ, H, cls, d, e, I, nb, up, sky, na, os, ag, w I.len⟩
section
variable {X : Cx}
/-- x(lambda: body), x a def of one parameter a -/
theorem pe_lamC {T : List (Addr × Str)} {TT : (XK → Hp → VK → Prop) → Hp → VK → Prop} {x a : Str} {st : Stmt} {c P : Addr} {k j : Nat} {Ng : List Str}
    {params : Arguments} {body : Expr} {scope : Scope} {t : XK → TE} {p lpos pos : Pos} (D : IsDef X.K X.mg x st) (Sg : FnScope Ng [a] (C8.fnScope st))
    (hb : ∀ (kV doc pm : Value) (an : Option Addr) (cdv ct : Value) (us : List Value), us.length = 1 → bindArgs (PySem.W.fnOf x x (C8.fnArgs st) (C8.fnBody st) (C8.fnScope st) .none kV doc pm an cdv ct) ⟨us, []⟩ = pure ([a].zip us))
    (hg : Gl X x) (hNg : Ng[0]? = some a) (hva : Vis (C8.fnScope st) a)
    (hG : ∀ (g : Addr) (cdg : Value), GivesTo X Ng x (C8.fnScope st) g cdg (C8.fnBody st) a (X.env.qual ++ "<lambda>") TT)
    (TB : TabB X.base X.mg c P) (hcode : X.env.code = .ref c) (hmT : (P, X.env.qual ++ "<lambda>") ∈ T) (hu : ∀ p ∈ T, p.1 = P → p.2 = X.env.qual ++ "<lambda>") (hr : Room j X.A) (hk : k + 2 ≤ j) (L : LamS X.env.scope scope) (hdef : defaultsOf params X.env = ([], []))
    (hbind : ∀ (q : Str) (cl : List (Str × Addr)) (pm cv ctv : Value), bindArgs (PySem.W.kla_fn "<lambda>" q params body scope cl pm cv ctv) ⟨[], []⟩ = pure [])
    (hbody : ∀ (A : Around) (outer : List Env) (s : Shared) (H : Hp) (E : XK) (f c' : Addr), Room k (A.deeper (lamEnv X scope s.heap.objs.size f c')) → PE (lamCx X A outer s H E scope f c') body (t E))
    (hdb : (x == ("__debug__" : Str)) = false := by decide) (hd : (a == ("__debug__" : Str)) = false := by decide) (hcd : (a == ("__classdict__" : Str)) = false := by decide) :
    PE X (.Call (.Name x p) [.Lambda params body scope lpos] [] pos) (tLam T TT t) := by
  obtain ⟨f, fd, D, df⟩ := D
  obtain ⟨oc, od, dV, kV, doc, pm, an, cdv, ct, osl, rfl, lk, hcg⟩ := D.fn.ex
  have e : dV = .none := df
  subst e
  exact pe_lamcall hg D.mgf D.kp lk hcg (.all (hb kV doc pm an cdv ct)) Sg hNg hva (hG f cdv) TB hcode hmT hu (hr.mono hk) L hdef hbind hbody hdb hd hcd
end
/-! ### the end -/
/-- the def y, its code object and its table -/
def TabD (mg : Str → Option Value) (h : Heap) (y : Str) (c P : Addr) : Prop := ∃ (a : Addr) (o : Obj) (fd : FuncData), mg y = some (.ref a) ∧ h.get? a = some o ∧ o.data = .func fd ∧ fd.code = .ref c ∧ PySem.W.CodeHd h c P ∧ h.get? P = some { cls := .none, data := .fields #[] }
theorem TabD.code {K : PySem.W.Frag} {mg : Str → Option Value} {h : Heap} {y : Str} {c P f : Addr} {fd : FuncData} {oc : Value} {od : Option Addr} {osl : Array (Option Value)} (t : TabD mg h y c P) (X : K.In h) (hm : mg y = some (.ref f)) (lk : K.lookup f = some ⟨oc, od, .func fd, osl⟩) : fd.code = .ref c := by
  obtain ⟨a, o, fd', h1, h2, h3, h4, _⟩ := t
  rw [hm] at h1
  cases h1
  have e := X _ _ lk
  rw [h2] at e
  cases e
  cases h3
  exact h4
theorem walk_ofTabs {l : PySem.W.OpenLaw} {n k : Nat} {q : Program} {loose : List Str} {XP : (Str → Option Value) → Heap → Prop} {YP : World → Heap → Prop} {d : DefRec} {K : Params → PySem.W.Frag} {CX : World → CXT} {x : Str} {ys : List Str}
    (hn : l.most = some n) (hn2 : n ≤ sizeLine) (hdf : d.params.defaults = []) (hr : Room k callerA) (hrec : ∀ y ∈ ys, ((recsOf q).any fun e => e.name == y) = true) (hY : ∀ (w : World) (h : Heap), YP w h → (K w.params).In h)
    (F : ∀ (w : World) (mg : Str → Option Value) (fa : Addr) (h : Heap), YP w h → (K w.params).In h → h.Ns mainGlobals mg → mg d.name = some (.ref fa) → (∀ y ∈ ys, ∃ c P, TabD mg h y c P) → LawAtS l w (K w.params) (CX w) k n x mg fa h)
    (hCX : ∀ (w : World) (H : Hp) (s : Shared) (e : Value) (s' : Shared), CX w [] H s (fun _ _ _ => False) e s' → False) :
    PySem.W.WalkO q loose XP YP l.row.toRowW d [] (fun f vs => PySem.call f vs) := by
  refine Att.attach_callB hn hdf fun w s₀ s₁ mg mb fa o pm cd doc a vs ns G Y ho hd hcd hmg hobj hints hlen hbits hg => ?_
  have KX := hY w _ Y
  have tabs : ∀ y ∈ ys, ∃ c P, TabD mg s₁.heap y c P := fun y hy => by
    obtain ⟨dL, hm, hn1⟩ := List.any_eq_true.mp (hrec y hy)
    have hn2 : dL.name = y := beq_iff_eq.mp hn1
    obtain ⟨a', o', fd', c', P', h1, h2, h3, h4, h5, h6⟩ := G.T.tab dL hm
    rw [hn2] at h1
    exact ⟨c', P', a', o', fd', h1, h2, h3, h4, PySem.W.CodeHd.of h5 h6, h6.2⟩
  obtain ⟨fd, cs, sp, hT, nT, C, hb, hsp, hF⟩ := F w mg fa _ Y KX G.T.g hmg tabs
  exact law_callTs KX G.T.g G.T.b G.T.builtins G.T.nolimit hg hT nT C G.T.bmain hobj hints (Nat.le_trans hlen hn2) hr hF hb (fun H hH hS => hsp H a ns hlen hbits hH hS) fun H e s' => hCX w H s₁ e s'
end Fk

set_option maxHeartbeats 4000000
/-! The law's own call at the top, where nothing is being shown: so repr of containers can be had in the law's def. -/
namespace Fk
open PySem PySem.Spec PyProof.Rows L2 LamX
/-- a def's promise to the topmost caller alone -/
structure TopOk (P : Program) (w : World) (K : PySem.W.Frag) (mg : Str → Option Value) (base : Heap) (CX : CXT) (f : Addr) (fd : FuncData) (ps : List Str) (sp : Sp) : Prop where
  len : ∀ vs H Q E, sp vs H Q E → vs.length = ps.length
  run : ∀ (s : Shared) (H : Hp) (args : Args) (us : List Value) (vs : List V) (Q : VK) (E : XK), Env0 P w K mg base callerA [] s H → BindsTo s fd args (ps.zip us) → Vals vs us → sp vs H Q E → codeAny (model P w) callerA (.call (.ref f) args) (CR CX [] P w H s Q E) s
section
variable {P : Program} {w : World} {K : PySem.W.Frag} {mg : Str → Option Value} {base : Heap}
theorem top_of {CX : CXT} {k : Nat} {x qual : Str} {st : Stmt} {f : Addr} {fd : FuncData} {N ps : List Str} {sp : Sp} {cd : Value} (F : C8.Fun K x qual st f fd) (hc : fd.code = cd) (S : FnScope N ps (C8.fnScope st)) (hr : Room (k + 1) callerA)
    (len : ∀ vs H Q E, sp vs H Q E → vs.length = ps.length)
    (hbody : ∀ (A : Around) (outer : List Env) (s : Shared) (H : Hp) (vs : List V) (Q : VK) (E : XK), (A.deeper (envOfC qual (C8.fnScope st) s.heap.objs.size f cd)).guards = some [] → Room k (A.deeper (envOfC qual (C8.fnScope st) s.heap.objs.size f cd)) → sp vs H Q E →
      ∃ t, PSs (cxOf CX P w K mg base N qual (C8.fnScope st) f cd A outer s H E).nox (C8.fnBody st) t ∧ t { nx := fun _ H' => Q .non H', rt := Q } (start N vs) H) : TopOk P w K mg base CX f fd ps sp := by
  obtain ⟨oc, od, dV, kV, doc, pm, an, cdv, ct, osl, rfl, lk, hcd⟩ := F.ex
  have e2 : cdv = cd := hc
  subst e2
  refine ⟨len, fun s H args us vs Q E e0 hb rv hsp => ?_⟩
  have KX := e0.mod.kin.keeps fun b o e => (e0.bs b o e).1
  have names : ∀ y ∈ ps.zip us, (C8.fnScope st).names.lookup y.1 = some .local ∨ ((C8.fnScope st).names.lookup y.1 = some .cell ∧ ((cellsFrom (s.heap.objs.size + 1) (C8.fnScope st).names []).lookup y.1).isSome = true) := fun y hy =>
    (S.par y.1 (List.of_mem_zip hy).1).imp id fun q => ⟨q, PySem.W.cellsFrom_some _ _ _ (.inl q)⟩
  refine codeAny_call_function hr.depth (KX _ _ lk) rfl S.co S.gen rfl (PySem.W.codeRec_of KX hcd) (hb _ _ _ _ (wpAny_newFunctionEnv_cells S.kind names fun env he s1 xc => ?_))
  subst he
  refine ⟨(e0.mod.nolimit.keeps fun b o e => (e0.bs b o e).1).keeps xc.toInCall.keep, codeAny_func ?_⟩
  obtain ⟨t, ht, hq⟩ := hbody callerA [] s H vs Q E rfl (hr.deeper _) hsp
  have I := inv_start (CX := CX) (E := E) S hr.hd e0 (len _ _ _ _ hsp) rv xc
  refine wpAny_mono (ht.nox.run [] s1 (start N vs) H _ I hq) (fun fl s' z => ?_) fun _ _ z => z
  have out : ∀ {σ' : L2.St} {H' : Hp} {v : V} {u : Value}, Inv (cxOf CX P w K mg base N qual (C8.fnScope st) f cdv callerA [] s H E) [] σ' H' s' → RelV v u → Q v H' → CE [] P w H s Q u s' := fun {σ' H' v u} J r q => ⟨v, H', J.os, J.bare, J.base, J.hok, r, q⟩
  rcases fl with _ | _ | _ | u
  · obtain ⟨σ', H', J, q⟩ := z
    exact out (v := V.non) (u := Value.none) J rfl q
  · obtain ⟨_, _, _, q⟩ := z
    exact absurd q id
  · obtain ⟨_, _, _, q⟩ := z
    exact absurd q id
  · obtain ⟨v, σ', H', J, r, q⟩ := z
    exact out J r q
end
section
variable {P : Program} {w : World} {K : PySem.W.Frag} {mg mb : Str → Option Value} {cs : List (Addr × Addr)} {a : Addr} {vs : List Value} {ns : List Int} {s : Shared}
open Classical in
/-- what is followed at the start: the tables, and the script unless it is written in the text -/
noncomputable def topH (K : PySem.W.Frag) (cs : List (Addr × Addr)) (a : Addr) (vs : List Value) (ns : List Int) : Hp := fun b =>
  if b ∈ cs.map (·.2) then some (.tbl #[]) else if b = a ∧ K.lookup a = none then some (.frz { cls := .type "list", data := .seq vs.toArray } (.lst (ns.map V.int))) else none
theorem topH_tab {p : Addr × Addr} (hp : p ∈ cs) : topH K cs a vs ns p.2 = some (.tbl #[]) := if_pos (List.mem_map.mpr ⟨p, hp, rfl⟩)
theorem topH_not {b : Addr} {u : HO} (e : topH K cs a vs ns b = some u) : (b ∈ cs.map (·.2) ∧ u = .tbl #[]) ∨ (b = a ∧ K.lookup a = none ∧ u = .frz { cls := .type "list", data := .seq vs.toArray } (.lst (ns.map V.int))) := by
  unfold topH at e
  split at e
  · exact .inl ⟨by assumption, (Option.some.inj e).symm⟩
  · split at e
    · rename_i h
      exact .inr ⟨h.1, h.2, (Option.some.inj e).symm⟩
    · cases e
theorem top_env (KX : K.In s.heap) (hns : s.heap.Ns mainGlobals mg) (hb : s.heap.Ns builtinsNs mb) (hbb : ∀ x : Str, x ≠ "__name__" → mb x = bootBuiltins x) (hlim : s.heap.NoLimit) (hg : s.gens = #[])
    (hT : ∀ p ∈ cs, s.heap.get? p.2 = some { cls := .none, data := .fields #[] }) (nT : ∀ p ∈ cs, K.lookup p.2 = none) (C : ∀ p ∈ cs, PySem.W.CodeHd s.heap p.1 p.2)
    (hbm : ∃ (bm : Addr) (ob : Obj), mg "__builtins__" = some (.ref bm) ∧ bm ≠ builtinsNs ∧ s.heap.get? bm = some ob ∧ ob.cls = .type "module" ∧ ob.dict = some builtinsNs ∧ ob.data = .plain)
    (ha : s.heap.get? a = some { cls := .type "list", data := .seq vs.toArray }) (hi : IntsAre vs ns) (hl : ns.length ≤ sizeLine) :
    SqL K (topH K cs a vs ns) a (ns.map V.int) ∧ (∀ p ∈ cs, TabB (hidT s.heap (topH K cs a vs ns)) mg p.1 p.2) ∧ Env0 P w K mg (hidT s.heap (topH K cs a vs ns)) callerA [] s (topH K cs a vs ns) := by
  have rv := vals_ints hi
  have tabAt : ∀ {b : Addr}, b ∈ cs.map (·.2) → s.heap.get? b = some { cls := .none, data := .fields #[] } := fun {b} q => by
    obtain ⟨p, hp, e⟩ := List.mem_map.mp q
    exact e ▸ hT p hp
  have aT : a ∉ cs.map (·.2) := fun z => by
    have q := (tabAt z).symm.trans ha
    cases q
  -- an object that is neither a list nor an empty table is not followed
  have free : ∀ {b : Addr} {o : Obj}, s.heap.get? b = some o → (∀ us n, o.data ≠ .seq us n) → o.data ≠ .fields #[] → topH K cs a vs ns b = none := fun {b o} e h1 h2 => by
    cases q : topH K cs a vs ns b with
    | none => rfl
    | some u =>
      rcases topH_not q with ⟨m, _⟩ | ⟨rfl, _, _⟩
      · cases (tabAt m).symm.trans e
        exact absurd rfl h2
      · cases ha.symm.trans e
        exact absurd rfl (h1 _ _)
  have seen : ∀ {b : Addr} {o : Obj}, s.heap.get? b = some o → (∀ us n, o.data ≠ .seq us n) → o.data ≠ .fields #[] → (hidT s.heap (topH K cs a vs ns)).get? b = some o := fun e h1 h2 => hidT_get e (free e h1 h2)
  have nsOk : ∀ {b : Addr} {m : Str → Option Value}, s.heap.Ns b m → (hidT s.heap (topH K cs a vs ns)).Ns b m := fun ⟨o, es, ep, e, d, r⟩ => ⟨o, es, ep, seen e (fun us n z => by rw [d] at z; cases z) (fun z => by rw [d] at z; cases z), d, r⟩
  have kin : K.In (hidT s.heap (topH K cs a vs ns)) := fun b o e => hidT_get (KX b o e) (by
    cases q : topH K cs a vs ns b with
    | none => rfl
    | some u =>
      rcases topH_not q with ⟨m, _⟩ | ⟨rfl, n, _⟩
      · obtain ⟨p, hp, ep⟩ := List.mem_map.mp m
        rw [← ep, nT p hp] at e
        cases e
      · rw [n] at e
        cases e)
  have hok : HOk P w (topH K cs a vs ns) s.heap := fun b u z => by
    rcases topH_not z with ⟨m, rfl⟩ | ⟨rfl, _, rfl⟩
    · exact tabAt m
    · exact ⟨ha, by rw [List.length_map]; exact hl, vs, _, rv, ha⟩
  refine ⟨?_, fun p hp => ?_, ⟨rfl, ⟨kin, nsOk hns, ⟨mb, nsOk hb, hbb⟩, let ⟨mc, h1, h2⟩ := hlim; ⟨mc, nsOk h1, h2⟩⟩, fun b o e => of_hidT e, Nat.le_of_eq (hidT_size _ _), trivial, fun b q => absurd (show b ∈ ([] : List Addr) from q) (by simp), hok, .of_eq hg⟩⟩
  · cases hk : K.lookup a with
    | none => exact .inl (.inr ⟨_, by unfold topH; rw [if_neg aT, if_pos ⟨rfl, hk⟩]⟩)
    | some o =>
      cases (KX a o hk).symm.trans ha
      exact .inr ⟨_, vs.toArray, _, hk, rfl, rfl, rfl, by rw [List.size_toArray, hi.length]; exact hl, by simpa using rv⟩
  · refine ⟨?_, ?_, fun z => ?_⟩
    · obtain ⟨o, us, fi, tf, fl, tg, inF, tx, tt, e1, r1, r2, r3, r⟩ := C p hp
      exact ⟨o, us, fi, tf, fl, tg, inF, tx, tt, seen e1 (fun vs n z => by rw [r2] at z; cases z) (fun z => by rw [r2] at z; cases z; simp at r3), r1, r2, r3, r⟩
    · obtain ⟨bm, ob, b1, b2, b3, b4, b5, b6⟩ := hbm
      refine ⟨bm, ob, b1, b2, fun q => ?_, fun q => ?_, seen b3 (fun vs n z => by rw [b6] at z; cases z) (fun z => by rw [b6] at z; cases z), b4, b5, b6⟩
      · obtain ⟨o, es, ep, e, hd, _⟩ := hns
        rw [← q, b3] at e
        cases e
        rw [b6] at hd
        cases hd
      · rw [q, hT p hp] at b3
        cases b3
        cases b6
    · obtain ⟨o, es, ep, e, hd, _⟩ := hns
      rw [z, hT p hp] at e
      cases e
      cases hd
theorem top_old {H' : Hp} {s' : Shared} (hT : ∀ p ∈ cs, s.heap.get? p.2 = some { cls := .none, data := .fields #[] }) (C : ∀ p ∈ cs, PySem.W.CodeHd s.heap p.1 p.2) (hok : HOk P w (topH K cs a vs ns) s.heap) (un : Un (frs []) [] (topH K cs a vs ns) H' s.heap s'.heap) (hok' : HOk P w H' s'.heap) : OldK s.heap s'.heap := by
  have grown : ∀ b ∈ cs.map (·.2), ∃ p ∈ cs, p.2 = b ∧ ∃ more : Array Value, s'.heap.get? b = some { cls := .none, data := .fields more } := fun b hb => by
    obtain ⟨p, hp, rfl⟩ := List.mem_map.mp hb
    obtain ⟨more, z⟩ := un.tbls p.2 #[] (topH_tab hp)
    exact ⟨p, hp, rfl, _, hok' _ _ z⟩
  have stays : ∀ {b : Addr} {o : Obj}, b ∉ cs.map (·.2) → s.heap.get? b = some o → s'.heap.get? b = some o := fun {b o} nb e => by
    cases q : topH K cs a vs ns b with
    | none => exact un.keep b o e q (fun z => absurd (show b ∈ ([] : List Addr) from z) (by simp)) (by simp)
    | some u =>
      rcases topH_not q with ⟨m, _⟩ | ⟨_, _, rfl⟩
      · exact absurd m nb
      · have e1 := (hok b _ q).1
        rw [e] at e1
        cases e1
        exact (hok' b _ (un.frzs b _ _ q)).1
  refine ⟨fun b o e => ?_, fun b o e => ?_⟩
  · by_cases hb : b ∈ cs.map (·.2)
    · obtain ⟨p, hp, rfl, more, z⟩ := grown b hb
      cases (hT p hp).symm.trans e
      exact .inr (.inl ⟨((C p hp).tab (hT p hp)).isCodeTable, rfl, #[], more, rfl, by rw [Array.empty_append]; exact z⟩)
    · exact .inl (stays hb e)
  · by_cases hb : b ∈ cs.map (·.2)
    · obtain ⟨p, hp, rfl, more, z⟩ := grown b hb
      exact ⟨_, z⟩
    · exact ⟨o, stays hb e⟩
end
/-- what is known of the law's promise to the topmost caller at the head's heap -/
def LawTop (l : PySem.W.OpenLaw) (w : World) (K : PySem.W.Frag) (CX : CXT) (n : Nat) (x : Str) (mg : Str → Option Value) (fa : Addr) (h : Heap) : Prop :=
  ∃ (fd : FuncData) (cs : List (Addr × Addr)) (sp : Sp), (∀ p ∈ cs, h.get? p.2 = some { cls := .none, data := .fields #[] }) ∧ (∀ p ∈ cs, K.lookup p.2 = none) ∧ (∀ p ∈ cs, PySem.W.CodeHd h p.1 p.2) ∧ (∀ (s : Shared) (u : Value), BindsTo s fd ⟨[u], []⟩ [(x, u)]) ∧
    (∀ (H : Hp) (a : Addr) (ns : List Int), ns.length ≤ n → (∀ z ∈ ns, Builtin.Int.intBits z ≤ 1048576) → (∀ p ∈ cs, H p.2 = some (.tbl #[])) → SqL K H a (ns.map V.int) → sp [.ref a] H (fun v _ => v = .bl true) fun _ _ _ => False) ∧
    ∀ base : Heap, K.In base → base.Ns mainGlobals mg → (∀ p ∈ cs, TabB base mg p.1 p.2) → TopOk l.prog w K mg base CX fa fd [x] sp
theorem walk_ofTop {l : PySem.W.OpenLaw} {n : Nat} {q : Program} {loose : List Str} {XP : (Str → Option Value) → Heap → Prop} {YP : World → Heap → Prop} {d : DefRec} {K : Params → PySem.W.Frag} {CX : World → CXT} {x : Str} {ys : List Str}
    (hn : l.most = some n) (hn2 : n ≤ sizeLine) (hdf : d.params.defaults = []) (hrec : ∀ y ∈ ys, ((recsOf q).any fun e => e.name == y) = true) (hY : ∀ (w : World) (h : Heap), YP w h → (K w.params).In h)
    (F : ∀ (w : World) (mg : Str → Option Value) (fa : Addr) (h : Heap), YP w h → (K w.params).In h → h.Ns mainGlobals mg → mg d.name = some (.ref fa) → (∀ y ∈ ys, ∃ c P, TabD mg h y c P) → LawTop l w (K w.params) (CX w) n x mg fa h)
    (hCX : ∀ (w : World) (H : Hp) (s : Shared) (e : Value) (s' : Shared), CX w [] H s (fun _ _ _ => False) e s' → False) :
    PySem.W.WalkO q loose XP YP l.row.toRowW d [] (fun f vs => PySem.call f vs) := by
  refine Att.attach_callB hn hdf fun w s₀ s₁ mg mb fa o pm cd doc a vs ns G Y ho hd hcd hmg hobj hints hlen hbits hg => ?_
  have KX := hY w _ Y
  have tabs : ∀ y ∈ ys, ∃ c P, TabD mg s₁.heap y c P := fun y hy => by
    obtain ⟨dL, hm, hn1⟩ := List.any_eq_true.mp (hrec y hy)
    have hn2 : dL.name = y := beq_iff_eq.mp hn1
    obtain ⟨a', o', fd', c', P', h1, h2, h3, h4, h5, h6⟩ := G.T.tab dL hm
    rw [hn2] at h1
    exact ⟨c', P', a', o', fd', h1, h2, h3, h4, PySem.W.CodeHd.of h5 h6, h6.2⟩
  obtain ⟨fd, cs, sp, hT, nT, C, hb, hsp, hF⟩ := F w mg fa _ Y KX G.T.g hmg tabs
  obtain ⟨hS, TB, e0⟩ := top_env (P := l.prog) (w := w) KX G.T.g G.T.b G.T.builtins G.T.nolimit hg hT nT C G.T.bmain hobj hints (Nat.le_trans hlen hn2)
  refine codeAny_mono ((hF _ e0.mod.kin e0.mod.glob TB).run s₁ _ ⟨[.ref a], []⟩ [.ref a] [.ref a] _ _ e0 (hb s₁ (.ref a)) (.cons rfl .nil) (hsp _ a ns hlen hbits (fun p hp => topH_tab hp) hS)) fun r s' z => ?_
  rcases r with er | (_ | _ | _ | u)
  · exact (hCX w _ s₁ er s' z).elim
  · exact absurd z id
  · exact absurd z id
  · exact absurd z id
  · obtain ⟨v, H', os, bare, un, hok', rv, q⟩ := z
    have q' : v = .bl true := q
    subst q'
    obtain rfl : u = Value.bool true := rv
    exact ⟨rfl, top_old hT C e0.hok un hok', os, bare⟩
end Fk

set_option maxHeartbeats 4000000
/-! repr of tuples, lists and dicts of data, where nothing is being shown. -/
namespace Fk
open PySem PySem.Spec PyProof.Rows L2
def keyD : Key → PyData
  | .inl i => .int i
  | .inr x => .str x
mutual
/-- a value is this datum, dicts too -/
inductive Dq (K : PySem.W.Frag) (H : Hp) : V → PyData → Prop
  | non : Dq K H .non .none
  | bl (b : Bool) : Dq K H (.bl b) (.bool b)
  | int (i : Int) : Dq K H (.int i) (.int i)
  | str (x : Str) : Dq K H (.str x) (.str x)
  | tup {a : Addr} {xs : List V} {ds : List PyData} : SqT K H a xs → DqAll K H xs ds → Dq K H (.ref a) (.tuple ds)
  | lst {a : Addr} {xs : List V} {ds : List PyData} : SqL K H a xs → a ≠ sysModules → DqAll K H xs ds → Dq K H (.ref a) (.list ds)
  | dic {a : Addr} {ks : List (Key × V)} {ds : List PyData} : H a = some (.dK ks) → DqAll K H (ks.map (·.2)) ds → Dq K H (.ref a) (.dict ((ks.map fun p => keyD p.1).zip ds))
inductive DqAll (K : PySem.W.Frag) (H : Hp) : List V → List PyData → Prop
  | nil : DqAll K H [] []
  | cons {v : V} {vs : List V} {d : PyData} {ds : List PyData} : Dq K H v d → DqAll K H vs ds → DqAll K H (v :: vs) (d :: ds)
end
theorem DqAll.length {K : PySem.W.Frag} {H : Hp} : ∀ {vs : List V} {ds : List PyData}, DqAll K H vs ds → vs.length = ds.length
  | [], _, h => by cases h; rfl
  | _ :: _, _, h => by
    cases h with
    | cons _ t => exact congrArg (· + 1) t.length
theorem readsAll_keys {prog : Program} {w : World} {h : Heap} : ∀ {ks : List (Key × V)} {vs : List (Key × Value)} {es : List DictEntry}, KV ks vs → Pairs (mixKind prog w) es vs → ReadsAll h (es.map (·.key)) (ks.map fun p => keyD p.1) [] ∧ es.map (·.val) = vs.map (·.2)
  | _, _, _, .nil, p => by
    cases p
    exact ⟨.nil, rfl⟩
  | _, _, _, .cons h1 t, p => by
    cases p with
    | cons k v r =>
      obtain ⟨i1, i2⟩ := readsAll_keys (h := h) t r
      refine ⟨?_, ?_⟩
      · refine ReadsAll.cons (as := []) (bs := []) ?_ i1
        rcases keyIs_shape (show keyIs _ _ = true from k) with ⟨i, tk, e1, e2⟩ | ⟨x, tk, e1, e2⟩
        · dsimp only
          rw [e2, h1.1, e1]
          exact .int i tk
        · dsimp only
          rw [e2, h1.1, e1]
          exact .str x tk
      · rw [List.map_cons, List.map_cons, i2, v]
section
variable {X : Cx} {pins : List (Addr × Obj)} {σ : L2.St} {H : Hp} {s : Shared}
theorem kv_vals : ∀ {ks : List (Key × V)} {vs : List (Key × Value)}, KV ks vs → Vals (ks.map (·.2)) (vs.map (·.2))
  | _, _, .nil => .nil
  | _, _, .cons h t => .cons h.2 (kv_vals t)
theorem Dq.reads (I : Inv X pins σ H s) {v : V} {d : PyData} (h : Dq X.K H v d) : ∀ u, RelV v u → ∃ as, Reads s.heap u d as ∧ sysModules ∉ as := by
  refine Dq.rec (K := X.K) (H := H) (motive_1 := fun v d _ => ∀ u, RelV v u → ∃ as, Reads s.heap u d as ∧ sysModules ∉ as) (motive_2 := fun vs ds _ => ∀ us, Vals vs us → ∃ as, ReadsAll s.heap us ds as ∧ sysModules ∉ as) ?_ ?_ ?_ ?_ ?_ ?_ ?_ ?_ ?_ h
  · intro u r
    obtain rfl : u = Value.none := r
    exact ⟨[], .none, by simp⟩
  · intro b u r
    obtain rfl : u = Value.bool b := r
    exact ⟨[], .bool b, by simp⟩
  · intro i u r
    obtain ⟨t, rfl⟩ := (show ∃ t, u = Value.int i t from r)
    exact ⟨[], .int i t, by simp⟩
  · intro x u r
    obtain ⟨t, rfl⟩ := (show ∃ t, u = Value.str x t from r)
    exact ⟨[], .str x t, by simp⟩
  · intro a xs ds hq _ ih u r
    obtain rfl : u = Value.ref a := r
    obtain ⟨us, rv, ⟨o, e, c, n, dd⟩, _⟩ := I.tuple hq
    obtain ⟨as, r1, n1⟩ := ih us rv
    exact ⟨as, .tuple e c dd (by simpa using r1), n1⟩
  · intro a xs ds hq ne _ ih u r
    obtain rfl : u = Value.ref a := r
    obtain ⟨us, rv, ⟨o, n, e, c, _, dd⟩, _⟩ := I.list hq
    obtain ⟨as, r1, n1⟩ := ih us rv
    exact ⟨a :: as, .list e c dd (by simpa using r1), fun z => by
      rcases List.mem_cons.mp z with z | z
      · exact ne z.symm
      · exact n1 z⟩
  · intro a ks ds hq hd ih u r
    obtain rfl : u = Value.ref a := r
    obtain ⟨_, ns, vs, kv, o, es, ep, e, x, dd, _, pr, _⟩ := (show ObjOk X.prog X.w H s.heap a (.dK ks) from I.hok a _ hq)
    obtain ⟨rk, ev⟩ := readsAll_keys (h := s.heap) kv pr
    obtain ⟨bs, r1, n1⟩ := ih _ (kv_vals kv)
    have ll : (ks.map fun p => keyD p.1).length = ds.length := by
      rw [← hd.length, List.length_map, List.length_map]
    refine ⟨a :: [] ++ bs, .dict e x.1 dd ?_ ?_, fun z => ?_⟩
    · rw [List.map_fst_zip (Nat.le_of_eq ll)]
      exact rk
    · rw [List.map_snd_zip (Nat.le_of_eq ll.symm), ev]
      exact r1
    · rcases List.mem_append.mp z with z | z
      · rw [List.mem_singleton.mp z] at ns
        simp at ns
      · exact n1 z
  · intro us r
    cases r
    exact ⟨[], .nil, by simp⟩
  · intro v vs d ds _ _ i1 i2 us r
    cases r with
    | cons ra rb =>
      obtain ⟨as, r1, n1⟩ := i1 _ ra
      obtain ⟨bs, r2, n2⟩ := i2 _ rb
      exact ⟨as ++ bs, .cons r1 r2, fun z => (List.mem_append.mp z).elim n1 n2⟩
end
/-- repr of a container -/
def rRep (K : PySem.W.Frag) : List V → Hp → VK → Prop := fun xs H Q => ∃ (a : Addr) (d : PyData), xs = [.ref a] ∧ Dq K H (.ref a) d ∧ d.showable = true ∧ d.depth ≤ 60 ∧ d.shown.length ≤ sizeLine ∧ Q (.str d.shown) H
theorem call_rep {X : Cx} (hg : X.A.guards = some []) (hu : X.A.units + 64 < cLine) : CallR X (.builtin "repr") (rRep X.K) := by
  intro pins s σ H xs us Q I r h
  obtain ⟨a, d, rfl, hd, hs, hdep, hsz, q⟩ := h
  obtain ⟨u, rfl, ru⟩ := vals1 r
  obtain rfl : u = Value.ref a := ru
  obtain ⟨as, r1, n1⟩ := hd.reads I _ rfl
  exact PySem.repr_of_reads' r1 hs (fun _ => n1) hg (by omega) (fun _ _ e => e) (fun h' u tk hk => ⟨.str d.shown, H, I.kept (t' := tk) hk, ⟨u, rfl⟩, q⟩) hsz
end Fk

set_option maxHeartbeats 4000000
/-! Lists of pairs (key, value) with values that are new; a dict of them; tables as lists of pairs. -/
namespace Fk
open PySem PySem.Spec PyProof.Rows L2
theorem paired_snoc' {α β : Type} {R : α → β → Prop} {e : α} {u : β} (h : R e u) : ∀ {l : List α} {us : List β}, Paired R l us → Paired R (l ++ [e]) (us ++ [u])
  | _, _, .nil => .cons h .nil
  | _, _, .cons a r => .cons a (paired_snoc' h r)
section
variable {α β : Type} {J : It} {us : List α} {val : α → V} {G : Hp → Prop} {H1 : Hp} {D : Addr} {σ : L2.St} {vs : List Nat} {g : TG} {tt : TT} {te : TE} {Q : Hp → Prop}
/-- a list of new pairs -/
theorem lc_pairs (Y : Yields J (us.map val) G) (kf : α → Str) (R : Hp → V → β → Prop) (rf : α → β) (p : α → Bool) (σf : α → L2.St) (hD1 : H1 D = none) (hG : ∀ H, Same H1 H → G H) (hw : ∀ u ∈ us, wipe (σf u) vs = wipe σ vs)
    (hg : ∀ H u, Same H1 H → u ∈ us → ∀ (S : L2.St → Hp → Prop), S (σf u) H → g (val u) (wipe σ vs) H S)
    (ht : ∀ H u, Same H1 H → u ∈ us → ∀ (S : Bool → Hp → Prop), (∀ H3, Same H H3 → S (p u) H3) → tt (σf u) H S)
    (mono : ∀ H H' v r, TupKeep H H' → R H v r → R H' v r)
    (he : ∀ H u, Same H1 H → u ∈ us → p u = true → ∀ (S : VK), (∀ a v H3, Same H H3 → H3 a = some (.tup [.str (kf u), v]) → R H3 v (rf u) → S (.ref a) H3) → te (σf u) H S)
    (hl : us.length ≤ 1000000) (hd : ∀ as H, Same H1 H → H D = some (.lst (as.map V.ref)) → Paired (fun (a : Addr) u => ∃ v, H a = some (.tup [.str (kf u), v]) ∧ R H v (rf u)) as (us.filter p) → Q H) :
    ∃ W : Nat → Nat → Hp → Prop, (∃ m, W 0 m (upd H1 D (.lst []))) ∧ ∀ k m H, W k m H →
      (J.stop k H ∧ Q H) ∨ (J.go k H ∧ ∃ Nx : Hp → Prop, (∀ H', Nx H' → ∃ m', m' < m ∧ W (k + 1) m' H') ∧ ∀ x H', J.yld k H x H' → g x (wipe σ vs) H' fun σ2 H2 => wipe σ2 vs = wipe σ vs ∧ tt σ2 H2 fun b H3 =>
        if b = true then te σ2 H3 fun y H4 => ∃ acc, H4 D = some (.lst acc) ∧ acc.length < sizeLine ∧ Nx (upd H4 D (.lst (acc ++ [y]))) else Nx H3) := by
  refine lcG Y (fun k acc H => Same H1 H ∧ ∃ as : List Addr, acc = as.map V.ref ∧ Paired (fun (a : Addr) u => ∃ v, H a = some (.tup [.str (kf u), v]) ∧ R H v (rf u)) as ((us.take k).filter p)) (fun k acc H h _ => hG H h.1) ⟨same_new hD1, [], rfl, .nil⟩ (fun k acc H x hI hD hx hacc hk => ?_) (by rw [List.length_map]; exact hl) (fun acc H hI hD _ => ?_)
  · obtain ⟨sm, as, ea, pr⟩ := hI
    rw [List.getElem?_map] at hx
    cases hu : us[k]? with
    | none => rw [hu] at hx; cases hx
    | some u =>
      rw [hu] at hx
      cases hx
      have hm : u ∈ us := List.mem_of_getElem? hu
      have et : us.take (k + 1) = us.take k ++ [u] := by
        rw [List.take_add_one, hu]
        rfl
      refine hg H u sm hm _ ⟨hw u hm, ht H u sm hm _ fun H3 s3 => ?_⟩
      by_cases hp : p u = true
      · rw [if_pos hp]
        refine he H3 u (sm.trans s3) hm hp _ fun a v H4 s4 h4 rv => ?_
        have hD4 := s4 _ _ (s3 _ _ hD)
        have kp : TupKeep H4 (upd H4 D (.lst (acc ++ [V.ref a]))) := TupKeep.at fun xs z => by rw [hD4] at z; cases z
        have k2 := (TupKeep.of (s3.trans s4)).trans kp
        refine lc_take hD4 hacc hk ⟨same_mut ((sm.trans s3).trans s4) hD1, as ++ [a], by rw [ea, List.map_append]; rfl, ?_⟩
        rw [et, List.filter_append, List.filter_cons, hp]
        exact paired_snoc' ⟨v, kp _ _ h4, mono _ _ _ _ kp rv⟩ (Paired.mapP pr fun e w ⟨z, a, b⟩ => ⟨z, k2 _ _ a, mono _ _ _ _ k2 b⟩)
      · rw [if_neg hp]
        refine lc_skip (s3 _ _ hD) hacc ⟨sm.trans s3, as, ea, ?_⟩
        rw [et, List.filter_append, List.filter_cons, if_neg hp]
        simp only [List.filter_nil, List.append_nil]
        exact Paired.mapP pr fun e w ⟨z, a, b⟩ => ⟨z, TupKeep.of s3 _ _ a, mono _ _ _ _ (TupKeep.of s3) b⟩
  · obtain ⟨sm, as, ea, pr⟩ := hI
    rw [List.length_map, List.take_length] at pr
    rw [ea] at hD
    exact hd as H sm hD pr
end
theorem mergeK_nd (t u : Tab) (nd : Nd u) (dis : ∀ x ∈ u.map (·.1), x ∉ t.map (·.1)) : mergeK (kT t) (kT u) = kT (t ++ u) := by
  induction u generalizing t with
  | nil => rw [List.append_nil]; rfl
  | cons p l ih =>
    obtain ⟨h1, h2⟩ := List.nodup_cons.mp (show ((p :: l).map (·.1)).Nodup from nd)
    have new : valV t p.1 = none := by
      cases c : valV t p.1 with
      | none => rfl
      | some w => exact absurd (valV_in c) (dis p.1 (by rw [List.map_cons]; exact List.mem_cons_self))
    show mergeK (putK (kT t) (.inr p.1) p.2) (kT l) = _
    rw [putK_kT, putK_new _ new, ih (t ++ [(p.1, p.2)]) h2 (fun x hx z => ?_), List.append_assoc]
    · rfl
    · rw [List.map_append] at z
      rcases List.mem_append.mp z with z | z
      · exact dis x (by rw [List.map_cons]; exact List.mem_cons_of_mem _ hx) z
      · rw [List.map_cons, List.map_nil] at z
        rw [List.mem_singleton.mp z] at hx
        exact h1 hx
/-- the dict of a list of pairs, as a table -/
theorem pairs_tab {α β : Type} {K : PySem.W.Frag} {H : Hp} {kf : α → Str} {R : V → β → Prop} {rf : α → β} : ∀ {as : List Addr} {us : List α}, Paired (fun (a : Addr) u => ∃ v, H a = some (.tup [.str (kf u), v]) ∧ R v (rf u)) as us →
    ∃ tab : Tab, Paired (fun p kv => SqT K H p [kV kv.1, kv.2]) as (kT tab) ∧ Paired (fun e u => e.1 = kf u ∧ R e.2 (rf u)) tab us
  | _, _, .nil => ⟨[], .nil, .nil⟩
  | _, _, .cons (b := u) ⟨v, h1, h2⟩ r => by
    obtain ⟨tab, p1, p2⟩ := pairs_tab r
    exact ⟨(kf u, v) :: tab, .cons (.inl (.inl h1)) p1, .cons ⟨rfl, h2⟩ p2⟩
/-! ### tables as lists of pairs -/
def pairsD {α : Type} (dat : α → PyData) (ys : List Str) (f : Mp α) : PyData := .list (ys.map fun y => .tuple [.str y, ((f y).map dat).getD .none])
theorem eqvAll_refl : ∀ {ds : List PyData}, (∀ d ∈ ds, PyData.eqv d d = true) → PyData.eqvAll ds ds = true
  | [], _ => rfl
  | d :: r, h => by
    simp only [PyData.eqvAll, h d List.mem_cons_self, eqvAll_refl fun z hz => h z (List.mem_cons_of_mem _ hz), Bool.and_self]
theorem eqv_pairs {α : Type} {dat : α → PyData} (inj : ∀ a, PyData.eqv (dat a) (dat a) = true) (ys : List Str) (f : Mp α) : PyData.eqv (pairsD dat ys f) (pairsD dat ys f) = true := by
  unfold pairsD
  simp only [PyData.eqv]
  refine eqvAll_refl fun d hd => ?_
  obtain ⟨y, _, rfl⟩ := List.mem_map.mp hd
  have e : PyData.eqv (((f y).map dat).getD .none) (((f y).map dat).getD .none) = true := by
    cases f y with
    | none => rfl
    | some r => exact inj r
  simp only [PyData.eqv, PyData.eqvAll, e, beq_self_eq_true, Bool.and_self]
theorem layAll_of : ∀ {ds : List PyData}, (∀ d ∈ ds, PyData.canLay0 d = true) → PyData.canLayAll0 ds = true
  | [], _ => rfl
  | d :: r, h => by simp only [PyData.canLayAll0, h d List.mem_cons_self, layAll_of fun z hz => h z (List.mem_cons_of_mem _ hz), Bool.and_self]
theorem depthAll_le {n : Nat} : ∀ {ds : List PyData}, (∀ d ∈ ds, PyData.depth d ≤ n) → PyData.depthAll ds ≤ n
  | [], _ => by simp [PyData.depthAll]
  | d :: r, h => by
    simp only [PyData.depthAll]
    exact Nat.max_le.mpr ⟨h d List.mem_cons_self, depthAll_le fun z hz => h z (List.mem_cons_of_mem _ hz)⟩
theorem depth_rw (r : Rw) : PyData.depth (rwD r) ≤ 2 := by
  have d1 := depth_fv r.1
  have d2 := depth_fv r.2
  show PyData.depthAll [fvD r.1, fvD r.2] + 1 ≤ 2
  simp only [PyData.depthAll]
  omega
theorem lay_rw {r : Rw} (h : GoodR r) : PyData.canLay0 (rwD r) = true := by
  unfold rwD
  simp only [PyData.canLay0, PyData.canLayAll0, lay_fv h.1, lay_fv h.2, Bool.and_self]
theorem shaped_pairs {ys : List Str} {f : Mp Rw} (hk : ∀ y ∈ ys, OkS y) (hg : ∀ x r, f x = some r → GoodR r) : SeqAt.shaped (pairsD rwD ys f) = true := by
  unfold SeqAt.shaped pairsD
  have one : ∀ y ∈ ys, PyData.canLay0 (.tuple [.str y, ((f y).map rwD).getD .none]) = true ∧ PyData.depth (.tuple [.str y, ((f y).map rwD).getD .none]) ≤ 3 := fun y hy => by
    cases e : f y with
    | none =>
      refine ⟨?_, ?_⟩
      · show PyData.canLay0 (.tuple [.str y, .none]) = true
        simp only [PyData.canLay0, PyData.canLayAll0, strOk_of (hk y hy), Bool.and_self]
      · show PyData.depthAll [.str y, .none] + 1 ≤ 3
        simp [PyData.depthAll, PyData.depth]
    | some r =>
      refine ⟨?_, ?_⟩
      · show PyData.canLay0 (.tuple [.str y, rwD r]) = true
        simp only [PyData.canLay0, PyData.canLayAll0, strOk_of (hk y hy), lay_rw (hg y r e), Bool.and_self]
      · show PyData.depthAll [.str y, rwD r] + 1 ≤ 3
        have := depth_rw r
        simp only [PyData.depthAll, PyData.depth]
        omega
  have c : PyData.canLay0 (.list (ys.map fun y => .tuple [.str y, ((f y).map rwD).getD .none])) = true := by
    simp only [PyData.canLay0]
    exact layAll_of fun d hd => by
      obtain ⟨y, hy, rfl⟩ := List.mem_map.mp hd
      exact (one y hy).1
  rw [c, Bool.true_and]
  refine decide_eq_true ?_
  show PyData.depthAll (ys.map fun y => .tuple [.str y, ((f y).map rwD).getD .none]) + 1 ≤ 64
  have : PyData.depthAll (ys.map fun y => .tuple [.str y, ((f y).map rwD).getD .none]) ≤ 3 := depthAll_le fun d hd => by
    obtain ⟨y, hy, rfl⟩ := List.mem_map.mp hd
    exact (one y hy).2
  omega
/-- addresses of pairs with known rows, as data -/
theorem dp_pairs {K : PySem.W.Frag} {H : Hp} {p : Addr} {f : Mp Rw} : ∀ {as : List Addr} {ys : List Str}, Paired (fun (a : Addr) y => ∃ v r, H a = some (.tup [.str y, v]) ∧ f y = some r ∧ RwV K H v r) as ys → DpAll K H (as.map V.ref) (ys.map fun y => .tuple [.str y, ((f y).map rwD).getD .none])
  | _, _, .nil => .nil
  | _, _, .cons (b := y) ⟨v, r, h1, h2, h3⟩ l => by
    refine .cons (.tup (.inl (.inl h1)) (.cons (.str y) (.cons ?_ .nil))) (dp_pairs (p := p) l)
    rw [h2]
    exact h3.dp
end Fk

set_option maxHeartbeats 4000000
/-! Tables of rows as data that repr can show. -/
namespace Fk
open PySem PySem.Spec PyProof.Rows L2
def rowD (m : Mp Rw) (y : Str) : PyData := ((m y).map rwD).getD .none
def rowsD (ys : List Str) (m : Mp Rw) : PyData := .dict ((ys.map PyData.str).zip (ys.map (rowD m)))
section
variable {K : PySem.W.Frag} {H : Hp}
theorem FvV.dq {v : V} {f : Fv} (h : FvV K H v f) : Dq K H v (fvD f) := by
  cases f with
  | none =>
    obtain rfl : v = .non := h
    exact .non
  | some p =>
    obtain ⟨q, rfl, t⟩ := h
    exact .tup t.sq (.cons (.str _) (.cons (.str _) .nil))
theorem RwV.dq {v : V} {r : Rw} (h : RwV K H v r) : Dq K H v (rwD r) := by
  obtain ⟨q, v1, v2, rfl, t, a, b⟩ := h
  exact .tup t.sq (.cons a.dq (.cons b.dq .nil))
theorem dq_rows {e : Addr} {t : Tab} {m : Mp Rw} (h : H e = some (.dK (kT t))) (hh : Holds (RwV K H) t m) (nd : Nd t) : Dq K H (.ref e) (rowsD (t.map (·.1)) m) := by
  have key : ∀ l : Tab, (∀ p ∈ l, ∃ r, m p.1 = some r ∧ RwV K H p.2 r) → DqAll K H ((kT l).map (·.2)) ((l.map (·.1)).map (rowD m)) := by
    intro l
    induction l with
    | nil => intro _; exact .nil
    | cons p l ih =>
      intro hl
      obtain ⟨r, a, b⟩ := hl p List.mem_cons_self
      refine .cons ?_ (ih fun q hq => hl q (List.mem_cons_of_mem _ hq))
      show Dq K H p.2 (rowD m p.1)
      unfold rowD
      rw [a]
      exact b.dq
  have := Dq.dic h (key t fun p hp => hh.at' (by
    clear key hh h
    induction t with
    | nil => cases hp
    | cons q l ih =>
      obtain ⟨h1, h2⟩ := List.nodup_cons.mp (show ((q :: l).map (·.1)).Nodup from nd)
      rcases List.mem_cons.mp hp with z | z
      · rw [z, show q = (q.1, q.2) from rfl, valV_pos rfl]
      · rw [valV_neg (fun e => h1 (by dsimp only; rw [e]; exact List.mem_map.mpr ⟨p, z, rfl⟩))]
        exact ih h2 z))
  have ek : ((kT t).map fun p => keyD p.1) = (t.map (·.1)).map PyData.str := by
    unfold kT
    rw [List.map_map, List.map_map]
    rfl
  rw [ek] at this
  exact this
end
theorem fv_facts {f : Fv} (h : GoodF f) : (fvD f).showable = true ∧ (fvD f).intsShort 13 = true ∧ (fvD f).weight ≤ 30 := by
  cases f with
  | none => exact ⟨rfl, rfl, Nat.zero_le _⟩
  | some p =>
    obtain ⟨h1, h2⟩ := h p rfl
    refine ⟨rfl, rfl, ?_⟩
    have l1 : p.1.cps.size ≤ 4 := by
      simp only [FKS, List.mem_cons, List.not_mem_nil, or_false] at h1
      rcases h1 with e | e <;> rw [e] <;> decide +kernel
    have l2 : p.2.cps.size = 16 := (ok_idF h2).2
    show PyData.weightAll [.str p.1, .str p.2] ≤ 30
    simp only [PyData.weightAll, PyData.weight]
    omega
theorem rw_facts {r : Rw} (h : GoodR r) : (rwD r).showable = true ∧ (rwD r).leavesShort 13 = true ∧ (rwD r).depth ≤ 2 ∧ (rwD r).weight ≤ 100 := by
  obtain ⟨a1, a2, a3⟩ := fv_facts h.1
  obtain ⟨b1, b2, b3⟩ := fv_facts h.2
  refine ⟨?_, PyData.leavesShort_of_canLay0 13 _ (lay_rw h) ?_, depth_rw r, ?_⟩
  · show PyData.showableAll [fvD r.1, fvD r.2] = true
    simp only [PyData.showableAll, a1, b1, Bool.and_self]
  · show PyData.intsShortAll 13 [fvD r.1, fvD r.2] = true
    simp only [PyData.intsShortAll, a2, b2, Bool.and_self]
  · show PyData.weightAll [fvD r.1, fvD r.2] ≤ 100
    simp only [PyData.weightAll]
    omega
theorem row_facts {m : Mp Rw} (hg : ∀ x r, m x = some r → GoodR r) (y : Str) : (rowD m y).showable = true ∧ (rowD m y).leavesShort 13 = true ∧ (rowD m y).depth ≤ 2 ∧ (rowD m y).weight ≤ 100 := by
  unfold rowD
  cases e : m y with
  | none => exact ⟨rfl, rfl, by decide, by decide⟩
  | some r => exact rw_facts (hg y r e)
theorem rows_kv {m : Mp Rw} (hg : ∀ x r, m x = some r → GoodR r) : ∀ ys : List Str, (∀ y ∈ ys, PathOk y) →
    PyData.showableKv ((ys.map PyData.str).zip (ys.map (rowD m))) = true ∧ PyData.leavesShortKv 13 ((ys.map PyData.str).zip (ys.map (rowD m))) = true ∧ PyData.depthKv ((ys.map PyData.str).zip (ys.map (rowD m))) ≤ 2 ∧ PyData.weightKv ((ys.map PyData.str).zip (ys.map (rowD m))) ≤ 2000 * ys.length
  | [], _ => ⟨rfl, rfl, Nat.zero_le _, Nat.zero_le _⟩
  | y :: l, h => by
    obtain ⟨i1, i2, i3, i4⟩ := rows_kv hg l fun z hz => h z (List.mem_cons_of_mem _ hz)
    obtain ⟨r1, r2, r3, r4⟩ := row_facts hg y
    obtain ⟨_, p2, p3⟩ := h y List.mem_cons_self
    have p2 : y.cps.size ≤ 1000 := p2
    have ls : PyData.leavesShort 13 (.str y) = true := PyData.leavesShort_of_canLay0 13 (.str y) (strOk_of p3) rfl
    rw [List.map_cons, List.map_cons, List.zip_cons_cons]
    refine ⟨?_, ?_, ?_, ?_⟩
    · simp only [PyData.showableKv, PyData.showable, r1, i1, Bool.and_self]
    · simp only [PyData.leavesShortKv, ls, r2, i2, Bool.and_self]
    · simp only [PyData.depthKv, PyData.depth]
      omega
    · simp only [PyData.weightKv, PyData.weight, List.length_cons]
      omega
theorem rows_facts {m : Mp Rw} (hg : ∀ x r, m x = some r → GoodR r) {ys : List Str} (hy : ∀ y ∈ ys, PathOk y) (hl : ys.length ≤ 60) : (rowsD ys m).showable = true ∧ (rowsD ys m).leavesShort 13 = true ∧ (rowsD ys m).depth ≤ 3 ∧ (rowsD ys m).weight ≤ 120000 := by
  obtain ⟨i1, i2, i3, i4⟩ := rows_kv hg ys hy
  refine ⟨i1, i2, ?_, ?_⟩
  · show PyData.depthKv _ + 1 ≤ 3
    omega
  · show PyData.weightKv _ ≤ 120000
    omega
/-- three tables in a tuple can be shown -/
theorem three_shown {d1 d2 d3 : PyData} (h1 : d1.showable = true ∧ d1.leavesShort 13 = true ∧ d1.depth ≤ 3 ∧ d1.weight ≤ 120000) (h2 : d2.showable = true ∧ d2.leavesShort 13 = true ∧ d2.depth ≤ 3 ∧ d2.weight ≤ 120000) (h3 : d3.showable = true ∧ d3.leavesShort 13 = true ∧ d3.depth ≤ 3 ∧ d3.weight ≤ 120000) :
    PyData.showable (.tuple [d1, d2, d3]) = true ∧ PyData.depth (.tuple [d1, d2, d3]) ≤ 60 ∧ (PyData.shown (.tuple [d1, d2, d3])).length ≤ sizeLine := by
  obtain ⟨a1, a2, a3, a4⟩ := h1
  obtain ⟨b1, b2, b3, b4⟩ := h2
  obtain ⟨c1, c2, c3, c4⟩ := h3
  refine ⟨?_, ?_, PyData.shown_fits (B := 13) (by decide) (by decide) ?_ ?_⟩
  · simp only [PyData.showable, PyData.showableAll, a1, b1, c1, Bool.and_self]
  · simp only [PyData.depth, PyData.depthAll]
    omega
  · simp only [PyData.leavesShort, PyData.leavesShortAll, a2, b2, c2, Bool.and_self]
  · simp only [PyData.weight, PyData.weightAll]
    omega
end Fk

set_option maxHeartbeats 4000000
/-! The paths that lie above a path. -/
namespace Fk
open PySem PySem.Spec PyProof.Rows L2
theorem starts_at (r h : Str) : Txt.startswith r h = true ↔ (TL.tl r).take h.length = TL.tl h := by
  unfold Txt.startswith
  rw [Bool.and_eq_true, StrLaws.subAt_eq]
  show (_ ∧ (((TL.tl r).drop 0).take h.length == TL.tl h) = true) ↔ _
  rw [List.drop_zero]
  constructor
  · rintro ⟨_, h⟩
    exact eq_of_beq h
  · intro e
    refine ⟨decide_eq_true ?_, by rw [e]; exact beq_self_eq_true _⟩
    have := congrArg List.length e
    rw [List.length_take, ← TL.len_tl, ← TL.len_tl] at this
    omega
/-- the joins of the first segments, all but the whole -/
def prefsF (x : Str) : List Str := (List.range ((segs x).length - 1)).map fun k => Txt.join "/" ((segs x).take (k + 1))
theorem joinL_cons (s : List Nat) {r : List (List Nat)} (h : r ≠ []) : TL.joinL [47] (s :: r) = s ++ 47 :: TL.joinL [47] r := by
  cases r with
  | nil => exact absurd rfl h
  | cons q r =>
    rfl
theorem cut_at {s P J R : List Nat} (hs : 47 ∉ s) (e : s ++ 47 :: J = P ++ 47 :: R) : (P = s ∧ R = J) ∨ ∃ P', P = s ++ 47 :: P' ∧ J = P' ++ 47 :: R := by
  induction s generalizing P with
  | nil =>
    cases P with
    | nil =>
      simp only [List.nil_append, List.cons.injEq, true_and] at e
      exact .inl ⟨rfl, e.symm⟩
    | cons c P =>
      simp only [List.nil_append, List.cons_append, List.cons.injEq] at e
      obtain ⟨rfl, e⟩ := e
      exact .inr ⟨P, rfl, e⟩
  | cons c s ih =>
    cases P with
    | nil =>
      simp only [List.nil_append, List.cons_append, List.cons.injEq] at e
      exact absurd (by rw [e.1]; exact List.mem_cons_self) hs
    | cons d P =>
      simp only [List.cons_append, List.cons.injEq] at e
      obtain ⟨rfl, e⟩ := e
      rcases ih (fun z => hs (List.mem_cons_of_mem _ z)) e with ⟨a, b⟩ | ⟨P', a, b⟩
      · exact .inl ⟨by rw [a], b⟩
      · exact .inr ⟨P', by rw [a]; rfl, b⟩
theorem above_of : ∀ {ss : List (List Nat)} {P R : List Nat}, (∀ s ∈ ss, 47 ∉ s) → TL.joinL [47] ss = P ++ 47 :: R → ∃ k, k + 1 < ss.length ∧ P = TL.joinL [47] (ss.take (k + 1))
  | [], P, R, _, e => by
    have : (0 : Nat) = (P ++ 47 :: R).length := congrArg List.length e
    rw [List.length_append, List.length_cons] at this
    omega
  | [s], P, R, hf, e => by
    have e : s = P ++ 47 :: R := e
    exact absurd (by rw [e]; exact List.mem_append_right _ List.mem_cons_self) (hf s List.mem_cons_self)
  | s :: q :: r, P, R, hf, e => by
    rw [joinL_cons s (by simp)] at e
    rcases cut_at (hf s List.mem_cons_self) e with ⟨a, b⟩ | ⟨P', a, b⟩
    · exact ⟨0, by simp, by rw [a]; rfl⟩
    · obtain ⟨k, h1, h2⟩ := above_of (fun z hz => hf z (List.mem_cons_of_mem _ hz)) b
      refine ⟨k + 1, by rw [List.length_cons]; omega, ?_⟩
      rw [List.take_succ_cons, joinL_cons s (by simp), a, h2]
theorem of_above : ∀ {ss : List (List Nat)} {k : Nat}, k + 1 < ss.length → ∃ R, TL.joinL [47] ss = TL.joinL [47] (ss.take (k + 1)) ++ 47 :: R
  | [], k, h => by simp at h
  | [s], k, h => by simp at h
  | s :: q :: r, 0, _ => ⟨TL.joinL [47] (q :: r), by rw [joinL_cons s (by simp)]; rfl⟩
  | s :: q :: r, k + 1, h => by
    obtain ⟨R, e⟩ := of_above (ss := q :: r) (k := k) (by rw [List.length_cons] at h; omega)
    refine ⟨R, ?_⟩
    have e2 : (s :: q :: r).take (k + 1 + 1) = s :: (q :: r).take (k + 1) := rfl
    rw [joinL_cons s (by simp), e, e2, joinL_cons s (by simp), List.append_assoc]
    rfl
theorem tl_segs (x : Str) : TL.joinL [47] ((segs x).map TL.tl) = TL.tl x := by
  have := congrArg TL.tl (StrLaws.join_split x "/")
  rw [TL.tl_join, slash_tl] at this
  exact this
theorem segs_free (x : Str) : ∀ s ∈ (segs x).map TL.tl, 47 ∉ s := fun s hs => by
  obtain ⟨p, hp, rfl⟩ := List.mem_map.mp hs
  exact StrLaws.split_free x 47 p (by
    have e : ("/" : Str) = ⟨#[47]⟩ := TL.ext_tl slash_tl
    rw [← e]
    exact hp)
theorem tl_pref (x : Str) (k : Nat) : TL.tl (Txt.join "/" ((segs x).take k)) = TL.joinL [47] (((segs x).map TL.tl).take k) := by
  rw [TL.join_eq, TL.tl_join, slash_tl, List.map_take]
/-- a path lies above another one: by its segments, by its text -/
theorem mem_prefs {x p : Str} : p ∈ prefsF x ↔ Txt.startswith x (p ++ ("/" : Str)) = true := by
  have el : (TL.tl (p ++ ("/" : Str))) = TL.tl p ++ [47] := by rw [TL.tl_append, slash_tl]
  have en : (p ++ ("/" : Str)).length = (TL.tl p).length + 1 := by rw [TL.len_tl, el, List.length_append, List.length_singleton]
  rw [starts_at, el, en]
  unfold prefsF
  rw [List.mem_map]
  constructor
  · rintro ⟨k, hk, rfl⟩
    rw [List.mem_range] at hk
    obtain ⟨R, e⟩ := of_above (ss := (segs x).map TL.tl) (k := k) (by rw [List.length_map]; omega)
    rw [tl_segs, ← tl_pref] at e
    rw [e]
    generalize TL.tl (Txt.join "/" ((segs x).take (k + 1))) = P
    rw [show P ++ 47 :: R = (P ++ [47]) ++ R by rw [List.append_assoc]; rfl, List.take_left' (by rw [List.length_append, List.length_singleton])]
  · intro e
    have e2 : TL.tl x = TL.tl p ++ 47 :: (TL.tl x).drop ((TL.tl p).length + 1) := by
      conv => lhs; rw [← List.take_append_drop ((TL.tl p).length + 1) (TL.tl x), e, List.append_assoc]
      rfl
    obtain ⟨k, h1, h2⟩ := above_of (segs_free x) ((tl_segs x).trans e2)
    rw [List.length_map] at h1
    exact ⟨k, List.mem_range.mpr (by omega), TL.ext_tl (by rw [tl_pref, h2])⟩
theorem prefs_len {x p : Str} (h : p ∈ prefsF x) : p.length < x.length := by
  have := (starts_at _ _).mp (mem_prefs.mp h)
  have e := congrArg List.length this
  rw [List.length_take, ← TL.len_tl, ← TL.len_tl] at e
  have en : (p ++ ("/" : Str)).length = p.length + 1 := by rw [TL.len_tl, TL.tl_append, slash_tl, List.length_append, List.length_singleton, ← TL.len_tl]
  omega
end Fk

set_option maxHeartbeats 4000000
namespace Fk
open PySem PySem.Spec PyProof.Rows L2
def top (i : Nat) : Stmt := PySem.Challenge.pw_forkhaul_k39_files_merged.main.body.getD i (.Pass ⟨0, 0, 0, 0⟩)
abbrev s_ForkError_init : Stmt := inClass (top 1) 0
theorem sc_ForkError_init : FnScope ["self", "why"] ["self", "why"] (C8.fnScope s_ForkError_init) := C8.fnScope_by (by decide +kernel)

abbrev s_is_id : Stmt := top 7
theorem sc_is_id : FnScope ["thing"] ["thing"] (C8.fnScope s_is_id) := C8.fnScope_by (by decide +kernel)

abbrev s_is_path : Stmt := top 8
theorem sc_is_path : FnScope ["thing", "segments", "segment"] ["thing"] (C8.fnScope s_is_path) := C8.fnScope_by (by decide +kernel)

abbrev s_is_segment : Stmt := top 9
theorem sc_is_segment : FnScope ["thing"] ["thing"] (C8.fnScope s_is_segment) := C8.fnScope_by (by decide +kernel)

abbrev s_ascending : Stmt := top 10
theorem sc_ascending : FnScope ["names", "name"] ["names"] (C8.fnScope s_ascending) := C8.fnScope_by (by decide +kernel)

abbrev s_prefixes : Stmt := top 11
theorem sc_prefixes : FnScope ["path", "segments", "many"] ["path"] (C8.fnScope s_prefixes) := C8.fnScope_by (by decide +kernel)

abbrev s__is_word : Stmt := top 12
theorem sc__is_word : FnScope ["thing", "signs"] ["thing", "signs"] (C8.fnScope s__is_word) := C8.fnScope_by (by decide +kernel)

abbrev s_is_value : Stmt := top 15
theorem sc_is_value : FnScope ["thing", "kinds", "kind", "name"] ["thing", "kinds"] (C8.fnScope s_is_value) := C8.fnScope_by (by decide +kernel)

abbrev s_differences : Stmt := top 17
theorem sc_differences : FnScope ["old", "new", "rows", "path", "before", "behind"] ["old", "new"] (C8.fnScope s_differences) := C8.fnScope_by (by decide +kernel)

abbrev s_merged : Stmt := top 18
theorem sc_merged : FnScope ["bases", "ours", "theirs", "values", "base", "path", "torn", "results", "crossed", "files"] ["bases", "ours", "theirs"] (C8.fnScope s_merged) := C8.fnScope_by (by decide +kernel)

abbrev s_check_are_files : Stmt := top 19
theorem sc_check_are_files : FnScope ["arguments", "files", "path"] ["arguments"] (C8.fnScope s_check_are_files) := C8.fnScope_by (by decide +kernel)

abbrev s_crossing : Stmt := top 20
theorem sc_crossing : FnScope ["paths", "found", "path", "prefix"] ["paths"] (C8.fnScope s_crossing) := C8.fnScope_by (by decide +kernel)

abbrev s__merged_values : Stmt := top 21
theorem sc__merged_values : FnScope ["olds", "mine", "other", "old", "value"] ["olds", "mine", "other"] (C8.fnScope s__merged_values) := C8.fnScope_by (by decide +kernel)

abbrev s_l_cell_at : Stmt := top 23
theorem sc_l_cell_at : FnScope ["_law_script", "_law_k"] ["_law_script", "_law_k"] (C8.fnScope s_l_cell_at) := C8.fnScope_by (by decide +kernel)

abbrev s_l_well : Stmt := top 24
theorem sc_l_well : FnScope ["_law_cell"] ["_law_cell"] (C8.fnScope s_l_well) := C8.fnScope_by (by decide +kernel)

abbrev s_l_draw : Stmt := top 25
theorem sc_l_draw : FnScope ["_law_well_here", "_law_size", "_law_found", "_law_seed", "_law_mixed"] ["_law_well_here", "_law_size"] (C8.fnScope s_l_draw) := C8.fnScope_by (by decide +kernel)

abbrev s_l_pick : Stmt := top 26
theorem sc_l_pick : FnScope ["_law_well_here", "_law_some"] ["_law_well_here", "_law_some"] (C8.fnScope s_l_pick) := C8.fnScope_by (by decide +kernel)

abbrev s_l_some_files : Stmt := top 27
theorem sc_l_some_files : FnScope ["_law_well_here", "_law_most", "_law_found", "_law_k", "_law_value", "_law_some", "_law_near_here"] ["_law_well_here", "_law_most"] (C8.fnScope s_l_some_files) := C8.fnScope_by (by decide +kernel)

abbrev s_l_near : Stmt := top 28
theorem sc_l_near : FnScope ["_law_well_here", "_law_files", "_law_found", "_law_k", "_law_more", "_law_path"] ["_law_well_here", "_law_files"] (C8.fnScope s_l_near) := C8.fnScope_by (by decide +kernel)

abbrev s_l_clashes : Stmt := top 29
theorem sc_l_clashes : FnScope ["_law_files", "_law_found", "_law_path", "_law_other", "_law_k"] ["_law_files"] (C8.fnScope s_l_clashes) := C8.fnScope_by (by decide +kernel)

abbrev s_l_due : Stmt := top 30
theorem sc_l_due : FnScope ["_law_bases", "_law_ours", "_law_theirs", "_law_every", "_law_files", "_law_path", "_law_found", "_law_conflicts", "_law_left", "_law_right", "_law_values", "_law_base", "_law_agreed", "_law_value", "_law_bad"] ["_law_bases", "_law_ours", "_law_theirs"] (C8.fnScope s_l_due) := C8.fnScope_by (by decide +kernel)

abbrev s_l_same : Stmt := top 31
theorem sc_l_same : FnScope ["_law_found", "_law_due_here"] ["_law_found", "_law_due_here"] (C8.fnScope s_l_same) := C8.fnScope_by (by decide +kernel)

abbrev s_l_refused : Stmt := top 32
theorem sc_l_refused : FnScope ["_law_ask"] ["_law_ask"] (C8.fnScope s_l_refused) := C8.fnScope_by (by decide +kernel)

abbrev s_l_rows_right : Stmt := top 33
theorem sc_l_rows_right : FnScope ["_law_ours", "_law_theirs", "_law_rows", "_law_paths", "_law_path", "_law_wanted", "_law_row"] ["_law_ours", "_law_theirs"] (C8.fnScope s_l_rows_right) := C8.fnScope_by (by decide +kernel)

abbrev s_l_refuses : Stmt := top 34
theorem sc_l_refuses : FnScope ["_law_well_here", "_law_bases", "_law_ours", "_law_theirs", "_law_some", "_law_odd", "_law_asks", "_law_ask"] ["_law_well_here", "_law_bases", "_law_ours", "_law_theirs"] (C8.fnScope s_l_refuses) := C8.fnScope_by (by decide +kernel)

abbrev s_law : Stmt := top 35
theorem sc_law : FnScope ["_law_script", "_law_cell", "_law_well_here", "_law_root", "_law_bases", "_law_k", "_law_ours", "_law_theirs", "_law_due_here", "_law_kept", "_law_turned", "_law_path", "_law_founds", "_law_alike", "_law_bad"] ["_law_script"] (C8.fnScope s_law) := C8.fnScope_by (by decide +kernel)

structure Top (K : PySem.W.Frag) (mg : Str → Option Value) : Prop where
  d_is_id : IsDef K mg "is_id" s_is_id
  d_is_path : IsDef K mg "is_path" s_is_path
  d_is_segment : IsDef K mg "is_segment" s_is_segment
  d_ascending : IsDef K mg "ascending" s_ascending
  d_prefixes : IsDef K mg "prefixes" s_prefixes
  d__is_word : IsDef K mg "_is_word" s__is_word
  d_is_value : IsDef K mg "is_value" s_is_value
  d_differences : IsDef K mg "differences" s_differences
  d_merged : IsDef K mg "merged" s_merged
  d_check_are_files : IsDef K mg "check_are_files" s_check_are_files
  d_crossing : IsDef K mg "crossing" s_crossing
  d__merged_values : IsDef K mg "_merged_values" s__merged_values
  d_l_cell_at : IsDef K mg "_law_cell_at" s_l_cell_at
  d_l_well : IsDef K mg "_law_well" s_l_well
  d_l_draw : IsDef K mg "_law_draw" s_l_draw
  d_l_pick : IsDef K mg "_law_pick" s_l_pick
  d_l_some_files : IsDef K mg "_law_some_files" s_l_some_files
  d_l_near : IsDef K mg "_law_near" s_l_near
  d_l_clashes : IsDef K mg "_law_clashes" s_l_clashes
  d_l_due : IsDef K mg "_law_due" s_l_due
  d_l_same : IsDef K mg "_law_same" s_l_same
  d_l_refused : IsDef K mg "_law_refused" s_l_refused
  d_l_rows_right : IsDef K mg "_law_rows_right" s_l_rows_right
  d_l_refuses : IsDef K mg "_law_refuses" s_l_refuses
  d_law : IsDef K mg "law" s_law
  z_ValueError : mg "ValueError" = none
  z_all : mg "all" = none
  z_any : mg "any" = none
  z_dict : mg "dict" = none
  z_int : mg "int" = none
  z_isinstance : mg "isinstance" = none
  z_len : mg "len" = none
  z_list : mg "list" = none
  z_range : mg "range" = none
  z_sorted : mg "sorted" = none
  z_str : mg "str" = none
  z_tuple : mg "tuple" = none
  g_HEX_DIGITS : ∃ u, mg "HEX_DIGITS" = some u ∧ RelV (V.str (Str.ofString "0123456789abcdef")) u
  g_SEGMENT_SIGNS : ∃ u, mg "SEGMENT_SIGNS" = some u ∧ RelV (V.str (Str.ofString "abcdefghijklmnopqrstuvwxyz0123456789._-")) u
  g_LONGEST_WORD : ∃ u, mg "LONGEST_WORD" = some u ∧ RelV (V.int 12) u
section
variable {P : Program} {w : World} {K : PySem.W.Frag} {mg : Str → Option Value} {base : Heap}
def spIsWord : Sp := fun vs H Q _ => ∃ (v : V) (y : Str), vs = [v, .str y] ∧ Thing H v ∧ ∀ H', Same H H' → Q (.bl (evalV (isWordF y) v)) H'
theorem c__is_word (T : Top K mg) : C8.Cal P w K mg base 2 "_is_word" spIsWord [] := by
  refine cal_of T.d__is_word sc__is_word (fun _ _ _ _ _ _ us hl => match us, hl with | [_, _], _ => rfl) (fun vs H Q E h => ?_) (fun f cdv A outer s H vs Q E hr h => ?_)
  · obtain ⟨x, y, rfl, _⟩ := h
    rfl
  · obtain ⟨v, y, rfl, t, q⟩ := h
    refine ⟨_, (pss_one (ps_ret (pe_and (pe_callB call_isi (by rfl) T.z_isinstance (by decide +kernel) (pa_cons (pv 0) (pa_cons (pe_bltn (v := .ty "str") (by rfl) T.z_str (by decide +kernel) rfl) pa_nil))) (pe_and (pe_chain op_le op_le pe_int (pe_callB call_len_str (by rfl) T.z_len (by decide +kernel) (pa_cons (pv 0) pa_nil)) (C8.pe_gc (by rfl) T.g_LONGEST_WORD)) (pe_one (pe_cmpR op_eq (pe_bm PySem.F.plainAttrs_str PySem.F.slot_str_strip PySem.F.type_str_strip mt_stripChars (pv 0) (pa_cons (pv 1) pa_nil)) pe_str (nomark _))))))), ?_⟩
    refine ⟨v, rfl, ?_⟩
    dsimp only [tCons, tC, tNil]
    refine t.isi ?_
    refine ⟨_, rfl, ?_⟩
    rcases t.cases with ⟨x, rfl, hx, ho⟩ | hn
    · refine iteT ⟨.str x, rfl, x, rfl, small_line (by omega), _, _, rfl, rfl, _, rfl, ite2 (fun h1 => ?_) (fun h1 => ?_)⟩
      · have h1 := of_decide_eq_true h1
        refine ⟨_, _, rfl, rfl, _, rfl, ite2 (fun h2 => ?_) (fun h2 => ?_)⟩
        · have h2 := of_decide_eq_true h2
          refine ⟨.str x, rfl, rfl, .str y, rfl, x, y, rfl, rfl, small_line (by omega), rfl, of_ev (q _ (Same.refl _)) (Eq.trans ?_ (strip_none x y).symm)⟩
          unfold isWordF
          rw [decide_eq_true (by omega), decide_eq_true (by omega)]
          rfl
        · have h2 : ¬ x.length ≤ 12 := fun z => h2 (decide_eq_true (by omega))
          refine of_ev (q _ (Same.refl _)) ?_
          unfold isWordF
          rw [decide_eq_false h2, Bool.false_and, Bool.and_false]
      · have h1 : ¬ 1 ≤ x.length := fun z => h1 (decide_eq_true (by omega))
        refine ⟨_, rfl, iteF (of_ev (q _ (Same.refl _)) ?_)⟩
        unfold isWordF
        rw [decide_eq_false h1, Bool.false_and]
    · rw [hn]
      exact iteF (of_ev0 hn (q _ (Same.refl _)))
theorem evalV_split {f : Str → Bool} : evalV f = fun v => match v with | .str x => f x | _ => false := rfl
theorem c_is_segment (T : Top K mg) : C8.Cal P w K mg base 3 "is_segment" (spWord isSegF) [] := by
  refine cal_of T.d_is_segment sc_is_segment (fun _ _ _ _ _ _ us hl => match us, hl with | [_], _ => rfl) (fun vs H Q E h => ?_) (fun f cdv A outer s H vs Q E hr h => ?_)
  · obtain ⟨x, rfl, _⟩ := h
    rfl
  · obtain ⟨v, rfl, t, q⟩ := h
    refine ⟨_, (pss_one (ps_ret (pe_and (C8.pe_c (c__is_word T) hr (by decide) (by rfl) (pa_cons (pv 0) (pa_cons (C8.pe_gc (by rfl) T.g_SEGMENT_SIGNS) pa_nil))) (pe_and (pe_cmpR op_ne (pv 0) pe_str (nomark _)) (pe_one (pe_cmpR op_notin_str pe_str (pv 0) rfl)))))), ?_⟩
    refine ⟨v, rfl, v, SSG, rfl, t, fun H1 s1 => ⟨_, rfl, ?_⟩⟩
    rcases t.cases with ⟨x, rfl, hx, ho⟩ | hn
    · refine ite2 (fun h1 => ?_) (fun h1 => ?_)
      · have h1 : isWordF SSG x = true := h1
        refine ⟨.str x, rfl, rfl, _, rfl, ite2 (fun h2 => ?_) (fun h2 => ?_)⟩
        · refine ⟨.str x, rfl, _, x, rfl, rfl, of_ev (q _ s1) ?_⟩
          have h2 : ¬ x = "." := fun z => by
            rw [z] at h2
            simp at h2
          unfold isSegF
          rw [h1, decide_eq_false h2]
          rfl
        · refine of_ev (q _ s1) ?_
          have h2 : x = "." := Decidable.byContradiction fun z => h2 (by rw [decide_eq_false (fun e => z (V.str.inj e))]; rfl)
          unfold isSegF
          rw [decide_eq_true h2]
          simp
      · have h1 : isWordF SSG x = false := Bool.eq_false_iff.mpr h1
        refine of_ev (q _ s1) ?_
        unfold isSegF
        rw [h1, Bool.false_and]
    · rw [hn]
      exact iteF (of_ev0 hn (q _ s1))
theorem c_is_id (T : Top K mg) : C8.Cal P w K mg base 2 "is_id" (spWord isIdF) [] := by
  refine cal_of T.d_is_id sc_is_id (fun _ _ _ _ _ _ us hl => match us, hl with | [_], _ => rfl) (fun vs H Q E h => ?_) (fun f cdv A outer s H vs Q E hr h => ?_)
  · obtain ⟨x, rfl, _⟩ := h
    rfl
  · obtain ⟨v, rfl, t, q⟩ := h
    refine ⟨_, (pss_one (ps_ret (pe_and (pe_callB call_isi (by rfl) T.z_isinstance (by decide +kernel) (pa_cons (pv 0) (pa_cons (pe_bltn (v := .ty "str") (by rfl) T.z_str (by decide +kernel) rfl) pa_nil))) (pe_and (pe_cmpR op_eq (pe_callB call_len_str (by rfl) T.z_len (by decide +kernel) (pa_cons (pv 0) pa_nil)) pe_int (nomark _)) (pe_one (pe_cmpR op_eq (pe_bm PySem.F.plainAttrs_str PySem.F.slot_str_strip PySem.F.type_str_strip mt_stripChars (pv 0) (pa_cons (C8.pe_gc (by rfl) T.g_HEX_DIGITS) pa_nil)) pe_str (nomark _))))))), ?_⟩
    refine ⟨v, rfl, ?_⟩
    dsimp only [tCons, tC, tNil]
    refine t.isi ?_
    refine ⟨_, rfl, ?_⟩
    rcases t.cases with ⟨x, rfl, hx, ho⟩ | hn
    · refine iteT ⟨.str x, rfl, x, rfl, small_line (by omega), rfl, _, rfl, ite2 (fun h1 => ?_) (fun h1 => ?_)⟩
      · have h1 := V.int.inj (of_decide_eq_true h1)
        refine ⟨.str x, rfl, rfl, x, HEX, rfl, rfl, small_line (by omega), rfl, of_ev (q _ (Same.refl _)) (Eq.trans ?_ (strip_none x HEX).symm)⟩
        unfold isIdF
        rw [decide_eq_true (by omega)]
        rfl
      · have h1 : ¬ x.length = 16 := fun z => h1 (decide_eq_true (by rw [z]; rfl))
        refine of_ev (q _ (Same.refl _)) ?_
        unfold isIdF
        rw [decide_eq_false h1, Bool.false_and]
    · rw [hn]
      exact iteF (of_ev0 hn (q _ (Same.refl _)))
theorem c_is_path (T : Top K mg) : C8.Cal P w K mg base 4 "is_path" (spWord isPathF) [] := by
  refine cal_of T.d_is_path sc_is_path (fun _ _ _ _ _ _ us hl => match us, hl with | [_], _ => rfl) (fun vs H Q E h => ?_) (fun f cdv A outer s H vs Q E hr h => ?_)
  · obtain ⟨x, rfl, _⟩ := h
    rfl
  · obtain ⟨v, rfl, t, q⟩ := h
    refine ⟨_, (pss_cons (ps_if (pt_not (pt_val (pe_callB call_isi (by rfl) T.z_isinstance (by decide +kernel) (pa_cons (pv 0) (pa_cons (pe_bltn (v := .ty "str") (by rfl) T.z_str (by decide +kernel) rfl) pa_nil)))))
      (pss_one (ps_ret pe_bl))
      pss_nil)
      (pss_cons (ps_set (i := 1) sc_is_path.nd rfl (Or.inl rfl) (pe_split (pv 0) pe_str))
      (pss_one (ps_ret (pe_and (pe_cmpR op_le (pe_callB call_len_seq (by rfl) T.z_len (by decide +kernel) (pa_cons (pv 1) pa_nil)) pe_int (nomark _)) (pe_one (pe_callB (cr_all rfl) (by rfl) T.z_all (by decide +kernel) (pa_cons (pe_lc (own := [("segment", 2)]) (g := gName 2) (by rfl) sc_is_path.nd (pi_list (pv 1)) (blkOk_by (own := [("segment", 2)]) (N := ["thing", "segments", "segment"]) (sc := C8.fnScope s_is_path) (by decide +kernel)) (fun _ _ _ _ _ => (pg_name (i := 2) sc_is_path.nd rfl (Or.inl rfl))) (fun _ _ _ _ _ => pts_nil) (fun _ _ _ _ _ => (C8.pe_c (c_is_segment T) hr (by decide) (by rfl) (pa_cons (pv 2) pa_nil)))) pa_nil)))))))), ?_⟩
    refine ⟨v, rfl, ?_⟩
    dsimp only [tCons, tC, tNil]
    refine t.isi ?_
    refine ⟨_, rfl, ?_⟩
    rcases t.cases with ⟨x, rfl, hx, ho⟩ | hn
    · obtain ⟨hl1, hl2⟩ := segs_len x hx
      have ho2 := segs_ok x ho
      refine iteF ⟨.str x, rfl, ⟨x, rfl⟩, x, _, rfl, rfl, rfl, small_line (by omega), fun p hp => ?_⟩
      have sm := same_new (o := .lst ((segs x).map V.str)) hp
      refine ⟨.ref p, rfl, p, (segs x).map V.str, rfl, .inl (.inl (.inl upd_same)), _, _, rfl, rfl, _, rfl, ite2 (fun h1 => ?_) (fun h1 => ?_)⟩
      · have h1 : (segs x).length ≤ 6 := by
          have h1 := of_decide_eq_true h1
          rw [List.length_map] at h1
          omega
        refine ⟨.ref p, rfl, p, rfl, ⟨_, .inl (.inl upd_same)⟩, fun D hD => ?_⟩
        have np : p ≠ D := ne_of_none upd_same hD
        refine lc_pure (i := 2) (us := segs x) (g := V.str) yields_list (fun u => .bl (isSegF u)) (fun _ => true) hD (fun H s => .inl (.inl (s _ _ upd_same))) (fun H u _ hu R r => r H (Same.refl H))
          (fun H u _ hu _ R r => ⟨.str u, rfl, .str u, rfl, .str u (hl2 u hu) (ho2 u hu), fun H' s' => r H' s'⟩) (by omega) (fun H2 s2 h2 => ?_)
        refine ⟨D, (segs x).map isSegF, rfl, .inl (.inl ?_), of_ev (q _ (sm.trans s2)) ?_⟩
        · rw [h2, filt_all, List.map_map]
          rfl
        · unfold isPathF
          rw [decide_eq_true h1, List.all_map]
          rfl
      · have h1 : ¬ (segs x).length ≤ 6 := fun z => h1 (decide_eq_true (by rw [List.length_map]; omega))
        refine of_ev (q _ sm) ?_
        unfold isPathF
        rw [decide_eq_false h1, Bool.false_and]
    · rw [hn]
      exact iteT (of_ev0 hn (q _ (Same.refl _)))
def spAsc : Sp := fun vs H Q _ => ∃ (a : Addr) (t : Tab), vs = [.ref a] ∧ H a = some (.dK (kT t)) ∧ t.length < 64 ∧ ∀ (ys : List Str) (p : Addr) (H' : Hp), ys.Perm (t.map (·.1)) → sortedS ys = true → H p = none → Same H H' → H' p = some (.tup (ys.map V.str)) → Q (.ref p) H'
theorem c_ascending (T : Top K mg) : C8.Cal P w K mg base 1 "ascending" spAsc [] := by
  refine cal_of T.d_ascending sc_ascending (fun _ _ _ _ _ _ us hl => match us, hl with | [_], _ => rfl) (fun vs H Q E h => ?_) (fun f cdv A outer s H vs Q E hr h => ?_)
  · obtain ⟨a, t, rfl, _⟩ := h
    rfl
  · obtain ⟨a, t, rfl, ha, hl, q⟩ := h
    refine ⟨_, (pss_one (ps_ret (pe_callTy call_tuple_of (by rfl) T.z_tuple (by decide +kernel) (pa_cons (pe_callB (cr_sortedS) (by rfl) T.z_sorted (by decide +kernel) (pa_cons (pe_lock (pe_lc (own := [("name", 1)]) (g := gName 1) (by rfl) sc_ascending.nd (pi_keys (pv 0)) (blkOk_by (own := [("name", 1)]) (N := ["names", "name"]) (sc := C8.fnScope s_ascending) (by decide +kernel)) (fun _ _ _ _ _ => (pg_name (i := 1) sc_ascending.nd rfl (Or.inl rfl))) (fun _ _ _ _ _ => pts_nil) (fun _ _ _ _ _ => (pe_callTy SkE.call_str_str (by rfl) T.z_str (by decide +kernel) (pa_cons (pv 1) pa_nil))))) pa_nil)) pa_nil)))), ?_⟩
    refine ⟨a, _, ha, trivial, fun od => ⟨.ref a, rfl, a, od, rfl, .inl ⟨kT t, upd_same, fun D hD => ?_⟩⟩⟩
    have na : D ≠ a := fun z => by
      rw [z, upd_same] at hD
      cases hD
    have Y : Yields (Itk a od (kT t)) ((t.map (·.1)).map V.str) (fun H => H a = some (.frz od (.dK (kT t)))) := by
      rw [← kV_kT]
      exact yields_keys
    refine lc_pure (i := 1) (us := t.map (·.1)) (g := V.str) Y V.str (fun _ => true) hD (fun H s => s _ _ upd_same) (fun H u _ hu R r => r H (Same.refl H))
      (fun H u _ hu _ R r => ⟨_, rfl, u, rfl, r H (Same.refl H)⟩) (by rw [List.length_map]; omega) (fun H2 s2 h2 => ?_)
    rw [filt_all] at h2
    have sm : Same H (upd H2 a (.dK (kT t))) := fun b o e => by
      by_cases hb : b = a
      · rw [hb, upd_same, ← ha, ← hb, e]
      · rw [upd_ne hb]
        exact s2 _ _ (by rw [upd_ne hb]; exact e)
    have hD' : H D = none := by rw [upd_ne na] at hD; exact hD
    refine ⟨s2 _ _ upd_same, D, t.map (·.1), rfl, .inl (.inl ?_), by rw [List.length_map]; exact hl, fun ys p hp hs hn => ?_⟩
    · rw [upd_ne na]
      exact h2
    · refine ⟨p, _, rfl, .inl ⟨.inl (.inl upd_same), fun l hl => ?_⟩⟩
      have np : H p = none := sm.free hn
      have nl : H l = none := (sm.trans (same_new hn)).free hl
      exact q ys l _ hp hs nl ((sm.trans (same_new hn)).trans (same_new hl)) upd_same
end

end Fk

set_option maxHeartbeats 4000000
namespace Fk
open PySem PySem.Spec PyProof.Rows L2
/-- the error, the kinds of files -/
structure TopG (K : PySem.W.Frag) (mg : Str → Option Value) (fk cP iF : Addr) : Prop extends Top K mg where
  g_FILE_KINDS : ∃ u, mg "FILE_KINDS" = some u ∧ RelV (.ref fk) u
  kF : KTup K fk (FKS.map V.str)
  eP : ErrC K mg "BadPath" "why" cP iF
  exP : PySem.W.exmOne K (.ref cP) (.ref cP) = some true
theorem flat_strs (ys : List Str) : (ys.map V.str).all flatV = true := by
  rw [List.all_map]
  exact List.all_eq_true.mpr fun y _ => rfl
section
variable {P : Program} {w : World} {K : PySem.W.Frag} {mg : Str → Option Value} {base : Heap} {fk iF cP : Addr}
theorem isi_tup {H : Hp} {p : Addr} {xs : List V} {Q : VK} (h : TupK K H p xs) (k : Q (.bl true) H) : rIsi K [.ref p, .ty "tuple"] H Q := by
  rcases h with e | ⟨o, its, n, lk, c, _⟩
  · exact ⟨_, _, .type "tuple", .type "tuple", true, rfl, .ty "tuple", .base (.tup e), kit_ty (by decide +kernel), k⟩
  · exact ⟨_, _, .type "tuple", .type "tuple", true, rfl, .ty "tuple", .kTuple lk c, kit_ty (by decide +kernel), k⟩
/-- what is no tuple -/
def NoTup (K : PySem.W.Frag) (H : Hp) (v : V) : Prop := ∃ Ty ∈ (["NoneType", "int", "str", "list", "dict"] : List String), TyX K H v (.type Ty)
theorem noTup_isi {H : Hp} {v : V} (h : NoTup K H v) {R : VK} (r : R (.bl false) H) : rIsi K [v, .ty "tuple"] H R := by
  obtain ⟨Ty, hT, ty⟩ := h
  refine ⟨_, _, .type Ty, .type "tuple", false, rfl, .ty "tuple", ty, ?_, r⟩
  simp only [List.mem_cons, List.not_mem_nil, or_false] at hT
  rcases hT with rfl | rfl | rfl | rfl | rfl <;> exact kit_ty (by decide +kernel)
/-- what is no value of a file -/
def BadVal (K : PySem.W.Frag) (H : Hp) (v : V) : Prop := NoTup K H v ∨ ∃ (q : Addr) (k x : Str), v = .ref q ∧ TupK K H q [.str k, .str x] ∧ k ∉ FKS
def spValue (K : PySem.W.Frag) : Sp := fun vs H Q _ => ∃ (v : V) (k : Addr), vs = [v, .ref k] ∧ TupK K H k (FKS.map V.str) ∧ ((∃ (q : Addr) (p : Str × Str), v = .ref q ∧ TupK K H q [.str p.1, .str p.2] ∧ p.1 ∈ FKS ∧ isIdF p.2 = true ∧ ∀ H', Same H H' → Q (.bl true) H') ∨ (BadVal K H v ∧ Q (.bl false) H))
theorem c_is_value (T : Top K mg) : C8.Cal P w K mg base 3 "is_value" (spValue K) [] := by
  refine cal_of T.d_is_value sc_is_value (fun _ _ _ _ _ _ us hl => match us, hl with | [_, _], _ => rfl) (fun vs H Q E h => ?_) (fun f cdv A outer s H vs Q E hr h => ?_)
  · obtain ⟨v, k, rfl, _⟩ := h
    rfl
  · obtain ⟨v, k, rfl, hk, h⟩ := h
    refine ⟨_, (pss_cons (ps_if (PW.pt (pw_or (pt_not (pt_val (pe_callB call_isi (by rfl) T.z_isinstance (by decide +kernel) (pa_cons (pv 0) (pa_cons (pe_bltn (v := .ty "tuple") (by rfl) T.z_tuple (by decide +kernel) rfl) pa_nil))))) (pw_or1 (pt_cmpR op_ne (pe_callB call_len_seq (by rfl) T.z_len (by decide +kernel) (pa_cons (pv 0) pa_nil)) pe_int (nomark _)))))
      (pss_one (ps_ret pe_bl))
      pss_nil)
      (pss_cons (ps_asg (pv 0) (pg_tup rfl (pgs_cons (pg_name (i := 2) sc_is_value.nd rfl (Or.inl rfl)) (pgs_cons (pg_name (i := 3) sc_is_value.nd rfl (Or.inl rfl)) pgs_nil))))
      (pss_one (ps_ret (pe_and (pe_cmpR op_in_seq (pv 2) (pv 1) rfl) (pe_one (C8.pe_c (c_is_id T) hr (by decide) (by rfl) (pa_cons (pv 3) pa_nil)))))))), ?_⟩
    refine ⟨v, rfl, ?_⟩
    dsimp only [tCons, tC, tNil]
    have inF : ∀ x : Str, inV (V.str x) (FKS.map V.str) = decide (x ∈ FKS) := fun x => by
      unfold inV
      by_cases hx : x ∈ FKS
      · rw [decide_eq_true hx, List.any_eq_true]
        exact ⟨.str x, List.mem_map.mpr ⟨x, hx, rfl⟩, by show (x == x) = true; exact beq_self_eq_true _⟩
      · rw [decide_eq_false hx, List.any_eq_false]
        intro v hv e
        obtain ⟨y, hy, rfl⟩ := List.mem_map.mp hv
        have e : y = x := eq_of_beq (show (y == x) = true from e)
        exact hx (e ▸ hy)
    rcases h with ⟨p, pp, rfl, hp, hm, hi, q⟩ | ⟨nt | ⟨p, y, z, rfl, hp, hm⟩, q⟩
    · refine isi_tup hp ⟨_, rfl, iteF ?_⟩
      refine ⟨.ref p, rfl, p, _, rfl, .inr hp.sq, rfl, _, rfl, iteF ?_⟩
      refine ⟨.ref p, rfl, p, _, rfl, hp.sq, rfl, _, _, rfl, _, _, rfl, rfl, ?_⟩
      refine ⟨.str pp.1, rfl, .ref k, rfl, k, _, rfl, .inr hk.sq, rfl, flat_strs FKS, _, rfl, ?_⟩
      rw [inF, decide_eq_true hm]
      refine iteT ?_
      exact ⟨.str pp.2, rfl, .str pp.2, rfl, .str pp.2 (by have := (ok_idF hi).2; omega) (ok_idF hi).1, fun H' s' => by
          rw [show evalV isIdF (.str pp.2) = true from hi]
          exact q H' s'⟩
    · exact noTup_isi nt ⟨_, rfl, iteT q⟩
    · refine isi_tup hp ⟨_, rfl, iteF ?_⟩
      refine ⟨.ref p, rfl, p, _, rfl, .inr hp.sq, rfl, _, rfl, iteF ?_⟩
      refine ⟨.ref p, rfl, p, _, rfl, hp.sq, rfl, _, _, rfl, _, _, rfl, rfl, ?_⟩
      refine ⟨.str y, rfl, .ref k, rfl, k, _, rfl, .inr hk.sq, rfl, flat_strs FKS, _, rfl, ?_⟩
      rw [inF, decide_eq_false hm]
      exact iteF q
end
theorem fr_sets {a : Addr} {H H1 : Hp} (s : Same H H1) {o : HO} : Fr a H (upd H1 a o) := (Fr.same s).trans Fr.at
section
variable {P : Program} {w : World} {K : PySem.W.Frag} {mg : Str → Option Value} {base : Heap} {fk iF cP : Addr}
def Bad (c : Addr) (H : Hp) (E : XK) : Prop := ∀ (dd : Addr) (y : V) (H' : Hp), Same H H' → H' dd = some (.xd [("why", y)]) → E (.ref c) (some dd) H'
theorem Bad.same {c : Addr} {H H1 : Hp} {E : XK} (b : Bad c H E) (s : Same H H1) : Bad c H1 E := fun dd y H' s' h => b dd y H' (s.trans s') h
theorem made_same {x dx : Addr} {H H2 : Hp} {o u : HO} (hx : H x = none) (hdx : H dx = none) (f : Fr x (upd (upd H dx o) x u) H2) : Same H H2 := fun b q z => by
  have n1 := ne_of_none z hx
  exact f b q n1 (by rw [upd_ne n1, upd_ne (ne_of_none z hdx)]; exact z)
/-- a table is read, also while it is locked -/
theorem dget_two {H H1 : Hp} {d e : Addr} {od : Obj} {t u : Tab} (hd : H d = some (.dK (kT t))) (he : H e = some (.dK (kT u))) (s : Same (upd H d (.frz od (.dK (kT t)))) H1) (x : Str) : DGet H1 e (.str x) (valV u x) := by
  by_cases z : e = d
  · subst z
    rw [hd] at he
    have e1 : kT t = kT u := by injection he with he; injection he
    refine dget_kT (.inr ⟨od, ?_⟩) x
    rw [← e1]
    exact s _ _ upd_same
  · exact dget_kT (.inl (s _ _ (by rw [upd_ne z]; exact he))) x
theorem calX_of {x : Str} {st : Stmt} {N ps : List Str} {k : Nat} {sp : Sp} (D : IsDef K mg x st) (S : FnScope N ps (C8.fnScope st))
    (hb : ∀ (kV doc pm : Value) (an : Option Addr) (cdv ct : Value) (us : List Value), us.length = ps.length → bindArgs (PySem.W.fnOf x x (C8.fnArgs st) (C8.fnBody st) (C8.fnScope st) .none kV doc pm an cdv ct) ⟨us, []⟩ = pure (ps.zip us))
    (len : ∀ vs H Q E, sp vs H Q E → vs.length = ps.length)
    (hbody : ∀ (f : Addr) (cdv : Value) (A : Around) (outer : List Env) (s : Shared) (H : Hp) (vs : List V) (Q : VK) (E : XK), Room k (A.deeper (envOfC x (C8.fnScope st) s.heap.objs.size f cdv)) → sp vs H Q E →
      ∃ t, PSs (cxOf (L2.CX P w) P w K mg base N x (C8.fnScope st) f cdv A outer s H E) (C8.fnBody st) t ∧ t { nx := fun _ H' => Q .non H', rt := Q } (start N vs) H) : CalX P w K mg base (L2.CX P w) (k + 1) x sp [] := by
  obtain ⟨f, fd, D, df⟩ := D
  obtain ⟨oc, od, dV, kV, doc, pm, an, cdv, ct, osl, rfl, lk, hcd⟩ := D.fn.ex
  exact ⟨f, _, ps, [], fn_of lk hcd S len fun A outer s H vs Q E hr hsp => hbody f cdv A outer s H vs Q E hr hsp, D.mgf, D.kp, D.fn.binds df hb, .nil⟩
theorem pss_vac {X : Cx} {sts : List Stmt} : PSs X sts (fun _ _ _ => False) := ⟨fun _ _ _ _ _ _ h => h.elim⟩
def NoDict (K : PySem.W.Frag) (H : Hp) (v : V) : Prop := ∃ Ty ∈ (["NoneType", "int", "list", "tuple"] : List String), TyX K H v (.type Ty)
theorem noDict_isi {H : Hp} {v : V} (h : NoDict K H v) {R : VK} (r : R (.bl false) H) : rIsi K [v, .ty "dict"] H R := by
  obtain ⟨Ty, hT, ty⟩ := h
  refine ⟨_, _, .type Ty, .type "dict", false, rfl, .ty "dict", ty, ?_, r⟩
  simp only [List.mem_cons, List.not_mem_nil, or_false] at hT
  rcases hT with rfl | rfl | rfl | rfl <;> exact kit_ty (by decide +kernel)
end
/-! ### the paths above a path -/
section
variable {P : Program} {w : World} {K : PySem.W.Frag} {mg : Str → Option Value} {base : Heap} {fk iF cP : Addr}
theorem cutV_to {α : Type} (l : List α) (g : α → V) (k : Nat) : cutV (l.map g) none (some (k : Int)) = (l.take k).map g := by
  unfold cutV
  rw [HT.sIx_none, HT.sIx_nat, List.drop_zero, Nat.sub_zero, List.map_take]
  rcases Nat.le_total k (l.map g).length with h | h
  · rw [Nat.min_eq_left h]
  · rw [Nat.min_eq_right h, List.take_length, List.take_of_length_le h]
theorem segs_path {x : Str} (h : isPathF x = true) : (segs x).length ≤ 6 ∧ ∀ p ∈ segs x, p.length ≤ 12 := by
  unfold isPathF at h
  rw [Bool.and_eq_true, decide_eq_true_eq, List.all_eq_true] at h
  exact ⟨h.1, fun p hp => seg_len (h.2 p hp)⟩
theorem pref_le {x : Str} (k : Nat) (h : isPathF x = true) : (((segs x).take k).map (·.length)).sum + ((segs x).take k).length * ("/" : Str).length ≤ 16777216 := by
  obtain ⟨h1, h2⟩ := segs_path h
  have l1 : ((segs x).take k).length ≤ 6 := by
    rw [List.length_take]
    omega
  have := sum_len ((segs x).take k) fun p hp => h2 p (List.mem_of_mem_take hp)
  have e : ("/" : Str).length = 1 := by decide +kernel
  rw [e]
  omega
def spPref : Sp := fun vs H Q _ => ∃ x : Str, vs = [.str x] ∧ PathOk x ∧ ∀ p H', H p = none → Same H H' → H' p = some (.lst ((prefsF x).map V.str)) → Q (.ref p) H'
theorem c_prefixes (T : Top K mg) : C8.Cal P w K mg base 1 "prefixes" spPref [] := by
  refine cal_of T.d_prefixes sc_prefixes (fun _ _ _ _ _ _ us hl => match us, hl with | [_], _ => rfl) (fun vs H Q E h => ?_) (fun f cdv A outer s H vs Q E hr h => ?_)
  · obtain ⟨x, rfl, _⟩ := h
    rfl
  · obtain ⟨x, rfl, hx, q⟩ := h
    refine ⟨_, (pss_cons (ps_set (i := 1) sc_prefixes.nd rfl (Or.inr rfl) (pe_split (pv 0) pe_str))
      (pss_one (ps_ret (pe_lc (own := [("many", 2)]) (g := gName 2) (by rfl) sc_prefixes.nd (pi_range2 (by rfl) T.z_range (pa_cons pe_int (pa_cons (pe_callB call_len_seq (by rfl) T.z_len (by decide +kernel) (pa_cons (pv 1) pa_nil)) pa_nil))) (blkOk_by (own := [("many", 2)]) (N := ["path", "segments", "many"]) (sc := C8.fnScope s_prefixes) (by decide +kernel)) (fun _ _ _ _ _ => (pg_name (i := 2) sc_prefixes.nd rfl (Or.inl rfl))) (fun _ _ _ _ _ => pts_nil) (fun _ _ _ _ _ => (pe_joinK (K := K) rfl pe_str (pe_slice (slK_list (K := K) rfl) (pv 1) po_none (po_some (pv 2))))))))), ?_⟩
    obtain ⟨hl1, hl2⟩ := segs_path hx.1
    have hx1 := hx.2.1
    refine ⟨.str x, rfl, ⟨x, rfl⟩, x, _, rfl, rfl, rfl, small_line (by omega), fun p hp => ?_⟩
    have sm : Same H (upd H p (.lst ((Txt.split x "/").map V.str))) := same_new hp
    have h1 : (upd H p (.lst ((Txt.split x "/").map V.str))) p = some (.lst ((segs x).map V.str)) := upd_same
    generalize upd H p (.lst ((Txt.split x "/").map V.str)) = H1 at sm h1
    refine ⟨.ref p, rfl, p, (segs x).map V.str, rfl, .inl (.inl (.inl h1)), ?_⟩
    refine ⟨1, _, rfl, ⟨by decide, by decide, by rw [List.length_map]; omega, by rw [List.length_map]; omega⟩, fun D hD => ?_⟩
    have e : ((((segs x).map V.str).length : Int) - 1).toNat = (segs x).length - 1 := by rw [List.length_map]; omega
    rw [e]
    refine lc_pure (i := 2) (us := List.range ((segs x).length - 1)) (g := fun (k : Nat) => V.int (1 + (k : Int))) yields_range (fun k => .str (Txt.join "/" ((segs x).take (k + 1)))) (fun _ => true) hD (fun _ _ => trivial) (fun H u _ hu R r => r H (Same.refl H))
      (fun H2 k s2 hk _ R r => ?_) (by rw [List.length_range]; omega) (fun H2 s2 h2 => ?_)
    · refine ⟨⟨_, rfl⟩, .ref p, rfl, .int (1 + (k : Int)), rfl, _, rfl, p, _, rfl, SqL.of (s2 _ _ h1), fun p2 np2 => ?_⟩
      have ec : cutV ((segs x).map V.str) none (some (1 + (k : Int))) = ((segs x).take (k + 1)).map V.str := by
        rw [show (1 : Int) + (k : Int) = ((k + 1 : Nat) : Int) by omega, cutV_to]
      refine ⟨_, p2, (segs x).take (k + 1), rfl, rfl, .inl (SqL.of (by rw [upd_same, ec])), pref_le (k + 1) hx.1, r _ (same_new np2)⟩
    · rw [filt_all] at h2
      have np : H D = none := sm.free hD
      exact q D H2 np (sm.trans s2) (by rw [h2]; unfold prefsF; rw [List.map_map]; rfl)
end
theorem len_of_sub {α : Type} [DecidableEq α] : ∀ {l m : List α}, l.Nodup → (∀ x ∈ l, x ∈ m) → l.length ≤ m.length
  | [], m, _, _ => Nat.zero_le _
  | a :: l, m, n, s => by
    obtain ⟨n1, n2⟩ := List.nodup_cons.mp n
    have ha : a ∈ m := s a List.mem_cons_self
    have ih : l.length ≤ (m.erase a).length := len_of_sub n2 fun x hx => (List.mem_erase_of_ne (fun e => n1 (by rw [← e]; exact hx))).mpr (s x (List.mem_cons_of_mem _ hx))
    rw [List.length_erase_of_mem ha] at ih
    have : 0 < m.length := List.length_pos_of_mem ha
    rw [List.length_cons]
    omega
theorem keys_putI {u : Tab} {a x : Str} {v : V} : x ∈ (putK u a v).map (·.1) ↔ x ∈ u.map (·.1) ∨ x = a := by
  rw [mem_val, mem_val, val_putK]
  by_cases e : x = a
  · rw [if_pos e]
    exact ⟨fun _ => .inr e, fun _ => rfl⟩
  · rw [if_neg e]
    exact ⟨.inl, fun z => z.resolve_right e⟩
/-- paths among some that lie above or below another of them -/
def crossF (ys : List Str) (x : Str) : Prop := x ∈ ys ∧ ∃ y ∈ ys, Txt.startswith y (x ++ ("/" : Str)) = true ∨ Txt.startswith x (y ++ ("/" : Str)) = true
section
variable {P : Program} {w : World} {K : PySem.W.Frag} {mg : Str → Option Value} {base : Heap} {fk iF cP : Addr}
/-- a dict of marks: its keys are told -/
def MarksAt (H : Hp) (e : Addr) (n : Nat) (S : Str → Prop) : Prop := ∃ t : Tab, H e = some (.dK (kT t)) ∧ Nd t ∧ t.length ≤ n ∧ ∀ x, x ∈ t.map (·.1) ↔ S x
def spCross : Sp := fun vs H Q _ => ∃ (e : Addr) (t : Tab), vs = [.ref e] ∧ H e = some (.dK (kT t)) ∧ Nd t ∧ t.length < 60 ∧ (∀ x ∈ t.map (·.1), PathOk x) ∧ ∀ p H', H p = none → Same H H' → MarksAt H' p t.length (crossF (t.map (·.1))) → Q (.ref p) H'
theorem c_crossing (T : Top K mg) : C8.Cal P w K mg base 2 "crossing" spCross [] := by
  refine cal_of T.d_crossing sc_crossing (fun _ _ _ _ _ _ us hl => match us, hl with | [_], _ => rfl) (fun vs H Q E h => ?_) (fun f cdv A outer s H vs Q E hr h => ?_)
  · obtain ⟨e, t, rfl, _⟩ := h
    rfl
  · obtain ⟨e, t, rfl, he, nd, hl, hp, q⟩ := h
    refine ⟨_, (pss_cons (ps_set (i := 1) sc_crossing.nd rfl (Or.inl rfl) pe_dnewK)
      (pss_cons (ps_lock (ps_for PassesOwn.never rfl (pi_keys (pv 0)) (pg_name (i := 2) sc_crossing.nd rfl (Or.inl rfl))
      (pss_one (ps_for PassesOwn.never rfl (pi_list (C8.pe_c (c_prefixes T) hr (by decide) (by rfl) (pa_cons (pv 2) pa_nil))) (pg_name (i := 3) sc_crossing.nd rfl (Or.inl rfl))
      (pss_one (ps_if (pt_cmp (pc_din (hu_of hr) (pv 3) (pv 0)))
      (pss_cons (ps_dput (hu_of hr) (pv 1) (pv 3) pe_bl rfl)
      (pss_one (ps_dput (hu_of hr) (pv 1) (pv 2) pe_bl rfl)))
      pss_nil))))))
      (pss_one (ps_ret (pv 1))))), ?_⟩
    intro D hD
    have s1 := same_new (o := .dK []) hD
    have hD1 : (upd H D (.dK [])) D = some (.dK (kT [])) := upd_same
    generalize upd H D (.dK []) = H1 at s1 hD1
    have nDe : D ≠ e := fun z => by rw [z, he] at hD; cases hD
    refine ⟨e, _, s1 _ _ he, trivial, fun od => ⟨.ref e, rfl, e, od, rfl, .inl ⟨kT t, upd_same, ?_⟩⟩⟩
    generalize hks : t.map (·.1) = ks at *
    have Y : Yields (Itk e od (kT t)) (ks.map V.str) (fun H => H e = some (.frz od (.dK (kT t)))) := by
      rw [← hks, ← kV_kT]
      exact yields_keys
    have lks : ks.length = t.length := by rw [← hks, List.length_map]
    let mk : List Str → Str → Prop := fun ys x => ∃ y ∈ ys, ∃ p ∈ prefsF y, p ∈ ks ∧ (x = p ∨ x = y)
    have hDL : (upd H1 e (.frz od (.dK (kT t)))) D = some (.dK (kT [])) := by rw [upd_ne nDe]; exact hD1
    have heL : (upd H1 e (.frz od (.dK (kT t)))) e = some (.frz od (.dK (kT t))) := upd_same
    have kL : ∀ b o, b ≠ e → H1 b = some o → (upd H1 e (.frz od (.dK (kT t)))) b = some o := fun b o n z => by rw [upd_ne n]; exact z
    generalize upd H1 e (.frz od (.dK (kT t))) = HL at hDL heL kL
    refine forG Y (fun i σ H' => ∃ (u : Tab) (z2 z3 : Option V), σ = [some (.ref e), some (.ref D), z2, z3] ∧ H' D = some (.dK (kT u)) ∧ Nd u ∧ Fr D HL H' ∧ ∀ x, x ∈ u.map (·.1) ↔ mk (ks.take i) x)
      ⟨[], none, none, rfl, hDL, by unfold Nd; exact List.nodup_nil, Fr.refl D HL, fun x => ⟨(fun z => nomatch z), fun ⟨y, hy, _⟩ => by simp at hy⟩⟩ (fun i σ H' I => ?_) (fun i x σ H' hx I => ?_) (fun σ H' I => ?_)
    · obtain ⟨_, _, _, _, _, _, fr, _⟩ := I
      exact fr _ _ nDe.symm heL
    · obtain ⟨u, z2, z3, rfl, hDD, ndu, fr, hu⟩ := I
      rw [List.getElem?_map] at hx
      cases hy : ks[i]? with
      | none => rw [hy] at hx; cases hx
      | some y =>
        rw [hy] at hx
        cases hx
        have hym : y ∈ ks := List.mem_of_getElem? hy
        have etk : ks.take (i + 1) = ks.take i ++ [y] := by
          rw [List.take_add_one, hy]
          rfl
        refine ⟨.str y, rfl, y, rfl, hp y hym, fun pl H2 npl s2 hpl => ?_⟩
        have nplD : pl ≠ D := fun z => by rw [z, hDD] at npl; cases npl
        have heH : H2 e = some (.frz od (.dK (kT t))) := s2 _ _ (fr _ _ nDe.symm heL)
        refine ⟨pl, rfl, ⟨_, SqL.of hpl⟩, ?_⟩
        refine forG (items := (prefsF y).map V.str) yields_list (fun j σ H' => ∃ (u : Tab) (z3 : Option V), σ = [some (.ref e), some (.ref D), some (.str y), z3] ∧ H' D = some (.dK (kT u)) ∧ Nd u ∧ Fr D H2 H' ∧ ∀ x, x ∈ u.map (·.1) ↔ (mk (ks.take i) x ∨ ∃ p ∈ (prefsF y).take j, p ∈ ks ∧ (x = p ∨ x = y)))
          ⟨u, z3, rfl, s2 _ _ hDD, ndu, Fr.refl D H2, fun x => by rw [hu x]; exact ⟨.inl, fun z => z.elim id fun ⟨p, hp, _⟩ => by simp at hp⟩⟩ (fun j σ H' I => ?_) (fun j x σ H' hx I => ?_) (fun σ H' I => ?_)
        · obtain ⟨_, _, _, _, _, f2, _⟩ := I
          exact SqL.of (f2 _ _ nplD hpl)
        · obtain ⟨v, z3', rfl, hDv, ndv, f2, hv⟩ := I
          rw [List.getElem?_map] at hx
          cases hpp : (prefsF y)[j]? with
          | none => rw [hpp] at hx; cases hx
          | some p =>
            rw [hpp] at hx
            cases hx
            have etj : (prefsF y).take (j + 1) = (prefsF y).take j ++ [p] := by
              rw [List.take_add_one, hpp]
              rfl
            have g1 : DGet H' e (.str p) (valV t p) := dget_kT (.inr ⟨od, f2 _ _ nDe.symm heH⟩) p
            have sub : ∀ x ∈ v.map (·.1), x ∈ ks := fun x hx => by
              rcases (hv x).mp hx with ⟨y', hy', p', _, hp', z⟩ | ⟨p', _, hp', z⟩
              · exact z.elim (fun z => by rw [z]; exact hp') fun z => by rw [z]; exact List.mem_of_mem_take hy'
              · exact z.elim (fun z => by rw [z]; exact hp') fun z => by rw [z]; exact hym
            have lv : v.length ≤ t.length := by
              have := len_of_sub ndv sub
              rw [List.length_map] at this
              omega
            refine ⟨.str p, rfl, .ref e, rfl, e, _, rfl, g1, _, rfl, ?_⟩
            by_cases hpk : p ∈ ks
            · have hs : (valV t p).isSome = true := mem_val.mp (by rw [hks]; exact hpk)
              rw [hs]
              refine ifT rfl ?_
              refine ⟨.ref D, rfl, .str p, rfl, D, _, rfl, DPut.k (k := .inr p) hDv (small_lt (by rw [len_kT]; omega)), ?_⟩
              refine ⟨.ref D, rfl, .str y, rfl, D, _, rfl, DPut.k (k := .inr y) upd_same (small_lt (by rw [putK_kT, len_kT]; have := length_putK v p (.bl true); omega)), putK (putK v p (.bl true)) y (.bl true), _, rfl, by rw [upd_same, putK_kT, putK_kT], nd_put (nd_put ndv p _) y _, ?_, fun x => ?_⟩
              · exact f2.trans fun b o nb z => by rw [upd_ne nb, upd_ne nb]; exact z
              · rw [keys_putI, keys_putI, hv x, etj]
                constructor
                · rintro (((z | ⟨p', h1, h2, h3⟩) | rfl) | rfl)
                  · exact .inl z
                  · exact .inr ⟨p', List.mem_append_left _ h1, h2, h3⟩
                  · exact .inr ⟨_, List.mem_append_right _ List.mem_cons_self, hpk, .inl rfl⟩
                  · exact .inr ⟨p, List.mem_append_right _ List.mem_cons_self, hpk, .inr rfl⟩
                · rintro (z | ⟨p', h1, h2, h3⟩)
                  · exact .inl (.inl (.inl z))
                  · rcases List.mem_append.mp h1 with h1 | h1
                    · exact .inl (.inl (.inr ⟨p', h1, h2, h3⟩))
                    · rw [List.mem_singleton.mp h1] at h3
                      exact h3.elim (fun z => .inl (.inr z)) fun z => .inr z
            · have hs : (valV t p).isSome = false := by
                cases c : valV t p with
                | none => rfl
                | some w => exact absurd (by rw [← hks]; exact valV_in c) hpk
              rw [hs]
              refine ifF Bool.false_ne_true ⟨v, _, rfl, hDv, ndv, f2, fun x => ?_⟩
              rw [hv x, etj]
              constructor
              · rintro (z | ⟨p', h1, h2, h3⟩)
                · exact .inl z
                · exact .inr ⟨p', List.mem_append_left _ h1, h2, h3⟩
              · rintro (z | ⟨p', h1, h2, h3⟩)
                · exact .inl z
                · rcases List.mem_append.mp h1 with h1 | h1
                  · exact .inr ⟨p', h1, h2, h3⟩
                  · rw [List.mem_singleton.mp h1] at h2
                    exact absurd h2 hpk
        · obtain ⟨v, z3', rfl, hDv, ndv, f2, hv⟩ := I
          rw [List.length_map, List.take_length] at hv
          refine ⟨v, _, _, rfl, hDv, ndv, (fr.trans (Fr.same s2)).trans f2, fun x => ?_⟩
          rw [hv x, etk]
          constructor
          · rintro (⟨y', h1, h2⟩ | h)
            · exact ⟨y', List.mem_append_left _ h1, h2⟩
            · exact ⟨y, List.mem_append_right _ List.mem_cons_self, h⟩
          · rintro ⟨y', h1, h2⟩
            rcases List.mem_append.mp h1 with h1 | h1
            · exact .inl ⟨y', h1, h2⟩
            · rw [List.mem_singleton.mp h1] at h2
              exact .inr h2
    · obtain ⟨u, z2, z3, rfl, hDD, ndu, fr, hu⟩ := I
      rw [List.length_map, List.take_length] at hu
      refine ⟨fr _ _ nDe.symm heL, _, rfl, q D _ hD (fun b o z => ?_) ⟨u, by rw [upd_ne nDe]; exact hDD, ndu, ?_, fun x => ?_⟩⟩
      · by_cases hb : b = e
        · rw [hb, upd_same, ← he, ← hb, z]
        · rw [upd_ne hb]
          exact fr b o (ne_of_none z hD) (kL b o hb (s1 b o z))
      · have := len_of_sub ndu (m := ks) fun x hx => by
          obtain ⟨y', hy', p', _, hp', z⟩ := (hu x).mp hx
          exact z.elim (fun z => by rw [z]; exact hp') fun z => by rw [z]; exact hy'
        rw [List.length_map] at this
        omega
      · rw [hu x]
        constructor
        · rintro ⟨y', hy', p', h1, hp', z⟩
          have st := mem_prefs.mp h1
          rcases z with rfl | rfl
          · exact ⟨hp', y', hy', .inl st⟩
          · exact ⟨hy', p', hp', .inr st⟩
        · rintro ⟨hx, y, hy, z⟩
          rcases z with z | z
          · exact ⟨y, hy, x, mem_prefs.mpr z, hx, .inl rfl⟩
          · exact ⟨x, hx, y, mem_prefs.mpr z, hy, .inr rfl⟩
end

end Fk

set_option maxHeartbeats 4000000
/-! Files: dicts from paths to values. A class made by a name of the def's own. -/
namespace Fk
open PySem PySem.Spec PyProof.Rows L2
theorem tyx_same {K : PySem.W.Frag} {H H' : Hp} {v : V} {t : Value} (e : Same H H') (h : TyX K H v t) : TyX K H' v t := by
  cases h with
  | base b =>
    refine .base ?_
    cases b with
    | non => exact .non
    | bl x => exact .bl x
    | int i => exact .int i
    | str x => exact .str x
    | flt x => exact .flt x
    | lst h => exact .lst (e _ _ h)
    | frz h => exact .frz (e _ _ h)
    | tup h => exact .tup (e _ _ h)
    | dK h => exact .dK (e _ _ h)
    | dT h => exact .dT (e _ _ h)
    | ins h c1 c2 c3 c4 c5 => exact .ins (e _ _ h) c1 c2 c3 c4 c5
  | byt b => exact .byt b
  | set h => exact .set (e _ _ h)
  | kList h c => exact .kList h c
  | kTuple h c => exact .kTuple h c
  | kDict h c => exact .kDict h c
  | fTuple h => exact .fTuple (e _ _ h)
  | fDict h => exact .fDict (e _ _ h)
theorem rising_of_pw : ∀ (l : List Str) (p : Str), (p :: l).Pairwise leS → risingS p l = true
  | [], p, _ => rfl
  | x :: r, p, h => by
    obtain ⟨h1, h2⟩ := List.pairwise_cons.mp h
    show (!ltCps x.cps.toList p.cps.toList && risingS x r) = true
    rw [rising_of_pw r x h2, Bool.and_true, ltCps_eq, decide_eq_false (h1 x List.mem_cons_self)]
    rfl
theorem sorted_of_pw {l : List Str} (h : l.Pairwise leS) : sortedS l = true := by
  cases l with
  | nil => rfl
  | cons x r => exact rising_of_pw r x h
theorem sorted_filter {l : List Str} (h : sortedS l = true) (p : Str → Bool) : sortedS (l.filter p) = true := sorted_of_pw ((sorted_pw h).filter p)
theorem keys_putF {u : Tab} {a x : Str} {v : V} (h : x ∈ (putK u a v).map (·.1)) : x ∈ u.map (·.1) ∨ x = a := by
  rw [mem_val, val_putK] at h
  by_cases e : x = a
  · exact .inr e
  · rw [if_neg e] at h
    exact .inl (mem_val.mpr h)
abbrev Fi := Str × Str
def GoodP (p : Fi) : Prop := p.1 ∈ FKS ∧ isIdF p.2 = true
theorem GoodP.f {p : Fi} (h : GoodP p) : GoodF (some p) := fun q e => by cases e; exact h
section
variable {K : PySem.W.Frag} {H H' : Hp}
def FiV (K : PySem.W.Frag) (H : Hp) (v : V) (p : Fi) : Prop := FvV K H v (some p)
structure FilesOk (n : Nat) (t : Tab) (m : Mp Fi) : Prop where
  nd : Nd t
  len : t.length ≤ n
  path : ∀ x ∈ t.map (·.1), PathOk x
  good : ∀ x p, m x = some p → GoodP p
def FilesAt (K : PySem.W.Frag) (H : Hp) (e : Addr) (n : Nat) (m : Mp Fi) : Prop := ∃ t, H e = some (.dK (kT t)) ∧ Holds (FiV K H) t m ∧ FilesOk n t m
theorem FilesAt.same {e : Addr} {n : Nat} {m : Mp Fi} (h : FilesAt K H e n m) (s : Same H H') : FilesAt K H' e n m := by
  obtain ⟨t, h1, h2, h3⟩ := h
  exact ⟨t, s _ _ h1, h2.imp fun _ _ x => FvV.keep x (TupKeep.of s), h3⟩
theorem FilesOk.mono {n n' : Nat} {t : Tab} {m : Mp Fi} (h : FilesOk n t m) (l : n ≤ n') : FilesOk n' t m := ⟨h.nd, Nat.le_trans h.len l, h.path, h.good⟩
theorem FilesAt.mono {e : Addr} {n n' : Nat} {m : Mp Fi} (h : FilesAt K H e n m) (l : n ≤ n') : FilesAt K H e n' m := let ⟨t, h1, h2, h3⟩ := h; ⟨t, h1, h2, h3.mono l⟩
theorem FilesOk.put {n : Nat} {t : Tab} {m : Mp Fi} {x : Str} {v : V} {p : Fi} (h : FilesOk n t m) (px : PathOk x) (g : GoodP p) : FilesOk (n + 1) (putK t x v) (putM m x p) := by
  refine ⟨nd_put h.nd x v, Nat.le_trans (length_putK t x v) (by have := h.len; omega), fun y hy => ?_, fun y s e => ?_⟩
  · rcases keys_putF hy with z | z
    · exact h.path y z
    · rw [z]; exact px
  · unfold putM at e
    split at e
    · cases e; exact g
    · exact h.good y s e
/-- what a path has, or None, in files -/
theorem get_fv {t : Tab} {m : Mp Fi} (h : Holds (FiV K H) t m) (x : Str) : FvV K H ((valV t x).getD .non) (m x) := by
  rcases h x with ⟨a, b⟩ | ⟨v, r, a, b, c⟩
  · rw [a, b]
    rfl
  · rw [a, b]
    exact c
end
section
variable {X : Cx} {CX : CXT} {k i : Nat} {f C : Addr} {fd : FuncData} {ps : List Str} {sp : Sp} {dvs : List V} {ds : List Value} {E : XK} {x : Str} {p pos : Pos} {e : Expr} {es : List Expr} {t : TA}
/-- x(e, ..), the class C in a slot -/
def tMakeL (i : Nat) (C : Addr) (sp : Sp) (dvs : List V) (E : XK) (t : TA) : TE := fun σ H Q => σ[i]? = some (some (.ref C)) ∧ tMake C sp dvs E t σ H Q
theorem pe_makeL (M : Mk X.K C f) (F : FnOk X.prog X.w X.K X.mg X.base CX k f fd ps sp) (hr : Room (k + 1) X.A) (hN : X.N[i]? = some x) (hv : Vis X.env.scope x) (hb : Binds X.K fd ps ds) (hd : Vals dvs ds) (hx : Passes CX X E) (ha : PA X (e :: es) t)
    (hdb : (x == ("__debug__" : Str)) = false := by decide) (hcd : (x == ("__classdict__" : Str)) = false := by decide)
    (he : starEach (e :: es) X.env = (false, eval e X.env) :: starEach es X.env := by rfl) (hpl : (backTo pos (starEach es X.env)).any (·.1) = false := by rfl) : PE X (.Call (.Name x p) (e :: es) [] pos) (tMakeL i C sp dvs E t) := by
  refine ⟨fun pins s σ H Q I h => ?_⟩
  obtain ⟨hs, ht⟩ := h
  refine wpAny_Call_Name_kw (thn ((pe_var (pos := p) hN hv hdb hcd).run pins s σ H (fun v H1 => v = .ref C ∧ H1 = H) I ⟨.ref C, hs, rfl, rfl⟩) fun u s1 ⟨v, H1, I1, r1, q1⟩ => ?_)
  obtain ⟨rfl, rfl⟩ := q1
  cases r1
  refine PySem.W.callWith_K (h₀ := X.base) I.ok.mod.kin M.kp (thn (ha.run pos pins s1 σ _ _ I1 ht) fun us s2 ⟨vs, H2, I2, r, q⟩ => ⟨I2.kIn, ?_⟩) he hpl
  exact run_make M F hr hb hd hx I2 r q
end
end Fk

set_option maxHeartbeats 4000000
namespace Fk
open PySem PySem.Spec PyProof.Rows L2
section
variable {P : Program} {w : World} {K : PySem.W.Frag} {mg : Str → Option Value} {base : Heap} {fk iF cP : Addr}
def FileV (K : PySem.W.Frag) (H : Hp) (v : V) : Prop := ∃ e m, v = .ref e ∧ FilesAt K H e 60 m
def BadFile (K : PySem.W.Frag) (H : Hp) (v : V) : Prop := NoDict K H v ∨ ∃ (e : Addr) (k : Key) (v1 : V), v = .ref e ∧ H e = some (.dK [(k, v1)]) ∧ (((∀ H', Thing H' (kV k)) ∧ evalV isPathF (kV k) = false) ∨ ∃ y : Str, k = .inr y ∧ y.length ≤ 1000 ∧ OkS y ∧ isPathF y = true ∧ ∀ H', TupKeep H H' → (∀ b o, b ≠ e → H b = some o → H' b = some o) → BadVal K H' v1)
theorem tyx_sameD {H H' : Hp} {v : V} (h : NoDict K H v) (s : Same H H') : NoDict K H' v := let ⟨t, a, b⟩ := h; ⟨t, a, tyx_same s b⟩
theorem BadFile.same {H H' : Hp} {v : V} (h : BadFile K H v) (s : Same H H') : BadFile K H' v := by
  rcases h with h | ⟨e, k, v1, rfl, he, hb⟩
  · exact .inl (tyx_sameD h s)
  · refine .inr ⟨e, k, v1, rfl, s _ _ he, hb.imp id fun ⟨y, h0, h1, h2, h3, h4⟩ => ⟨y, h0, h1, h2, h3, fun H2 k k2 => h4 H2 ((TupKeep.of s).trans k) fun b o n z => k2 b o n (s _ _ z)⟩⟩
theorem FileV.same {H H' : Hp} {v : V} (h : FileV K H v) (s : Same H H') : FileV K H' v := let ⟨e, m, a, b⟩ := h; ⟨e, m, a, b.same s⟩
def spCkF (K : PySem.W.Frag) (cP : Addr) : Sp := fun vs H Q E => ∃ (L : Addr) (xs : List V), vs = [.ref L] ∧ H L = some (.lst xs) ∧ ((∀ v ∈ xs, FileV K H v) ∧ (∀ H', Same H H' → Q .non H') ∨
  ∃ (i : Nat) (v : V), xs[i]? = some v ∧ (∀ j u, j < i → xs[j]? = some u → FileV K H u) ∧ BadFile K H v ∧ Bad cP H E)
set_option pp.maxSteps 300 in
theorem cx_check_are_files (T : TopG K mg fk cP iF) : CalX P w K mg base (L2.CX P w) 5 "check_are_files" (spCkF K cP) [] := by
  refine calX_of T.d_check_are_files sc_check_are_files (fun _ _ _ _ _ _ us hl => match us, hl with | [_], _ => rfl) (fun vs H Q E h => ?_) (fun f cdv A outer s H vs Q E hr h => ?_)
  · obtain ⟨L, xs, rfl, _⟩ := h
    rfl
  · obtain ⟨L, xs, rfl, hL, h⟩ := h
    refine ⟨_, (pss_one (ps_for (passes_of rfl) rfl (pi_list (pv 0)) (pg_name (i := 1) sc_check_are_files.nd rfl (Or.inl rfl))
      (pss_cons (ps_if (pt_not (pt_val (pe_callB call_isi (by rfl) T.z_isinstance (by decide +kernel) (pa_cons (pv 1) (pa_cons (pe_bltn (v := .ty "dict") (by rfl) T.z_dict (by decide +kernel) rfl) pa_nil)))))
      (pss_one (ps_raise rfl (takes_of rfl rfl rfl rfl) (rs_of T.eP (hr.mono (by decide)) (by rfl) (pa_cons pe_str pa_nil))))
      pss_nil)
      (pss_one (ps_lock (ps_for (passes_of rfl) rfl (pi_keys (pv 1)) (pg_name (i := 2) sc_check_are_files.nd rfl (Or.inl rfl))
      (pss_one (ps_if (PW.pt (pw_or (pt_not (pt_val (C8.pe_c (c_is_path T.toTop) hr (by decide) (by rfl) (pa_cons (pv 2) pa_nil)))) (pw_or1 (pt_not (pt_val (C8.pe_c (c_is_value T.toTop) hr (by decide) (by rfl) (pa_cons (pe_dget (hu_of hr) (pv 1) (pv 2) (fun _ _ => rfl)) (pa_cons (C8.pe_gc (by rfl) T.g_FILE_KINDS) pa_nil))))))))
      (pss_one (ps_raise rfl (takes_lock (takes_of rfl rfl rfl rfl)) (rs_of T.eP (hr.mono (by decide)) (by rfl) (pa_cons pe_str pa_nil))))
      pss_nil)))))))), ?_⟩
    refine ⟨.ref L, rfl, L, rfl, ⟨_, SqL.of hL⟩, ?_⟩
    have pre : ∃ n : Nat, n ≤ xs.length ∧ (∀ j u, j < n → xs[j]? = some u → FileV K H u) ∧ (n = xs.length ∧ (∀ H', Same H H' → Q .non H') ∨ ∃ v, xs[n]? = some v ∧ BadFile K H v ∧ Bad cP H E) := by
      rcases h with ⟨g, q⟩ | ⟨i, v, hi, g, b, q⟩
      · exact ⟨xs.length, Nat.le_refl _, fun j u _ hu => g u (List.mem_of_getElem? hu), .inl ⟨rfl, q⟩⟩
      · exact ⟨i, Nat.le_of_lt (List.getElem?_eq_some_iff.mp hi).1, g, .inr ⟨v, hi, b, q⟩⟩
    obtain ⟨n, hn, good, fin⟩ := pre
    refine forG (items := xs) yields_list (fun i σ H' => i ≤ n ∧ Same H H' ∧ ∃ z1 z2, σ = [some (.ref L), z1, z2]) ⟨Nat.zero_le _, Same.refl H, none, none, rfl⟩ (fun i σ H' I => SqL.of (I.2.1 _ _ hL)) (fun i x σ H' hx I => ?_) (fun σ H' I => ?_)
    · obtain ⟨hi, s1, z1, z2, rfl⟩ := I
      refine ⟨x, rfl, ?_⟩
      dsimp only [tCons, tC, tNil]
      have kL : ∀ {e : Addr} {u : HO} {od : Obj}, H' e = some u → (∀ ys, u ≠ .tup ys) → TupKeep H' (upd H' e (.frz od u)) := fun {e u od} he nt => TupKeep.at fun ys z => by
        rw [he] at z
        exact nt _ (Option.some.inj z)
      by_cases hin : i < n
      · obtain ⟨e, m, rfl, t, he, hH, hO⟩ := (good i x hin hx).same s1
        refine ⟨_, _, .type "dict", .type "dict", true, rfl, .ty "dict", .base (.dK he), kit_ty (by decide +kernel), _, rfl, iteF ?_⟩
        refine ⟨e, _, he, trivial, fun od => ⟨.ref e, rfl, e, od, rfl, .inl ⟨kT t, upd_same, ?_⟩⟩⟩
        have kk := kL (od := od) he (fun ys z => nomatch z)
        have heL : (upd H' e (.frz od (.dK (kT t)))) e = some (.frz od (.dK (kT t))) := upd_same
        have sU : ∀ {H2 : Hp}, Same (upd H' e (.frz od (.dK (kT t)))) H2 → Same H' (upd H2 e (.dK (kT t))) := fun s => same_unlock s he
        generalize upd H' e (.frz od (.dK (kT t))) = HL at kk heL sU
        have Y : Yields (Itk e od (kT t)) ((t.map (·.1)).map V.str) (fun H => H e = some (.frz od (.dK (kT t)))) := by
          rw [← kV_kT]
          exact yields_keys
        refine forG Y (fun _ σ H2 => Same HL H2 ∧ ∃ z2, σ = [some (.ref L), some (.ref e), z2]) ⟨Same.refl HL, z2, rfl⟩ (fun _ σ H2 I => I.1 _ _ heL) (fun k y σ H2 hy I => ?_) (fun σ H2 I => ?_)
        · obtain ⟨s2, z2, rfl⟩ := I
          rw [List.getElem?_map] at hy
          cases hu : (t.map (·.1))[k]? with
          | none => rw [hu] at hy; cases hy
          | some u =>
            rw [hu] at hy
            cases hy
            have hum : u ∈ t.map (·.1) := List.mem_of_getElem? hu
            obtain ⟨pu, lu, ou⟩ := hO.path u hum
            refine ⟨.str u, rfl, .str u, rfl, .str u (by omega) ou, fun H3 s3 => ⟨_, rfl, ?_⟩⟩
            rw [show evalV isPathF (.str u) = true from pu]
            refine iteF ?_
            have g1 := dget_kT (.inr ⟨od, s3 _ _ (s2 _ _ heL)⟩) u
            have z := hH.mem.mp hum
            cases e1 : m u with
            | none => rw [e1] at z; cases z
            | some p =>
              obtain ⟨v, hv, rv⟩ := hH.at e1
              rw [hv] at g1
              have rv3 : FvV K H3 v (some p) := FvV.keep rv (kk.trans (TupKeep.of (s2.trans s3)))
              obtain ⟨q0, rfl, tq⟩ := rv3
              obtain ⟨h1, h2⟩ := hO.good u p e1
              exact ⟨.ref e, rfl, .str u, rfl, e, _, rfl, g1, .ref q0, fk, rfl, .inr T.kF, .inl ⟨q0, p, rfl, tq, h1, h2, fun H4 s4 => ⟨_, rfl, iteF ⟨(s2.trans s3).trans s4, _, rfl⟩⟩⟩⟩
        · obtain ⟨s2, z2, rfl⟩ := I
          exact ⟨s2 _ _ heL, by omega, s1.trans (sU s2), _, _, rfl⟩
      · have ein : i = n := by omega
        subst ein
        rcases fin with ⟨e, _⟩ | ⟨v, hv, bad, q⟩
        · have := (List.getElem?_eq_some_iff.mp hx).1
          omega
        · rw [hx] at hv
          cases hv
          rcases bad with ⟨Ty, hTy, ty⟩ | ⟨e, kk0, v1, rfl, he, hb⟩
          · exact noDict_isi ⟨Ty, hTy, tyx_same s1 ty⟩ ⟨_, rfl, iteT ⟨(by show 1 ≤ 1000; decide), do_raise T.eP fun dd H3 s3 _ h3 => q dd _ H3 (s1.trans s3) h3⟩⟩
          · have he' := s1 _ _ he
            refine ⟨_, _, .type "dict", .type "dict", true, rfl, .ty "dict", .base (.dK he'), kit_ty (by decide +kernel), _, rfl, iteF ?_⟩
            refine ⟨e, _, he', trivial, fun od => ⟨.ref e, rfl, e, od, rfl, .inl ⟨[(kk0, v1)], upd_same, ?_⟩⟩⟩
            have kk := kL (od := od) he' (fun ys z => nomatch z)
            have heL : (upd H' e (.frz od (.dK [(kk0, v1)]))) e = some (.frz od (.dK [(kk0, v1)])) := upd_same
            have kO : ∀ b o, b ≠ e → H b = some o → (upd H' e (.frz od (.dK [(kk0, v1)]))) b = some o := fun b o nb z => by rw [upd_ne nb]; exact s1 _ _ z
            have sU : ∀ {H2 : Hp}, Same (upd H' e (.frz od (.dK [(kk0, v1)]))) H2 → Same H' (upd H2 e (.dK [(kk0, v1)])) := fun s => same_unlock s he'
            generalize upd H' e (.frz od (.dK [(kk0, v1)])) = HL at kk heL sU kO
            have Y : Yields (Itk e od [(kk0, v1)]) ([kV kk0]) (fun H => H e = some (.frz od (.dK [(kk0, v1)]))) := yields_keys
            have out : ∀ {H2 : Hp}, Same HL H2 → ∀ dd (yy : V) H3, Same H2 H3 → H2 dd = none → H3 dd = some (.xd [("why", yy)]) → wLock (cxOf (L2.CX P w) P w K mg base ["arguments", "files", "path"] "check_are_files" (C8.fnScope s_check_are_files) f cdv A outer s H E) (fun cls d x H => E cls d H) (.ref cP) (some dd) [some (.ref L), some (.ref e), some (kV kk0)] H3 := fun {H2} s2 dd yy H3 s3 nd h3 => by
              have ne : dd ≠ e := fun z => by rw [z, s2 _ _ heL] at nd; cases nd
              exact ⟨e, od, _, s3 _ _ (s2 _ _ heL), (fun o' u' z => by rw [show H e = _ from z] at he; cases he), q dd yy _ (s1.trans (sU (s2.trans s3))) (by rw [upd_ne ne]; exact h3)⟩
            refine forG Y (fun k σ H2 => k = 0 ∧ Same HL H2 ∧ ∃ z2, σ = [some (.ref L), some (.ref e), z2]) ⟨rfl, Same.refl HL, z2, rfl⟩ (fun _ σ H2 I => I.2.1 _ _ heL) (fun k u σ H2 hy I => ?_) (fun σ H2 I => ?_)
            · obtain ⟨rfl, s2, z2, rfl⟩ := I
              cases hy
              rcases hb with ⟨th, pf⟩ | ⟨y, rfl, ly, oy, pt, nt⟩
              · refine ⟨_, rfl, _, rfl, th H2, fun H3 s3 => ⟨_, rfl, ?_⟩⟩
                rw [pf]
                exact iteT ⟨(by show 1 ≤ 1000; decide), do_raise (Q := fun cls d H' => wLock (cxOf (L2.CX P w) P w K mg base ["arguments", "files", "path"] "check_are_files" (C8.fnScope s_check_are_files) f cdv A outer s H E) (fun cls d x H => E cls d H) cls d [some (.ref L), some (.ref e), some (kV kk0)] H') T.eP fun dd H4 s4 nd h4 => out (s2.trans s3) dd _ H4 s4 nd h4⟩
              · refine ⟨.str y, rfl, .str y, rfl, .str y (by omega) oy, fun H3 s3 => ⟨_, rfl, ?_⟩⟩
                rw [show evalV isPathF (.str y) = true from pt]
                refine iteF ?_
                have g1 := dget_kT (t := [(y, v1)]) (.inr ⟨od, s3 _ _ (s2 _ _ heL)⟩) y
                rw [show valV [(y, v1)] y = some v1 from valV_pos rfl] at g1
                refine ⟨.ref e, rfl, .str y, rfl, e, _, rfl, g1, v1, fk, rfl, .inr T.kF, .inr ⟨nt H3 (((TupKeep.of s1).trans kk).trans (TupKeep.of (s2.trans s3))) (fun b o nb z => s3 _ _ (s2 _ _ (kO b o nb z))), ⟨_, rfl, iteT ⟨(by show 1 ≤ 1000; decide), do_raise (Q := fun cls d H' => wLock (cxOf (L2.CX P w) P w K mg base ["arguments", "files", "path"] "check_are_files" (C8.fnScope s_check_are_files) f cdv A outer s H E) (fun cls d x H => E cls d H) cls d [some (.ref L), some (.ref e), some (.str y)] H') T.eP fun dd H4 s4 nd h4 => out (s2.trans s3) dd _ H4 s4 nd h4⟩⟩⟩⟩
            · obtain ⟨z, _⟩ := I
              cases z
    · obtain ⟨hi, s1, z1, z2, rfl⟩ := I
      rcases fin with ⟨_, q⟩ | ⟨v, hv, _⟩
      · exact q H' s1
      · have := (List.getElem?_eq_some_iff.mp hv).1
        omega
end
def spAscL : Sp := fun vs H Q _ => ∃ (a : Addr) (zs : List Str), vs = [.ref a] ∧ H a = some (.lst (zs.map V.str)) ∧ zs.length < 64 ∧ ∀ (ys : List Str) (p : Addr) (H' : Hp), ys.Perm zs → sortedS ys = true → H p = none → Same H H' → H' p = some (.tup (ys.map V.str)) → Q (.ref p) H'
section
variable {P : Program} {w : World} {K : PySem.W.Frag} {mg : Str → Option Value} {base : Heap} {fk iF cP : Addr}
theorem c_ascendingL (T : Top K mg) : C8.Cal P w K mg base 1 "ascending" spAscL [] := by
  refine cal_of T.d_ascending sc_ascending (fun _ _ _ _ _ _ us hl => match us, hl with | [_], _ => rfl) (fun vs H Q E h => ?_) (fun f cdv A outer s H vs Q E hr h => ?_)
  · obtain ⟨a, zs, rfl, _⟩ := h
    rfl
  · obtain ⟨a, zs, rfl, ha, hl, q⟩ := h
    refine ⟨_, (pss_one (ps_ret (pe_callTy call_tuple_of (by rfl) T.z_tuple (by decide +kernel) (pa_cons (pe_callB (cr_sortedS) (by rfl) T.z_sorted (by decide +kernel) (pa_cons (pe_lc (own := [("name", 1)]) (g := gName 1) (by rfl) sc_ascending.nd (pi_list (pv 0)) (blkOk_by (own := [("name", 1)]) (N := ["names", "name"]) (sc := C8.fnScope s_ascending) (by decide +kernel)) (fun _ _ _ _ _ => (pg_name (i := 1) sc_ascending.nd rfl (Or.inl rfl))) (fun _ _ _ _ _ => pts_nil) (fun _ _ _ _ _ => (pe_callTy SkE.call_str_str (by rfl) T.z_str (by decide +kernel) (pa_cons (pv 1) pa_nil)))) pa_nil)) pa_nil)))), ?_⟩
    refine ⟨.ref a, rfl, a, rfl, ⟨_, SqL.of ha⟩, fun D hD => ?_⟩
    refine lc_pure (i := 1) (us := zs) (g := V.str) yields_list V.str (fun _ => true) hD (fun H s => SqL.of (s _ _ ha)) (fun H u _ hu R r => r H (Same.refl H))
      (fun H u _ hu _ R r => ⟨_, rfl, u, rfl, r H (Same.refl H)⟩) (by omega) (fun H2 s2 h2 => ?_)
    rw [filt_all] at h2
    refine ⟨D, zs, rfl, .inl (.inl h2), hl, fun ys p hp hs hn => ?_⟩
    refine ⟨p, _, rfl, .inl ⟨.inl (.inl upd_same), fun l hl => ?_⟩⟩
    have nl : H l = none := (s2.trans (same_new hn)).free hl
    exact q ys l _ hp hs nl ((s2.trans (same_new hn)).trans (same_new hl)) upd_same
/-- {**a, **b} of two tables -/
theorem stars2 {α : Type} {R : V → α → Prop} {σ : L2.St} {H : Hp} {Q : VK} {i j : Nat} {a b : Addr} {t u : Tab} {f g : Mp α} (hi : σ[i]? = some (some (.ref a))) (hj : σ[j]? = some (some (.ref b))) (ha : H a = some (.dK (kT t))) (hb : H b = some (.dK (kT u)))
    (hf : Holds R t f) (hg : Holds R u g) (nt : Nd t) (nu : Nd u) (hl : t.length + u.length ≤ 1000) (q : ∀ p m H', H p = none → Same H H' → H' p = some (.dK (kT m)) → Nd m → m.length ≤ t.length + u.length → Holds R m (orM f g) → Q (.ref p) H') :
    tStars [tVar i, tVar j] σ H Q := by
  intro p np
  have npd : ∀ {c : Addr} {o : HO}, H c = some o → p ≠ c := fun {c o} z y => by rw [y, z] at np; cases np
  have len0 : ([] : Tab).length = 0 := rfl
  obtain ⟨m1, e1, n1, l1, h1⟩ := (Holds.nil (R := R)).merge hf (by unfold Nd; exact List.nodup_nil) nt
  obtain ⟨m2, e2, n2, l2, h2⟩ := h1.merge hg n1 nu
  have f0 : orM (fun _ => none) f = f := by
    funext x
    unfold orM
    cases f x <;> rfl
  rw [f0] at h2
  refine ⟨.ref a, hi, a, [], kT t, rfl, npd ha, upd_same, (by rw [upd_ne (npd ha).symm]; exact ha), small_line (by rw [len_kT]; show 0 + _ ≤ _; omega), ?_⟩
  rw [show ([] : List (Key × V)) = kT [] from rfl, e1, upd_upd]
  refine ⟨.ref b, hj, b, kT m1, kT u, rfl, npd hb, upd_same, (by rw [upd_ne (npd hb).symm]; exact hb), small_line (by rw [len_kT, len_kT]; omega), ?_⟩
  rw [e2, upd_upd]
  exact q p m2 _ np (same_new np) upd_same n2 (by omega) h2
end
def diffM (f g : Mp Fi) : Mp Rw := fun x => if f x = g x then none else some (f x, g x)
section
variable {P : Program} {w : World} {K : PySem.W.Frag} {mg : Str → Option Value} {base : Heap} {fk iF cP : Addr}
def spDiff (K : PySem.W.Frag) : Sp := fun vs H Q _ => ∃ (a b : Addr) (n n' : Nat) (f g : Mp Fi), vs = [.ref a, .ref b] ∧ FilesAt K H a n f ∧ FilesAt K H b n' g ∧ n + n' ≤ 60 ∧
  ∀ (D : Addr) (as : List Addr) (ys : List Str) (H' : Hp), Same H H' → H' D = some (.lst (as.map V.ref)) → ys.Nodup → sortedS ys = true → ys.length ≤ n + n' → (∀ x ∈ ys, PathOk x) → (∀ x, x ∈ ys ↔ f x ≠ g x) →
    Paired (fun (a : Addr) x => ∃ v1 v2, H' a = some (.tup [.str x, v1, v2]) ∧ FvV K H' v1 (f x) ∧ FvV K H' v2 (g x)) as ys → Q (.ref D) H'
theorem cx_differences (T : TopG K mg fk cP iF) : CalX P w K mg base (L2.CX P w) 6 "differences" (spDiff K) [] := by
  refine calX_of T.d_differences sc_differences (fun _ _ _ _ _ _ us hl => match us, hl with | [_, _], _ => rfl) (fun vs H Q E h => ?_) (fun fa cdv A outer s H vs Q E hr h => ?_)
  · obtain ⟨a, b, n, n', f, g, rfl, _⟩ := h
    rfl
  · obtain ⟨a, b, n, n', f, g, rfl, hA, hB, hn, q⟩ := h
    refine ⟨_, (pss_cons (ps_expr (pe_cx (cx_check_are_files T) hr (by decide) (fun _ => passAt (takes_of rfl rfl rfl rfl) _) (by rfl) (pa_cons (pe_lst (pa_cons (pv 0) (pa_cons (pv 1) pa_nil))) pa_nil)))
      (pss_cons (ps_setLc (i := 2) (own := [("path", 3)]) (g := gName 3) (by rfl) sc_differences.nd rfl rfl (sw_true rfl rfl rfl (by decide +kernel)) (pi_tup (C8.pe_c (c_ascending T.toTop) hr (by decide) (by rfl) (pa_cons (pe_stars (.cons (pv 0) (.cons (pv 1) .nil)) (by decide) rfl) pa_nil))) (blkOk_by (own := [("path", 3)]) (N := ["old", "new", "rows", "path", "before", "behind"]) (sc := C8.fnScope s_differences) (by decide +kernel)) (fun _ _ _ _ _ => (pg_name (i := 3) sc_differences.nd rfl (Or.inl rfl))) (fun _ _ _ _ _ => pts_nil) (fun _ _ _ _ _ => (pe_tup (pa_cons (pv 3) (pa_cons (pe_dget1 (hu_of hr) (pv 0) (pv 3) ⟨rfl, rfl, rfl, rfl⟩) (pa_cons (pe_dget1 (hu_of hr) (pv 1) (pv 3) ⟨rfl, rfl, rfl, rfl⟩) pa_nil))))))
      (pss_one (ps_ret (pe_lc (own := [("path", 3), ("before", 4), ("behind", 5)]) (g := _) (by rfl) sc_differences.nd (pi_list (pv 2)) (blkOk_by (own := [("path", 3), ("before", 4), ("behind", 5)]) (N := ["old", "new", "rows", "path", "before", "behind"]) (sc := C8.fnScope s_differences) (by decide +kernel)) (fun _ _ _ _ _ => (pg_tupK (K := K) (n := 3) rfl rfl (pgs_cons (pg_name (i := 3) sc_differences.nd rfl (Or.inl rfl)) (pgs_cons (pg_name (i := 4) sc_differences.nd rfl (Or.inl rfl)) (pgs_cons (pg_name (i := 5) sc_differences.nd rfl (Or.inl rfl)) pgs_nil))))) (fun _ _ _ _ _ => pts_one (pt_cmpR (op_neFv (K := K) rfl hr.units) (pv 4) (pv 5) (nomark _))) (fun _ _ _ _ _ => (pe_tup (pa_cons (pv 3) (pa_cons (pv 4) (pa_cons (pv 5) pa_nil)))))))))), ?_⟩
    refine ⟨.ref a, rfl, .ref b, rfl, (by show 2 ≤ sizeLine; decide), fun L hL => ?_⟩
    have s1 := same_new (o := .lst [V.ref a, .ref b]) hL
    have hA1 := hA.same s1
    have hB1 := hB.same s1
    have h1 := upd_same (H := H) (a := L) (o := .lst [V.ref a, .ref b])
    generalize upd H L (.lst [V.ref a, .ref b]) = H1 at s1 hA1 hB1 h1
    refine ⟨L, _, rfl, h1, .inl ⟨fun v hv => ?_, fun H2 s2 => ?_⟩⟩
    · simp only [List.mem_cons, List.not_mem_nil, or_false] at hv
      rcases hv with rfl | rfl
      · exact ⟨a, f, rfl, hA1.mono (by omega)⟩
      · exact ⟨b, g, rfl, hB1.mono (by omega)⟩
    · obtain ⟨ta, ga, hFa, oA⟩ := hA1.same s2
      obtain ⟨tb, gb, hFb, oB⟩ := hB1.same s2
      have la := oA.len
      have lb := oB.len
      refine stars2 rfl rfl ga gb hFa hFb oA.nd oB.nd (by omega) fun p mt H3 np s3 hp nd lm hM => ?_
      refine ⟨p, mt, rfl, hp, by omega, fun ys pl H4 hperm hs npl s4 hpl => ⟨pl, rfl, ⟨_, SqT.of hpl⟩, fun D hD => ?_⟩⟩
      have s24 := s3.trans s4
      have lys : ys.length ≤ n + n' := by rw [hperm.length_eq, List.length_map]; omega
      have ndy : ys.Nodup := hperm.nodup_iff.mpr nd
      have memy : ∀ x, x ∈ ys ↔ (f x ≠ none ∨ g x ≠ none) := fun x => by
        rw [hperm.mem_iff, hM.mem]
        unfold orM
        cases f x <;> cases g x <;> simp
      have py : ∀ x ∈ ys, PathOk x := fun x hx => by
        rcases (memy x).mp hx with z | z
        · refine oA.path x (hFa.mem.mpr ?_)
          cases e : f x with
          | none => exact absurd e z
          | some r => rfl
        · refine oB.path x (hFb.mem.mpr ?_)
          cases e : g x with
          | none => exact absurd e z
          | some r => rfl
      let rw_ : Str → Str × V × V := fun x => (x, (valV ta x).getD .non, (valV tb x).getD .non)
      have kA : ∀ {H' : Hp}, Same H4 H' → ∀ x, FvV K H' ((valV ta x).getD .non) (f x) ∧ FvV K H' ((valV tb x).getD .non) (g x) := fun {H'} s x =>
        ⟨(get_fv hFa x).keep (TupKeep.of (s24.trans s)), (get_fv hFb x).keep (TupKeep.of (s24.trans s))⟩
      have gF : ∀ x, GoodF (f x) ∧ GoodF (g x) := fun x => ⟨fun p e => oA.good x p e, fun p e => oB.good x p e⟩
      refine lc_new (us := ys) (val := V.str) yields_tup (fun x => [.str x, (valV ta x).getD .non, (valV tb x).getD .non]) (fun _ => true) (fun x => [some (.ref a), some (.ref b), none, some (.str x), none, none]) hD (fun H s => SqT.of (s _ _ hpl)) (fun _ _ => rfl) (fun H u _ _ R r => r) (fun H u _ _ R r => r H (Same.refl H)) (fun H5 x s5 hx _ R r => ?_) (by omega) (fun as H5 s5 h5 tp => ?_)
      · have dA := dget_kT (.inl (s5 _ _ (s24 _ _ ga))) x
        have dB := dget_kT (.inl (s5 _ _ (s24 _ _ gb))) x
        exact ⟨.str x, rfl, .ref a, rfl, a, rfl, .inl ⟨_, .inl (s5 _ _ (s24 _ _ ga))⟩, .str x, rfl, _, dA, .ref b, rfl, b, rfl, .inl ⟨_, .inl (s5 _ _ (s24 _ _ gb))⟩, .str x, rfl, _, dB, (by show 3 ≤ sizeLine; decide), fun pt hpt => r pt _ (same_new hpt) upd_same⟩
      · rw [filt_all] at tp
        have el : as.length = (ys.map rw_).length := by
          have := tp.1
          rw [List.length_map] at this ⊢
          exact this
        have lrw : (ys.map rw_).length = ys.length := List.length_map _
        have tp' : Tups H5 as ((ys.map rw_).map fun u => [V.str u.1, u.2.1, u.2.2]) := by
          rw [List.map_map]
          exact tp
        refine ⟨.ref D, rfl, D, rfl, ⟨_, SqL.of h5⟩, fun D2 hD2 => ?_⟩
        have inr : ∀ {u : Addr × (Str × V × V)}, u ∈ as.zip (ys.map rw_) → ∃ x ∈ ys, u.2 = rw_ x := fun {u} hu => by
          obtain ⟨x, hx, e⟩ := List.mem_map.mp (List.of_mem_zip hu).2
          exact ⟨x, hx, e.symm⟩
        refine lc_new (us := as.zip (ys.map rw_)) (val := fun u => V.ref u.1) (yields_zipL el) (fun u => [V.str u.2.1, u.2.2.1, u.2.2.2]) (fun u => !decide (f u.2.1 = g u.2.1)) (fun u => [some (.ref a), some (.ref b), some (.ref D), some (.str u.2.1), some u.2.2.1, some u.2.2.2]) hD2 (fun H s => .inl (.inl (s _ _ h5))) (fun _ _ => rfl)
          (fun H6 u s6 hu R k => ⟨u.1, _, rfl, SqT.of (s6 _ _ (tups_get tp' hu)), rfl, _, _, rfl, _, _, rfl, _, _, rfl, rfl, k⟩) (fun H6 u s6 hu R k => ?_) (fun H6 u s6 hu _ R k => ?_) (by rw [List.length_zip]; omega) (fun bs H6 s6 h6 tq => ?_)
        · obtain ⟨x, hx, e⟩ := inr hu
          obtain ⟨k1, k2⟩ := kA (s5.trans s6) x
          rw [e] at k ⊢
          exact ⟨_, rfl, _, rfl, f x, g x, k1, k2, (gF x).1, (gF x).2, _, rfl, k H6 (Same.refl H6)⟩
        · exact ⟨_, rfl, _, rfl, _, rfl, (by show 3 ≤ sizeLine; decide), fun pt hpt => k pt _ (same_new hpt) upd_same⟩
        · have eqm : ((as.zip (ys.map rw_)).filter fun u => !decide (f u.2.1 = g u.2.1)).map (fun u => [V.str u.2.1, u.2.2.1, u.2.2.2]) = (ys.filter fun x => !decide (f x = g x)).map fun x => [V.str x, (valV ta x).getD .non, (valV tb x).getD .non] := by
            rw [show (fun u : Addr × (Str × V × V) => [V.str u.2.1, u.2.2.1, u.2.2.2]) = (fun m : Str × V × V => [V.str m.1, m.2.1, m.2.2]) ∘ Prod.snd from rfl, ← List.map_map]
            have := List.filter_map (f := (Prod.snd : Addr × (Str × V × V) → Str × V × V)) (p := fun m => !decide (f m.1 = g m.1)) (l := as.zip (ys.map rw_))
            rw [List.map_snd_zip (by omega), List.filter_map] at this
            rw [show ((as.zip (ys.map rw_)).filter fun u => !decide (f u.2.1 = g u.2.1)).map Prod.snd = _ from this.symm, List.map_map]
            rfl
          rw [eqm] at tq
          have s06 : Same H H6 := ((s1.trans s2).trans s24).trans (s5.trans s6)
          refine q D2 bs (ys.filter fun x => !decide (f x = g x)) H6 s06 h6 (ndy.filter _) ?_ (Nat.le_trans (List.length_filter_le _ _) lys) (fun x hx => py x (List.mem_filter.mp hx).1) (fun x => ?_) ?_
          · exact sorted_filter hs _
          · rw [List.mem_filter, memy]
            constructor
            · rintro ⟨_, z⟩ e
              rw [decide_eq_true e] at z
              cases z
            · intro ne
              refine ⟨?_, by rw [decide_eq_false ne]; rfl⟩
              by_cases e : f x = none
              · exact .inr fun e2 => ne (by rw [e, e2])
              · exact .inl e
          · have key : ∀ (bs : List Addr) (zs : List Str), Tups H6 bs (zs.map fun x => [V.str x, (valV ta x).getD .non, (valV tb x).getD .non]) → Paired (fun (a : Addr) x => ∃ v1 v2, H6 a = some (.tup [.str x, v1, v2]) ∧ FvV K H6 v1 (f x) ∧ FvV K H6 v2 (g x)) bs zs := by
              intro bs zs
              induction zs generalizing bs with
              | nil =>
                intro t
                cases bs with
                | nil => exact .nil
                | cons _ _ => cases t.1
              | cons z zs ih =>
                intro t
                cases bs with
                | nil => cases t.1
                | cons b bs =>
                  have h0 : H6 b = some (.tup [V.str z, (valV ta z).getD .non, (valV tb z).getD .non]) := t.2 0 _ _ rfl rfl
                  obtain ⟨k1, k2⟩ := kA (s5.trans s6) z
                  exact .cons ⟨_, _, h0, k1, k2⟩ (ih bs ⟨Nat.succ.inj t.1, fun i c l hc hl => t.2 (i + 1) c l (by rw [List.getElem?_cons_succ]; exact hc) (by rw [List.map_cons, List.getElem?_cons_succ]; exact hl)⟩)
            exact key bs _ tq
end
def spDiffB (cP : Addr) (K : PySem.W.Frag) : Sp := fun vs H Q E => ∃ (v u : V), vs = [v, u] ∧ (BadFile K H v ∨ (FileV K H v ∧ BadFile K H u)) ∧ Bad cP H E
section
variable {P : Program} {w : World} {K : PySem.W.Frag} {mg : Str → Option Value} {base : Heap} {fk iF cP : Addr}
theorem cb_differences (T : TopG K mg fk cP iF) : CalX P w K mg base (L2.CX P w) 6 "differences" (spDiffB cP K) [] := by
  refine calX_of T.d_differences sc_differences (fun _ _ _ _ _ _ us hl => match us, hl with | [_, _], _ => rfl) (fun vs H Q E h => ?_) (fun fa cdv A outer s H vs Q E hr h => ?_)
  · obtain ⟨v, u, rfl, _⟩ := h
    rfl
  · obtain ⟨v, u, rfl, hb, q⟩ := h
    refine ⟨_, (pss_cons (ps_expr (pe_cx (cx_check_are_files T) hr (by decide) (fun _ => passAt (takes_of rfl rfl rfl rfl) _) (by rfl) (pa_cons (pe_lst (pa_cons (pv 0) (pa_cons (pv 1) pa_nil))) pa_nil))) pss_vac), ?_⟩
    refine ⟨v, rfl, u, rfl, (by show 2 ≤ sizeLine; decide), fun L hL => ?_⟩
    have s1 := same_new (o := .lst [v, u]) hL
    refine ⟨L, _, rfl, upd_same, .inr ?_⟩
    rcases hb with b | ⟨g, b⟩
    · exact ⟨0, v, rfl, fun j u hj => absurd hj (Nat.not_lt_zero j), b.same s1, q.same s1⟩
    · refine ⟨1, u, rfl, fun j x hj hx => ?_, b.same s1, q.same s1⟩
      obtain rfl : j = 0 := by omega
      cases hx
      exact g.same s1
end

end Fk

set_option maxHeartbeats 4000000
/-! A dict of new lists, made by a comprehension. -/
namespace Fk
open PySem PySem.Spec PyProof.Rows L2
/-- lists and tuples stay -/
def LtKeep (H H' : Hp) : Prop := (∀ b xs, H b = some (.tup xs) → H' b = some (.tup xs)) ∧ ∀ b xs, H b = some (.lst xs) → H' b = some (.lst xs)
theorem LtKeep.of {H H' : Hp} (s : Same H H') : LtKeep H H' := ⟨fun b xs e => s b _ e, fun b xs e => s b _ e⟩
theorem LtKeep.tup {H H' : Hp} (s : LtKeep H H') : TupKeep H H' := s.1
theorem LtKeep.trans {H H1 H2 : Hp} (a : LtKeep H H1) (b : LtKeep H1 H2) : LtKeep H H2 := ⟨fun c xs e => b.1 c xs (a.1 c xs e), fun c xs e => b.2 c xs (a.2 c xs e)⟩
theorem LtKeep.at {a : Addr} {H : Hp} {o : HO} (n : ∀ xs, H a ≠ some (.tup xs) ∧ H a ≠ some (.lst xs)) : LtKeep H (upd H a o) :=
  ⟨fun b xs e => by rw [upd_ne (fun z => (n xs).1 (by rw [← z]; exact e))]; exact e, fun b xs e => by rw [upd_ne (fun z => (n xs).2 (by rw [← z]; exact e))]; exact e⟩
section
variable {α β : Type} {J : It} {us : List α} {val : α → V} {G : Hp → Prop} {H1 : Hp} {D : Addr} {σ : L2.St} {vs : List Nat} {g : TG} {tt : TT} {tk tv : TE} {Q : Hp → Prop}
theorem dc_holdL (Y : Yields J (us.map val) G) (kf : α → Str) (R : Hp → V → β → Prop) (rf : α → β) (p : α → Bool) (σf : α → L2.St) (hD1 : H1 D = none) (hG : ∀ H, Same H1 H → G H) (hw : ∀ u ∈ us, wipe (σf u) vs = wipe σ vs)
    (hg : ∀ H u, Same H1 H → u ∈ us → ∀ (S : L2.St → Hp → Prop), S (σf u) H → g (val u) (wipe σ vs) H S)
    (ht : ∀ H u, Same H1 H → u ∈ us → ∀ (S : Bool → Hp → Prop), (∀ H3, Same H H3 → S (p u) H3) → tt (σf u) H S)
    (hk : ∀ H u, Same H1 H → u ∈ us → p u = true → ∀ (S : VK), (∀ H3, Same H H3 → S (.str (kf u)) H3) → tk (σf u) H S)
    (mono : ∀ H H' v r, LtKeep H H' → R H v r → R H' v r)
    (hv : ∀ H u, Same H1 H → u ∈ us → p u = true → ∀ (S : VK), (∀ v H3, Same H H3 → R H3 v (rf u) → S v H3) → tv (σf u) H S)
    (hl : us.length ≤ 1000000) (nd : (us.map kf).Nodup) (hd : ∀ H tab, Same H1 H → H D = some (.dK (kT tab)) → Paired (fun e u => e.1 = kf u ∧ R H e.2 (rf u)) tab (us.filter p) → Q H) :
    ∃ W : Nat → Nat → Hp → Prop, (∃ m, W 0 m (upd H1 D (.dK []))) ∧ ∀ k m H, W k m H →
      (J.stop k H ∧ Q H) ∨ (J.go k H ∧ ∃ Nx : Hp → Prop, (∀ H', Nx H' → ∃ m', m' < m ∧ W (k + 1) m' H') ∧ ∀ x H', J.yld k H x H' → g x (wipe σ vs) H' fun σ2 H2 => wipe σ2 vs = wipe σ vs ∧ tt σ2 H2 fun b H3 =>
        if b = true then tk σ2 H3 fun y H4 => tv σ2 H4 fun z H5 => ∃ kvs key, y = kV key ∧ H5 D = some (.dK kvs) ∧ kvs.length < sizeLine ∧ Nx (upd H5 D (.dK (putK kvs key z))) else Nx H3) := by
  refine dcG Y (fun k kvs H => Same H1 H ∧ ∃ tab, kvs = kT tab ∧ Paired (fun e u => e.1 = kf u ∧ R H e.2 (rf u)) tab ((us.take k).filter p)) (fun k acc H h _ => hG H h.1) ⟨same_new hD1, [], rfl, .nil⟩ (fun k kvs H x hI hD hx hacc hk' => ?_) (by rw [List.length_map]; exact hl) (fun acc H hI hD _ => ?_)
  · obtain ⟨sm, tab, ea, pr⟩ := hI
    rw [List.getElem?_map] at hx
    cases hu : us[k]? with
    | none => rw [hu] at hx; cases hx
    | some u =>
      rw [hu] at hx
      cases hx
      have hm : u ∈ us := List.mem_of_getElem? hu
      have et : us.take (k + 1) = us.take k ++ [u] := by
        rw [List.take_add_one, hu]
        rfl
      refine hg H u sm hm _ ⟨hw u hm, ht H u sm hm _ fun H3 s3 => ?_⟩
      by_cases hp : p u = true
      · rw [if_pos hp]
        refine hk H3 u (sm.trans s3) hm hp _ fun H4 s4 => hv H4 u ((sm.trans s3).trans s4) hm hp _ fun v H5 s5 rv => ?_
        have s35 := (s3.trans s4).trans s5
        have new : valV tab (kf u) = none := by
          cases c : valV tab (kf u) with
          | none => rfl
          | some z =>
            have m := valV_in c
            rw [paired_keys (R := fun v u => R H v (rf u)) pr] at m
            obtain ⟨w, hw', ew⟩ := List.mem_map.mp m
            have e : us = us.take k ++ (u :: us.drop (k + 1)) := by
              conv => lhs; rw [← List.take_append_drop (k + 1) us, et, List.append_assoc]
              rfl
            rw [e, List.map_append] at nd
            exact absurd ew ((List.nodup_append.mp nd).2.2 (kf w) (List.mem_map.mpr ⟨w, (List.mem_filter.mp hw').1, rfl⟩) (kf u) List.mem_cons_self)
        refine dc_take (key := .inr (kf u)) (s35 _ _ hD) hacc hk' ⟨same_mut (sm.trans s35) hD1, tab ++ [(kf u, v)], ?_, ?_⟩
        · rw [ea, putK_kT, putK_new _ new]
        · have k1 : LtKeep H5 (upd H5 D (.dK (putK kvs (.inr (kf u)) v))) := LtKeep.at fun xs => ⟨(fun z => by rw [s35 _ _ hD] at z; cases z), (fun z => by rw [s35 _ _ hD] at z; cases z)⟩
          have k2 : LtKeep H (upd H5 D (.dK (putK kvs (.inr (kf u)) v))) := (LtKeep.of s35).trans k1
          rw [et, List.filter_append, List.filter_cons, hp]
          exact paired_snoc (R := fun e u => e.1 = kf u ∧ R _ e.2 (rf u)) ⟨rfl, mono _ _ _ _ k1 rv⟩ (Paired.mapP pr fun e w ⟨a, b⟩ => ⟨a, mono _ _ _ _ k2 b⟩)
      · rw [if_neg hp]
        refine dc_skip (s3 _ _ hD) hacc ⟨sm.trans s3, tab, ea, ?_⟩
        rw [et, List.filter_append, List.filter_cons, if_neg hp]
        simp only [List.filter_nil, List.append_nil]
        exact Paired.mapP pr fun e w ⟨a, b⟩ => ⟨a, mono _ _ _ _ (LtKeep.of s3) b⟩
  · obtain ⟨sm, tab, ea, pr⟩ := hI
    rw [List.length_map, List.take_length] at pr
    rw [ea] at hD
    exact hd H tab sm hD pr
end
end Fk

set_option maxHeartbeats 4000000
/-! *e among arguments and in list displays, its K given. -/
namespace Fk
open PySem PySem.Spec PyProof.Rows L2 StX
theorem pa_starK {X : Cx} {K : PySem.W.Frag} {e : Expr} {es : List Expr} {te : TE} {t : TA} {p : Pos} (eK : X.K = K) (he : PE X e te) (hr : PA X es t) (hs : starEach (.Starred e p :: es) X.env = (true, eval e X.env) :: starEach es X.env := by rfl) : PA X (.Starred e p :: es) (tStar K te t) := by
  subst eK
  exact pa_star he hr hs
end Fk

set_option maxHeartbeats 4000000
namespace Fk
open PySem PySem.Spec PyProof.Rows L2
/-- what the bases leave of two values -/
def oldF (os : List Fv) : Fv := os.head?.getD none
def mvF (os : List Fv) (m o : Fv) : List Fv := if m = o then [m] else if (os.any fun v => !decide (v = oldF os)) = true then [m, o] else if m = oldF os then [o] else if o = oldF os then [m] else [m, o]
/-- a list of the values that are due -/
def FvsV (K : PySem.W.Frag) (H : Hp) (xs : List V) (fs : List Fv) : Prop := Paired (fun v f => FvV K H v f) xs fs
theorem FvsV.keep {K : PySem.W.Frag} {H H' : Hp} {xs : List V} {fs : List Fv} (h : FvsV K H xs fs) (k : TupKeep H H') : FvsV K H' xs fs := Paired.mapP h fun _ _ x => x.keep k
section
variable {P : Program} {w : World} {K : PySem.W.Frag} {mg : Str → Option Value} {base : Heap} {fk iF cP : Addr}
def spMV (K : PySem.W.Frag) : Sp := fun vs H Q _ => ∃ (L : Addr) (us : List (V × Fv)) (vm vo : V) (m o : Fv), vs = [.ref L, vm, vo] ∧ SqL K H L (us.map (·.1)) ∧ us.length ≤ 1000 ∧ (∀ u ∈ us, FvV K H u.1 u.2 ∧ GoodF u.2) ∧ FvV K H vm m ∧ GoodF m ∧ FvV K H vo o ∧ GoodF o ∧
  ∀ p xs H', H p = none → Same H H' → H' p = some (.lst xs) → FvsV K H' xs (mvF (us.map (·.2)) m o) → Q (.ref p) H'
theorem c__merged_values (T : Top K mg) : C8.Cal P w K mg base 1 "_merged_values" (spMV K) [] := by
  refine cal_of T.d__merged_values sc__merged_values (fun _ _ _ _ _ _ us hl => match us, hl with | [_, _, _], _ => rfl) (fun vs H Q E h => ?_) (fun f cdv A outer s H vs Q E hr h => ?_)
  · obtain ⟨L, us, vm, vo, m, o, rfl, _⟩ := h
    rfl
  · obtain ⟨L, us, vm, vo, m, o, rfl, hL, hl, hu, hm, gm, ho, go, q⟩ := h
    refine ⟨_, (pss_cons (ps_if (pt_cmpR (op_eqFv (K := K) rfl hr.units) (pv 1) (pv 2) (nomark _))
      (pss_one (ps_ret (pe_lst (pa_cons (pv 1) pa_nil))))
      pss_nil)
      (C8.pss_cut (ps_set (i := 3) sc__merged_values.nd rfl (Or.inr rfl) (pe_ifExp (pt_truth (pv 0) (by intro _; rfl)) (pe_ix ix_list (pv 0) pe_int (fun _ _ => rfl)) pe_non))
      (pss_cons (ps_if (pt_val (pe_callB (cr_any rfl) (by rfl) T.z_any (by decide +kernel) (pa_cons (pe_lc (own := [("value", 4)]) (g := gName 4) (by rfl) sc__merged_values.nd (pi_list (pv 0)) (blkOk_by (own := [("value", 4)]) (N := ["olds", "mine", "other", "old", "value"]) (sc := C8.fnScope s__merged_values) (by decide +kernel)) (fun _ _ _ _ _ => (pg_name (i := 4) sc__merged_values.nd rfl (Or.inl rfl))) (fun _ _ _ _ _ => pts_nil) (fun _ _ _ _ _ => (pe_cmpR (op_neFv (K := K) rfl hr.units) (pv 4) (pv 3) (nomark _)))) pa_nil)))
      (pss_one (ps_ret (pe_lst (pa_cons (pv 1) (pa_cons (pv 2) pa_nil)))))
      pss_nil)
      (pss_cons (ps_if (pt_cmpR (op_eqFv (K := K) rfl hr.units) (pv 1) (pv 3) (nomark _))
      (pss_one (ps_ret (pe_lst (pa_cons (pv 2) pa_nil))))
      pss_nil)
      (pss_cons (ps_if (pt_cmpR (op_eqFv (K := K) rfl hr.units) (pv 2) (pv 3) (nomark _))
      (pss_one (ps_ret (pe_lst (pa_cons (pv 1) pa_nil))))
      pss_nil)
      (pss_one (ps_ret (pe_lst (pa_cons (pv 1) (pa_cons (pv 2) pa_nil)))))))))), ?_⟩
    have out1 : ∀ {H1 : Hp} {v : V} {x : Fv}, Same H H1 → FvV K H v x → mvF (us.map (·.2)) m o = [x] → ∀ p, H1 p = none → Q (.ref p) (upd H1 p (.lst [v])) := fun {H1 v x} s1 hv e p np => by
      have s2 := s1.trans (same_new (o := .lst [v]) np)
      exact q p [v] _ (s1.free np) s2 upd_same (by rw [e]; exact .cons (hv.keep (TupKeep.of s2)) .nil)
    have out2 : ∀ {H1 : Hp}, Same H H1 → mvF (us.map (·.2)) m o = [m, o] → ∀ p, H1 p = none → Q (.ref p) (upd H1 p (.lst [vm, vo])) := fun {H1} s1 e p np => by
      have s2 := s1.trans (same_new (o := .lst [vm, vo]) np)
      exact q p [vm, vo] _ (s1.free np) s2 upd_same (by rw [e]; exact .cons (hm.keep (TupKeep.of s2)) (.cons (ho.keep (TupKeep.of s2)) .nil))
    refine ⟨vm, rfl, vo, rfl, m, o, hm, ho, gm, go, _, rfl, ite2 (fun h1 => ?_) (fun h1 => ?_)⟩
    · have h1 := of_decide_eq_true h1
      exact ⟨vm, rfl, (by show 1 ≤ sizeLine; decide), fun p np => out1 (Same.refl H) hm (by unfold mvF; rw [if_pos h1]) p np⟩
    · have h1 : ¬ m = o := fun z => h1 (decide_eq_true z)
      refine ⟨fun σ' H' => H' = H ∧ ∃ vd, σ' = [some (.ref L), some vm, some vo, some vd, none] ∧ FvV K H vd (oldF (us.map (·.2))) ∧ GoodF (oldF (us.map (·.2))), ?first, ?rest⟩
      case first =>
        refine ⟨.ref L, rfl, ?_⟩
        cases us with
        | nil => exact ⟨false, .inl ⟨[], hL, rfl⟩, iteF ⟨rfl, .non, rfl, rfl, fun p z => nomatch z⟩⟩
        | cons u us =>
          obtain ⟨h2, h3⟩ := hu u List.mem_cons_self
          exact ⟨true, .inl ⟨_, hL, rfl⟩, iteT ⟨.ref L, rfl, L, _, 0, u.1, rfl, rfl, hL, atI_nat rfl, rfl, u.1, rfl, h2, h3⟩⟩
      case rest =>
        rintro σ' H' ⟨rfl, vd, rfl, hd, gd⟩
        refine ⟨.ref L, rfl, L, rfl, ⟨_, hL⟩, fun D hD => ?_⟩
        refine lc_pure (i := 4) (us := us) (g := fun u => u.1) yields_list (fun u => .bl (!decide (u.2 = oldF (us.map (·.2))))) (fun _ => true) hD (fun H s => s.seq hL) (fun H1 u s1 hx R r => r H1 (Same.refl H1)) (fun H1 u s1 hx _ R r => ?_) (by omega) (fun H2 s2 h2 => ?_)
        · exact ⟨_, rfl, _, rfl, u.2, _, ((hu u hx).1).keep (TupKeep.of s1), hd.keep (TupKeep.of s1), (hu u hx).2, gd, r H1 (Same.refl H1)⟩
        rw [filt_all] at h2
        have e2 : (us.map fun u => V.bl (!decide (u.2 = oldF (us.map (·.2))))) = (us.map fun u => !decide (u.2 = oldF (us.map (·.2)))).map V.bl := by rw [List.map_map]; rfl
        rw [e2] at h2
        refine ⟨D, _, rfl, .inl (.inl h2), _, rfl, ?_⟩
        have ea : ((us.map fun u => !decide (u.2 = oldF (us.map (·.2)))).any id) = ((us.map (·.2)).any fun v => !decide (v = oldF (us.map (·.2)))) := by
          rw [List.any_map, List.any_map]
          rfl
        rw [ea]
        have unf : ∀ l, (if ((us.map (·.2)).any fun v => !decide (v = oldF (us.map (·.2)))) = true then [m, o] else if m = oldF (us.map (·.2)) then [o] else if o = oldF (us.map (·.2)) then [m] else [m, o]) = l → mvF (us.map (·.2)) m o = l := fun l e => by
          unfold mvF
          rw [if_neg h1]
          exact e
        have k2 := TupKeep.of s2
        refine ite2 (fun h3 => ?_) (fun h3 => ?_)
        · exact ⟨vm, rfl, vo, rfl, (by show 2 ≤ sizeLine; decide), fun p np => out2 s2 (unf _ (if_pos h3)) p np⟩
        · refine ⟨vm, rfl, vd, rfl, m, _, hm.keep k2, hd.keep k2, gm, gd, _, rfl, ite2 (fun h4 => ?_) (fun h4 => ?_)⟩
          · have h4 := of_decide_eq_true h4
            exact ⟨vo, rfl, (by show 1 ≤ sizeLine; decide), fun p np => out1 s2 ho (unf _ (by rw [if_neg h3, if_pos h4])) p np⟩
          · have h4 : ¬ m = _ := fun z => h4 (decide_eq_true z)
            refine ⟨vo, rfl, vd, rfl, o, _, ho.keep k2, hd.keep k2, go, gd, _, rfl, ite2 (fun h5 => ?_) (fun h5 => ?_)⟩
            · have h5 := of_decide_eq_true h5
              exact ⟨vm, rfl, (by show 1 ≤ sizeLine; decide), fun p np => out1 s2 hm (unf _ (by rw [if_neg h3, if_neg h4, if_pos h5])) p np⟩
            · have h5 : ¬ o = _ := fun z => h5 (decide_eq_true z)
              exact ⟨vm, rfl, vo, rfl, (by show 2 ≤ sizeLine; decide), fun p np => out2 s2 (unf _ (by rw [if_neg h3, if_neg h4, if_neg h5])) p np⟩
end

end Fk

set_option maxHeartbeats 4000000
/-! A walk over the keys of a dict that is new: it is locked where the walk begins, and nobody asks for it again. -/
namespace Fk
open PySem PySem.Spec PyProof.Rows L2
def iKeysF (td : TE) : TI := fun σ H R => td σ H fun x H1 => ∃ (d : Addr) (kvs : List (Key × V)), x = .ref d ∧ H1 d = some (.dK kvs) ∧ ∀ od, R (Itk d od kvs) (upd H1 d (.frz od (.dK kvs)))
theorem pi_keysF {X : Cx} {tg e : Expr} {td : TE} (he : PE X e td) : PI X tg e (iKeysF td) := by
  refine ⟨fun pins s σ H R I h => thn (he.run pins s σ H _ I h) fun u s1 ⟨x, H1, I1, rx, d, kvs, ex, hd, q⟩ => ?_⟩
  subst ex
  obtain rfl : u = Value.ref d := rx
  obtain ⟨od, I2⟩ := I1.lock hd trivial
  obtain ⟨hs, hgd, hx, es, ep, vs, hdt, hsz, kv, hm⟩ := I2.frzK upd_same
  refine iter_keys hs hgd hx hdt (pi_one (tk := s1.toks) I2 _ (turn_keys _ hdt) ⟨_, Heap.get?_push_size _ rfl, rfl, ?_⟩ (q od))
  rw [hsz] <;> rfl
/-- the scope of the comprehension that stands at the i-th statement's right side -/
def scopeOf : Expr → Scope
  | .DictComp _ _ _ sc _ => sc
  | .ListComp _ _ sc _ => sc
  | _ => C8.fnScope (.Pass ⟨0, 0, 0, 0⟩)
def rhsOf : Stmt → Expr
  | .Assign _ e _ => e
  | .Return (some e) _ => e
  | _ => .Name "" ⟨0, 0, 0, 0⟩
def compSc (st : Stmt) (i : Nat) : Scope := scopeOf (rhsOf ((C8.fnBody st).getD i (.Pass ⟨0, 0, 0, 0⟩)))
end Fk

set_option maxHeartbeats 4000000
namespace Fk
open PySem PySem.Spec PyProof.Rows L2
open StX
def CrossM (g : Mp Fi) (x : Str) : Prop := (g x).isSome = true ∧ ∃ y, (g y).isSome = true ∧ (Txt.startswith y (x ++ ("/" : Str)) = true ∨ Txt.startswith x (y ++ ("/" : Str)) = true)
/-- files without the paths that clash -/
noncomputable def clearM (f : Mp Fi) : Mp Fi := fun x => by classical exact if CrossM f x then none else f x
theorem clear_no (f : Mp Fi) (x : Str) : ¬ CrossM (clearM f) x := by
  rintro ⟨hx, y, hy, z⟩
  have un : ∀ {a : Str}, (clearM f a).isSome = true → ¬ CrossM f a ∧ (f a).isSome = true := fun {a} ha => by
    unfold clearM at ha
    split at ha
    · cases ha
    · rename_i h; exact ⟨h, ha⟩
  exact (un hx).1 ⟨(un hx).2, y, (un hy).2, z⟩
noncomputable section
def mvM (fs : List (Mp Fi)) (f g : Mp Fi) (x : Str) : List Fv := mvF (fs.map fun b => b x) (f x) (g x)
def resM (fs : List (Mp Fi)) (f g : Mp Fi) : Mp Fi := fun x => match mvM fs f g x with
  | [v] => v
  | _ => none
def TornM (fs : List (Mp Fi)) (f g : Mp Fi) (x : Str) : Prop := (mvM fs f g x).length = 2
def ConfM (fs : List (Mp Fi)) (f g : Mp Fi) (x : Str) : Prop := TornM fs f g x ∨ CrossM (resM fs f g) x
end
theorem mvF_len (os : List Fv) (m o : Fv) : ∃ v, mvF os m o = [v] ∨ mvF os m o = [m, o] := by
  unfold mvF
  split
  · exact ⟨m, .inl rfl⟩
  · split
    · exact ⟨m, .inr rfl⟩
    · split
      · exact ⟨o, .inl rfl⟩
      · split
        · exact ⟨m, .inl rfl⟩
        · exact ⟨m, .inr rfl⟩
theorem mvF_in {os : List Fv} {m o v : Fv} (h : v ∈ mvF os m o) : v = m ∨ v = o := by
  unfold mvF at h
  split at h
  · exact .inl (List.mem_singleton.mp h)
  · split at h
    · simpa using h
    · split at h
      · exact .inr (List.mem_singleton.mp h)
      · split at h
        · exact .inl (List.mem_singleton.mp h)
        · simpa using h
/-- what a merge gives -/
def MergV (K : PySem.W.Frag) (H : Hp) (v : V) (g : Mp Fi) (S : Str → Prop) (sorted : Bool) : Prop := ∃ (p d c : Addr) (t : Tab) (ys : List Str), v = .ref p ∧ H p = some (.tup [.ref d, .ref c]) ∧ H d = some (.dK (kT t)) ∧ Holds (FiV K H) t g ∧ FilesOk 60 t g ∧ (sorted = true → sortedS (t.map (·.1)) = true) ∧
  H c = some (.tup (ys.map V.str)) ∧ sortedS ys = true ∧ ys.Nodup ∧ (∀ x ∈ ys, PathOk x) ∧ ∀ x, x ∈ ys ↔ S x
theorem filt_all' {α : Type} (l : List α) : l.filter (fun _ => true) = l := List.filter_eq_self.mpr fun _ _ => rfl
section
variable {P : Program} {w : World} {K : PySem.W.Frag} {mg : Str → Option Value} {base : Heap} {fk iF cP : Addr}
def BasesAt (K : PySem.W.Frag) (H : Hp) (us : List (Addr × Mp Fi)) : Prop := ∀ u ∈ us, FilesAt K H u.1 16 u.2
def spMg (K : PySem.W.Frag) : Sp := fun vs H Q _ => ∃ (B o t : Addr) (us : List (Addr × Mp Fi)) (f g : Mp Fi), vs = [.ref B, .ref o, .ref t] ∧ H B = some (.tup (us.map fun u => V.ref u.1)) ∧ us.length ≤ 20 ∧ BasesAt K H us ∧ FilesAt K H o 16 f ∧ FilesAt K H t 16 g ∧
  ∀ v H', Same H H' → MergV K H' v (clearM (resM (us.map (·.2)) f g)) (ConfM (us.map (·.2)) f g) true → (∀ p d c, v = .ref p → H' p = some (.tup [.ref d, .ref c]) → H d = none) → Q v H'
set_option pp.maxSteps 300 in
theorem cx_merged (T : TopG K mg fk cP iF) : CalX P w K mg base (L2.CX P w) 6 "merged" (spMg K) [] := by
  refine calX_of T.d_merged sc_merged (fun _ _ _ _ _ _ us hl => match us, hl with | [_, _, _], _ => rfl) (fun vs H Q E h => ?_) (fun fa cdv A outer s H vs Q E hr h => ?_)
  · obtain ⟨B, o, t, us, f, g, rfl, _⟩ := h
    rfl
  · obtain ⟨B, o, t, us, f, g, rfl, hB, hl, hU, hF, hG, q⟩ := h
    refine ⟨_, (pss_cons (ps_if (pt_not (pt_val (pe_callB call_isi (by rfl) T.z_isinstance (by decide +kernel) (pa_cons (pv 0) (pa_cons (pe_bltn (v := .ty "tuple") (by rfl) T.z_tuple (by decide +kernel) rfl) pa_nil)))))
      (pss_one (ps_raise rfl (takes_of rfl rfl rfl rfl) (rs_of T.eP (hr.mono (by decide)) (by rfl) (pa_cons pe_str pa_nil))))
      pss_nil)
      (pss_cons (ps_expr (pe_cx (cx_check_are_files T) hr (by decide) (fun _ => passAt (takes_of rfl rfl rfl rfl) _) (by rfl) (pa_cons (pe_lst (pa_starK (K := K) rfl (pv 0) (pa_cons (pv 1) (pa_cons (pv 2) pa_nil)))) pa_nil)))
      (pss_cons (ps_set (i := 3) sc_merged.nd rfl (Or.inr rfl) (pe_dc (own := [("path", 5)]) (g := gName 5) (by rfl) sc_merged.nd (pi_keysF (pe_stars (.cons (pv 1) (.cons (pv 2) .nil)) (by decide) rfl)) (blkOk_by (own := [("path", 5)]) (N := ["bases", "ours", "theirs", "values", "base", "path", "torn", "results", "crossed", "files"]) (sc := C8.fnScope s_merged) (by decide +kernel)) (fun _ _ _ _ _ => (pg_name (i := 5) sc_merged.nd rfl (Or.inr rfl))) (fun _ _ _ _ _ => pts_nil) (fun _ _ _ _ _ => (pv 5)) (fun _ _ _ _ _ => (C8.pe_c (c__merged_values T.toTop) hr (by decide) (by rfl) (pa_cons (pe_lc (own := [("base", 4)]) (g := gName 4) (by rfl) sc_merged.nd (pi_tupK (K := K) rfl (pv 0)) (blkOk_by (own := [("base", 4)]) (N := ["bases", "ours", "theirs", "values", "base", "path", "torn", "results", "crossed", "files"]) (sc := relS (compSc s_merged 2) (C8.fnScope s_merged)) (by decide +kernel)) (fun _ _ _ _ _ => (pg_name (i := 4) sc_merged.nd rfl (Or.inl rfl))) (fun _ _ _ _ _ => pts_nil) (fun _ _ _ _ _ => (pe_dget1 (hu_of hr) (pv 4) (pv 5) ⟨rfl, rfl, rfl, rfl⟩))) (pa_cons (pe_dget1 (hu_of hr) (pv 1) (pv 5) ⟨rfl, rfl, rfl, rfl⟩) (pa_cons (pe_dget1 (hu_of hr) (pv 2) (pv 5) ⟨rfl, rfl, rfl, rfl⟩) pa_nil)))))))
      (pss_cons (ps_lock (ps_setLc (i := 6) (own := [("path", 5)]) (g := gName 5) (by rfl) sc_merged.nd rfl rfl (sw_true rfl rfl rfl (by decide +kernel)) (pi_keys (pv 3)) (blkOk_by (own := [("path", 5)]) (N := ["bases", "ours", "theirs", "values", "base", "path", "torn", "results", "crossed", "files"]) (sc := C8.fnScope s_merged) (by decide +kernel)) (fun _ _ _ _ _ => (pg_name (i := 5) sc_merged.nd rfl (Or.inl rfl))) (fun _ _ _ _ _ => pts_one (pt_cmpR op_gt (pe_callB (clK (K := K) rfl) (by rfl) T.z_len (by decide +kernel) (pa_cons (pe_dget (hu_of hr) (pv 3) (pv 5) (fun _ _ => rfl)) pa_nil)) pe_int (nomark _))) (fun _ _ _ _ _ => (pv 5))))
      (pss_cons (ps_set (i := 7) sc_merged.nd rfl (Or.inr rfl) (pe_lock (pe_dc (own := [("path", 5)]) (g := gName 5) (by rfl) sc_merged.nd (pi_keys (pv 3)) (blkOk_by (own := [("path", 5)]) (N := ["bases", "ours", "theirs", "values", "base", "path", "torn", "results", "crossed", "files"]) (sc := C8.fnScope s_merged) (by decide +kernel)) (fun _ _ _ _ _ => (pg_name (i := 5) sc_merged.nd rfl (Or.inl rfl))) (fun _ _ _ _ _ => pts_one (PW.pt (pw_and (pt_cmpR op_eq (pe_callB (clK (K := K) rfl) (by rfl) T.z_len (by decide +kernel) (pa_cons (pe_dget (hu_of hr) (pv 3) (pv 5) (fun _ _ => rfl)) pa_nil)) pe_int (nomark _)) (pw_and1 (pt_cmpR op_notN (pe_ix (ixK_list (K := K) rfl) (pe_dget (hu_of hr) (pv 3) (pv 5) (fun _ _ => rfl)) pe_int (fun _ _ => rfl)) pe_non (nomark _)))))) (fun _ _ _ _ _ => (pv 5)) (fun _ _ _ _ _ => (pe_ix (ixK_list (K := K) rfl) (pe_dget (hu_of hr) (pv 3) (pv 5) (fun _ _ => rfl)) pe_int (fun _ _ => rfl))))))
      (pss_cons (ps_set (i := 8) sc_merged.nd rfl (Or.inr rfl) (C8.pe_c (c_crossing T.toTop) hr (by decide) (by rfl) (pa_cons (pv 7) pa_nil)))
      (pss_cons (ps_setDc (i := 9) (own := [("path", 5)]) (g := gName 5) (by rfl) sc_merged.nd rfl rfl (sw_trueD rfl rfl rfl (by decide +kernel)) (pi_tup (C8.pe_c (c_ascending T.toTop) hr (by decide) (by rfl) (pa_cons (pv 7) pa_nil))) (blkOk_by (own := [("path", 5)]) (N := ["bases", "ours", "theirs", "values", "base", "path", "torn", "results", "crossed", "files"]) (sc := C8.fnScope s_merged) (by decide +kernel)) (fun _ _ _ _ _ => (pg_name (i := 5) sc_merged.nd rfl (Or.inl rfl))) (fun _ _ _ _ _ => pts_one (pt_cmp (pc_dnotin (hu_of hr) (pv 5) (pv 8)))) (fun _ _ _ _ _ => (pv 5)) (fun _ _ _ _ _ => (pe_dget (hu_of hr) (pv 7) (pv 5) (fun _ _ => rfl))))
      (pss_one (ps_ret (pe_tup (pa_cons (pv 9) (pa_cons (C8.pe_c (c_ascendingL T.toTop) hr (by decide) (by rfl) (pa_cons (pe_op op_cat (pv 6) (pe_callTy (call_listD rfl) (by rfl) T.z_list (by decide +kernel) (pa_cons (pv 8) pa_nil))) pa_nil)) pa_nil)))))))))))), ?_⟩
    refine ⟨.ref B, rfl, ?_⟩
    dsimp only [tCons, tC, tNil]
    refine isi_tup (.inl hB) ⟨_, rfl, iteF ?_⟩
    refine ⟨.ref B, rfl, B, _, rfl, .inl (SqT.of hB), .ref o, rfl, .ref t, rfl, small_line (by simp only [List.length_append, List.length_map, List.length_cons, List.length_nil]; omega), fun L hL => ?_⟩
    have s1 := same_new (o := .lst (us.map (fun u => V.ref u.1) ++ [V.ref o, .ref t])) hL
    have h1 := upd_same (H := H) (a := L) (o := .lst (us.map (fun u => V.ref u.1) ++ [V.ref o, .ref t]))
    generalize upd H L (.lst (us.map (fun u => V.ref u.1) ++ [V.ref o, .ref t])) = H1 at s1 h1
    refine ⟨L, _, rfl, h1, .inl ⟨fun v hv => ?_, fun H2 s2 => ?_⟩⟩
    · rcases List.mem_append.mp hv with hv | hv
      · obtain ⟨u, hu, rfl⟩ := List.mem_map.mp hv
        exact ⟨u.1, u.2, rfl, ((hU u hu).same s1).mono (by decide)⟩
      · simp only [List.mem_cons, List.not_mem_nil, or_false] at hv
        rcases hv with rfl | rfl
        · exact ⟨o, f, rfl, (hF.same s1).mono (by decide)⟩
        · exact ⟨t, g, rfl, (hG.same s1).mono (by decide)⟩
    have s02 := s1.trans s2
    obtain ⟨tf, gf, hHf, oF⟩ := hF.same s02
    obtain ⟨tg, gg, hHg, oG⟩ := hG.same s02
    have hB2 := s02 _ _ hB
    have hU2 : BasesAt K H2 us := fun u hu => (hU u hu).same s02
    have lf := oF.len
    have lg := oG.len
    refine stars2 rfl rfl gf gg hHf hHg oF.nd oG.nd (by omega) fun p mt H3 np s3 hp nd lm hM => ?_
    refine ⟨p, _, rfl, hp, fun od D hD => ?_⟩
    generalize hks : mt.map (·.1) = ks
    have lks : ks.length ≤ 32 := by rw [← hks, List.length_map]; omega
    have ndk : ks.Nodup := by rw [← hks]; exact nd
    have memk : ∀ x, x ∈ ks ↔ (f x ≠ none ∨ g x ≠ none) := fun x => by
      rw [← hks, hM.mem]
      unfold orM
      cases f x <;> cases g x <;> simp
    have pk : ∀ x ∈ ks, PathOk x := fun x hx => by
      rcases (memk x).mp hx with z | z
      · exact oF.path x (hHf.mem.mpr (by cases e : f x with | none => exact absurd e z | some r => rfl))
      · exact oG.path x (hHg.mem.mpr (by cases e : g x with | none => exact absurd e z | some r => rfl))
    have gFG : ∀ x, GoodF (f x) ∧ GoodF (g x) := fun x => ⟨fun p e => oF.good x p e, fun p e => oG.good x p e⟩
    have Y : Yields (Itk p od (kT mt)) (ks.map V.str) (fun H => H p = some (.frz od (.dK (kT mt)))) := by
      rw [← hks, ← kV_kT]
      exact yields_keys
    have sL : Same H2 (upd H3 p (.frz od (.dK (kT mt)))) := fun b q z => by rw [upd_ne (ne_of_none z np)]; exact s3 _ _ z
    have hpL : (upd H3 p (.frz od (.dK (kT mt)))) p = some (.frz od (.dK (kT mt))) := upd_same
    generalize upd H3 p (.frz od (.dK (kT mt))) = HL at sL hpL hD
    generalize hfs : us.map (·.2) = fs at *
    obtain ⟨tb, htb⟩ : ∃ tb : (Addr × Mp Fi) → Tab, ∀ u ∈ us, H2 u.1 = some (.dK (kT (tb u))) ∧ Holds (FiV K H2) (tb u) u.2 ∧ FilesOk 16 (tb u) u.2 := by
      classical
      exact ⟨fun u => if h : u ∈ us then (hU2 u h).choose else [], fun u h => by simp only [dif_pos h]; exact (hU2 u h).choose_spec⟩
    refine dc_holdL (us := ks) Y (fun x => x) (fun H v r => ∃ pl xs, v = V.ref pl ∧ H pl = some (.lst xs) ∧ FvsV K H xs r) (fun x => mvM fs f g x) (fun _ => true) (fun x => [some (.ref B), some (.ref o), some (.ref t), none, none, some (.str x), none, none, none, none]) hD (fun H s => s _ _ hpL) (fun _ _ => rfl) (fun H u _ _ S k => k) (fun H u _ _ S k => k H (Same.refl H)) (fun H u _ _ _ S k => ⟨_, rfl, k H (Same.refl H)⟩)
      (fun H H' v r k ⟨pl, xs, e, h1, h2⟩ => ⟨pl, xs, e, k.2 _ _ h1, h2.keep k.tup⟩) (fun H5 x s5 hx _ S k => ?_) (by omega) (by rw [List.map_id']; exact ndk) (fun H5 tab s5 h5 pr => ?_)
    · have s25 := sL.trans s5
      refine ⟨.ref B, rfl, B, rfl, ⟨_, SqT.of (s25 _ _ hB2)⟩, fun D5 hD5 => ?_⟩
      refine lc_pure (i := 4) (us := us) (g := fun u => V.ref u.1) yields_tup (fun u => (valV (tb u) x).getD .non) (fun _ => true) hD5 (fun H s => SqT.of (s _ _ (s25 _ _ hB2))) (fun H6 u s6 hu R r => r H6 (Same.refl H6)) (fun H6 u s6 hu _ R r => ?_) (by omega) (fun H6 s6 h6 => ?_)
      · have hu' := s6 _ _ (s25 _ _ (htb u hu).1)
        exact ⟨.ref u.1, rfl, u.1, rfl, .inl ⟨_, .inl hu'⟩, .str x, rfl, _, dget_kT (.inl hu') x, r H6 (Same.refl H6)⟩
      · rw [filt_all] at h6
        have s26 := s25.trans s6
        have ho6 := s26 _ _ gf
        have ht6 := s26 _ _ gg
        refine ⟨.ref o, rfl, o, rfl, .inl ⟨_, .inl ho6⟩, .str x, rfl, _, dget_kT (.inl ho6) x, .ref t, rfl, t, rfl, .inl ⟨_, .inl ht6⟩, .str x, rfl, _, dget_kT (.inl ht6) x, ?_⟩
        have k6 := TupKeep.of s26
        refine ⟨D5, us.map (fun u => ((valV (tb u) x).getD .non, u.2 x)), _, _, f x, g x, rfl, by rw [List.map_map]; exact SqL.of h6, by rw [List.length_map]; omega, fun w hw => ?_, (get_fv hHf x).keep k6, (gFG x).1, (get_fv hHg x).keep k6, (gFG x).2, fun pl xs H7 npl s7 hpl hfs' => ?_⟩
        · obtain ⟨u, hu, rfl⟩ := List.mem_map.mp hw
          obtain ⟨_, h8, h9⟩ := htb u hu
          exact ⟨(get_fv h8 x).keep k6, fun p e => h9.good x p e⟩
        · refine k (.ref pl) H7 (s6.trans s7) ⟨pl, xs, rfl, hpl, ?_⟩
          have e : (us.map fun u => ((valV (tb u) x).getD V.non, u.2 x)).map (·.2) = fs.map fun b => b x := by
            rw [List.map_map, ← hfs, List.map_map]
            rfl
          rw [e] at hfs'
          exact hfs'
    rw [filt_all'] at pr
    have s25 := sL.trans s5
    let gM : Mp (List Fv) := fun x => if x ∈ ks then some (mvM fs f g x) else none
    have hV : Holds (fun v r => ∃ pl xs, v = V.ref pl ∧ H5 pl = some (.lst xs) ∧ FvsV K H5 xs r) tab gM := holds_paired (kf := fun x : Str => x) (rf := fun x => mvM fs f g x) pr (by rw [List.map_id']; exact ndk) (fun x hx => if_pos hx) (fun x hx => if_neg (by rw [List.map_id'] at hx; exact hx))
    have kt : tab.map (·.1) = ks := by
      have := paired_keys (kf := fun x : Str => x) (R := fun v x => ∃ pl xs, v = V.ref pl ∧ H5 pl = some (.lst xs) ∧ FvsV K H5 xs (mvM fs f g x)) pr
      rw [List.map_id'] at this
      exact this
    have row : ∀ {H6 : Hp}, LtKeep H5 H6 → ∀ x ∈ ks, ∃ pl xs, valV tab x = some (.ref pl) ∧ H6 pl = some (.lst xs) ∧ FvsV K H6 xs (mvM fs f g x) := fun {H6} k x hx => by
      obtain ⟨v, hv, pl, xs, rfl, h1, h2⟩ := hV.at (r := mvM fs f g x) (if_pos hx)
      exact ⟨pl, xs, hv, k.2 _ _ h1, h2.keep k.tup⟩
    have Yk : ∀ od2, Yields (Itk D od2 (kT tab)) (ks.map V.str) (fun H => H D = some (.frz od2 (.dK (kT tab)))) := fun od2 => by
      rw [← kt, ← kV_kT]
      exact yields_keys
    have nlD : ∀ {H6 : Hp}, H6 D = some (.dK (kT tab)) → ∀ xs, H6 D ≠ some (.tup xs) ∧ H6 D ≠ some (.lst xs) := fun {H6} e xs => ⟨(fun z => by rw [e] at z; cases z), (fun z => by rw [e] at z; cases z)⟩
    refine ⟨D, _, h5, trivial, fun od2 => ⟨.ref D, rfl, D, od2, rfl, .inl ⟨kT tab, upd_same, fun D2 hD2 => ?_⟩⟩⟩
    have nD2 : D2 ≠ D := lock_ne hD2
    have k5 : LtKeep H5 (upd H5 D (.frz od2 (.dK (kT tab)))) := LtKeep.at (nlD h5)
    refine lc_pure (i := 5) (us := ks) (g := V.str) (Yk od2) V.str (fun x => decide (((mvM fs f g x).length : Int) > 1)) hD2 (fun H s => s _ _ upd_same) (fun H6 x s6 hx R r => ?_) (fun H6 x s6 hx _ R r => ⟨_, rfl, r H6 (Same.refl H6)⟩) (by omega) (fun H6 s6 h6 => ?_)
    · obtain ⟨pl, xs, hv, h1, h2⟩ := row (k5.trans (LtKeep.of s6)) x hx
      have d1 := dget_kT (t := tab) (.inr ⟨od2, s6 _ _ upd_same⟩) x
      rw [hv] at d1
      refine ⟨.ref D, rfl, .str x, rfl, D, _, rfl, d1, pl, xs, rfl, .inl (SqL.of h1), _, _, rfl, rfl, _, rfl, ?_⟩
      rw [show xs.length = (mvM fs f g x).length from Paired.length h2]
      exact r H6 (Same.refl H6)
    refine ⟨s6 _ _ upd_same, ?_⟩
    have s57 : Same H5 (upd H6 D (.dK (kT tab))) := same_unlock s6 h5
    have h7 : (upd H6 D (.dK (kT tab))) D2 = some (.lst ((ks.filter fun x => decide (((mvM fs f g x).length : Int) > 1)).map V.str)) := by rw [upd_ne nD2]; exact h6
    generalize upd H6 D (.dK (kT tab)) = H7 at s57 h7
    have h57 := s57 _ _ h5
    refine ⟨D, _, h57, trivial, fun od3 => ⟨.ref D, rfl, D, od3, rfl, .inl ⟨kT tab, upd_same, fun D3 hD3 => ?_⟩⟩⟩
    have nD3 : D3 ≠ D := lock_ne hD3
    have fD3 : H7 D3 = none := lock_free hD3
    have k7 : LtKeep H7 (upd H7 D (.frz od3 (.dK (kT tab)))) := LtKeep.at (nlD h57)
    have res2 : ∀ x, (mvM fs f g x = [f x, g x] ∧ resM fs f g x = none) ∨ ∃ v, mvM fs f g x = [v] ∧ resM fs f g x = v := fun x => by
      obtain ⟨v, e | e⟩ := mvF_len (fs.map fun b => b x) (f x) (g x)
      · exact .inr ⟨v, e, by unfold resM; rw [show mvM fs f g x = [v] from e]⟩
      · exact .inl ⟨e, by unfold resM; rw [show mvM fs f g x = [f x, g x] from e]⟩
    refine dc_hold (us := ks) (Yk od3) (fun x => x) (FiV K) (fun x => (resM fs f g x).getD ("", "")) (fun x => (resM fs f g x).isSome) (fun x => [some (.ref B), some (.ref o), some (.ref t), some (.ref D), none, some (.str x), some (.ref D2), none, none, none]) hD3 (fun H s => s _ _ upd_same) (fun _ _ => rfl) (fun H u _ _ S k => k) (fun H8 x s8 hx S k => ?_) (fun H8 x s8 hx _ S k => ⟨_, rfl, k H8 (Same.refl H8)⟩)
      (fun _ _ _ _ k h => FvV.keep h k) (fun H8 x s8 hx hp8 S k => ?_) (by omega) (by rw [List.map_id']; exact ndk) (fun H8 tabR s8 h8 pr8 => ?_)
    · obtain ⟨pl, xs, hv, h1, h2⟩ := row ((LtKeep.of s57).trans (k7.trans (LtKeep.of s8))) x hx
      have d1 := dget_kT (t := tab) (.inr ⟨od3, s8 _ _ upd_same⟩) x
      rw [hv] at d1
      have kk := k H8 (Same.refl H8)
      refine ⟨.ref D, rfl, .str x, rfl, D, _, rfl, d1, pl, xs, rfl, .inl (SqL.of h1), rfl, _, rfl, ?_⟩
      rcases res2 x with ⟨e, er⟩ | ⟨v, e, er⟩
      · rw [e] at h2
        rw [decide_eq_false (fun z => by
          have z := V.int.inj z
          have := Paired.length h2
          rw [this] at z
          exact absurd z (by show ¬ ((2 : Nat) : Int) = 1; decide))]
        refine iteF ?_
        rw [er] at kk
        exact kk
      · rw [e] at h2
        obtain ⟨vv, rfl, hvv⟩ : ∃ vv, xs = [vv] ∧ FvV K H8 vv v := by
          cases h2 with
          | cons a b =>
            cases b
            exact ⟨_, rfl, a⟩
        rw [show decide (V.int ([vv].length : Int) = V.int 1) = true from decide_eq_true rfl]
        refine iteT ⟨.ref D, rfl, .str x, rfl, D, _, rfl, d1, pl, [vv], 0, vv, rfl, rfl, SqL.of h1, rfl, rfl, _, rfl, ?_⟩
        cases v with
        | none =>
          obtain rfl : vv = .non := hvv
          rw [er] at kk
          exact kk
        | some p =>
          obtain ⟨q0, rfl, _⟩ := id hvv
          rw [er] at kk
          rw [decide_eq_false (fun z => by cases z)]
          exact kk
    · obtain ⟨pl, xs, hv, h1, h2⟩ := row ((LtKeep.of s57).trans (k7.trans (LtKeep.of s8))) x hx
      have d1 := dget_kT (t := tab) (.inr ⟨od3, s8 _ _ upd_same⟩) x
      rw [hv] at d1
      rcases res2 x with ⟨e, er⟩ | ⟨v, e, er⟩
      · rw [er] at hp8
        cases hp8
      · rw [e] at h2
        obtain ⟨vv, rfl, hvv⟩ : ∃ vv, xs = [vv] ∧ FvV K H8 vv v := by
          cases h2 with
          | cons a b =>
            cases b
            exact ⟨_, rfl, a⟩
        cases v with
        | none => rw [er] at hp8; cases hp8
        | some p => exact ⟨.ref D, rfl, .str x, rfl, D, _, rfl, d1, pl, [vv], 0, vv, rfl, rfl, SqL.of h1, rfl, k vv H8 (Same.refl H8) (by rw [er]; exact hvv)⟩
    refine ⟨s8 _ _ upd_same, ?_⟩
    have s79 : Same H7 (upd H8 D (.dK (kT tab))) := same_unlock s8 h57
    have k89 : TupKeep H8 (upd H8 D (.dK (kT tab))) := TupKeep.at fun xs z => by rw [s8 _ _ upd_same] at z; cases z
    have h9 : (upd H8 D (.dK (kT tab))) D3 = some (.dK (kT tabR)) := by rw [upd_ne nD3]; exact h8
    have hR9 : Holds (FiV K (upd H8 D (.dK (kT tab)))) tabR (resM fs f g) := holds_paired (kf := fun x : Str => x) (rf := fun x => (resM fs f g x).getD ("", "")) (us := ks.filter fun x => (resM fs f g x).isSome) (Paired.mapP pr8 fun e x ⟨a, b⟩ => ⟨a, FvV.keep b k89⟩) (by rw [List.map_id']; exact ndk.filter _) (fun x hx => by
        have := (List.mem_filter.mp hx).2
        cases e : resM fs f g x with
        | none => rw [e] at this; cases this
        | some p => rfl) (fun x hx => by
        cases e : resM fs f g x with
        | none => rfl
        | some p =>
          refine absurd (List.mem_map.mpr ⟨x, List.mem_filter.mpr ⟨(memk x).mpr ?_, by rw [e]; rfl⟩, rfl⟩) hx
          rcases res2 x with ⟨_, er⟩ | ⟨v, em, er⟩
          · rw [er] at e; cases e
          · have hv : v ∈ mvM fs f g x := by rw [em]; exact List.mem_cons_self
            rw [er] at e
            rcases mvF_in hv with z | z
            · exact .inl (by rw [← z, e]; exact fun z => nomatch z)
            · exact .inr (by rw [← z, e]; exact fun z => nomatch z))
    have kR : tabR.map (·.1) = ks.filter fun x => (resM fs f g x).isSome := by
      have := paired_keys (kf := fun x : Str => x) (R := fun v x => FiV K H8 v ((resM fs f g x).getD ("", ""))) pr8
      rw [List.map_id'] at this
      exact this
    generalize upd H8 D (.dK (kT tab)) = H9 at s79 h9 hR9
    have ndR : Nd tabR := by unfold Nd; rw [kR]; exact ndk.filter _
    have lR : tabR.length ≤ ks.length := by
      have := congrArg List.length kR
      rw [List.length_map] at this
      rw [this]
      exact List.length_filter_le _ _
    have pR : ∀ x ∈ tabR.map (·.1), PathOk x := fun x hx => by rw [kR] at hx; exact pk x (List.mem_filter.mp hx).1
    have gR : ∀ x p, resM fs f g x = some p → GoodP p := fun x p e => by
      rcases res2 x with ⟨_, er⟩ | ⟨v, em, er⟩
      · rw [er] at e; cases e
      · have hv : v ∈ mvM fs f g x := by rw [em]; exact List.mem_cons_self
        rw [er] at e
        rcases mvF_in hv with z | z
        · exact oF.good x p (by rw [← z, e])
        · exact oG.good x p (by rw [← z, e])
    refine ⟨.ref D3, rfl, D3, tabR, rfl, h9, ndR, by omega, pR, fun pc H10 npc s10 hMk => ?_⟩
    obtain ⟨tabC, hc10, ndC, lC, mC⟩ := hMk
    have mC' : ∀ x, x ∈ tabC.map (·.1) ↔ CrossM (resM fs f g) x := fun x => by
      rw [mC]
      unfold crossF CrossM
      rw [hR9.mem]
      constructor
      · rintro ⟨z1, y, hy, z2⟩
        exact ⟨z1, y, hR9.mem.mp hy, z2⟩
      · rintro ⟨z1, y, hy, z2⟩
        exact ⟨z1, y, hR9.mem.mpr hy, z2⟩
    have hD3' := s10 _ _ h9
    refine ⟨.ref D3, rfl, D3, tabR, rfl, hD3', by omega, fun ys pl H11 hp hs npl s11 hpl => ⟨pl, rfl, ⟨_, SqT.of hpl⟩, fun D4 hD4 => ?_⟩⟩
    have h311 := s11 _ _ hD3'
    have hR11 := hR9.imp fun _ _ x => FvV.keep x (TupKeep.of (s10.trans s11))
    have hc11 := s11 _ _ hc10
    have ndy : ys.Nodup := hp.nodup_iff.mpr ndR
    have ly : ys.length ≤ ks.length := by rw [hp.length_eq, List.length_map]; exact lR
    have my : ∀ x, x ∈ ys ↔ (resM fs f g x).isSome = true := fun x => by rw [hp.mem_iff, hR9.mem]
    refine dc_hold (us := ys) yields_tup (fun x => x) (FiV K) (fun x => (resM fs f g x).getD ("", "")) (fun x => !(valV tabC x).isSome) (fun x => [some (.ref B), some (.ref o), some (.ref t), some (.ref D), none, some (.str x), some (.ref D2), some (.ref D3), some (.ref pc), none]) hD4 (fun H s => SqT.of (s _ _ hpl)) (fun _ _ => rfl) (fun H u _ _ S k => k) (fun H8 x s8 hx S k => ?_) (fun H8 x s8 hx _ S k => ⟨_, rfl, k H8 (Same.refl H8)⟩)
      (fun _ _ _ _ k h => FvV.keep h k) (fun H8 x s8 hx _ S k => ?_) (by omega) (by rw [List.map_id']; exact ndy) (fun H12 tabF s12 h12 prF => ?_)
    · exact ⟨.str x, rfl, .ref pc, rfl, pc, _, rfl, dget_kT (.inl (s8 _ _ hc11)) x, _, rfl, k H8 (Same.refl H8)⟩
    · have z := (my x).mp hx
      cases e1 : resM fs f g x with
      | none => rw [e1] at z; cases z
      | some p =>
        obtain ⟨v, hv, rv⟩ := hR11.at e1
        have d1 := dget_kT (t := tabR) (.inl (s8 _ _ h311)) x
        rw [hv] at d1
        exact ⟨.ref D3, rfl, .str x, rfl, D3, _, rfl, d1, k v H8 (Same.refl H8) (by rw [e1]; exact FvV.keep rv (TupKeep.of s8))⟩
    have inC : ∀ x, (valV tabC x).isSome = true ↔ CrossM (resM fs f g) x := fun x => by rw [← mem_val, mC']
    have hF12 : Holds (FiV K H12) tabF (clearM (resM fs f g)) := holds_paired (kf := fun x : Str => x) (rf := fun x => (resM fs f g x).getD ("", "")) prF (by rw [List.map_id']; exact ndy.filter _) (fun x hx => by
        obtain ⟨h1, h2⟩ := List.mem_filter.mp hx
        have z := (my x).mp h1
        unfold clearM
        rw [if_neg (fun c => by rw [(inC x).mpr c] at h2; cases h2)]
        cases e : resM fs f g x with
        | none => rw [e] at z; cases z
        | some p => rfl) (fun x hx => by
        unfold clearM
        split
        · rfl
        · rename_i nc
          cases e : resM fs f g x with
          | none => rfl
          | some p =>
            refine absurd (List.mem_map.mpr ⟨x, List.mem_filter.mpr ⟨(my x).mpr (by rw [e]; rfl), ?_⟩, rfl⟩) hx
            cases c : (valV tabC x).isSome with
            | false => rfl
            | true => exact absurd ((inC x).mp c) nc)
    have kF : tabF.map (·.1) = ys.filter fun x => !(valV tabC x).isSome := by
      have := paired_keys (kf := fun x : Str => x) (R := fun v x => FiV K H12 v ((resM fs f g x).getD ("", ""))) prF
      rw [List.map_id'] at this
      exact this
    have s712 := ((s79.trans s10).trans s11).trans s12
    have hc12 := s12 _ _ hc11
    have h7' := s712 _ _ h7
    generalize hT : (ks.filter fun x => decide (((mvM fs f g x).length : Int) > 1)) = zs at h7'
    have mz : ∀ x, x ∈ zs ↔ TornM fs f g x := fun x => by
      rw [← hT, List.mem_filter, decide_eq_true_eq]
      unfold TornM
      rcases res2 x with ⟨e, _⟩ | ⟨v, e, _⟩
      · rw [e]
        refine ⟨fun _ => rfl, fun _ => ⟨(memk x).mpr ?_, by show (1 : Int) < ((2 : Nat) : Int); decide⟩⟩
        by_cases c : f x = none
        · refine .inr fun c2 => ?_
          unfold mvM mvF at e
          rw [if_pos (c.trans c2.symm)] at e
          have := congrArg List.length e
          exact absurd this (by show ¬ (1 : Nat) = 2; decide)
        · exact .inl c
      · rw [e]
        refine ⟨fun z => absurd z.2 (by show ¬ (1 : Int) < ((1 : Nat) : Int); decide), fun z => absurd z (by show ¬ (1 : Nat) = 2; decide)⟩
    have ndz : zs.Nodup := by rw [← hT]; exact ndk.filter _
    have dis : ∀ x ∈ zs, x ∉ tabC.map (·.1) := fun x hx hc => by
      have z1 := (mz x).mp hx
      have z2 := ((mC' x).mp hc).1
      rcases res2 x with ⟨_, er⟩ | ⟨v, em, er⟩
      · rw [er] at z2; cases z2
      · unfold TornM at z1
        rw [em] at z1
        exact absurd z1 (by show ¬ (1 : Nat) = 2; decide)
    have ndA : (zs ++ tabC.map (·.1)).Nodup := List.nodup_append.mpr ⟨ndz, ndC, fun a ha b hb e => dis a ha (e ▸ hb)⟩
    have subA : ∀ x ∈ zs ++ tabC.map (·.1), x ∈ ks := fun x hx => by
      rcases List.mem_append.mp hx with h | h
      · rw [← hT] at h
        exact (List.mem_filter.mp h).1
      · have := hR9.mem.mpr ((mC' x).mp h).1
        rw [kR] at this
        exact (List.mem_filter.mp this).1
    have lA : (zs ++ tabC.map (·.1)).length ≤ ks.length := len_of_sub ndA subA
    have lzc : zs.length + (tabC.map (·.1)).length ≤ ks.length := by rw [List.length_append] at lA; exact lA
    refine ⟨.ref D4, rfl, .ref D2, rfl, .ref pc, rfl, pc, kT tabC, rfl, .inl hc12, fun pl2 np2 => ?_⟩
    have s13 := same_new (o := .lst ((kT tabC).map fun kv => kV kv.1)) np2
    have h13 := upd_same (H := H12) (a := pl2) (o := .lst ((kT tabC).map fun kv => kV kv.1))
    rw [show ((kT tabC).map fun kv => kV kv.1) = (tabC.map (·.1)).map V.str from kV_kT tabC] at s13 h13 ⊢
    generalize upd H12 pl2 (.lst ((tabC.map (·.1)).map V.str)) = H13 at s13 h13
    refine ⟨D2, pl2, _, _, rfl, rfl, s13 _ _ h7', h13, small_line (by rw [List.length_map, List.length_map]; omega), fun pl3 np3 => ?_⟩
    have s14 := same_new (o := .lst (zs.map V.str ++ (tabC.map (·.1)).map V.str)) np3
    have h14 : (upd H13 pl3 (.lst (zs.map V.str ++ (tabC.map (·.1)).map V.str))) pl3 = some (.lst ((zs ++ tabC.map (·.1)).map V.str)) := by rw [upd_same, List.map_append]
    generalize upd H13 pl3 (.lst (zs.map V.str ++ (tabC.map (·.1)).map V.str)) = H14 at s14 h14
    refine ⟨pl3, _, rfl, h14, by omega, fun ys2 pc2 H15 hp2 hs2 npc2 s15 h15 => ⟨(by show 2 ≤ sizeLine; decide), fun pt npt => ?_⟩⟩
    have s16 := same_new (o := .tup [V.ref D4, .ref pc2]) npt
    have s1216 := ((s13.trans s14).trans s15).trans s16
    have s016 : Same H (upd H15 pt (.tup [V.ref D4, .ref pc2])) := (s02.trans s25).trans ((s57.trans s712).trans s1216)
    refine q (.ref pt) _ s016 ⟨pt, D4, pc2, tabF, ys2, rfl, upd_same, s1216 _ _ h12, hF12.imp fun _ _ x => FvV.keep x (TupKeep.of s1216), ⟨?_, ?_, fun x hx => ?_, fun x p e => ?_⟩, fun _ => ?_, s16 _ _ h15, hs2, hp2.nodup_iff.mpr ndA, fun x hx => pk x (subA x (hp2.mem_iff.mp hx)), fun x => ?_⟩ fun p0 d0 c0 ep hp0 => by
      cases ep
      rw [upd_same] at hp0
      cases hp0
      cases z : H D4 with
      | none => rfl
      | some o0 => rw [((s02.trans s25).trans (s57.trans ((s79.trans s10).trans s11))) _ _ z] at hD4; cases hD4
    · unfold Nd
      rw [kF]
      exact ndy.filter _
    · have := congrArg List.length kF
      rw [List.length_map] at this
      rw [this]
      have := List.length_filter_le (fun x => !(valV tabC x).isSome) ys
      omega
    · rw [kF] at hx
      have := (List.mem_filter.mp hx).1
      exact pR x (hp.mem_iff.mp this)
    · unfold clearM at e
      split at e
      · cases e
      · exact gR x p e
    · rw [kF]
      exact sorted_filter hs _
    · rw [hp2.mem_iff, List.mem_append, mz, mC']
      exact Iff.rfl

end

end Fk

set_option maxHeartbeats 4000000
namespace Fk
open PySem PySem.Spec PyProof.Rows L2
section
variable {P : Program} {w : World} {K : PySem.W.Frag} {mg : Str → Option Value} {base : Heap} {fk iF cP : Addr}
def spMgB (K : PySem.W.Frag) (cP : Addr) : Sp := fun vs H Q E => ∃ (b o t : V), vs = [b, o, t] ∧ Bad cP H E ∧ (NoTup K H b ∨ ∃ (B : Addr) (xs : List V), b = .ref B ∧ H B = some (.tup xs) ∧ xs.length ≤ 20 ∧
  ∃ (i : Nat) (v : V), (xs ++ [o, t])[i]? = some v ∧ (∀ j u, j < i → (xs ++ [o, t])[j]? = some u → FileV K H u) ∧ BadFile K H v)
theorem cb_merged (T : TopG K mg fk cP iF) : CalX P w K mg base (L2.CX P w) 6 "merged" (spMgB K cP) [] := by
  refine calX_of T.d_merged sc_merged (fun _ _ _ _ _ _ us hl => match us, hl with | [_, _, _], _ => rfl) (fun vs H Q E h => ?_) (fun fa cdv A outer s H vs Q E hr h => ?_)
  · obtain ⟨b, o, t, rfl, _⟩ := h
    rfl
  · obtain ⟨b, o, t, rfl, q, hb⟩ := h
    refine ⟨_, (pss_cons (ps_if (pt_not (pt_val (pe_callB call_isi (by rfl) T.z_isinstance (by decide +kernel) (pa_cons (pv 0) (pa_cons (pe_bltn (v := .ty "tuple") (by rfl) T.z_tuple (by decide +kernel) rfl) pa_nil)))))
      (pss_one (ps_raise rfl (takes_of rfl rfl rfl rfl) (rs_of T.eP (hr.mono (by decide)) (by rfl) (pa_cons pe_str pa_nil))))
      pss_nil)
      (pss_cons (ps_expr (pe_cx (cx_check_are_files T) hr (by decide) (fun _ => passAt (takes_of rfl rfl rfl rfl) _) (by rfl) (pa_cons (pe_lst (pa_starK (K := K) rfl (pv 0) (pa_cons (pv 1) (pa_cons (pv 2) pa_nil)))) pa_nil))) pss_vac)), ?_⟩
    refine ⟨b, rfl, ?_⟩
    dsimp only [tCons, tC, tNil]
    rcases hb with nt | ⟨B, xs, rfl, hB, hl, i, v, hi, hg, bad⟩
    · exact noTup_isi nt ⟨_, rfl, iteT ⟨(by show 1 ≤ 1000; decide), do_raise T.eP fun dd H3 s3 _ h3 => q dd _ H3 s3 h3⟩⟩
    · refine isi_tup (.inl hB) ⟨_, rfl, iteF ?_⟩
      refine ⟨.ref B, rfl, B, _, rfl, .inl (SqT.of hB), o, rfl, t, rfl, small_line (by simp only [List.length_append, List.length_cons, List.length_nil]; omega), fun L hL => ?_⟩
      have s1 := same_new (o := .lst (xs ++ [o, t])) hL
      exact ⟨L, _, rfl, upd_same, .inr ⟨i, v, hi, fun j u hj hu => (hg j u hj hu).same s1, bad.same s1, q.same s1⟩⟩
end

end Fk

set_option maxHeartbeats 4000000
namespace Fk
open PySem PySem.Spec PyProof.Rows L2
section
variable {P : Program} {w : World} {K : PySem.W.Frag} {mg : Str → Option Value} {base : Heap}
/-! ### the wells -/
def spCellAt (K : PySem.W.Frag) : Sp := fun vs H Q _ => ∃ (a : Addr) (ns : List Int) (k : Nat), vs = [.ref a, .int k] ∧ SqL K H a (ns.map V.int) ∧ ∀ v : Int, Q (.int v) H
theorem c_l_cell_at (T : Top K mg) : C8.Cal P w K mg base 1 "_law_cell_at" (spCellAt K) [] := by
  refine cal_of T.d_l_cell_at sc_l_cell_at (fun _ _ _ _ _ _ us hl => match us, hl with | [_, _], _ => rfl) (fun vs H Q E h => ?_) (fun f cdv A outer s H vs Q E hr h => ?_)
  · obtain ⟨a, ns, k, rfl, _⟩ := h
    rfl
  · obtain ⟨a, ns, k, rfl, hS, q⟩ := h
    refine ⟨_, (pss_cons (ps_if (pt_cmpR op_lt (pv 1) (pe_callB call_len_seq (by rfl) T.z_len (by decide +kernel) (pa_cons (pv 0) pa_nil)) (nomark _))
      (pss_one (ps_ret (pe_ix ix_list (pv 0) (pv 1) (fun _ _ => rfl))))
      pss_nil)
      (pss_one (ps_ret pe_int))), ?_⟩
    refine ⟨.int k, rfl, .ref a, rfl, a, _, rfl, .inl hS, _, _, rfl, rfl, _, rfl, ite2 (fun h1 => ?_) (fun h1 => ?_)⟩
    · have h1 := of_decide_eq_true h1
      rw [List.length_map] at h1
      have h2 : k < ns.length := by omega
      exact ⟨.ref a, rfl, .int k, rfl, a, _, k, .int ns[k], rfl, rfl, hS, atI_nat (by rw [List.getElem?_map, List.getElem?_eq_getElem h2]; rfl), q _⟩
    · exact q _
def spWell : Sp := fun vs H Q _ => ∃ (x : Int), vs = [.int x] ∧ ∀ H' a, H a = none → Same H H' → Wl H' a 0 → Q (.ref a) H'
theorem c_l_well (T : Top K mg) : C8.Cal P w K mg base 1 "_law_well" spWell [] := by
  refine cal_of T.d_l_well sc_l_well (fun _ _ _ _ _ _ us hl => match us, hl with | [_], _ => rfl) (fun vs H Q E h => ?_) (fun f cdv A outer s H vs Q E hr h => ?_)
  · obtain ⟨x, rfl, _⟩ := h
    rfl
  · obtain ⟨x, rfl, q⟩ := h
    refine ⟨_, (pss_one (ps_ret (pe_lst (pa_cons (pe_op op_mul (pv 0) (pe_callTy call_int1 (by rfl) T.z_int (by decide +kernel) (pa_cons (pe_cmpR op_ge (pv 0) (pe_op op_pow pe_int pe_int) (nomark _)) pa_nil))) (pa_cons (pv 0) (pa_cons pe_int pa_nil)))))), ?_⟩
    refine ⟨.int x, rfl, .int x, rfl, 10, 18, rfl, rfl, ⟨by decide, by decide, by decide⟩, _, _, rfl, rfl, .inr ⟨_, rfl, _, _, rfl, rfl, .inr ?_, .int x, rfl, (by show 3 ≤ sizeLine; decide), fun p hp => ?_⟩⟩
    · split <;> exact ⟨by decide, by decide⟩
    · exact q _ p hp (same_new hp) ⟨Int.le_refl _, _, _, upd_same⟩
/-- the number that is drawn; the well behind it -/
def Drawn (H : Hp) (a : Addr) (n c : Int) (Q : VK) : Prop := ∀ r x y c', 0 ≤ r → r < n → c ≤ c' → c' ≤ c + 1 → Q (.int r) (upd H a (.lst [.int x, .int y, .int c']))
def spDraw : Sp := fun vs H Q _ => ∃ (a : Addr) (n c : Int), vs = [.ref a, .int n] ∧ Wl H a c ∧ 0 < n ∧ n < 2000000000 ∧ c < 2 ^ 40 ∧ Drawn H a n c Q
theorem at3 (x y c : Int) : atI [V.int x, .int y, .int c] 0 = some (.int x) ∧ atI [V.int x, .int y, .int c] 1 = some (.int y) ∧ atI [V.int x, .int y, .int c] 2 = some (.int c) := ⟨rfl, rfl, rfl⟩
theorem pow_small {i : Int} (h0 : 0 ≤ i) (h : i < 2 ^ 62) : i.natAbs < 2 ^ 64 := by omega
theorem c_l_draw (T : Top K mg) : C8.Cal P w K mg base 1 "_law_draw" spDraw [] := by
  refine cal_of T.d_l_draw sc_l_draw (fun _ _ _ _ _ _ us hl => match us, hl with | [_, _], _ => rfl) (fun vs H Q E h => ?_) (fun f cdv A outer s H vs Q E hr h => ?_)
  · obtain ⟨a, n, c, rfl, _⟩ := h
    rfl
  · obtain ⟨a, n, c, rfl, ⟨hc0, x, y, hw⟩, hn0, hn1, hc, q⟩ := h
    refine ⟨_, (pss_cons (ps_if (pt_cmpR op_gt (pe_ix ix_list (pv 0) pe_int (fun _ _ => rfl)) pe_int (nomark _))
      (pss_cons (ps_set (i := 2) sc_l_draw.nd rfl (Or.inl rfl) (pe_op op_mod (pe_callTy call_int1 (by rfl) T.z_int (by decide +kernel) (pa_cons (pe_ix ix_list (pv 0) pe_int (fun _ _ => rfl)) pa_nil)) (pv 1)))
      (pss_cons (ps_asg (pe_op op_fdivW (pe_ix ix_list (pv 0) pe_int (fun _ _ => rfl)) (pv 1)) (pg_sub (pv 0) pe_int set_list))
      (pss_one (ps_ret (pv 2)))))
      pss_nil)
      (pss_cons (ps_asg (pe_op op_add (pe_ix ix_list (pv 0) pe_int (fun _ _ => rfl)) pe_int) (pg_sub (pv 0) pe_int set_list))
      (pss_cons (ps_set (i := 3) sc_l_draw.nd rfl (Or.inl rfl) (pe_op op_add (pe_op op_mod (pe_callTy call_int1 (by rfl) T.z_int (by decide +kernel) (pa_cons (pe_ix ix_list (pv 0) pe_int (fun _ _ => rfl)) pa_nil)) pe_int) (pe_op op_mul (pe_op op_mod (pe_callTy call_int1 (by rfl) T.z_int (by decide +kernel) (pa_cons (pe_op op_fdivW (pe_ix ix_list (pv 0) pe_int (fun _ _ => rfl)) pe_int) pa_nil)) pe_int) pe_int)))
      (pss_cons (ps_set (i := 4) sc_l_draw.nd rfl (Or.inl rfl) (pe_op op_mod (pe_callTy call_int1 (by rfl) T.z_int (by decide +kernel) (pa_cons (pe_op op_pow (pe_op op_add (pe_op op_add (pv 3) (pe_op op_mul pe_int (pe_ix ix_list (pv 0) pe_int (fun _ _ => rfl)))) pe_int) pe_int) pa_nil)) pe_int))
      (pss_cons (ps_set (i := 4) sc_l_draw.nd rfl (Or.inl rfl) (pe_op op_mod (pe_callTy call_int1 (by rfl) T.z_int (by decide +kernel) (pa_cons (pe_op op_mul (pv 4) (pe_op op_add (pe_op op_add (pe_op op_fdivW (pv 4) pe_int) pe_int) (pe_ix ix_list (pv 0) pe_int (fun _ _ => rfl)))) pa_nil)) pe_int))
      (pss_one (ps_ret (pe_op op_mod (pe_callTy call_int1 (by rfl) T.z_int (by decide +kernel) (pa_cons (pe_op op_mod (pe_callTy call_int1 (by rfl) T.z_int (by decide +kernel) (pa_cons (pe_op op_mul (pv 4) (pe_op op_add (pe_op op_fdivW (pv 4) pe_int) pe_int)) pa_nil)) pe_int) pa_nil)) (pv 1))))))))), ?_⟩
    refine ⟨.ref a, rfl, a, _, 0, _, rfl, rfl, SqL.of hw, rfl, _, _, rfl, rfl, _, rfl, ite2 (fun h1 => ?_) (fun h1 => ?_)⟩
    · refine ⟨.ref a, rfl, a, _, 0, _, rfl, rfl, SqL.of hw, rfl, .inl ⟨_, rfl, .int n, rfl, _, _, rfl, rfl, hn0, ?_⟩⟩
      refine ⟨.ref a, rfl, a, _, 0, _, rfl, rfl, SqL.of hw, rfl, .int n, rfl, _, _, rfl, rfl, wide_div (b := 31) hn0 (by omega) (by decide) (by decide), .ref a, rfl, a, _, 0, 0, rfl, rfl, hw, rfl, .int (x % n), rfl, ?_⟩
      exact q _ _ _ _ (Int.emod_nonneg _ (by omega)) (Int.emod_lt_of_pos _ hn0) (Int.le_refl _) (by omega)
    · refine ⟨.ref a, rfl, a, _, 2, _, rfl, rfl, SqL.of hw, rfl, _, _, rfl, rfl, .ref a, rfl, a, _, 2, 2, rfl, rfl, hw, rfl, ?_⟩
      have hw2 : (upd H a (.lst [V.int x, .int y, .int (c + 1)])) a = some (.lst [V.int x, .int y, .int (c + 1)]) := upd_same
      have b1 : ∀ z m : Int, 0 < m → 0 ≤ z % m ∧ z % m < m := fun z m h => ⟨Int.emod_nonneg _ (by omega), Int.emod_lt_of_pos _ h⟩
      have y1 := b1 y 2147483549 (by decide)
      have y2 := b1 (y / 2147483549) 80021 (by decide)
      refine ⟨.ref a, rfl, a, _, 1, _, rfl, rfl, SqL.of hw2, rfl, .inl ⟨_, rfl, _, _, rfl, rfl, (by show (0 : Int) < _; decide), .ref a, rfl, a, _, 1, _, rfl, rfl, SqL.of hw2, rfl, _, _, rfl, rfl, wide_div (b := 40) (by decide) (by decide) (by decide) (by decide), .inl ⟨_, rfl, _, _, rfl, rfl, (by show (0 : Int) < _; decide), _, _, rfl, rfl, .inr (by decide), _, _, rfl, rfl, ?_⟩⟩⟩
      refine ⟨_, rfl, .ref a, rfl, a, _, 2, _, rfl, rfl, SqL.of hw2, rfl, _, _, rfl, rfl, .inl (by decide), _, _, rfl, rfl, _, _, rfl, rfl, _, _, rfl, rfl, ⟨by decide, by decide, pow_small (by omega) (by omega)⟩, .inl ⟨_, rfl, _, _, rfl, rfl, (by show (0 : Int) < _; decide), ?_⟩⟩
      generalize ((y % 2147483549 + y / 2147483549 % 80021 * 37 + 5843 * (c + 1) + 17) ^ Int.toNat 5) = big
      have m1 := b1 big 2147483647 (by decide)
      refine ⟨_, rfl, _, rfl, _, _, rfl, rfl, wide_div (b := 40) (by decide) (by decide) (by decide) (by decide), _, _, rfl, rfl, .ref a, rfl, a, _, 2, _, rfl, rfl, SqL.of hw2, rfl, _, _, rfl, rfl, _, _, rfl, rfl, .inl (by omega), .inl ⟨_, rfl, _, _, rfl, rfl, (by show (0 : Int) < _; decide), ?_⟩⟩
      generalize (big % 2147483647 * (big % 2147483647 / 953 + 40993 + (c + 1))) = big2
      have m2 := b1 big2 2147483629 (by decide)
      refine ⟨_, rfl, _, rfl, _, _, rfl, rfl, wide_div (b := 40) (by decide) (by decide) (by decide) (by decide), _, _, rfl, rfl, _, _, rfl, rfl, .inl (by omega), .inl ⟨_, rfl, _, _, rfl, rfl, (by show (0 : Int) < _; decide), .inl ⟨_, rfl, .int n, rfl, _, _, rfl, rfl, hn0, ?_⟩⟩⟩
      exact q _ _ _ _ (Int.emod_nonneg _ (by omega)) (Int.emod_lt_of_pos _ hn0) (by omega) (Int.le_refl _)
def spPick (K : PySem.W.Frag) : Sp := fun vs H Q _ => ∃ (a b : Addr) (xs : List V) (c : Int), vs = [.ref a, .ref b] ∧ Wl H a c ∧ SqL K H b xs ∧ b ≠ a ∧ 0 < xs.length ∧ xs.length < 1000000 ∧ c < 2 ^ 40 ∧ ∀ v ∈ xs, Aft a c 1 H (Q v)
theorem c_l_pick (T : Top K mg) : C8.Cal P w K mg base 2 "_law_pick" (spPick K) [] := by
  refine cal_of T.d_l_pick sc_l_pick (fun _ _ _ _ _ _ us hl => match us, hl with | [_, _], _ => rfl) (fun vs H Q E h => ?_) (fun f cdv A outer s H vs Q E hr h => ?_)
  · obtain ⟨a, b, xs, c, rfl, _⟩ := h
    rfl
  · obtain ⟨a, b, xs, c, rfl, hw, hS, nb, h0, h1, hc, q⟩ := h
    refine ⟨_, (pss_one (ps_ret (pe_ix ix_list (pv 1) (C8.pe_c (c_l_draw T) hr (by decide) (by rfl) (pa_cons (pv 0) (pa_cons (pe_callB call_len_seq (by rfl) T.z_len (by decide +kernel) (pa_cons (pv 1) pa_nil)) pa_nil))) (fun _ _ => rfl)))), ?_⟩
    refine ⟨.ref b, rfl, .ref a, rfl, .ref b, rfl, b, xs, rfl, .inl hS, a, xs.length, c, rfl, hw, by omega, by omega, hc, fun r x y c' hr0 hr1 hc1 hc2 => ?_⟩
    obtain ⟨v, hv, _, e⟩ := atI_int hr0 hr1
    exact ⟨b, xs, r, v, rfl, rfl, sql_fr hS nb Fr.at, e, q v hv _ c' Fr.at (Wl.upd (by have := hw.1; omega)) hc1 hc2⟩
theorem menu {xs : List Int} {v : V} (h : v ∈ xs.map V.int) : ∃ m ∈ xs, v = .int m := by
  obtain ⟨m, hm, rfl⟩ := List.mem_map.mp h
  exact ⟨m, hm, rfl⟩
theorem do_draw {H : Hp} {a : Addr} {n k : Int} {Q : VK} (hw : Wl H a k) (h0 : 0 < n) (h1 : n < 2000000000) (hk : k < 2 ^ 39) (q : ∀ r : Nat, (r : Int) < n → ∀ H' k', Fr a H H' → Wl H' a k' → k ≤ k' → k' ≤ k + 1 → Q (.int r) H') : spDraw [.ref a, .int n] H Q C8.E0 := by
  refine ⟨a, n, k, rfl, hw, h0, h1, by omega, fun r x y k' r0 r1 k1 k2 => ?_⟩
  obtain ⟨m, rfl⟩ := Int.eq_ofNat_of_zero_le r0
  exact q m r1 _ k' Fr.at (Wl.upd (by have := hw.1; omega)) k1 k2
theorem do_pick {H : Hp} {a b : Addr} {xs : List V} {k : Int} {Q : VK} (hw : Wl H a k) (hS : H b = some (.lst xs)) (nb : b ≠ a) (h0 : 0 < xs.length) (h1 : xs.length < 1000000) (hk : k < 2 ^ 39) (q : ∀ v ∈ xs, ∀ H' k', Fr a H H' → Wl H' a k' → k ≤ k' → k' ≤ k + 1 → Q v H') : spPick K [.ref a, .ref b] H Q C8.E0 :=
  ⟨a, b, xs, k, rfl, hw, SqL.of hS, nb, h0, h1, by omega, q⟩
end
theorem TupKeep.fr {W : Addr} {H H' : Hp} {c : Int} (f : Fr W H H') (w : Wl H W c) : TupKeep H H' := fun b xs e => f b _ (fun z => by
  obtain ⟨_, x, y, h⟩ := w
  rw [z, h] at e
  cases e) e
theorem Wl.neK {W e : Addr} {H : Hp} {c : Int} {kvs : List (Key × V)} (w : Wl H W c) (h : H e = some (.dK kvs)) : e ≠ W := fun z => by
  obtain ⟨_, x, y, h'⟩ := w
  rw [z, h'] at h
  cases h
theorem RowsAt.fr {K : PySem.W.Frag} {W e : Addr} {H H' : Hp} {c : Int} {n : Nat} {m : Mp Rw} (h : RowsAt K H e n m) (f : Fr W H H') (w : Wl H W c) : RowsAt K H' e n m := by
  obtain ⟨t, h1, h2, h3⟩ := h
  exact ⟨t, f _ _ (w.neK h1) h1, h2.imp fun _ _ x => x.keep (TupKeep.fr f w), h3⟩
def ID16 (x : Str) : Str := repS x 16
theorem id_rep : isIdF (repS "0" 16) = true ∧ isIdF (repS "1" 16) = true := by decide +kernel

end Fk

set_option maxHeartbeats 4000000
namespace Fk
open PySem PySem.Spec PyProof.Rows L2
def MENU : List Str := ["a", "b", "a/b", "a/c", "a/b/c", "d", "e/f", "e", "ab", "a.b", "a-b", "a0", "a_", "a/bc", "ab/c", "a/b.c"]
theorem menu_ok : ∀ x ∈ MENU, PathOk x := by
  intro x hx
  simp only [MENU, List.mem_cons, List.not_mem_nil, or_false] at hx
  rcases hx with rfl | rfl | rfl | rfl | rfl | rfl | rfl | rfl | rfl | rfl | rfl | rfl | rfl | rfl | rfl | rfl <;> exact ⟨by decide +kernel, by decide +kernel, ok_by (by decide +kernel)⟩
def InMenu {α : Type} (m : Mp α) : Prop := ∀ x, (m x).isSome = true → x ∈ MENU
theorem FilesOk.menu {K : PySem.W.Frag} {H : Hp} {n : Nat} {t : Tab} {m : Mp Fi} (h : FilesOk n t m) (hH : Holds (FiV K H) t m) (im : InMenu m) : FilesOk 16 t m := by
  refine ⟨h.nd, ?_, h.path, h.good⟩
  have := len_of_sub h.nd (m := MENU) fun x hx => im x (hH.mem.mp hx)
  rw [List.length_map] at this
  exact this
theorem RowsOk.menu {K : PySem.W.Frag} {H : Hp} {n : Nat} {t : Tab} {m : Mp Rw} (h : RowsOk n t m) (hH : Holds (RwV K H) t m) (im : InMenu m) : RowsOk 16 t m := by
  refine ⟨h.nd, ?_, h.path, h.good⟩
  have := len_of_sub h.nd (m := MENU) fun x hx => im x (hH.mem.mp hx)
  rw [List.length_map] at this
  exact this
theorem InMenu.put {α : Type} {m : Mp α} {x : Str} {r : α} (h : InMenu m) (hx : x ∈ MENU) : InMenu (putM m x r) := fun y hy => by
  unfold putM at hy
  split at hy
  · rename_i e; rw [e]; exact hx
  · exact h y hy
theorem InMenu.drop {α : Type} {m : Mp α} {x : Str} (h : InMenu m) : InMenu (dropM m x) := fun y hy => by
  unfold dropM at hy
  split at hy
  · cases hy
  · exact h y hy
/-- files from the menu at e -/
def MenuAt (K : PySem.W.Frag) (H : Hp) (e : Addr) (f : Mp Fi) : Prop := FilesAt K H e 16 f ∧ InMenu f
theorem FilesAt.fr {K : PySem.W.Frag} {W e : Addr} {H H' : Hp} {c : Int} {n : Nat} {m : Mp Fi} (h : FilesAt K H e n m) (f : Fr W H H') (w : Wl H W c) : FilesAt K H' e n m := by
  obtain ⟨t, h1, h2, h3⟩ := h
  exact ⟨t, f _ _ (w.neK h1) h1, h2.imp fun _ _ x => FvV.keep x (TupKeep.fr f w), h3⟩
theorem MenuAt.fr {K : PySem.W.Frag} {W e : Addr} {H H' : Hp} {c : Int} {m : Mp Fi} (h : MenuAt K H e m) (f : Fr W H H') (w : Wl H W c) : MenuAt K H' e m := ⟨h.1.fr f w, h.2⟩
theorem MenuAt.same {K : PySem.W.Frag} {e : Addr} {H H' : Hp} {m : Mp Fi} (h : MenuAt K H e m) (s : Same H H') : MenuAt K H' e m := ⟨h.1.same s, h.2⟩
section
variable {P : Program} {w : World} {K : PySem.W.Frag} {mg : Str → Option Value} {base : Heap} {fk iF cP : Addr}
def spSomeF (K : PySem.W.Frag) : Sp := fun vs H Q _ => ∃ (W : Addr) (most : Nat) (c : Int), vs = [.ref W, .int (most : Int)] ∧ Wl H W c ∧ c < 2 ^ 36 ∧ 1 ≤ most ∧ most ≤ 6 ∧ ∀ d H' c' f, H d = none → Fr W H H' → Wl H' W c' → c ≤ c' → c' ≤ c + 40 → MenuAt K H' d f → Q (.ref d) H'
theorem c_l_some_files (T : TopG K mg fk cP iF) : C8.Cal P w K mg base 3 "_law_some_files" (spSomeF K) [] := by
  refine cal_of T.d_l_some_files sc_l_some_files (fun _ _ _ _ _ _ us hl => match us, hl with | [_, _], _ => rfl) (fun vs H Q E h => ?_) (fun f cdv A outer s H vs Q E hr h => ?_)
  · obtain ⟨W, most, c, rfl, _⟩ := h
    rfl
  · obtain ⟨W, most, c, rfl, hw, hc, hm1, hm2, q⟩ := h
    refine ⟨_, (pss_cons (ps_set (i := 2) sc_l_some_files.nd rfl (Or.inl rfl) pe_dnewK)
      (pss_cons (ps_for PassesOwn.never rfl (pi_range1 (by rfl) T.z_range (pa_cons (C8.pe_c (c_l_draw T.toTop) hr (by decide) (by rfl) (pa_cons (pv 0) (pa_cons (pe_op op_add (pv 1) pe_int) pa_nil))) pa_nil)) (pg_name (i := 3) sc_l_some_files.nd rfl (Or.inl rfl))
      (pss_cons (ps_set (i := 4) sc_l_some_files.nd rfl (Or.inl rfl) (pe_tup (pa_cons (C8.pe_c (c_l_pick T.toTop) hr (by decide) (by rfl) (pa_cons (pv 0) (pa_cons (pe_lst (pa_cons pe_str (pa_cons pe_str (pa_cons pe_str pa_nil)))) pa_nil))) (pa_cons (pe_op op_mul_si (C8.pe_c (c_l_pick T.toTop) hr (by decide) (by rfl) (pa_cons (pv 0) (pa_cons (pe_lst (pa_cons pe_str (pa_cons pe_str (pa_cons pe_str pa_nil)))) pa_nil))) pe_int) pa_nil))))
      (pss_cons (ps_set (i := 5) sc_l_some_files.nd rfl (Or.inl rfl) (pe_lst (pa_cons pe_str (pa_cons pe_str (pa_cons pe_str (pa_cons pe_str (pa_cons pe_str (pa_cons pe_str (pa_cons pe_str (pa_cons pe_str pa_nil))))))))))
      (pss_cons (ps_set (i := 6) sc_l_some_files.nd rfl (Or.inl rfl) (pe_lst (pa_cons pe_str (pa_cons pe_str (pa_cons pe_str (pa_cons pe_str (pa_cons pe_str (pa_cons pe_str (pa_cons pe_str (pa_cons pe_str (pa_cons pe_str (pa_cons pe_str pa_nil))))))))))))
      (pss_one (ps_dput (hu_of hr) (pv 2) (C8.pe_c (c_l_pick T.toTop) hr (by decide) (by rfl) (pa_cons (pv 0) (pa_cons (C8.pe_c (c_l_pick T.toTop) hr (by decide) (by rfl) (pa_cons (pv 0) (pa_cons (pe_lst (pa_cons (pv 5) (pa_cons (pv 5) (pa_cons (pv 6) pa_nil)))) pa_nil))) pa_nil))) (pv 4) rfl))))))
      (pss_one (ps_ret (pv 2))))), ?_⟩
    intro d hd
    have wd : d ≠ W := hw.ne hd
    have w0 : Wl (upd H d (.dK [])) W c := hw.new hd
    have f0 : Fr W H (upd H d (.dK [])) := Fr.new hd
    have h0 : (upd H d (.dK [])) d = some (.dK (kT [])) := upd_same
    generalize upd H d (.dK []) = H0 at w0 f0 h0
    refine ⟨.ref W, rfl, _, rfl, _, _, rfl, rfl, ?_⟩
    refine do_draw w0 (by omega) (by omega) (by omega) fun r hr5 H1 c1 f1 w1 l1 m1 => ⟨r, rfl, by omega, by omega, ?_⟩
    refine forG yields_range (fun i σ H' => ∃ (t : Tab) (m' : Mp Fi) (c' : Int) (z3 z4 z5 z6 : Option V), σ = [some (.ref W), some (.int (most : Int)), some (.ref d), z3, z4, z5, z6] ∧ H' d = some (.dK (kT t)) ∧ Holds (FiV K H') t m' ∧ FilesOk 16 t m' ∧ InMenu m' ∧ Fr W H H' ∧ Wl H' W c' ∧ c ≤ c' ∧ c' ≤ c + 1 + 5 * i)
      ⟨[], fun _ => none, c1, none, none, none, none, rfl, f1 _ _ wd h0, .nil, ⟨by unfold Nd; exact List.nodup_nil, Nat.zero_le _, (fun x hx => nomatch hx), (fun x r e => nomatch e)⟩, (fun x h => nomatch h), f0.trans f1, w1, by omega, by omega⟩ (fun _ _ _ _ => trivial) (fun i x σ H' hx I => ?_) (fun σ H' I => ?_)
    · obtain ⟨t, m', c', z3, z4, z5, z6, rfl, hD, hH, hO, hI, fH, w', l', u'⟩ := I
      have hi := (List.getElem?_eq_some_iff.mp hx).1
      rw [List.length_map, List.length_range] at hi
      have hi6 : (i : Int) < 8 := by omega
      refine ⟨.ref W, rfl, (by show 3 ≤ sizeLine; decide), fun b hb => ?_⟩
      refine do_pick (w'.new hb) upd_same (w'.ne hb) (by show 0 < 3; decide) (by show 3 < 1000000; decide) (by omega) fun pk hpk H2 c2 f2 w2 l2 m2 => ?_
      have F2 : Fr W H' H2 := (Fr.new hb).trans f2
      refine ⟨.ref W, rfl, (by show 3 ≤ sizeLine; decide), fun b3 hb3 => ?_⟩
      refine do_pick (w2.new hb3) upd_same (w2.ne hb3) (by show 0 < 3; decide) (by show 3 < 1000000; decide) (by omega) fun pd hpd H3 c3 f3 w3 l3 m3 => ?_
      have F3 : Fr W H' H3 := F2.trans ((Fr.new hb3).trans f3)
      obtain ⟨kd, rfl, hkd⟩ : ∃ kd, pk = .str kd ∧ kd ∈ FKS := by
        simp only [List.mem_cons, List.not_mem_nil, or_false] at hpk
        rcases hpk with rfl | rfl | rfl
        · exact ⟨_, rfl, by decide⟩
        · exact ⟨_, rfl, by decide⟩
        · exact ⟨_, rfl, by decide⟩
      obtain ⟨dg, rfl, hl1, hdg⟩ : ∃ dg, pd = .str dg ∧ dg.length = 1 ∧ isIdF (repS dg 16) = true := by
        simp only [List.mem_cons, List.not_mem_nil, or_false] at hpd
        rcases hpd with rfl | rfl | rfl <;> exact ⟨_, rfl, by decide +kernel, by decide +kernel⟩
      refine ⟨dg, 16, rfl, rfl, by decide, by decide, by rw [hl1]; decide, (by show 2 ≤ sizeLine; decide), fun tp ntp => ?_⟩
      have st := same_new (o := .tup [.str kd, .str (repS dg (Int.toNat 16))]) ntp
      have ht := upd_same (H := H3) (a := tp) (o := .tup [.str kd, .str (repS dg (Int.toNat 16))])
      generalize upd H3 tp (.tup [.str kd, .str (repS dg (Int.toNat 16))]) = H4 at st ht ⊢
      have ht : H4 tp = some (.tup [.str kd, .str (repS dg 16)]) := ht
      have w4 := w3.same st
      have F4 := F3.trans (Fr.same st)
      refine ⟨(by show 8 ≤ sizeLine; decide), fun bA nA => ?_⟩
      have sA := same_new (o := .lst [V.str "a", .str "b", .str "a/b", .str "a/c", .str "a/b/c", .str "d", .str "e/f", .str "e"]) nA
      have hA := upd_same (H := H4) (a := bA) (o := .lst [V.str "a", .str "b", .str "a/b", .str "a/c", .str "a/b/c", .str "d", .str "e/f", .str "e"])
      have wA := w4.ne nA
      generalize upd H4 bA (.lst [V.str "a", .str "b", .str "a/b", .str "a/c", .str "a/b/c", .str "d", .str "e/f", .str "e"]) = H5 at sA hA
      refine ⟨(by show 10 ≤ sizeLine; decide), fun bB nB => ?_⟩
      have sB := same_new (o := .lst [V.str "a", .str "ab", .str "a.b", .str "a-b", .str "a0", .str "a_", .str "a/b", .str "a/bc", .str "ab/c", .str "a/b.c"]) nB
      have hB := upd_same (H := H5) (a := bB) (o := .lst [V.str "a", .str "ab", .str "a.b", .str "a-b", .str "a0", .str "a_", .str "a/b", .str "a/bc", .str "ab/c", .str "a/b.c"])
      have wB := (w4.same sA).ne nB
      generalize upd H5 bB (.lst [V.str "a", .str "ab", .str "a.b", .str "a-b", .str "a0", .str "a_", .str "a/b", .str "a/bc", .str "ab/c", .str "a/b.c"]) = H6 at sB hB
      refine ⟨.ref tp, rfl, .ref d, rfl, .ref W, rfl, .ref W, rfl, .ref bA, rfl, .ref bA, rfl, .ref bB, rfl, (by show 3 ≤ sizeLine; decide), fun bC nC => ?_⟩
      have s46 := sA.trans sB
      have w6 := w4.same s46
      refine do_pick (w6.new nC) upd_same (w6.ne nC) (by show 0 < 3; decide) (by show 3 < 1000000; decide) (by omega) fun pm hpm H7 c7 f7 w7 l7 m7 => ?_
      have F67 : Fr W H6 H7 := (Fr.new nC).trans f7
      obtain ⟨bM, xs, rfl, hbM, nM, hx0, hx1, hxs⟩ : ∃ bM xs, pm = .ref bM ∧ H7 bM = some (.lst xs) ∧ bM ≠ W ∧ 0 < xs.length ∧ xs.length < 1000000 ∧ ∀ v ∈ xs, ∃ y, v = .str y ∧ y ∈ MENU := by
        have a1 : ∀ v ∈ [V.str "a", .str "b", .str "a/b", .str "a/c", .str "a/b/c", .str "d", .str "e/f", .str "e"], ∃ y, v = .str y ∧ y ∈ MENU := fun v hv => by
          simp only [List.mem_cons, List.not_mem_nil, or_false] at hv
          rcases hv with rfl | rfl | rfl | rfl | rfl | rfl | rfl | rfl <;> exact ⟨_, rfl, by decide⟩
        have a2 : ∀ v ∈ [V.str "a", .str "ab", .str "a.b", .str "a-b", .str "a0", .str "a_", .str "a/b", .str "a/bc", .str "ab/c", .str "a/b.c"], ∃ y, v = .str y ∧ y ∈ MENU := fun v hv => by
          simp only [List.mem_cons, List.not_mem_nil, or_false] at hv
          rcases hv with rfl | rfl | rfl | rfl | rfl | rfl | rfl | rfl | rfl | rfl <;> exact ⟨_, rfl, by decide⟩
        simp only [List.mem_cons, List.not_mem_nil, or_false] at hpm
        rcases hpm with rfl | rfl | rfl
        · exact ⟨bA, _, rfl, F67 _ _ wA (sB _ _ hA), wA, by show 0 < 8; decide, by show 8 < 1000000; decide, a1⟩
        · exact ⟨bA, _, rfl, F67 _ _ wA (sB _ _ hA), wA, by show 0 < 8; decide, by show 8 < 1000000; decide, a1⟩
        · exact ⟨bB, _, rfl, F67 _ _ wB hB, wB, by show 0 < 10; decide, by show 10 < 1000000; decide, a2⟩
      refine do_pick w7 hbM nM hx0 hx1 (by omega) fun pv hpv H8 c8 f8 w8 l8 m8 => ?_
      obtain ⟨px, rfl, hpx⟩ := hxs pv hpv
      have F8 : Fr W H' H8 := (F4.trans (Fr.same s46)).trans (F67.trans f8)
      have k8 : TupKeep H4 H8 := ((TupKeep.of s46).trans (TupKeep.fr F67 w6)).trans (TupKeep.fr f8 w7)
      have hd8 : H8 d = some (.dK (kT t)) := F8 _ _ wd hD
      have kk : TupKeep H' H8 := TupKeep.fr F8 w'
      have k9 : TupKeep H8 (upd H8 d (.dK (putK (kT t) (.inr px) (.ref tp)))) := TupKeep.at fun xs z => by rw [hd8] at z; cases z
      have hH2 : Holds (FiV K (upd H8 d (.dK (putK (kT t) (.inr px) (.ref tp))))) (putK t px (.ref tp)) (putM m' px (kd, repS dg 16)) :=
        Holds.put (hH.imp fun _ _ y => FvV.keep y (kk.trans k9)) ⟨tp, rfl, .inl (k9 _ _ (k8 _ _ ht))⟩
      have hI2 : InMenu (putM m' px (kd, repS dg 16)) := hI.put hpx
      exact ⟨d, _, rfl, DPut.k (k := .inr px) hd8 (small_lt (by rw [len_kT]; have := hO.len; omega)), putK t px (.ref tp), putM m' px (kd, repS dg 16), c8, _, _, _, _, rfl, by rw [upd_same, putK_kT], hH2, (hO.put (menu_ok px hpx) ⟨hkd, hdg⟩).menu hH2 hI2, hI2, (fH.trans F8).mut hd, w8.mut wd, by omega, by push_cast; omega⟩
    · obtain ⟨t, m', c', z3, z4, z5, z6, rfl, hD, hH, hO, hI, fH, w', l', u'⟩ := I
      rw [List.length_map, List.length_range] at u'
      exact ⟨_, rfl, q d H' c' m' hd fH w' l' (by omega) ⟨⟨t, hD, hH, hO⟩, hI⟩⟩
end

end Fk

set_option maxHeartbeats 4000000
namespace Fk
open PySem PySem.Spec PyProof.Rows L2
section
variable {P : Program} {w : World} {K : PySem.W.Frag} {mg : Str → Option Value} {base : Heap} {fk iF cP : Addr}
theorem FilesOk.drop {n : Nat} {t : Tab} {m : Mp Fi} {x : Str} (h : FilesOk n t m) : FilesOk n (dropK t x) (dropM m x) := by
  have sub : ∀ y ∈ (dropK t x).map (·.1), y ∈ t.map (·.1) := fun y hy => by
    rw [mem_val, valV_drop] at hy
    split at hy
    · cases hy
    · exact mem_val.mpr hy
  have nd : Nd (dropK t x) := nd_drop h.nd x
  refine ⟨nd, ?_, fun y hy => h.path y (sub y hy), fun y p e => ?_⟩
  · have := len_of_sub nd sub
    rw [List.length_map, List.length_map] at this
    exact Nat.le_trans this h.len
  · unfold dropM at e
    split at e
    · cases e
    · exact h.good y p e
def spNearF (K : PySem.W.Frag) : Sp := fun vs H Q _ => ∃ (W e : Addr) (c : Int) (f : Mp Fi), vs = [.ref W, .ref e] ∧ Wl H W c ∧ c < 2 ^ 35 ∧ MenuAt K H e f ∧ ∀ d H' c' g, H d = none → Fr W H H' → Wl H' W c' → c ≤ c' → c' ≤ c + 1000 → MenuAt K H' d g → Q (.ref d) H'
theorem c_l_near (T : TopG K mg fk cP iF) : C8.Cal P w K mg base 4 "_law_near" (spNearF K) [] := by
  refine cal_of T.d_l_near sc_l_near (fun _ _ _ _ _ _ us hl => match us, hl with | [_, _], _ => rfl) (fun vs H Q E h => ?_) (fun fa cdv A outer s H vs Q E hr h => ?_)
  · obtain ⟨W, e, c, f, rfl, _⟩ := h
    rfl
  · obtain ⟨W, e, c, f, rfl, hw, hc, ⟨⟨te, he, hHe, hOe⟩, hIe⟩, q⟩ := h
    refine ⟨_, (pss_cons (ps_set (i := 2) sc_l_near.nd rfl (Or.inl rfl) (pe_callTy call_dictD (by rfl) T.z_dict (by decide +kernel) (pa_cons (pv 1) pa_nil)))
      (pss_cons (ps_for PassesOwn.never rfl (pi_range1 (by rfl) T.z_range (pa_cons (C8.pe_c (c_l_draw T.toTop) hr (by decide) (by rfl) (pa_cons (pv 0) (pa_cons pe_int pa_nil))) pa_nil)) (pg_name (i := 3) sc_l_near.nd rfl (Or.inl rfl))
      (pss_cons (ps_set (i := 4) sc_l_near.nd rfl (Or.inl rfl) (C8.pe_c (c_l_some_files T) hr (by decide) (by rfl) (pa_cons (pv 0) (pa_cons pe_int pa_nil))))
      (pss_one (ps_lock (ps_for PassesOwn.never rfl (pi_keys (pv 4)) (pg_name (i := 5) sc_l_near.nd rfl (Or.inl rfl))
      (pss_one (ps_if (PW.pt (pw_and (pt_cmp (pc_din (hu_of hr) (pv 5) (pv 2))) (pw_and1 (pt_cmpR op_eq (C8.pe_c (c_l_draw T.toTop) hr (by decide) (by rfl) (pa_cons (pv 0) (pa_cons pe_int pa_nil))) pe_int (nomark _)))))
      (pss_one (ps_expr (pe_dpop1 (pv 2) (pv 5) ⟨rfl, rfl, rfl, rfl⟩)))
      (pss_one (ps_dput (hu_of hr) (pv 2) (pv 5) (pe_dget (hu_of hr) (pv 4) (pv 5) (fun _ _ => rfl)) rfl)))))))))
      (pss_one (ps_ret (pv 2))))), ?_⟩
    refine ⟨.ref e, rfl, e, _, rfl, .inl he, fun D hD => ?_⟩
    have wD : D ≠ W := hw.ne hD
    have s0 := same_new (o := .dK (kT te)) hD
    have w0 := hw.same s0
    have h0 := upd_same (H := H) (a := D) (o := .dK (kT te))
    generalize upd H D (.dK (kT te)) = H0 at s0 w0 h0
    refine ⟨.ref W, rfl, do_draw w0 (by decide) (by decide) (by omega) fun r hr4 H1 c1 f1 w1 l1 m1 => ⟨r, rfl, by omega, by omega, ?_⟩⟩
    refine forG yields_range (fun i σ H' => ∃ (u : Tab) (m' : Mp Fi) (c' : Int) (z3 z4 z5 : Option V), σ = [some (.ref W), some (.ref e), some (.ref D), z3, z4, z5] ∧ H' D = some (.dK (kT u)) ∧ Holds (FiV K H') u m' ∧ FilesOk 16 u m' ∧ InMenu m' ∧ Fr W H H' ∧ Wl H' W c' ∧ c ≤ c' ∧ c' ≤ c + 1 + 80 * i)
      ⟨te, f, c1, none, none, none, rfl, f1 _ _ wD h0, hHe.imp fun _ _ x => FvV.keep x ((TupKeep.of s0).trans (TupKeep.fr f1 w0)), hOe, hIe, (Fr.same s0).trans f1, w1, by omega, by omega⟩ (fun _ _ _ _ => trivial) (fun i x σ H' hx I => ?_) (fun σ H' I => ?_)
    · obtain ⟨u, m', c', z3, z4, z5, rfl, hDD, hH, hO, hI, fH, w', l', u'⟩ := I
      have hi := (List.getElem?_eq_some_iff.mp hx).1
      rw [List.length_map, List.length_range] at hi
      have hi4 : (i : Int) < 4 := by omega
      refine ⟨.ref W, rfl, W, 2, c', rfl, w', by omega, by decide, by decide, fun e2 H2 c2 g ne2 f2 w2 l2 u2 hM => ?_⟩
      obtain ⟨⟨tM, hM2, hHM, hOM⟩, hIM⟩ := hM
      have nW : e2 ≠ W := w'.ne ne2
      have nD : D ≠ e2 := fun z => by rw [z] at hDD; rw [hDD] at ne2; cases ne2
      have hD2 := f2 _ _ wD hDD
      have lM := hOM.len
      refine ⟨e2, _, hM2, trivial, fun od => ⟨.ref e2, rfl, e2, od, rfl, .inl ⟨kT tM, upd_same, ?_⟩⟩⟩
      have ke : TupKeep H2 (upd H2 e2 (.frz od (.dK (kT tM)))) := TupKeep.at fun xs z => by rw [hM2] at z; cases z
      have fL : Fr W H (upd H2 e2 (.frz od (.dK (kT tM)))) := (fH.trans f2).mut (by
        cases hc : H e2 with
        | none => rfl
        | some o => rw [fH _ _ nW hc] at ne2; cases ne2)
      have hDL : (upd H2 e2 (.frz od (.dK (kT tM)))) D = some (.dK (kT u)) := by rw [upd_ne nD]; exact hD2
      have heL := upd_same (H := H2) (a := e2) (o := .frz od (.dK (kT tM)))
      have wL : Wl (upd H2 e2 (.frz od (.dK (kT tM)))) W c2 := w2.mut nW
      generalize upd H2 e2 (.frz od (.dK (kT tM))) = HL at ke fL hDL heL wL
      have hHL : Holds (FiV K HL) u m' := hH.imp fun _ _ x => FvV.keep x ((TupKeep.fr f2 w').trans ke)
      have hML : Holds (FiV K HL) tM g := hHM.imp fun _ _ x => FvV.keep x ke
      have Y : Yields (Itk e2 od (kT tM)) ((tM.map (·.1)).map V.str) (fun H => H e2 = some (.frz od (.dK (kT tM)))) := by
        rw [← kV_kT]
        exact yields_keys
      refine forG Y (fun j σ H' => ∃ (u : Tab) (m' : Mp Fi) (c' : Int) (z5 : Option V), σ = [some (.ref W), some (.ref e), some (.ref D), some x, some (.ref e2), z5] ∧ H' D = some (.dK (kT u)) ∧ Holds (FiV K H') u m' ∧ FilesOk 16 u m' ∧ InMenu m' ∧ Fr W H H' ∧ Wl H' W c' ∧ c2 ≤ c' ∧ c' ≤ c2 + j ∧ H' e2 = some (.frz od (.dK (kT tM))) ∧ TupKeep HL H')
        ⟨u, m', c2, z5, rfl, hDL, hHL, hO, hI, fL, wL, by omega, by omega, heL, TupKeep.refl _⟩ (fun j σ H' I => I.choose_spec.choose_spec.choose_spec.choose_spec.2.2.2.2.2.2.2.2.2.1) (fun j y σ H3 hy I => ?_) (fun σ H3 I => ?_)
      · obtain ⟨v, m2, c3, z5', rfl, hDD3, hH3, hO3, hI3, fH3, w3, l3, u3, he3, k3⟩ := I
        rw [List.getElem?_map] at hy
        cases hyy : (tM.map (·.1))[j]? with
        | none => rw [hyy] at hy; cases hy
        | some yy =>
          rw [hyy] at hy
          cases hy
          have hj := (List.getElem?_eq_some_iff.mp hyy).1
          rw [List.length_map] at hj
          have hj16 : (j : Int) < 16 := by omega
          have lv := hO3.len
          have hym : yy ∈ tM.map (·.1) := List.mem_of_getElem? hyy
          have pathy := hOM.path yy hym
          have zg := hHM.mem.mp hym
          have hmenu : yy ∈ MENU := hIM yy zg
          have sml : (kT v).length < sizeLine := small_lt (by rw [len_kT]; omega)
          have put : ∀ {H4 : Hp} {c4 : Int}, Fr W H3 H4 → Wl H4 W c4 → c2 ≤ c4 → c4 ≤ c2 + ((j + 1 : Nat) : Int) → tDGet (tVar 4) (tVar 5) [some (.ref W), some (.ref e), some (.ref D), some x, some (.ref e2), some (.str yy)] H4 (fun vv H5 => ∃ H6, DPut H5 D (.str yy) vv H6 ∧ ∃ (u : Tab) (m' : Mp Fi) (c' : Int) (z5 : Option V), ([some (.ref W), some (.ref e), some (.ref D), some x, some (.ref e2), some (.str yy)] : L2.St) = [some (.ref W), some (.ref e), some (.ref D), some x, some (.ref e2), z5] ∧ H6 D = some (.dK (kT u)) ∧ Holds (FiV K H6) u m' ∧ FilesOk 16 u m' ∧ InMenu m' ∧ Fr W H H6 ∧ Wl H6 W c' ∧ c2 ≤ c' ∧ c' ≤ c2 + ((j + 1 : Nat) : Int) ∧ H6 e2 = some (.frz od (.dK (kT tM))) ∧ TupKeep HL H6) := by
            intro H4 c4 f4 w4 l4 u4
            have he4 := f4 _ _ nW he3
            have hD4 := f4 _ _ wD hDD3
            have k4 : TupKeep H3 H4 := TupKeep.fr f4 w3
            cases eg : g yy with
            | none => rw [eg] at zg; cases zg
            | some pp =>
              obtain ⟨vv, hvv, rvv⟩ := hML.at eg
              have g1 := dget_kT (.inr ⟨od, he4⟩) yy
              rw [hvv] at g1
              have k5 : TupKeep H4 (upd H4 D (.dK (putK (kT v) (.inr yy) vv))) := TupKeep.at fun xs z => by rw [hD4] at z; cases z
              have hH5 : Holds (FiV K (upd H4 D (.dK (putK (kT v) (.inr yy) vv)))) (putK v yy vv) (putM m2 yy pp) := Holds.put (hH3.imp fun _ _ x => FvV.keep x (k4.trans k5)) (FvV.keep rvv ((k3.trans k4).trans k5))
              have hI5 : InMenu (putM m2 yy pp) := hI3.put hmenu
              exact ⟨.ref e2, rfl, .str yy, rfl, e2, _, rfl, g1, _, DPut.k (k := .inr yy) hD4 sml, putK v yy vv, putM m2 yy pp, c4, _, rfl, by rw [upd_same, putK_kT], hH5, (hO3.put pathy (hOM.good yy pp eg)).menu hH5 hI5, hI5, (fH3.trans f4).mut hD, w4.mut wD, l4, u4, by rw [upd_ne nD.symm]; exact he4, (k3.trans k4).trans k5⟩
          have g1 : DGet H3 D (.str yy) (valV v yy) := dget_kT (.inl hDD3) yy
          refine ⟨.str yy, rfl, .ref D, rfl, D, _, rfl, g1, _, rfl, ?_⟩
          rcases hH3 yy with ⟨a1, a2⟩ | ⟨v0, r0, a1, a2, rv0⟩
          · rw [a1]
            refine ifF Bool.false_ne_true ?_
            obtain ⟨b1, b2, b3, b4, b5, b6, b7, b8, H6, b9, b10⟩ := put (Fr.refl W H3) w3 l3 (by push_cast; omega)
            exact ⟨b1, b2, b3, b4, b5, b6, b7, b8, .ref D, rfl, .str yy, rfl, D, H6, rfl, b9, b10⟩
          · rw [a1]
            refine ifT rfl ?_
            refine ⟨.ref W, rfl, do_draw w3 (by decide) (by decide) (by omega) fun r6 hr6 H4 c4 f4 w4 l4 m4 => ⟨rfl, _, rfl, ite2 (fun z => ?_) (fun z => ?_)⟩⟩
            · have hD4 := f4 _ _ wD hDD3
              have k4 : TupKeep H3 H4 := TupKeep.fr f4 w3
              have k5 : TupKeep H4 (upd H4 D (.dK (dropK (kT v) (.inr yy)))) := TupKeep.at fun xs z => by rw [hD4] at z; cases z
              have hH5 : Holds (FiV K (upd H4 D (.dK (dropK (kT v) (.inr yy))))) (dropK v yy) (dropM m2 yy) := Holds.drop (hH3.imp fun _ _ x => FvV.keep x (k4.trans k5))
              exact ⟨.ref D, rfl, D, rfl, .inl ⟨_, .inl hD4⟩, .str yy, rfl, kT v, .inr yy, v0, hD4, rfl, by rw [valV_kT]; exact a1, dropK v yy, dropM m2 yy, c4, _, rfl, by rw [upd_same, dropK_kT], hH5, hO3.drop, hI3.drop, (fH3.trans f4).mut hD, w4.mut wD, by omega, by push_cast; omega, by rw [upd_ne nD.symm]; exact f4 _ _ nW he3, (k3.trans k4).trans k5⟩
            · obtain ⟨b1, b2, b3, b4, b5, b6, b7, b8, H6, b9, b10⟩ := put f4 w4 (by omega) (by push_cast; omega)
              exact ⟨b1, b2, b3, b4, b5, b6, b7, b8, .ref D, rfl, .str yy, rfl, D, H6, rfl, b9, b10⟩
      · obtain ⟨v, m2, c3, z5', rfl, hDD3, hH3, hO3, hI3, fH3, w3, l3, u3, he3, k3⟩ := I
        rw [List.length_map, List.length_map] at u3
        refine ⟨he3, v, m2, c3, _, _, _, rfl, by rw [upd_ne nD]; exact hDD3, hH3.imp fun _ _ x => FvV.keep x (TupKeep.at fun xs z => by rw [he3] at z; cases z), hO3, hI3, fH3.mut (by
          cases hc : H e2 with
          | none => rfl
          | some o => rw [fH _ _ nW hc] at ne2; cases ne2), w3.mut nW, by omega, by push_cast; omega⟩
    · obtain ⟨u, m', c', z3, z4, z5, rfl, hDD, hH, hO, hI, fH, w', l', u'⟩ := I
      rw [List.length_map, List.length_range] at u'
      exact ⟨_, rfl, q D H' c' m' hD fH w' l' (by omega) ⟨⟨u, hDD, hH, hO⟩, hI⟩⟩
end

end Fk

set_option maxHeartbeats 4000000
namespace Fk
open PySem PySem.Spec PyProof.Rows L2
theorem notInK {X : Cx} {K : PySem.W.Frag} (h : X.K = K) : OpR X (compareOp .NotIn) (rIn K true) := h ▸ op_notIn_seq
/-- the places whose text stands nowhere ahead -/
def newP (qs : List Str) (k : Nat) : Bool := !inV (V.str (qs.getD k "")) (cutV (qs.map V.str) none (some (0 + (k : Int))))
def uniqF (qs : List Str) (n : Nat) : List Str := ((List.range n).filter (newP qs)).map fun k => qs.getD k ""
theorem newP_no {qs : List Str} {a b : Nat} (hab : a < b) (hb : b < qs.length) (p : newP qs b = true) : qs.getD a "" ≠ qs.getD b "" := fun e => by
  unfold newP at p
  have c : inV (V.str (qs.getD b "")) (cutV (qs.map V.str) none (some (0 + (b : Int)))) = true := by
    rw [show (0 : Int) + (b : Int) = ((b : Nat) : Int) by omega, cutV_to]
    unfold inV
    rw [List.any_eq_true]
    refine ⟨.str (qs.getD a ""), List.mem_map.mpr ⟨qs.getD a "", ?_, rfl⟩, ?_⟩
    · rw [List.getD_eq_getElem?_getD, List.getElem?_eq_getElem (by omega)]
      exact List.mem_iff_getElem.mpr ⟨a, by rw [List.length_take]; omega, by rw [List.getElem_take]; rfl⟩
    · rw [e]
      show (qs.getD b "" == qs.getD b "") = true
      exact beq_self_eq_true _
  rw [c] at p
  cases p
theorem uniq_nd (qs : List Str) : (uniqF qs qs.length).Nodup := by
  refine List.pairwise_map.mpr (List.pairwise_filter.mpr ((List.pairwise_lt_range).imp_of_mem fun {a b} ha hb hlt pa pb => ?_))
  exact newP_no hlt (List.mem_range.mp hb) pb
theorem uniq_mem {qs : List Str} {x : Str} (h : x ∈ uniqF qs qs.length) : x ∈ qs := by
  obtain ⟨k, hk, rfl⟩ := List.mem_map.mp h
  have := List.mem_range.mp (List.mem_filter.mp hk).1
  rw [List.getD_eq_getElem?_getD, List.getElem?_eq_getElem this]
  exact List.getElem_mem this
theorem uniq_all (qs : List Str) : ∀ k, k < qs.length → qs.getD k "" ∈ uniqF qs qs.length := by
  intro k
  induction k using Nat.strongRecOn with
  | ind k ih =>
    intro hk
    cases c : newP qs k with
    | true => exact List.mem_map.mpr ⟨k, List.mem_filter.mpr ⟨List.mem_range.mpr hk, c⟩, rfl⟩
    | false =>
      unfold newP at c
      rw [Bool.not_eq_false', show (0 : Int) + (k : Int) = ((k : Nat) : Int) by omega, cutV_to] at c
      unfold inV at c
      rw [List.any_eq_true] at c
      obtain ⟨v, hv, e⟩ := c
      obtain ⟨y, hy, rfl⟩ := List.mem_map.mp hv
      have e : y = qs.getD k "" := eq_of_beq (show (y == qs.getD k "") = true from e)
      obtain ⟨j, hj, e2⟩ := List.mem_iff_getElem.mp hy
      rw [List.length_take] at hj
      rw [List.getElem_take] at e2
      have e3 : qs.getD j "" = y := by rw [List.getD_eq_getElem?_getD, List.getElem?_eq_getElem (by omega), e2]; rfl
      have := ih j (by omega) (by omega)
      rw [e3, e] at this
      exact this
theorem uniq_iff {qs : List Str} {x : Str} : x ∈ uniqF qs qs.length ↔ x ∈ qs := by
  refine ⟨uniq_mem, fun h => ?_⟩
  obtain ⟨k, hk, rfl⟩ := List.mem_iff_getElem.mp h
  have := uniq_all qs k hk
  rw [List.getD_eq_getElem?_getD, List.getElem?_eq_getElem hk] at this
  exact this
section
variable {P : Program} {w : World} {K : PySem.W.Frag} {mg : Str → Option Value} {base : Heap} {fk iF cP : Addr}
def spClash : Sp := fun vs H Q _ => ∃ (e : Addr) (t : Tab), vs = [.ref e] ∧ H e = some (.dK (kT t)) ∧ Nd t ∧ t.length ≤ 40 ∧ (∀ x ∈ t.map (·.1), PathOk x) ∧
  ∀ ys p H', ys.Nodup → sortedS ys = true → ys.length ≤ t.length → (∀ x, x ∈ ys ↔ crossF (t.map (·.1)) x) → H p = none → Same H H' → H' p = some (.lst (ys.map V.str)) → Q (.ref p) H'
theorem c_l_clashes (T : TopG K mg fk cP iF) : C8.Cal P w K mg base 1 "_law_clashes" spClash [] := by
  refine cal_of T.d_l_clashes sc_l_clashes (fun _ _ _ _ _ _ us hl => match us, hl with | [_], _ => rfl) (fun vs H Q E h => ?_) (fun fa cdv A outer s H vs Q E hr h => ?_)
  · obtain ⟨e, t, rfl, _⟩ := h
    rfl
  · obtain ⟨e, t, rfl, he, nd, hl, hp, q⟩ := h
    refine ⟨_, (pss_cons (ps_set (i := 1) sc_l_clashes.nd rfl (Or.inr rfl) (pe_lst pa_nil))
      (pss_cons (ps_lock (ps_for PassesOwn.never rfl (pi_keys (pv 0)) (pg_name (i := 2) sc_l_clashes.nd rfl (Or.inl rfl))
      (pss_one (ps_for PassesOwn.never rfl (pi_keys (pv 0)) (pg_name (i := 3) sc_l_clashes.nd rfl (Or.inl rfl))
      (pss_one (ps_if (pt_val (pe_bm PySem.F.plainAttrs_str PySem.F.slot_str_startswith PySem.F.type_str_startswith mt_startswith (pv 3) (pa_cons (pe_op op_add_str (pv 2) pe_str) pa_nil)))
      (pss_one (ps_set (i := 1) sc_l_clashes.nd rfl (Or.inr rfl) (pe_op op_cat (pv 1) (pe_lst (pa_cons (pv 2) (pa_cons (pv 3) pa_nil))))))
      pss_nil))))))
      (pss_one (ps_ret (pe_callB (cr_sortedS) (by rfl) T.z_sorted (by decide +kernel) (pa_cons (pe_lc (own := [("_law_k", 4)]) (g := gName 4) (by rfl) sc_l_clashes.nd (pi_range1 (by rfl) T.z_range (pa_cons (pe_callB call_len_seq (by rfl) T.z_len (by decide +kernel) (pa_cons (pv 1) pa_nil)) pa_nil)) (blkOk_by (own := [("_law_k", 4)]) (N := ["_law_files", "_law_found", "_law_path", "_law_other", "_law_k"]) (sc := C8.fnScope s_l_clashes) (by decide +kernel)) (fun _ _ _ _ _ => (pg_name (i := 4) sc_l_clashes.nd rfl (Or.inl rfl))) (fun _ _ _ _ _ => pts_one (pt_cmpR (notInK (K := K) rfl) (pe_ix (ixK_list (K := K) rfl) (pv 1) (pv 4) (fun _ _ => rfl)) (pe_slice (slK_list (K := K) rfl) (pv 1) po_none (po_some (pv 4))) rfl)) (fun _ _ _ _ _ => (pe_ix (ixK_list (K := K) rfl) (pv 1) (pv 4) (fun _ _ => rfl)))) pa_nil)))))), ?_⟩
    refine ⟨(by show 0 ≤ sizeLine; decide), fun b0 n0 => ?_⟩
    have s0 := same_new (o := .lst []) n0
    have h0 := upd_same (H := H) (a := b0) (o := .lst [])
    generalize upd H b0 (.lst []) = H0 at s0 h0
    have he0 := s0 _ _ he
    generalize hks : t.map (·.1) = ks at *
    have lks : ks.length = t.length := by rw [← hks, List.length_map]
    refine ⟨e, _, he0, trivial, fun od => ⟨.ref e, rfl, e, od, rfl, .inl ⟨kT t, upd_same, ?_⟩⟩⟩
    have Y : Yields (Itk e od (kT t)) (ks.map V.str) (fun H => H e = some (.frz od (.dK (kT t)))) := by
      rw [← hks, ← kV_kT]
      exact yields_keys
    have heL := upd_same (H := H0) (a := e) (o := .frz od (.dK (kT t)))
    have nb0 : b0 ≠ e := fun z => by rw [z, he0] at h0; cases h0
    have h0L : (upd H0 e (.frz od (.dK (kT t)))) b0 = some (.lst []) := by rw [upd_ne nb0]; exact h0
    have sU : ∀ {H2 : Hp}, Same (upd H0 e (.frz od (.dK (kT t)))) H2 → Same H0 (upd H2 e (.dK (kT t))) := fun s => same_unlock s he0
    generalize upd H0 e (.frz od (.dK (kT t))) = HL at heL h0L sU
    let pr : List Str → Str → Prop := fun ys x => ∃ y ∈ ys, ∃ z ∈ ks, Txt.startswith z (y ++ ("/" : Str)) = true ∧ (x = y ∨ x = z)
    refine forG Y (fun i σ H' => ∃ (b : Addr) (qs : List Str) (z2 z3 : Option V), σ = [some (.ref e), some (.ref b), z2, z3, none] ∧ H' b = some (.lst (qs.map V.str)) ∧ Same HL H' ∧ qs.length ≤ 80 * i ∧ ∀ x, x ∈ qs ↔ pr (ks.take i) x)
      ⟨b0, [], none, none, rfl, h0L, Same.refl HL, Nat.zero_le _, fun x => ⟨(fun z => nomatch z), fun ⟨y, hy, _⟩ => by simp at hy⟩⟩ (fun i σ H' I => I.choose_spec.choose_spec.choose_spec.choose_spec.2.2.1 _ _ heL) (fun i x σ H' hx I => ?_) (fun σ H' I => ?_)
    · obtain ⟨b, qs, z2, z3, rfl, hb, s1, lq, hq⟩ := I
      rw [List.getElem?_map] at hx
      cases hy : ks[i]? with
      | none => rw [hy] at hx; cases hx
      | some y =>
        rw [hy] at hx
        cases hx
        have hi := (List.getElem?_eq_some_iff.mp hy).1
        have etk : ks.take (i + 1) = ks.take i ++ [y] := by
          rw [List.take_add_one, hy]
          rfl
        refine ⟨.ref e, rfl, e, od, rfl, .inl ⟨kT t, s1 _ _ heL, ?_⟩⟩
        refine forG Y (fun j σ H2 => ∃ (b : Addr) (qs : List Str) (z3 : Option V), σ = [some (.ref e), some (.ref b), some (.str y), z3, none] ∧ H2 b = some (.lst (qs.map V.str)) ∧ Same HL H2 ∧ qs.length ≤ 80 * i + 2 * j ∧ ∀ x, x ∈ qs ↔ (pr (ks.take i) x ∨ ∃ z ∈ ks.take j, Txt.startswith z (y ++ ("/" : Str)) = true ∧ (x = y ∨ x = z)))
          ⟨b, qs, z3, rfl, hb, s1, by omega, fun x => by rw [hq x]; exact ⟨.inl, fun z => z.elim id fun ⟨p, hp, _⟩ => by simp at hp⟩⟩ (fun j σ H2 I => I.choose_spec.choose_spec.choose_spec.2.2.1 _ _ heL) (fun j x σ H2 hx I => ?_) (fun σ H2 I => ?_)
        · obtain ⟨b2, q2, z3', rfl, hb2, s2, l2, hq2⟩ := I
          rw [List.getElem?_map] at hx
          cases hz : ks[j]? with
          | none => rw [hz] at hx; cases hx
          | some z =>
            rw [hz] at hx
            cases hx
            have hj := (List.getElem?_eq_some_iff.mp hz).1
            have etj : ks.take (j + 1) = ks.take j ++ [z] := by
              rw [List.take_add_one, hz]
              rfl
            have ly := (hp y (List.mem_of_getElem? hy)).2.1
            have e1 : ("/" : Str).length = 1 := by decide +kernel
            refine ⟨.str z, rfl, rfl, .str y, rfl, y, ("/" : Str), rfl, rfl, small_line (by rw [e1]; omega), z, _, rfl, rfl, _, rfl, ?_⟩
            cases c : Txt.startswith z (y ++ ("/" : Str)) with
            | true =>
              refine iteT ?_
              refine ⟨.ref b2, rfl, .str y, rfl, .str z, rfl, (by show 2 ≤ sizeLine; decide), fun bn nbn => ?_⟩
              have sn := same_new (o := .lst [V.str y, .str z]) nbn
              refine ⟨b2, bn, _, _, rfl, rfl, sn _ _ hb2, upd_same, small_line (by rw [List.length_map]; simp only [List.length_cons, List.length_nil]; omega), fun p np => ?_⟩
              refine ⟨p, q2 ++ [y, z], _, rfl, by rw [upd_same, List.map_append]; rfl, s2.trans (sn.trans (same_new np)), by rw [List.length_append]; simp only [List.length_cons, List.length_nil]; omega, fun x => ?_⟩
              rw [List.mem_append, hq2 x, etj]
              constructor
              · rintro ((h | ⟨z', h1, h2, h3⟩) | h)
                · exact .inl h
                · exact .inr ⟨z', List.mem_append_left _ h1, h2, h3⟩
                · refine .inr ⟨z, List.mem_append_right _ List.mem_cons_self, c, ?_⟩
                  simp only [List.mem_cons, List.not_mem_nil, or_false] at h
                  exact h
              · rintro (h | ⟨z', h1, h2, h3⟩)
                · exact .inl (.inl h)
                · rcases List.mem_append.mp h1 with h1 | h1
                  · exact .inl (.inr ⟨z', h1, h2, h3⟩)
                  · rw [List.mem_singleton.mp h1] at h3
                    refine .inr ?_
                    rcases h3 with rfl | rfl <;> simp
            | false =>
              refine iteF ⟨b2, q2, _, rfl, hb2, s2, by omega, fun x => ?_⟩
              rw [hq2 x, etj]
              constructor
              · rintro (h | ⟨z', h1, h2, h3⟩)
                · exact .inl h
                · exact .inr ⟨z', List.mem_append_left _ h1, h2, h3⟩
              · rintro (h | ⟨z', h1, h2, h3⟩)
                · exact .inl h
                · rcases List.mem_append.mp h1 with h1 | h1
                  · exact .inr ⟨z', h1, h2, h3⟩
                  · rw [List.mem_singleton.mp h1, c] at h2
                    cases h2
        · obtain ⟨b2, q2, z3', rfl, hb2, s2, l2, hq2⟩ := I
          rw [List.length_map] at l2
          rw [List.length_map, List.take_length] at hq2
          refine ⟨b2, q2, _, _, rfl, hb2, s2, by omega, fun x => ?_⟩
          rw [hq2 x, etk]
          constructor
          · rintro (⟨y', h1, h2⟩ | h)
            · exact ⟨y', List.mem_append_left _ h1, h2⟩
            · exact ⟨y, List.mem_append_right _ List.mem_cons_self, h⟩
          · rintro ⟨y', h1, h2⟩
            rcases List.mem_append.mp h1 with h1 | h1
            · exact .inl ⟨y', h1, h2⟩
            · rw [List.mem_singleton.mp h1] at h2
              exact .inr h2
    · obtain ⟨b, qs, z2, z3, rfl, hb, s1, lq, hq⟩ := I
      rw [List.length_map, List.take_length] at hq
      rw [List.length_map] at lq
      refine ⟨s1 _ _ heL, ?_⟩
      have s2 := s0.trans (sU s1)
      have nbe : b ≠ e := fun z => by rw [z, s1 _ _ heL] at hb; cases hb
      have hb2 : (upd H' e (.dK (kT t))) b = some (.lst (qs.map V.str)) := by rw [upd_ne nbe]; exact hb
      generalize upd H' e (.dK (kT t)) = H3 at s2 hb2
      have lq2 : qs.length ≤ 3200 := by omega
      refine ⟨.ref b, rfl, b, qs.map V.str, rfl, .inl (.inl (.inl hb2)), _, rfl, by rw [List.length_map]; omega, by rw [List.length_map]; omega, fun D hD => ?_⟩
      have eny : (((qs.map V.str).length : Nat) : Int).toNat = qs.length := by rw [List.length_map]; omega
      have atk : ∀ k, k < qs.length → atI (qs.map V.str) (0 + (k : Int)) = some (.str (qs.getD k "")) := fun k hk => by
        rw [show (0 : Int) + (k : Int) = ((k : Nat) : Int) by omega]
        exact atI_nat (by rw [List.getElem?_map, List.getElem?_eq_getElem hk, List.getD_eq_getElem?_getD, List.getElem?_eq_getElem hk]; rfl)
      refine lc_pure (i := 4) (us := List.range (((qs.map V.str).length : Nat) : Int).toNat) (g := fun (k : Nat) => V.int (0 + (k : Int))) yields_range (fun k => V.str (qs.getD k "")) (newP qs) hD (fun _ _ => trivial) (fun H6 u s hu R r => ?_) (fun H6 u s hu _ R r => ?_) (by rw [List.length_range]; omega) (fun H6 s6 h6 => ?_)
      · have hu := List.mem_range.mp hu
        rw [eny] at hu
        have hA5 := s _ _ hb2
        refine ⟨.ref b, rfl, .int (0 + (u : Int)), rfl, b, _, 0 + (u : Int), _, rfl, rfl, SqL.of hA5, atk u hu, .ref b, rfl, .int (0 + (u : Int)), rfl, _, rfl, b, _, rfl, SqL.of hA5, fun p' hp' => ⟨p', _, rfl, .inl (SqL.of upd_same), rfl, ?_, _, rfl, r _ (same_new hp')⟩⟩
        rw [show (0 : Int) + (u : Int) = ((u : Nat) : Int) by omega, cutV_to]
        exact flat_strs _
      · have hu := List.mem_range.mp hu
        rw [eny] at hu
        exact ⟨.ref b, rfl, .int (0 + (u : Int)), rfl, b, _, 0 + (u : Int), _, rfl, rfl, SqL.of (s _ _ hb2), atk u hu, r H6 (Same.refl H6)⟩
      · rw [eny, show ((List.range qs.length).filter (newP qs)).map (fun k => V.str (qs.getD k "")) = (uniqF qs qs.length).map V.str by unfold uniqF; rw [List.map_map]; rfl] at h6
        have sub : ∀ x ∈ uniqF qs qs.length, x ∈ ks := fun x hx => by
          obtain ⟨y, hy, z, hz, _, e1⟩ := (hq x).mp (uniq_iff.mp hx)
          exact e1.elim (fun e1 => by rw [e1]; exact hy) fun e1 => by rw [e1]; exact hz
        have lu := len_of_sub (uniq_nd qs) sub
        refine ⟨D, uniqF qs qs.length, rfl, SqL.of h6, by omega, fun ys p hpm hsy np => ?_⟩
        refine q ys p _ (hpm.nodup_iff.mpr (uniq_nd qs)) hsy (by rw [hpm.length_eq]; omega) (fun x => ?_) ((s2.trans s6).free np) ((s2.trans s6).trans (same_new np)) upd_same
        rw [hpm.mem_iff, uniq_iff, hq x]
        unfold crossF
        constructor
        · rintro ⟨y, hy, z, hz, c, e1⟩
          rcases e1 with rfl | rfl
          · exact ⟨hy, z, hz, .inl c⟩
          · exact ⟨hz, y, hy, .inr c⟩
        · rintro ⟨hx, y, hy, c | c⟩
          · exact ⟨x, hx, y, hy, c, .inl rfl⟩
          · exact ⟨y, hy, x, hx, c, .inr rfl⟩
end

end Fk

set_option maxHeartbeats 4000000
/-! A list of new pairs, over things that are new at each turn. -/
namespace Fk
open PySem PySem.Spec PyProof.Rows L2
section
variable {α β : Type} {J : It} {us : List α} {G : Hp → Prop} {H1 : Hp} {D : Addr} {σ : L2.St} {vs : List Nat} {g : TG} {tt : TT} {te : TE} {Q : Hp → Prop}
theorem lc_pairsS (hgo : ∀ k H, G H → k < us.length → J.go k H) (hstop : ∀ H, G H → J.stop us.length H) (kf : α → Str) (R : Hp → V → β → Prop) (rf : α → β) (p : α → Bool) (σf : α → L2.St) (hD1 : H1 D = none) (hG : ∀ H, Same H1 H → G H) (hw : ∀ u ∈ us, wipe (σf u) vs = wipe σ vs)
    (hg : ∀ k H u x H', Same H1 H → us[k]? = some u → J.yld k H x H' → Same H H' ∧ ∀ (S : L2.St → Hp → Prop), S (σf u) H' → g x (wipe σ vs) H' S)
    (ht : ∀ H u, Same H1 H → u ∈ us → ∀ (S : Bool → Hp → Prop), (∀ H3, Same H H3 → S (p u) H3) → tt (σf u) H S)
    (mono : ∀ H H' v r, TupKeep H H' → R H v r → R H' v r)
    (he : ∀ H u, Same H1 H → u ∈ us → p u = true → ∀ (S : VK), (∀ a v H3, Same H H3 → H3 a = some (.tup [.str (kf u), v]) → R H3 v (rf u) → S (.ref a) H3) → te (σf u) H S)
    (hl : us.length ≤ 1000000) (hd : ∀ as H, Same H1 H → H D = some (.lst (as.map V.ref)) → Paired (fun (a : Addr) u => ∃ v, H a = some (.tup [.str (kf u), v]) ∧ R H v (rf u)) as (us.filter p) → Q H) :
    ∃ W : Nat → Nat → Hp → Prop, (∃ m, W 0 m (upd H1 D (.lst []))) ∧ ∀ k m H, W k m H →
      (J.stop k H ∧ Q H) ∨ (J.go k H ∧ ∃ Nx : Hp → Prop, (∀ H', Nx H' → ∃ m', m' < m ∧ W (k + 1) m' H') ∧ ∀ x H', J.yld k H x H' → g x (wipe σ vs) H' fun σ2 H2 => wipe σ2 vs = wipe σ vs ∧ tt σ2 H2 fun b H3 =>
        if b = true then te σ2 H3 fun y H4 => ∃ acc, H4 D = some (.lst acc) ∧ acc.length < sizeLine ∧ Nx (upd H4 D (.lst (acc ++ [y]))) else Nx H3) := by
  let In : Nat → Hp → Prop := fun k H => Same H1 H ∧ ∃ as : List Addr, H D = some (.lst (as.map V.ref)) ∧ as.length ≤ k ∧ Paired (fun (a : Addr) u => ∃ v, H a = some (.tup [.str (kf u), v]) ∧ R H v (rf u)) as ((us.take k).filter p)
  refine ⟨fun k m H => m = us.length - k ∧ k ≤ us.length ∧ In k H, ⟨us.length, rfl, Nat.zero_le _, same_new hD1, [], upd_same, Nat.zero_le _, .nil⟩, ?_⟩
  rintro k m H ⟨rfl, hk', sm, as, hD, las, pr⟩
  by_cases hlt : k < us.length
  · refine .inr ⟨hgo k H (hG _ sm) hlt, In (k + 1), fun H' q => ⟨us.length - (k + 1), by omega, rfl, hlt, q⟩, fun x H' y => ?_⟩
    obtain ⟨u, hu⟩ : ∃ u, us[k]? = some u := ⟨us[k], List.getElem?_eq_getElem hlt⟩
    have hm : u ∈ us := List.mem_of_getElem? hu
    have et : us.take (k + 1) = us.take k ++ [u] := by
      rw [List.take_add_one, hu]
      rfl
    obtain ⟨s0, gg⟩ := hg k H u x H' sm hu y
    refine gg _ ⟨hw u hm, ht H' u (sm.trans s0) hm _ fun H3 s3 => ?_⟩
    have s03 := s0.trans s3
    by_cases hp : p u = true
    · rw [if_pos hp]
      refine he H3 u (sm.trans s03) hm hp _ fun a v H4 s4 h4 rv => ?_
      have s34 := s03.trans s4
      have hD4 := s34 _ _ hD
      have k1 : TupKeep H4 (upd H4 D (.lst (as.map V.ref ++ [V.ref a]))) := TupKeep.at fun xs z => by rw [hD4] at z; cases z
      have k2 : TupKeep H (upd H4 D (.lst (as.map V.ref ++ [V.ref a]))) := (TupKeep.of s34).trans k1
      refine ⟨_, hD4, small_lt (by rw [List.length_map]; omega), same_mut (sm.trans s34) hD1, as ++ [a], by rw [upd_same, List.map_append]; rfl, by rw [List.length_append]; show _ + 1 ≤ _; omega, ?_⟩
      rw [et, List.filter_append, List.filter_cons, hp]
      exact paired_snoc' ⟨v, k1 _ _ h4, mono _ _ _ _ k1 rv⟩ (Paired.mapP pr fun e w ⟨z, a, b⟩ => ⟨z, k2 _ _ a, mono _ _ _ _ k2 b⟩)
    · rw [if_neg hp]
      refine ⟨sm.trans s03, as, s03 _ _ hD, by omega, ?_⟩
      rw [et, List.filter_append, List.filter_cons, if_neg hp]
      simp only [List.filter_nil, List.append_nil]
      exact Paired.mapP pr fun e w ⟨z, a, b⟩ => ⟨z, TupKeep.of s03 _ _ a, mono _ _ _ _ (TupKeep.of s03) b⟩
  · have e : k = us.length := by omega
    subst e
    rw [List.take_length] at pr
    exact .inl ⟨hstop H (hG _ sm), hd as H sm hD pr⟩
end
end Fk

set_option maxHeartbeats 4000000
/-! sum(lists, list); d.update(e). -/
namespace Fk
open PySem PySem.Spec PyProof.Rows L2
theorem mt_update {X : Cx} : MtR X "dict.update" (fun x xs H Q => ∃ (a b : Addr) (kvs more : List (Key × V)), x = .ref a ∧ xs = [.ref b] ∧ a ≠ b ∧ H a = some (.dK kvs) ∧ H b = some (.dK more) ∧ kvs.length + more.length ≤ sizeLine ∧ Q .non (upd H a (.dK (mergeK kvs more)))) := by
  intro pins s σ H x xs v us Q I rx rxs h
  obtain ⟨a, b, kvs, more, rfl, rfl, ne, ha, hb, hl, q⟩ := h
  cases rx
  cases Vals.ref1 rxs
  obtain ⟨z1, hd1, vs1, r1, d1⟩ := dk_of I.hok ha
  obtain ⟨z2, hd2, vs2, r2, d2⟩ := dk_of I.hok hb
  refine call_meetsIn PySem.F.slot_dict_update d1.typeIs PySem.F.entry_dict_update (PySem.F.args_dict_update_2 _ _) (meets_dict_update (mixKind X.prog X.w) a b ne hd2) ⟨vs1, vs2, d1, d2, by rw [← r1.length, ← r2.length]; exact hl, fun h' e1 e2 sb => ?_⟩
  have he : ∃ q, h'.get? a = some q := let ⟨q, _, _, hq, _⟩ := e1; ⟨q, hq⟩
  refine ⟨.non, _, d_write I (by rw [ha]; exact True.intro) sb he (dk_new ?_ hd1 (r2.merge r1) e1), rfl, q⟩
  have := length_mergeK more kvs
  omega
def lstO (its : List Value) (n : Nat) : Obj := { cls := .type "list", data := .seq its.toArray n }
section
variable {prog : Program} {w : World} {A : Around} {R : Result → Shared → Prop} {I : Addr} {fp wr : List Addr} {G : Array GenState → Array GenState → Prop} {P : Nat → Value → Prop} {St : Nat → Shared → Prop}
theorem sum_loopL {ls : List (List Value)} {x0 : List Value} (H0 : Heap) (W : WalksS prog w A.in1 I fp wr G ls.length P St) (S : Addr) (hSf : S ∉ fp) (hwS : ∀ b ∈ wr, b < S) (h0S : H0.objs.size ≤ S) (hw : ∀ b o, H0.get? b = some o → b ∉ wr)
    (hval : ∀ i v, P i v → ∃ (l : Addr) (its : List Value) (n : Nat), v = .ref l ∧ ls[i]? = some its ∧ H0.get? l = some (lstO its n)) (q0 : Addr) (hz : (x0 ++ ls.flatten).length ≤ sizeLine) :
    ∀ (k i : Nat) (s : Shared) (q : Addr) (n c : Nat), ls.length - i = k → i ≤ ls.length → St i s → (∀ b o, H0.get? b = some o → s.heap.get? b = some o) → s.heap.get? S = some { cls := .type "list", dict := none, data := .seq #[.ref q] c, slots := #[] } →
    s.heap.get? q = some (lstO (x0 ++ (ls.take i).flatten) n) → q ≠ S → q ∉ wr → (q = q0 ∨ H0.objs.size ≤ q) →
    (∀ s' q' n', s'.heap.get? q' = some (lstO (x0 ++ ls.flatten) n') → (q' = q0 ∨ H0.objs.size ≤ q') → Moved (S :: wr) G s s' → R (.ok (.ret (.ref q'))) s') → codeAny (model prog w) A (.builtin "sum.loop" ⟨[.ref I, .ref S, rawInt 2, rawInt 0], []⟩) R s := by
  have hSw : S ∉ wr := fun h => hSf (W.sub _ h)
  have hsub : ∀ b ∈ wr, b ∈ S :: wr := fun b hb => List.mem_cons_of_mem _ hb
  intro k
  induction k with
  | zero =>
    intro i s q n c hk hi hst hH hS hq nq nw ho hR
    have hin : i = ls.length := by omega
    subst hin
    rw [List.take_length] at hq
    refine codeAny_builtin F.entry_sum_loop ?_
    rw [Around.under_plainId F.plain_sum_loop _]
    show wpAny _ A.in1 (seqItems? (.ref S) >>= _) _ _ s
    refine wpAny_bind (wpAny_seqItems hS rfl ?_)
    show wpAny _ A.in1 (tryCatch (pyNext (.ref I)) _ >>= _) _ _ s
    refine wpAny_bind (wpAny_tryCatch (W.done s _ _ hst fun s' hm => ?_))
    exact wpAny_pure (hR s' q n (hm.heap q _ nw hq) ho (hm.mono hsub))
  | succ k ih =>
    intro i s q n c hk hi hst hH hS hq nq nw ho hR
    have hlt : i < ls.length := by omega
    refine codeAny_builtin F.entry_sum_loop ?_
    rw [Around.under_plainId F.plain_sum_loop _]
    show wpAny _ A.in1 (seqItems? (.ref S) >>= _) _ _ s
    refine wpAny_bind (wpAny_seqItems hS rfl ?_)
    show wpAny _ A.in1 (tryCatch (pyNext (.ref I)) _ >>= _) _ _ s
    refine wpAny_bind (wpAny_tryCatch (W.item i s _ _ hlt hst fun v s' hP hst' hm => ?_))
    obtain ⟨l, its, m, rfl, hi2, hl⟩ := hval i v hP
    have hS' := hm.heap S _ hSw hS
    have hq' := hm.heap q _ nw hq
    have hl' := hm.heap l _ (hw l _ hl) (hH l _ hl)
    have etk : (ls.take (i + 1)).flatten = (ls.take i).flatten ++ its := by
      rw [List.take_add_one, hi2, List.flatten_append]
      simp
    have hz2 : (x0 ++ (ls.take i).flatten).length + its.length ≤ sizeLine := by
      have e : ls.flatten = (ls.take (i + 1)).flatten ++ (ls.drop (i + 1)).flatten := by rw [← List.flatten_append, List.take_append_drop]
      rw [e, etk] at hz
      simp only [List.length_append] at hz ⊢
      omega
    refine wpAny_bind (wpAny_attempt (wpAny_holding (PySem.P.add_list hq' hl' ?_ (by simpa using hz2))))
    have ea : (x0 ++ (ls.take i).flatten).toArray ++ its.toArray = (x0 ++ (ls.take (i + 1)).flatten).toArray := by rw [etk]; simp
    rw [ea]
    have hlt2 : S < s'.heap.objs.size := Heap.lt_size hS'
    have hSp := Heap.get?_push_of_some { cls := .type "list", data := .seq (x0 ++ (ls.take (i + 1)).flatten).toArray } hS'
    have hqp : (s'.heap.push { cls := .type "list", data := .seq (x0 ++ (ls.take (i + 1)).flatten).toArray }).get? s'.heap.objs.size = some (lstO (x0 ++ (ls.take (i + 1)).flatten) 0) := Heap.get?_push_size _ rfl
    have hop : ∀ b o, s'.heap.get? b = some o → (s'.heap.push { cls := .type "list", data := .seq (x0 ++ (ls.take (i + 1)).flatten).toArray }).get? b = some o := fun b o e => Heap.get?_push_of_some _ e
    show wpAny _ A.in1 (updateSeq S (fun _ => #[Value.ref s'.heap.objs.size]) >>= _) _ _ _
    generalize (s'.heap.push { cls := .type "list", data := .seq (x0 ++ (ls.take (i + 1)).flatten).toArray }) = hp at hSp hqp hop
    refine wpAny_bind (wpAny_updateSeq hSp rfl ?_)
    have hS₂ := Heap.get?_update_self (Obj.mapSeq fun _ => #[Value.ref s'.heap.objs.size]) hSp rfl
    refine wpAny_bind (wpAny_letGo ?_)
    have up : ∀ b o, S ≠ b → hp.get? b = some o → ((hp.update S (Obj.mapSeq fun _ => #[Value.ref s'.heap.objs.size])).update S (Obj.mapSeq fun _ => #[Value.ref s'.heap.objs.size])).get? b = some o := fun b o n e => (Heap.get?_update_other _ _ n).trans ((Heap.get?_update_other _ _ n).trans e)
    refine wpAny_bind (wpAny_updateSeq hS₂ rfl (wpAny_pure ⟨plainId_quiet F.plain_sum_loop _, ih (i + 1) _ s'.heap.objs.size 0 _ (by omega) hlt (W.frame _ s' _ _ hst' (Nat.le_refl _) fun b hb o e => ?_) (fun b o e => ?_) (Heap.get?_update_self _ hS₂ rfl) (up _ _ (Nat.ne_of_lt hlt2) hqp) (Nat.ne_of_gt hlt2) (fun z => absurd (hwS _ z) (Nat.not_lt_of_lt hlt2)) (.inr (Nat.le_trans h0S (Nat.le_of_lt hlt2))) fun s'' q'' n'' e1 e2 hm'' => hR s'' q'' n'' e1 e2 (Moved.trans W.gtrans ((hm.mono hsub).then_heap (Nat.le_refl _) fun b o hb e => ?_) hm'')⟩))
    · exact up _ _ (fun h => hSf (by rw [h]; exact hb)) (hop _ _ e)
    · have hb : b < H0.objs.size := Heap.lt_size e
      exact up _ _ (Nat.ne_of_gt (Nat.lt_of_lt_of_le hb h0S)) (hop _ _ (hm.heap b _ (hw b _ e) (hH b _ e)))
    · exact up _ _ (fun h => hb (by rw [h]; exact List.mem_cons_self)) (hop _ _ e)
end
theorem args_sum2 (a b : Value) : argsOk "sum" ⟨[a, b], []⟩ := by unfold argsOk; kernel_rfl
section
variable {prog : Program} {w : World} {A : Around} {E : Value → Shared → Prop} {s : Shared} {Q : Value → Shared → Prop}
theorem call_sumL {l b : Addr} {its : List Value} {ls : List (List Value)} {x0 : List Value} {n0 : Nat} (hh : A.handled = none) (hl : s.heap.IsList l its.toArray) (hb : s.heap.get? b = some (lstO x0 n0)) (hlen : its.length = ls.length)
    (hv : ∀ (i : Nat) (v : Value), its[i]? = some v → ∃ (l : Addr) (is : List Value) (n : Nat), v = Value.ref l ∧ ls[i]? = some is ∧ s.heap.get? l = some (lstO is n)) (hz : (x0 ++ ls.flatten).length ≤ sizeLine)
    (h : ∀ h' tk q n, (∀ b o, s.heap.get? b = some o → h'.get? b = some o) → h'.get? q = some (lstO (x0 ++ ls.flatten) n) → (q = b ∨ s.heap.objs.size ≤ q) → Q (.ref q) { s with heap := h', toks := tk }) :
    wpAny (model prog w) A (call (.builtin "sum") [.ref l, .ref b]) Q E s := by
  refine call_function_tree F.kind_sum F.plain_sum F.entry_sum (args_sum2 _ _) ?_
  unfold Builtin.«sum»
  simp only [List.length_cons, List.length_nil]
  rw [if_neg (by decide)]
  refine wpAny_bind (wpAny_of_eq (show Builtin.Builtins.bindParams "sum" ["start"] 0 ⟨[.ref b], []⟩ = pure [some (.ref b)] from rfl) ?_)
  refine wpAny_bind (Flt.iter_list_ hl fun s₂ e st hfp hlI => ?_)
  subst e
  have hb2 : (s.heap.push { cls := .type "list_iterator", data := .fields #[.ref l, .int 0 0] }).get? b = some (lstO x0 n0) := Heap.get?_push_of_some _ hb
  have tb : ∀ {tk : Nat}, ({ s with heap := s.heap.push { cls := .type "list_iterator", data := .fields #[.ref l, .int 0 0] } } : Shared).TypeIs (.ref b) "list" := fun {_} => ⟨_, hb2, rfl⟩
  refine wpAny_bind (wpAny_pure ?_)
  simp only [List.forIn_cons, List.forIn_nil]
  refine wpAny_bind (wpAny_bind (wpAny_bind (wpAny_isInstance (T := "list") (b := false) (tb (tk := 0)) sub_list_str ?_)))
  simp only [Bool.false_eq_true, if_false]
  refine wpAny_pure (wpAny_bind (wpAny_bind (wpAny_isInstance (T := "list") (b := false) (tb (tk := 0)) F.sub_list_bytes ?_)))
  simp only [Bool.false_eq_true, if_false]
  refine wpAny_pure (wpAny_bind (wpAny_bind (wpAny_isInstance (T := "list") (b := false) (tb (tk := 0)) F.sub_list_bytearray ?_)))
  simp only [Bool.false_eq_true, if_false]
  refine wpAny_pure (wpAny_pure ?_)
  refine wpAny_bind (wpAny_newObj_type ?_)
  have W := (Walks.list (prog := prog) (w := w) (A := A.in1) hh _ l hlI its.toArray).toS
  have hlen : its.toArray.size = ls.length := by simpa using hlen
  rw [hlen] at W
  have sz : (s.heap.push { cls := .type "list_iterator", data := .fields #[.ref l, .int 0 0] }).objs.size = s.heap.objs.size + 1 := Heap.size_push _ _
  have bs := Heap.lt_size hb
  refine wpAny_pure ⟨plainId_quiet F.plain_sum_loop _, sum_loopL s.heap W (s.heap.push { cls := .type "list_iterator", data := .fields #[.ref l, .int 0 0] }).objs.size (fun hm => Nat.lt_irrefl _ (hfp _ hm)) (fun b hb => ?_) (by rw [sz]; exact Nat.le_succ _) (fun b o e hb => ?_) (fun i v hP => hv i v (by simpa using hP)) b hz ls.length 0 _ b n0 _ rfl (Nat.zero_le _)
    (W.frame 0 { s with heap := s.heap.push { cls := .type "list_iterator", data := .fields #[.ref l, .int 0 0] } } _ _ st (by first | exact Nat.le_refl _ | exact Nat.le_succ _ | omega) fun b _ o e => Heap.get?_push_of_some _ e) (fun c o e => Heap.get?_push_of_some _ (Heap.get?_push_of_some _ e)) (Heap.get?_push_size _ rfl) ?_ (by rw [sz]; exact Nat.ne_of_lt (Nat.lt_succ_of_lt bs)) (fun hb => ?_) (.inl rfl) fun s' q n e1 e2 hm => ?_⟩
  · rw [List.mem_singleton.mp hb, sz]
    exact Nat.lt_succ_self _
  · rw [List.mem_singleton.mp hb] at e
    exact Nat.lt_irrefl _ (Heap.lt_size e)
  · rw [List.take_zero, List.flatten_nil, List.append_nil]
    exact Heap.get?_push_of_some _ hb2
  · rw [List.mem_singleton.mp hb] at bs
    exact Nat.lt_irrefl _ bs
  · obtain ⟨hp, g, d, tk, os⟩ := s'
    have a1 : g = s.gens := hm.gens
    have a2 : d = s.drawn := hm.drawn
    have a3 : os = s.os := hm.os
    subst a1 a2 a3
    refine h hp tk q n (fun c o e => ?_) e1 e2
    have hc := Heap.lt_size e
    refine hm.heap c o (fun z => ?_) (Heap.get?_push_of_some _ (Heap.get?_push_of_some _ e))
    simp only [List.mem_cons, List.not_mem_nil, or_false] at z
    rcases z with z | z
    · rw [z, sz] at hc
      exact absurd hc (Nat.not_lt_of_le (Nat.le_succ _))
    · rw [z] at hc
      exact Nat.lt_irrefl _ hc
end
/-- the values of some lists -/
theorem lists_at {X : Cx} {pins : List (Addr × Obj)} {σ : L2.St} {H : Hp} {s : Shared} (I : Inv X pins σ H s) : ∀ (as : List Addr) (ls : List (List V)), as.length = ls.length → (∀ (i : Nat) (l : Addr) (xs : List V), as[i]? = some l → ls[i]? = some xs → H l = some (.lst xs)) →
    ∃ vs : List (List Value), vs.length = ls.length ∧ Vals ls.flatten vs.flatten ∧ ∀ (i : Nat) (l : Addr), as[i]? = some l → ∃ (is : List Value) (n : Nat), vs[i]? = some is ∧ s.heap.get? l = some (lstO is n)
  | [], [], _, _ => ⟨[], rfl, .nil, fun i l h => by simp at h⟩
  | [], _ :: _, h, _ => by simp at h
  | _ :: _, [], h, _ => by simp at h
  | a :: as, xs :: ls, h, g => by
    obtain ⟨vs, h1, h2, h3⟩ := lists_at I as ls (by simpa using h) fun i l ys h1 h2 => g (i + 1) l ys (by simpa using h1) (by simpa using h2)
    obtain ⟨z, its, n, r, _, e⟩ := I.lstM (g 0 a xs rfl rfl)
    refine ⟨its :: vs, by simp [h1], by rw [List.flatten_cons, List.flatten_cons]; exact r.append h2, fun i l hi => ?_⟩
    cases i with
    | zero =>
      simp only [List.getElem?_cons_zero, Option.some.injEq] at hi
      subst hi
      exact ⟨its, n, rfl, e⟩
    | succ i =>
      obtain ⟨is, m, e1, e2⟩ := h3 i l (by simpa using hi)
      exact ⟨is, m, by simpa using e1, e2⟩
def rSumL (K : PySem.W.Frag) : List V → Hp → VK → Prop := fun vs H Q => ∃ (a b : Addr) (as : List Addr) (x0 : List V) (ls : List (List V)), vs = [.ref a, .ref b] ∧ SqL K H a (as.map V.ref) ∧ H b = some (.lst x0) ∧ as.length = ls.length ∧
  (∀ (i : Nat) (l : Addr) (xs : List V), as[i]? = some l → ls[i]? = some xs → H l = some (.lst xs)) ∧ (x0 ++ ls.flatten).length ≤ sizeLine ∧ ∀ p H', Same H H' → H' p = some (.lst (x0 ++ ls.flatten)) → (p = b ∨ H p = none) → Q (.ref p) H'
theorem vals_get {vs : List V} {us : List Value} (h : Vals vs us) : ∀ (i : Nat) (u : Value), us[i]? = some u → ∃ v, vs[i]? = some v ∧ RelV v u := by
  induction h with
  | nil => intro i u e; simp at e
  | cons r _ ih =>
    intro i u e
    cases i with
    | zero =>
      simp only [List.getElem?_cons_zero, Option.some.injEq] at e
      subst e
      exact ⟨_, rfl, r⟩
    | succ i => simpa using ih i u (by simpa using e)
theorem cr_sumL {X : Cx} (hc : X.calm = true) : CallR X (.builtin "sum") (rSumL X.K) := by
  intro pins s σ H vs us Q I r h
  obtain ⟨a, b, as, x0, ls, rfl, hs, hb, el, hls, hz, q⟩ := h
  obtain ⟨its, rv, hl, _⟩ := I.list hs
  obtain ⟨z0, its0, n0, r0, _, e0⟩ := I.lstM hb
  obtain ⟨ws, w1, w2, w3⟩ := lists_at I as ls el hls
  obtain ⟨u1, u2, rfl, ru1, ru2⟩ : ∃ u1 u2, us = [u1, u2] ∧ RelV (.ref a) u1 ∧ RelV (.ref b) u2 := by
    cases r with
    | cons r1 r2 =>
      cases r2 with
      | cons r2 r3 =>
        cases r3
        exact ⟨_, _, rfl, r1, r2⟩
  cases (show u1 = Value.ref a from ru1)
  cases (show u2 = Value.ref b from ru2)
  have lw := rv.length
  rw [List.length_map] at lw
  have rall := r0.append w2
  refine call_sumL (ls := ws) (I.ok.hd hc) hl.isList e0 (by omega) (fun i v hv => ?_) (by rw [← rall.length]; exact hz) fun h' tk p n hk hp ho => ?_
  · obtain ⟨y, hy, ry⟩ := vals_get rv i v hv
    rw [List.getElem?_map] at hy
    cases ha : as[i]? with
    | none => rw [ha] at hy; cases hy
    | some l =>
      rw [ha] at hy
      cases hy
      obtain ⟨is, n, e1, e2⟩ := w3 i l ha
      exact ⟨l, is, n, ry, e1, e2⟩
  · rcases ho with rfl | ho
    · have e := hk _ _ e0
      rw [hp] at e
      have ez : ls.flatten = [] := by
        unfold lstO at e
        simp only [Option.some.injEq, Obj.mk.injEq, Data.seq.injEq, true_and, and_true] at e
        have e1 := congrArg Array.size e.1
        simp only [List.size_toArray, List.length_append] at e1
        have := w2.length
        exact List.eq_nil_of_length_eq_zero (by omega)
      exact ⟨.ref p, H, I.kept hk, rfl, q p H (Same.refl H) (by rw [ez, List.append_nil]; exact hb) (.inl rfl)⟩
    · exact ⟨.ref p, _, I.laid (a := p) (o := .lst (x0 ++ ls.flatten)) (t' := tk) (fun b u e => hk b u e) ho ⟨hz, _, n, rall, hp⟩, rfl, q p _ (same_new (I.hok.fresh ho)) upd_same (.inr (I.hok.fresh ho))⟩
end Fk

set_option maxHeartbeats 4000000
/-! xs == []. -/
namespace Fk
open PySem PySem.Spec PyProof.Rows L2
def rEqE : R2 := fun x y H Q => ∃ a b xs, x = .ref a ∧ y = .ref b ∧ H a = some (.lst xs) ∧ H b = some (.lst []) ∧ Q (.bl xs.isEmpty) H
theorem op_eqE {X : Cx} (hu : X.A.units + 64 < cLine) : OpR X (compareOp .Eq) rEqE := by
  intro pins s σ H x y v u Q I rx ry h
  obtain ⟨a, b, xs, rfl, rfl, ha, hb, q⟩ := h
  cases rx
  cases ry
  obtain ⟨z1, its1, n1, r1, l1, e1⟩ := I.lstM ha
  obtain ⟨z2, its2, n2, r2, l2, e2⟩ := I.lstM hb
  have hb0 : its2 = [] := by cases r2; rfl
  subst hb0
  have done : EP X pins σ Q (.bool xs.isEmpty) s := ⟨.bl _, H, I, rfl, q⟩
  cases xs with
  | nil =>
    have h0 : its1 = [] := by cases r1; rfl
    subst h0
    exact SeqAt.RcAt.lists (e := fun _ => true) ⟨_, e1, rfl, _, rfl⟩ ⟨_, e2, rfl, _, rfl⟩ rfl (by omega) (fun j j1 _ => absurd j1 (by simp)) _ _ _ _ done
  | cons c r =>
    obtain ⟨u, us, rfl⟩ : ∃ u us, its1 = u :: us := by cases r1; exact ⟨_, _, rfl⟩
    exact SeqAt.RcAt.lists_lengths ⟨_, e1, rfl, _, rfl⟩ ⟨_, e2, rfl, _, rfl⟩ (by simp) (by omega) _ _ _ _ done
end Fk

set_option maxHeartbeats 4000000
namespace Fk
open PySem PySem.Spec PyProof.Rows L2
theorem val_memE {t : Tab} (nd : Nd t) {p : Str × V} (hp : p ∈ t) : valV t p.1 = some p.2 := by
  induction t with
  | nil => cases hp
  | cons q l ih =>
    obtain ⟨h1, h2⟩ := List.nodup_cons.mp (show ((q :: l).map (·.1)).Nodup from nd)
    rcases List.mem_cons.mp hp with z | z
    · rw [z, show q = (q.1, q.2) from rfl, valV_pos rfl]
    · rw [valV_neg (fun e => h1 (by dsimp only; rw [e]; exact List.mem_map.mpr ⟨p, z, rfl⟩))]
      exact ih h2 z
/-- the rows of a table, one by one -/
theorem inV_strs {x : Str} {ys : List Str} : inV (V.str x) (ys.map V.str) = true ↔ x ∈ ys := by
  unfold inV
  rw [List.any_eq_true]
  constructor
  · rintro ⟨v, hv, e⟩
    obtain ⟨y, hy, rfl⟩ := List.mem_map.mp hv
    have e : y = x := eq_of_beq (show (y == x) = true from e)
    rw [← e]
    exact hy
  · intro h
    exact ⟨.str x, List.mem_map.mpr ⟨x, h, rfl⟩, by show (x == x) = true; exact beq_self_eq_true _⟩
section
variable {P : Program} {w : World} {K : PySem.W.Frag} {mg : Str → Option Value} {base : Heap} {fk iF cP : Addr}
theorem files_pairs {α : Type} {H : Hp} {kf : α → Str} {rf : α → Fi} {g : Mp Fi} {n : Nat} {as : List Addr} {us : List α} (nd : (us.map kf).Nodup) (hg : ∀ u ∈ us, g (kf u) = some (rf u)) (hn : ∀ x, x ∉ us.map kf → g x = none)
    (pr : Paired (fun (a : Addr) u => ∃ v, H a = some (.tup [.str (kf u), v]) ∧ FiV K H v (rf u)) as us) (path : ∀ u ∈ us, PathOk (kf u)) (good : ∀ u ∈ us, GoodP (rf u)) (len : us.length ≤ n) :
    ∃ tab : Tab, Paired (fun p kv => SqT K H p [kV kv.1, kv.2]) as (kT tab) ∧ ∀ p, H p = none → FilesAt K (upd H p (.dK (mergeK [] (kT tab)))) p n g := by
  obtain ⟨tab, p1, p2⟩ := pairs_tab (K := K) pr
  have ek : tab.map (·.1) = us.map kf := paired_keys (R := fun v u => FiV K H v (rf u)) p2
  have ndt : Nd tab := by unfold Nd; rw [ek]; exact nd
  have jH : Holds (FiV K H) tab g := holds_paired p2 nd hg hn
  have em : mergeK [] (kT tab) = kT tab := mergeK_nd [] tab ndt fun x _ z => nomatch z
  refine ⟨tab, p1, fun p np => ⟨tab, by rw [upd_same, em], jH.imp fun _ _ x => FvV.keep x (TupKeep.of (same_new np)), ndt, ?_, fun x hx => ?_, fun x r e => ?_⟩⟩
  · have := congrArg List.length ek
    rw [List.length_map, List.length_map] at this
    omega
  · rw [ek] at hx
    obtain ⟨u, hu, rfl⟩ := List.mem_map.mp hx
    exact path u hu
  · by_cases hx : x ∈ us.map kf
    · obtain ⟨u, hu, rfl⟩ := List.mem_map.mp hx
      rw [hg u hu] at e
      cases e
      exact good u hu
    · rw [hn x hx] at e
      cases e
theorem filt_emptyM {α β : Type} (l : List α) (p : α → Bool) (k : α → β) : ((l.filter p).map k).isEmpty = !(l.any p) := by
  induction l with
  | nil => rfl
  | cons a l ih =>
    rw [List.filter_cons, List.any_cons]
    cases h : p a with
    | true => rfl
    | false =>
      rw [if_neg Bool.false_ne_true, ih, Bool.false_or]
def spDueL (K : PySem.W.Frag) : Sp := fun vs H Q _ => ∃ (B o t : Addr) (us : List (Addr × Mp Fi)) (f g : Mp Fi), vs = [.ref B, .ref o, .ref t] ∧ H B = some (.lst (us.map fun u => V.ref u.1)) ∧ us.length ≤ 20 ∧ (∀ u ∈ us, MenuAt K H u.1 u.2) ∧ MenuAt K H o f ∧ MenuAt K H t g ∧
  ∀ v H', Same H H' → MergV K H' v (clearM (resM (us.map (·.2)) f g)) (ConfM (us.map (·.2)) f g) false → Q v H'
set_option pp.maxSteps 60 in
theorem c_l_due (T : TopG K mg fk cP iF) : C8.Cal P w K mg base 2 "_law_due" (spDueL K) [] := by
  refine cal_of T.d_l_due sc_l_due (fun _ _ _ _ _ _ us hl => match us, hl with | [_, _, _], _ => rfl) (fun vs H Q E h => ?_) (fun fa cdv A outer s H vs Q E hr h => ?_)
  · obtain ⟨B, o, t, us, f, g, rfl, _⟩ := h
    rfl
  · obtain ⟨B, o, t, us, f, g, rfl, hB, hl, hU, hF, hG, q⟩ := h
    refine ⟨_, (pss_cons (ps_set (i := 3) sc_l_due.nd rfl (Or.inl rfl) pe_dnewK)
      (pss_cons (ps_for PassesOwn.never rfl (pi_list (pe_op op_cat (pv 0) (pe_lst (pa_cons (pv 1) (pa_cons (pv 2) pa_nil))))) (pg_name (i := 4) sc_l_due.nd rfl (Or.inl rfl))
      (pss_one (ps_lock (ps_for PassesOwn.never rfl (pi_keys (pv 4)) (pg_name (i := 5) sc_l_due.nd rfl (Or.inr rfl))
      (pss_one (ps_dput (hu_of hr) (pv 3) (pv 5) pe_bl rfl))))))
      (pss_cons (ps_set (i := 6) sc_l_due.nd rfl (Or.inr rfl) pe_dnewK)
      (pss_cons (ps_set (i := 7) sc_l_due.nd rfl (Or.inl rfl) (pe_lst pa_nil))
      (pss_cons (ps_for PassesOwn.never rfl (pi_list (pe_callB (call_sortedD (by rfl)) (by rfl) T.z_sorted (by decide +kernel) (pa_cons (pv 3) pa_nil))) (pg_name (i := 5) sc_l_due.nd rfl (Or.inr rfl))
      (pss_cons (ps_par (i := 8) (j := 9) rfl sc_l_due.nd rfl rfl (by decide) rfl rfl (pa_cons (pe_dget1 (hu_of hr) (pv 1) (pv 5) ⟨rfl, rfl, rfl, rfl⟩) (pa_cons (pe_dget1 (hu_of hr) (pv 2) (pv 5) ⟨rfl, rfl, rfl, rfl⟩) pa_nil)) rfl)
      (pss_cons (ps_setLc (i := 10) (own := [("_law_files", 4)]) (g := gName 4) (by rfl) sc_l_due.nd rfl rfl (sw_true rfl rfl rfl (by decide +kernel)) (pi_list (pv 0)) (blkOk_by (own := [("_law_files", 4)]) (N := ["_law_bases", "_law_ours", "_law_theirs", "_law_every", "_law_files", "_law_path", "_law_found", "_law_conflicts", "_law_left", "_law_right", "_law_values", "_law_base", "_law_agreed", "_law_value", "_law_bad"]) (sc := C8.fnScope s_l_due) (by decide +kernel)) (fun _ _ _ _ _ => (pg_name (i := 4) sc_l_due.nd rfl (Or.inl rfl))) (fun _ _ _ _ _ => pts_nil) (fun _ _ _ _ _ => (pe_dget1 (hu_of hr) (pv 4) (pv 5) ⟨rfl, rfl, rfl, rfl⟩)))
      (C8.pss_cut (ps_set (i := 11) sc_l_due.nd rfl (Or.inr rfl) (pe_ix ix_list (pe_op op_cat (pv 10) (pe_lst (pa_cons pe_non pa_nil))) pe_int (fun _ _ => rfl)))
      (pss_cons (ps_set (i := 12) sc_l_due.nd rfl (Or.inl rfl) (pe_cmpR (op_eqE hr.units) (pe_lc (own := [("_law_value", 13)]) (g := gName 13) (by rfl) sc_l_due.nd (pi_list (pv 10)) (blkOk_by (own := [("_law_value", 13)]) (N := ["_law_bases", "_law_ours", "_law_theirs", "_law_every", "_law_files", "_law_path", "_law_found", "_law_conflicts", "_law_left", "_law_right", "_law_values", "_law_base", "_law_agreed", "_law_value", "_law_bad"]) (sc := C8.fnScope s_l_due) (by decide +kernel)) (fun _ _ _ _ _ => (pg_name (i := 13) sc_l_due.nd rfl (Or.inl rfl))) (fun _ _ _ _ _ => pts_one (pt_cmpR (op_neFv (K := K) rfl hr.units) (pv 13) (pv 11) (nomark _))) (fun _ _ _ _ _ => (pv 13))) (pe_lst pa_nil) (nomark _)))
      (pss_one (ps_if (pt_cmpR (op_eqFv (K := K) rfl hr.units) (pv 8) (pv 9) (nomark _))
      (pss_one (ps_dput (hu_of hr) (pv 6) (pv 5) (pv 8) rfl))
      (pss_one (ps_if (PW.pt (pw_and (pt_val (pv 12)) (pw_and1 (pt_cmpR (op_eqFv (K := K) rfl hr.units) (pv 11) (pv 8) (nomark _)))))
      (pss_one (ps_dput (hu_of hr) (pv 6) (pv 5) (pv 9) rfl))
      (pss_one (ps_if (PW.pt (pw_and (pt_val (pv 12)) (pw_and1 (pt_cmpR (op_eqFv (K := K) rfl hr.units) (pv 11) (pv 9) (nomark _)))))
      (pss_one (ps_dput (hu_of hr) (pv 6) (pv 5) (pv 8) rfl))
      (pss_one (ps_expr (pe_bm PySem.F.plainAttrs_list PySem.F.slot_list_append PySem.F.type_list_append mt_append (pv 7) (pa_cons (pv 5) pa_nil)))))))))))))))
      (pss_cons (ps_set (i := 6) sc_l_due.nd rfl (Or.inr rfl) (pe_callTy (call_dictP rfl) (by rfl) T.z_dict (by decide +kernel) (pa_cons (pe_lock (pe_lc (own := [("_law_path", 5), ("_law_value", 13)]) (g := _) (by rfl) sc_l_due.nd (pi_items (pv 6)) (blkOk_by (own := [("_law_path", 5), ("_law_value", 13)]) (N := ["_law_bases", "_law_ours", "_law_theirs", "_law_every", "_law_files", "_law_path", "_law_found", "_law_conflicts", "_law_left", "_law_right", "_law_values", "_law_base", "_law_agreed", "_law_value", "_law_bad"]) (sc := C8.fnScope s_l_due) (by decide +kernel)) (fun _ _ _ _ _ => (pg_tupK (K := K) (n := 2) rfl rfl (pgs_cons (pg_name (i := 5) sc_l_due.nd rfl (Or.inl rfl)) (pgs_cons (pg_name (i := 13) sc_l_due.nd rfl (Or.inl rfl)) pgs_nil)))) (fun _ _ _ _ _ => pts_one (pt_cmpR op_notN (pv 13) pe_non (nomark _))) (fun _ _ _ _ _ => (pe_tup (pa_cons (pv 5) (pa_cons (pv 13) pa_nil)))))) pa_nil)))
      (pss_cons (ps_set (i := 14) sc_l_due.nd rfl (Or.inr rfl) (C8.pe_c (c_l_clashes T) hr (by decide) (by rfl) (pa_cons (pv 6) pa_nil)))
      (pss_one (ps_ret (pe_tup (pa_cons (pe_callTy (call_dictP rfl) (by rfl) T.z_dict (by decide +kernel) (pa_cons (pe_lock (pe_lc (own := [("_law_path", 5)]) (g := gName 5) (by rfl) sc_l_due.nd (pi_keys (pv 6)) (blkOk_by (own := [("_law_path", 5)]) (N := ["_law_bases", "_law_ours", "_law_theirs", "_law_every", "_law_files", "_law_path", "_law_found", "_law_conflicts", "_law_left", "_law_right", "_law_values", "_law_base", "_law_agreed", "_law_value", "_law_bad"]) (sc := C8.fnScope s_l_due) (by decide +kernel)) (fun _ _ _ _ _ => (pg_name (i := 5) sc_l_due.nd rfl (Or.inl rfl))) (fun _ _ _ _ _ => pts_one (pt_cmpR (notInK (K := K) rfl) (pv 5) (pv 14) rfl)) (fun _ _ _ _ _ => (pe_tup (pa_cons (pv 5) (pa_cons (pe_dget (hu_of hr) (pv 6) (pv 5) (fun _ _ => rfl)) pa_nil)))))) pa_nil)) (pa_cons (pe_callTy call_tuple_of (by rfl) T.z_tuple (by decide +kernel) (pa_cons (pe_callB (cr_sortedS) (by rfl) T.z_sorted (by decide +kernel) (pa_cons (pe_op op_cat (pv 7) (pv 14)) pa_nil)) pa_nil)) pa_nil)))))))))))), ?_⟩
    intro D hD
    have s1 := same_new (o := .dK []) hD
    have hD1 : (upd H D (.dK [])) D = some (.dK (kT [])) := upd_same
    generalize upd H D (.dK []) = H1 at s1 hD1
    refine ⟨.ref B, rfl, .ref o, rfl, .ref t, rfl, (by show 2 ≤ sizeLine; decide), fun l2 n2 => ?_⟩
    have s2 := same_new (o := .lst [V.ref o, .ref t]) n2
    have h2 := upd_same (H := H1) (a := l2) (o := .lst [V.ref o, .ref t])
    generalize upd H1 l2 (.lst [V.ref o, .ref t]) = H2 at s2 h2
    refine ⟨B, l2, _, _, rfl, rfl, s2 _ _ (s1 _ _ hB), h2, small_line (by simp only [List.length_map, List.length_cons, List.length_nil]; omega), fun l3 n3 => ?_⟩
    have s3 := same_new (o := .lst (us.map (fun u => V.ref u.1) ++ [V.ref o, .ref t])) n3
    have h3 : (upd H2 l3 (.lst (us.map (fun u => V.ref u.1) ++ [V.ref o, .ref t]))) l3 = some (.lst ((us ++ [(o, f), (t, g)]).map fun u => V.ref u.1)) := by rw [upd_same, List.map_append]; rfl
    generalize upd H2 l3 (.lst (us.map (fun u => V.ref u.1) ++ [V.ref o, .ref t])) = H3 at s3 h3
    have s03 := (s1.trans s2).trans s3
    have hD3 := s3 _ _ (s2 _ _ hD1)
    have hW : ∀ u ∈ us ++ [(o, f), (t, g)], MenuAt K H u.1 u.2 := fun u hu => by
      rcases List.mem_append.mp hu with h | h
      · exact hU u h
      · simp only [List.mem_cons, List.not_mem_nil, or_false] at h
        rcases h with rfl | rfl
        · exact hF
        · exact hG
    generalize hws : us ++ [(o, f), (t, g)] = ws at h3 hW
    refine ⟨l3, rfl, ⟨_, SqL.of h3⟩, ?_⟩
    have nl3 : l3 ≠ D := fun z => by rw [z, hD3] at h3; cases h3
    have nd0 : Nd ([] : Tab) := by unfold Nd; exact List.nodup_nil
    refine forG (items := ws.map fun u => V.ref u.1) yields_list (fun i σ H' => ∃ (u : Tab) (z4 z5 : Option V), σ = [some (.ref B), some (.ref o), some (.ref t), some (.ref D), z4, z5, none, none, none, none, none, none, none, none, none] ∧ H' D = some (.dK (kT u)) ∧ Nd u ∧ Fr D H3 H' ∧ (∀ x ∈ u.map (·.1), x ∈ MENU) ∧ ∀ w ∈ ws.take i, ∀ x, (w.2 x).isSome = true → x ∈ u.map (·.1))
      ⟨[], none, none, rfl, hD3, nd0, Fr.refl D H3, (fun x z => nomatch z), fun w hw => by simp at hw⟩ (fun i σ H' I => ?_) (fun i x σ H' hx I => ?_) (fun σ H' I => ?_)
    · obtain ⟨_, _, _, _, _, _, fr, _⟩ := I
      exact SqL.of (fr _ _ nl3 h3)
    · obtain ⟨u, z4, z5, rfl, hDD, ndu, fr, hm, hk⟩ := I
      rw [List.getElem?_map] at hx
      cases hy : ws[i]? with
      | none => rw [hy] at hx; cases hx
      | some wi =>
        rw [hy] at hx
        cases hx
        have hwm : wi ∈ ws := List.mem_of_getElem? hy
        obtain ⟨⟨tw, hw, hHw, oW⟩, hIw⟩ := hW wi hwm
        have new : wi.1 ≠ D := fun z => by rw [z, hD] at hw; cases hw
        have hw' := fr _ _ new (s03 _ _ hw)
        refine ⟨wi.1, _, hw', trivial, fun od => ⟨.ref wi.1, rfl, wi.1, od, rfl, .inl ⟨kT tw, upd_same, ?_⟩⟩⟩
        have Y : Yields (Itk wi.1 od (kT tw)) ((tw.map (·.1)).map V.str) (fun H => H wi.1 = some (.frz od (.dK (kT tw)))) := by
          rw [← kV_kT]
          exact yields_keys
        have hDL : (upd H' wi.1 (.frz od (.dK (kT tw)))) D = some (.dK (kT u)) := by rw [upd_ne new.symm]; exact hDD
        have hwL : (upd H' wi.1 (.frz od (.dK (kT tw)))) wi.1 = some (.frz od (.dK (kT tw))) := upd_same
        have kL : ∀ b o, b ≠ wi.1 → H' b = some o → (upd H' wi.1 (.frz od (.dK (kT tw)))) b = some o := fun b o n z => by rw [upd_ne n]; exact z
        generalize upd H' wi.1 (.frz od (.dK (kT tw))) = HL at hDL hwL kL
        refine forG Y (fun j σ H'' => ∃ (v : Tab) (z5 : Option V), σ = [some (.ref B), some (.ref o), some (.ref t), some (.ref D), some (.ref wi.1), z5, none, none, none, none, none, none, none, none, none] ∧ H'' D = some (.dK (kT v)) ∧ Nd v ∧ Fr D HL H'' ∧ (∀ x ∈ v.map (·.1), x ∈ MENU) ∧ (∀ x ∈ u.map (·.1), x ∈ v.map (·.1)) ∧ ∀ x ∈ (tw.map (·.1)).take j, x ∈ v.map (·.1))
          ⟨u, z5, rfl, hDL, ndu, Fr.refl D HL, hm, fun x z => z, fun x z => by simp at z⟩ (fun j σ H'' I => ?_) (fun j x σ H'' hx I => ?_) (fun σ H'' I => ?_)
        · obtain ⟨_, _, _, _, _, f2, _⟩ := I
          exact f2 _ _ new hwL
        · obtain ⟨v, z5', rfl, hDv, ndv, f2, hmv, hk1, hk2⟩ := I
          rw [List.getElem?_map] at hx
          cases hpp : (tw.map (·.1))[j]? with
          | none => rw [hpp] at hx; cases hx
          | some p =>
            rw [hpp] at hx
            cases hx
            have pM : p ∈ MENU := hIw p (hHw.mem.mp (List.mem_of_getElem? hpp))
            have lv : v.length ≤ 16 := by
              have := len_of_sub ndv hmv
              rw [List.length_map] at this
              exact this
            have etj : (tw.map (·.1)).take (j + 1) = (tw.map (·.1)).take j ++ [p] := by
              rw [List.take_add_one, hpp]
              rfl
            refine ⟨.ref D, rfl, .str p, rfl, D, _, rfl, DPut.k (k := .inr p) hDv (small_lt (by rw [len_kT]; omega)), putK v p (.bl true), _, rfl, by rw [upd_same, putK_kT], nd_put ndv p _, f2.trans (fun b o nb z => by rw [upd_ne nb]; exact z), fun x hx => ?_, fun x hx => keys_putI.mpr (.inl (hk1 x hx)), fun x hx => ?_⟩
            · rcases keys_putI.mp hx with z | rfl
              · exact hmv x z
              · exact pM
            · rw [etj] at hx
              rcases List.mem_append.mp hx with z | z
              · exact keys_putI.mpr (.inl (hk2 x z))
              · exact keys_putI.mpr (.inr (List.mem_singleton.mp z))
        · obtain ⟨v, z5', rfl, hDv, ndv, f2, hmv, hk1, hk2⟩ := I
          rw [List.length_map, List.take_length] at hk2
          have etk : ws.take (i + 1) = ws.take i ++ [wi] := by
            rw [List.take_add_one, hy]
            rfl
          refine ⟨f2 _ _ new hwL, v, _, _, rfl, by rw [upd_ne new.symm]; exact hDv, ndv, fr.trans (fun b o' nb z => ?_), hmv, fun w0 hw0 x hx => ?_⟩
          · by_cases hb : b = wi.1
            · rw [hb, upd_same, ← hw', ← hb, z]
            · rw [upd_ne hb]
              exact f2 b _ nb (kL b _ hb z)
          · rw [etk] at hw0
            rcases List.mem_append.mp hw0 with z | z
            · exact hk1 x (hk w0 z x hx)
            · rw [List.mem_singleton.mp z] at hx
              exact hk2 x (hHw.mem.mpr hx)
    · obtain ⟨u, z4, z5, rfl, hDD, ndu, fr, hm, hk⟩ := I
      rw [List.length_map, List.take_length] at hk
      have lu : u.length ≤ 16 := by
        have := len_of_sub ndu hm
        rw [List.length_map] at this
        exact this
      intro Fd hFd
      have s04 : Same H H' := fun b q z => fr b q (ne_of_none z hD) (s03 b q z)
      have s5 := same_new (o := .dK []) hFd
      have hF5 : (upd H' Fd (.dK [])) Fd = some (.dK (kT [])) := upd_same
      generalize upd H' Fd (.dK []) = H5 at s5 hF5
      refine ⟨(by show 0 ≤ sizeLine; decide), fun Cn nC => ?_⟩
      have s6 := same_new (o := .lst []) nC
      have hC6 := upd_same (H := H5) (a := Cn) (o := .lst [])
      generalize upd H5 Cn (.lst []) = H6 at s6 hC6
      have hD6 := s6 _ _ (s5 _ _ hDD)
      refine ⟨.ref D, rfl, D, kT u, u.map (·.1), rfl, .inl hD6, keys_kT u, (by rw [List.length_map]; omega), fun ys p hp hs np => ⟨p, rfl, ⟨_, SqL.of upd_same⟩, ?_⟩⟩
      have s7 := same_new (o := .lst (ys.map V.str)) np
      have hp7 := upd_same (H := H6) (a := p) (o := .lst (ys.map V.str))
      generalize upd H6 p (.lst (ys.map V.str)) = H7 at s7 hp7
      have hF7 := s7 _ _ (s6 _ _ hF5)
      have hC7 := s7 _ _ hC6
      have s07 : Same H H7 := ((s04.trans s5).trans s6).trans s7
      have nFC : Fd ≠ Cn := fun z => by rw [← z, hF5] at nC; cases nC
      have npF : p ≠ Fd := fun z => by rw [z, s6 _ _ hF5] at np; cases np
      have npC : p ≠ Cn := fun z => by rw [z, hC6] at np; cases np
      have old : ∀ {b : Addr} {q : HO}, H b = some q → b ∉ [Fd, Cn] := fun {b q} z y => by
        simp only [List.mem_cons, List.not_mem_nil, or_false] at y
        rcases y with rfl | rfl
        · rw [s04 _ _ z] at hFd; cases hFd
        · rw [s5 _ _ (s04 _ _ z)] at nC; cases nC
      have ndy : ys.Nodup := hp.nodup_iff.mpr ndu
      have yM : ∀ x ∈ ys, x ∈ MENU := fun x hx => hm x (hp.mem_iff.mp hx)
      have ly : ys.length ≤ 16 := by rw [hp.length_eq, List.length_map]; exact lu
      have inY : ∀ x, (f x).isSome = true ∨ (g x).isSome = true → x ∈ ys := fun x hx => by
        refine hp.mem_iff.mpr ?_
        rcases hx with h | h
        · exact hk (o, f) (by rw [← hws]; simp) x h
        · exact hk (t, g) (by rw [← hws]; simp) x h
      obtain ⟨⟨tf, gf, hHf, oF⟩, hIf⟩ := hF
      obtain ⟨⟨tg, gg, hHg, oG⟩, hIg⟩ := hG
      have gFG : ∀ x, GoodF (f x) ∧ GoodF (g x) := fun x => ⟨fun p e => oF.good x p e, fun p e => oG.good x p e⟩
      obtain ⟨tb, htb⟩ : ∃ tb : (Addr × Mp Fi) → Tab, ∀ u ∈ us, H u.1 = some (.dK (kT (tb u))) ∧ Holds (FiV K H) (tb u) u.2 ∧ FilesOk 16 (tb u) u.2 := by
        classical
        exact ⟨fun u => if h : u ∈ us then (hU u h).1.choose else [], fun u h => by simp only [dif_pos h]; exact (hU u h).1.choose_spec⟩
      generalize hfs : us.map (·.2) = fs at *
      let one : List Fv → Option Fv := fun l => match l with
        | [v] => some v
        | _ => none
      let tn : Str → Bool := fun x => decide ((mvM fs f g x).length = 2)
      let mAt : Nat → Mp Fv := fun i x => if x ∈ ys.take i then one (mvM fs f g x) else none
      let Pv : Nat → L2.St → Hp → Prop := fun i σ H' => ∃ (w : Tab) (z4 z5 z8 z9 z10 z11 z12 : Option V), σ = [some (.ref B), some (.ref o), some (.ref t), some (.ref D), z4, z5, some (.ref Fd), some (.ref Cn), z8, z9, z10, z11, z12, none, none] ∧ H' Fd = some (.dK (kT w)) ∧ Holds (FvV K H') w (mAt i) ∧ Nd w ∧ (∀ x ∈ w.map (·.1), x ∈ MENU) ∧ H' Cn = some (.lst (((ys.take i).filter tn).map V.str)) ∧ FrL [Fd, Cn] H7 H'
      refine forG (items := ys.map V.str) yields_list Pv
        ⟨[], z4, z5, none, none, none, none, none, rfl, hF7, fun x => .inl ⟨rfl, by show (if x ∈ ys.take 0 then _ else none) = none; rw [if_neg (by simp)]⟩, nd0, (fun x z => nomatch z), by simpa using hC7, FrL.refl _ _⟩ (fun i σ H' I => ?_) (fun i x σ H8 hx I => ?_) (fun σ H8 I => ?_)
      · obtain ⟨_, _, _, _, _, _, _, _, _, _, _, _, _, _, fr8⟩ := I
        exact SqL.of (fr8 _ _ (by simp only [List.mem_cons, List.not_mem_nil, or_false]; exact fun z => z.elim npF npC) hp7)
      · obtain ⟨w, z4, z5, z8, z9, z10, z11, z12, rfl, hF8, hH8, ndw, wM, hC8, fr8⟩ := I
        rw [List.getElem?_map] at hx
        cases hy : ys[i]? with
        | none => rw [hy] at hx; cases hx
        | some y =>
          rw [hy] at hx
          cases hx
          have hym : y ∈ ys := List.mem_of_getElem? hy
          have ett : ys.take (i + 1) = ys.take i ++ [y] := by
            rw [List.take_add_one, hy]
            rfl
          have hyn : y ∉ ys.take i := fun z => by
            have e : ys = ys.take i ++ (y :: ys.drop (i + 1)) := by
              conv => lhs; rw [← List.take_append_drop (i + 1) ys, ett, List.append_assoc]
              rfl
            rw [e] at ndy
            exact (List.nodup_append.mp ndy).2.2 y z y List.mem_cons_self rfl
          have lw : w.length ≤ 16 := by
            have := len_of_sub ndw wM
            rw [List.length_map] at this
            exact this
          have s08 : Same H H8 := fun b q z => fr8 b q (old z) (s07 b q z)
          have ho := s08 _ _ gf
          have ht := s08 _ _ gg
          refine ⟨.ref o, rfl, o, rfl, .inl ⟨_, .inl ho⟩, .str y, rfl, _, dget_kT (.inl ho) y, .ref t, rfl, t, rfl, .inl ⟨_, .inl ht⟩, .str y, rfl, _, dget_kT (.inl ht) y, _, _, rfl, ?_⟩
          generalize hvl : (valV tf y).getD V.non = vl
          generalize hvr : (valV tg y).getD V.non = vr
          have fl : FvV K H8 vl (f y) := by rw [← hvl]; exact (get_fv hHf y).keep (TupKeep.of s08)
          have fr_ : FvV K H8 vr (g y) := by rw [← hvr]; exact (get_fv hHg y).keep (TupKeep.of s08)
          refine ⟨.ref B, rfl, B, rfl, ⟨_, SqL.of (s08 _ _ hB)⟩, fun D10 hD10 => ?_⟩
          refine lc_pure (i := 4) (us := us) (g := fun u => V.ref u.1) yields_list (fun u => (valV (tb u) y).getD .non) (fun _ => true) hD10 (fun H s => SqL.of (s _ _ (s08 _ _ hB))) (fun H6 u s6 hu R r => r H6 (Same.refl H6)) (fun H6 u s6 hu _ R r => ?_) (by omega) (fun H9 s9 h9 => ?_)
          · have hu' := s6 _ _ (s08 _ _ (htb u hu).1)
            exact ⟨.ref u.1, rfl, u.1, rfl, .inl ⟨_, .inl hu'⟩, .str y, rfl, _, dget_kT (.inl hu') y, r H6 (Same.refl H6)⟩
          rw [filt_all] at h9
          have s09 := s08.trans s9
          have fv : ∀ {H' : Hp}, Same H H' → ∀ u ∈ us, FvV K H' ((valV (tb u) y).getD .non) (u.2 y) ∧ GoodF (u.2 y) := fun {H'} s u hu => by
            obtain ⟨_, h2, h3⟩ := htb u hu
            exact ⟨(get_fv h2 y).keep (TupKeep.of s), fun p e => h3.good y p e⟩
          have eos : (fs.map fun b => b y) = us.map fun u => u.2 y := by rw [← hfs, List.map_map]; rfl
          refine ⟨fun σ' Hb => Same H9 Hb ∧ ∃ vb, σ' = [some (.ref B), some (.ref o), some (.ref t), some (.ref D), z4, some (.str y), some (.ref Fd), some (.ref Cn), some vl, some vr, some (.ref D10), some vb, z12, none, none] ∧ FvV K Hb vb (oldF (fs.map fun b => b y)) ∧ GoodF (oldF (fs.map fun b => b y)), ?first, ?rest⟩
          case first =>
            refine ⟨.ref D10, rfl, (by show 1 ≤ sizeLine; decide), fun l nl => ?_⟩
            have sa := same_new (o := .lst [V.non]) nl
            refine ⟨D10, l, _, _, rfl, rfl, sa _ _ h9, upd_same, small_line (by simp only [List.length_map, List.length_cons, List.length_nil]; omega), fun l2 nl2 => ?_⟩
            have sb := same_new (o := .lst (us.map (fun u => (valV (tb u) y).getD V.non) ++ [V.non])) nl2
            cases hus : us with
            | nil =>
              refine ⟨l2, _, 0, .non, rfl, rfl, SqL.of upd_same, ?_, sa.trans (by rw [hus] at sb; exact sb), .non, rfl, ?_⟩
              · exact atI_nat rfl
              · rw [eos, hus]
                exact ⟨rfl, fun p z => nomatch z⟩
            | cons u0 ur =>
              have hu0 : u0 ∈ us := by rw [hus]; exact List.mem_cons_self
              obtain ⟨a1, a2⟩ := fv (s09.trans (sa.trans sb)) u0 hu0
              refine ⟨l2, _, 0, (valV (tb u0) y).getD .non, rfl, rfl, SqL.of upd_same, ?_, sa.trans (by rw [hus] at sb; exact sb), _, rfl, ?_⟩
              · exact atI_nat rfl
              · rw [eos]
                rw [hus] at a1 ⊢
                exact ⟨a1, a2⟩
          case rest =>
            rintro σ' Hb ⟨s9b, vb, rfl, fb, gb⟩
            have h9b := s9b _ _ h9
            have s0b := s09.trans s9b
            have s8b := s9.trans s9b
            refine ⟨.ref D10, rfl, D10, rfl, ⟨_, SqL.of h9b⟩, fun D13 hD13 => ?_⟩
            refine lc_pure (i := 13) (us := us) (g := fun u => (valV (tb u) y).getD V.non) yields_list (fun u => (valV (tb u) y).getD V.non) (fun u => !decide (u.2 y = oldF (fs.map fun b => b y))) hD13 (fun H s => SqL.of (s _ _ h9b)) (fun H6 u s6 hu R r => ?_) (fun H6 u s6 hu _ R r => ⟨_, rfl, r H6 (Same.refl H6)⟩) (by omega) (fun Hc s9c h9c => ?_)
            · obtain ⟨a1, a2⟩ := fv (s0b.trans s6) u hu
              exact ⟨_, rfl, _, rfl, _, _, a1, fb.keep (TupKeep.of s6), a2, gb, _, rfl, r H6 (Same.refl H6)⟩
            refine ⟨(by show 0 ≤ sizeLine; decide), fun b0 nb0 => ?_⟩
            have sd := same_new (o := .lst []) nb0
            refine ⟨D13, b0, _, rfl, rfl, sd _ _ h9c, upd_same, ?_⟩
            have s8d := s8b.trans (s9c.trans sd)
            have s0d := s0b.trans (s9c.trans sd)
            have fbd := fb.keep (TupKeep.of (s9c.trans sd))
            rw [filt_emptyM]
            have eag : (us.any fun u => !decide (u.2 y = oldF (fs.map fun b => b y))) = ((fs.map fun b => b y).any fun v => !decide (v = oldF (fs.map fun b => b y))) := by
              rw [eos, List.any_map]
              rfl
            rw [eag]
            have hF8d := s8d _ _ hF8
            have hC8d := s8d _ _ hC8
            have fld := fl.keep (TupKeep.of s8d)
            have frd := fr_.keep (TupKeep.of s8d)
            have hH8d := hH8.imp fun _ _ x => FvV.keep x (TupKeep.of s8d)
            generalize upd Hc b0 (.lst []) = Hd at s8d s0d fbd hF8d hC8d fld frd hH8d
            have hmv : ∀ l, (if f y = g y then [f y] else if ((fs.map fun b => b y).any fun v => !decide (v = oldF (fs.map fun b => b y))) = true then [f y, g y] else if f y = oldF (fs.map fun b => b y) then [g y] else if g y = oldF (fs.map fun b => b y) then [f y] else [f y, g y]) = l → mvM fs f g y = l := fun l e => e
            generalize ((fs.map fun b => b y).any fun v => !decide (v = oldF (fs.map fun b => b y))) = bd at hmv ⊢
            generalize oldF (fs.map fun b => b y) = old at hmv fbd gb
            have FrD : FrL [Fd, Cn] H7 Hd := fr8.trans (FrL.same s8d)
            have putN : ∀ (v : V) (fv : Fv) (z4 z8 z9 z10 z11 z12 : Option V), FvV K Hd v fv → mvM fs f g y = [fv] → Pv (i + 1) [some (.ref B), some (.ref o), some (.ref t), some (.ref D), z4, some (.str y), some (.ref Fd), some (.ref Cn), z8, z9, z10, z11, z12, none, none] (upd Hd Fd (.dK (putK (kT w) (.inr y) v))) := fun v fv z4 z8 z9 z10 z11 z12 hv e => by
              have kp : TupKeep Hd (upd Hd Fd (.dK (putK (kT w) (.inr y) v))) := TupKeep.at fun xs z => by rw [hF8d] at z; cases z
              have em : mAt (i + 1) = putM (mAt i) y fv := by
                funext x
                show (if x ∈ ys.take (i + 1) then _ else none) = if x = y then some fv else (if x ∈ ys.take i then _ else none)
                rw [ett]
                by_cases c : x = y
                · rw [if_pos c, if_pos (by rw [c]; exact List.mem_append_right _ List.mem_cons_self), c, e]
                · rw [if_neg c]
                  by_cases c2 : x ∈ ys.take i
                  · rw [if_pos c2, if_pos (List.mem_append_left _ c2)]
                  · rw [if_neg c2, if_neg (fun z => (List.mem_append.mp z).elim c2 fun z => c (List.mem_singleton.mp z))]
              refine ⟨putK w y v, _, _, _, _, _, _, _, rfl, by rw [upd_same, putK_kT], ?_, nd_put ndw y v, fun x hx => ?_, ?_, FrD.trans (FrL.at List.mem_cons_self)⟩
              · rw [em]
                exact Holds.put (hH8d.imp fun _ _ x => FvV.keep x kp) (hv.keep kp)
              · rcases keys_putI.mp hx with z | rfl
                · exact wM x z
                · exact yM _ hym
              · rw [upd_ne nFC.symm, hC8d, ett, List.filter_append]
                have : tn y = false := by
                  show decide ((mvM fs f g y).length = 2) = false
                  rw [e]
                  rfl
                rw [List.filter_cons, this]
                simp
            have appN : ∀ (z4 z8 z9 z10 z11 z12 : Option V), mvM fs f g y = [f y, g y] → Pv (i + 1) [some (.ref B), some (.ref o), some (.ref t), some (.ref D), z4, some (.str y), some (.ref Fd), some (.ref Cn), z8, z9, z10, z11, z12, none, none] (upd Hd Cn (.lst (((ys.take i).filter tn).map V.str ++ [V.str y]))) := fun z4 z8 z9 z10 z11 z12 e => by
              have kp : TupKeep Hd (upd Hd Cn (.lst (((ys.take i).filter tn).map V.str ++ [V.str y]))) := TupKeep.at fun xs z => by rw [hC8d] at z; cases z
              have em : mAt (i + 1) = mAt i := by
                funext x
                show (if x ∈ ys.take (i + 1) then _ else none) = (if x ∈ ys.take i then _ else none)
                rw [ett]
                by_cases c : x = y
                · rw [if_pos (by rw [c]; exact List.mem_append_right _ List.mem_cons_self), if_neg (by rw [c]; exact hyn), c, e]
                · by_cases c2 : x ∈ ys.take i
                  · rw [if_pos c2, if_pos (List.mem_append_left _ c2)]
                  · rw [if_neg c2, if_neg (fun z => (List.mem_append.mp z).elim c2 fun z => c (List.mem_singleton.mp z))]
              refine ⟨w, _, _, _, _, _, _, _, rfl, by rw [upd_ne nFC]; exact hF8d, ?_, ndw, wM, ?_, FrD.trans (FrL.at (List.mem_cons_of_mem _ List.mem_cons_self))⟩
              · rw [em]
                exact hH8d.imp fun _ _ x => FvV.keep x kp
              · rw [upd_same, ett, List.filter_append, List.map_append]
                have : tn y = true := by
                  show decide ((mvM fs f g y).length = 2) = true
                  rw [e]
                  rfl
                rw [List.filter_cons, this]
                rfl
            have small : (kT w).length < sizeLine := small_lt (by rw [len_kT]; omega)
            have smallC : (((ys.take i).filter tn).map V.str).length < sizeLine := small_lt (by
              rw [List.length_map]
              have := List.length_filter_le tn (ys.take i)
              rw [List.length_take] at this
              omega)
            refine ⟨vl, rfl, vr, rfl, f y, g y, fld, frd, (gFG y).1, (gFG y).2, _, rfl, ite2 (fun h1 => ?_) (fun h1 => ?_)⟩
            · have h1 := of_decide_eq_true h1
              exact ⟨vl, rfl, .ref Fd, rfl, .str y, rfl, Fd, _, rfl, DPut.k (k := .inr y) hF8d small, putN vl (f y) _ _ _ _ _ _ fld (hmv _ (if_pos h1))⟩
            · have h1 : ¬ f y = g y := fun z => h1 (decide_eq_true z)
              cases bd with
              | true => exact ⟨_, rfl, _, rfl, iteF ⟨_, rfl, _, rfl, iteF ⟨.ref Cn, rfl, .inl ⟨rfl, _, SqL.of hC8d⟩, .str y, rfl, Cn, _, _, rfl, rfl, hC8d, smallC, appN _ _ _ _ _ _ (hmv _ (by rw [if_neg h1, if_pos rfl]))⟩⟩⟩
              | false =>
                refine ⟨_, rfl, _, rfl, iteT ⟨vb, rfl, vl, rfl, old, f y, fbd, fld, gb, (gFG y).1, _, rfl, ite2 (fun h2 => ?_) (fun h2 => ?_)⟩⟩
                · have h2 := of_decide_eq_true h2
                  exact ⟨vr, rfl, .ref Fd, rfl, .str y, rfl, Fd, _, rfl, DPut.k (k := .inr y) hF8d small, putN vr (g y) _ _ _ _ _ _ frd (hmv _ (by rw [if_neg h1, if_neg Bool.false_ne_true, if_pos h2.symm]))⟩
                · have h2 : ¬ f y = old := fun z => h2 (decide_eq_true z.symm)
                  refine ⟨_, rfl, _, rfl, iteT ⟨vb, rfl, vr, rfl, old, g y, fbd, frd, gb, (gFG y).2, _, rfl, ite2 (fun h3 => ?_) (fun h3 => ?_)⟩⟩
                  · have h3 := of_decide_eq_true h3
                    exact ⟨vl, rfl, .ref Fd, rfl, .str y, rfl, Fd, _, rfl, DPut.k (k := .inr y) hF8d small, putN vl (f y) _ _ _ _ _ _ fld (hmv _ (by rw [if_neg h1, if_neg Bool.false_ne_true, if_neg h2, if_pos h3.symm]))⟩
                  · have h3 : ¬ g y = old := fun z => h3 (decide_eq_true z.symm)
                    exact ⟨.ref Cn, rfl, .inl ⟨rfl, _, SqL.of hC8d⟩, .str y, rfl, Cn, _, _, rfl, rfl, hC8d, smallC, appN _ _ _ _ _ _ (hmv _ (by rw [if_neg h1, if_neg Bool.false_ne_true, if_neg h2, if_neg h3]))⟩
      · obtain ⟨w, z4, z5, z8, z9, z10, z11, z12, rfl, hF8, hH8, ndw, wM, hC8, fr8⟩ := I
        rw [List.length_map, List.take_length] at hC8
        have eAt : ∀ x, mAt (ys.map V.str).length x = if x ∈ ys then one (mvM fs f g x) else none := fun x => by
          show (if x ∈ ys.take (ys.map V.str).length then _ else none) = _
          rw [List.length_map, List.take_length]
        have s08 : Same H H8 := fun b q z => fr8 b q (old z) (s07 b q z)
        have lw : w.length ≤ 16 := by
          have := len_of_sub ndw wM
          rw [List.length_map] at this
          exact this
        have res2 : ∀ x, (mvM fs f g x = [f x, g x] ∧ resM fs f g x = none) ∨ ∃ v, mvM fs f g x = [v] ∧ resM fs f g x = v := fun x => by
          obtain ⟨v, e | e⟩ := mvF_len (fs.map fun b => b x) (f x) (g x)
          · exact .inr ⟨v, e, by unfold resM; rw [show mvM fs f g x = [v] from e]⟩
          · exact .inl ⟨e, by unfold resM; rw [show mvM fs f g x = [f x, g x] from e]⟩
        have resIn : ∀ {x p}, resM fs f g x = some p → mvM fs f g x = [some p] ∧ (some p = f x ∨ some p = g x) := fun {x p} e => by
          rcases res2 x with ⟨_, er⟩ | ⟨v, em, er⟩
          · rw [er] at e; cases e
          · have hv : v ∈ mvM fs f g x := by rw [em]; exact List.mem_cons_self
            rw [er] at e
            subst e
            exact ⟨em, mvF_in hv⟩
        have gR : ∀ x p, resM fs f g x = some p → GoodP p := fun x p e => by
          rcases (resIn e).2 with z | z
          · exact oF.good x p z.symm
          · exact oG.good x p z.symm
        have yR : ∀ x, (resM fs f g x).isSome = true → x ∈ ys := fun x hx => by
          cases e : resM fs f g x with
          | none => rw [e] at hx; cases hx
          | some p =>
            refine inY x ?_
            rcases (resIn e).2 with z | z
            · exact .inl (by rw [← z]; rfl)
            · exact .inr (by rw [← z]; rfl)
        have row : ∀ q ∈ w, ∃ fv, mvM fs f g q.1 = [fv] ∧ FvV K H8 q.2 fv := fun q hq => by
          obtain ⟨fv, e, h⟩ := hH8.at' (val_memE ndw hq)
          rw [eAt] at e
          split at e
          · rcases res2 q.1 with ⟨em, _⟩ | ⟨v, em, _⟩
            · rw [em] at e
              cases e
            · rw [em] at e
              cases e
              exact ⟨_, em, h⟩
          · cases e
        have resOf : ∀ {x fv}, mvM fs f g x = [fv] → resM fs f g x = fv := fun {x fv} e => by unfold resM; rw [e]
        refine ⟨Fd, _, hF8, trivial, fun od => ⟨.ref Fd, rfl, Fd, od, _, rfl, upd_same, fun D2 hD2 => ?_⟩⟩
        have nD2 : D2 ≠ Fd := lock_ne hD2
        have k8 : TupKeep H8 (upd H8 Fd (.frz od (.dK (kT w)))) := TupKeep.at fun xs z => by rw [hF8] at z; cases z
        have lk : (kT w).length = w.length := len_kT w
        refine lc_pairsS (us := w) (G := fun H5 => H5 Fd = some (.frz od (.dK (kT w)))) (fun k H5 g hk => ⟨g, by rw [lk]; exact hk⟩) (fun H5 g => ⟨g, Nat.le_of_eq lk⟩) (fun q => q.1) (FiV K) (fun q => (resM fs f g q.1).getD ("", "")) (fun q => (resM fs f g q.1).isSome) (fun q => [some (.ref B), some (.ref o), some (.ref t), some (.ref D), z4, some (.str q.1), some (.ref Fd), some (.ref Cn), z8, z9, z10, z11, z12, some q.2, none]) hD2 (fun H5 s5 => s5 _ _ upd_same) (fun _ _ => rfl)
          (fun k H5 q x H7 s5 hu hy => ?_) (fun H5 q s5 hu S k => ?_) (fun _ _ _ _ k h => FvV.keep h k) (fun H5 q s5 hu hp5 S k => ?_) (by omega) (fun as H9 s9 h9 pr => ?_)
        · obtain ⟨T0, k', v, hkv, rfl, nT, rfl⟩ := hy
          have sT := same_new (o := .tup [kV k', v]) nT
          refine ⟨sT, fun S hS => ?_⟩
          have e2 : (kT w)[k]? = some (.inr q.1, q.2) := by
            unfold kT
            rw [List.getElem?_map, hu]
            rfl
          rw [e2] at hkv
          cases hkv
          exact ⟨T0, _, rfl, SqT.of upd_same, rfl, _, _, rfl, _, _, rfl, rfl, hS⟩
        · obtain ⟨fv, em, hv⟩ := row q hu
          refine ⟨q.2, rfl, rfl, _, rfl, ?_⟩
          have kk := k H5 (Same.refl H5)
          rw [resOf em] at kk
          cases fv with
          | none =>
            have e : q.2 = .non := hv
            rw [e]
            exact kk
          | some p =>
            obtain ⟨q0, e, _⟩ := id hv
            rw [e, decide_eq_false (fun z => by cases z)]
            exact kk
        · obtain ⟨fv, em, hv⟩ := row q hu
          rw [resOf em] at hp5
          cases fv with
          | none => cases hp5
          | some p =>
            refine ⟨_, rfl, _, rfl, (by show 2 ≤ sizeLine; decide), fun tp ntp => ?_⟩
            have st := same_new (o := .tup [V.str q.1, q.2]) ntp
            refine k tp q.2 _ st upd_same ?_
            rw [resOf em]
            exact FvV.keep hv (k8.trans (TupKeep.of (s5.trans st)))
        refine ⟨s9 _ _ upd_same, ?_⟩
        have s8a : Same H8 (upd H9 Fd (.dK (kT w))) := same_unlock s9 hF8
        have k9 : TupKeep H9 (upd H9 Fd (.dK (kT w))) := TupKeep.at fun xs z => by rw [s9 _ _ upd_same] at z; cases z
        have ha : (upd H9 Fd (.dK (kT w))) D2 = some (.lst (as.map V.ref)) := by rw [upd_ne nD2]; exact h9
        obtain ⟨tab, p1, p2⟩ := files_pairs (K := K) (g := resM fs f g) (n := 16) (kf := fun q : Str × V => q.1) (nd_filter ndw _) (fun q hq => by
            have := (List.mem_filter.mp hq).2
            cases e : resM fs f g q.1 with
            | none => rw [e] at this; cases this
            | some p => rfl) (fun x hx => by
            cases e : resM fs f g x with
            | none => rfl
            | some p =>
              have hy := yR x (by rw [e]; rfl)
              have : x ∈ w.map (·.1) := hH8.mem.mpr (by rw [eAt, if_pos hy, (resIn e).1]; rfl)
              obtain ⟨q, hq, rfl⟩ := List.mem_map.mp this
              exact absurd (List.mem_map.mpr ⟨q, List.mem_filter.mpr ⟨hq, by rw [e]; rfl⟩, rfl⟩) hx) (Paired.mapP pr fun b x ⟨v, z1, z2⟩ => ⟨v, k9 _ _ z1, FvV.keep z2 k9⟩) (fun q hq => menu_ok q.1 (wM q.1 (List.mem_map.mpr ⟨q, (List.mem_filter.mp hq).1, rfl⟩))) (fun q hq => by
            have := (List.mem_filter.mp hq).2
            cases e : resM fs f g q.1 with
            | none => rw [e] at this; cases this
            | some p => exact gR q.1 p e) (Nat.le_trans (List.length_filter_le _ _) lw)
        refine ⟨D2, as, kT tab, rfl, .inl (.inl ha), p1, fun pF npF => ?_⟩
        have hFF := p2 pF npF
        have s8b := s8a.trans (same_new (o := .dK (mergeK [] (kT tab))) npF)
        generalize upd (upd H9 Fd (.dK (kT w))) pF (.dK (mergeK [] (kT tab))) = Hb at s8b hFF
        obtain ⟨tv, hpF, hV, oV⟩ := hFF
        refine ⟨.ref pF, rfl, pF, tv, rfl, hpF, oV.nd, (by have := oV.len; omega), oV.path, fun zs pz Hc ndz sz lz mz npz sc hpz => ?_⟩
        have mz' : ∀ x, x ∈ zs ↔ CrossM (resM fs f g) x := fun x => by
          rw [mz x]
          unfold crossF CrossM
          rw [hV.mem]
          constructor
          · rintro ⟨z1, y, hy, z2⟩
            exact ⟨z1, y, hV.mem.mp hy, z2⟩
          · rintro ⟨z1, y, hy, z2⟩
            exact ⟨z1, y, hV.mem.mpr hy, z2⟩
        have hpFc := sc _ _ hpF
        have hVc := hV.imp fun _ _ x => FvV.keep x (TupKeep.of sc)
        refine ⟨pF, _, hpFc, trivial, fun od2 => ⟨.ref pF, rfl, pF, od2, rfl, .inl ⟨kT tv, upd_same, fun D3 hD3 => ?_⟩⟩⟩
        have nD3 : D3 ≠ pF := lock_ne hD3
        have npzF : pz ≠ pF := fun z => by rw [z, hpFc] at hpz; cases hpz
        have kc : TupKeep Hc (upd Hc pF (.frz od2 (.dK (kT tv)))) := TupKeep.at fun xs z => by rw [hpFc] at z; cases z
        have hpzL : (upd Hc pF (.frz od2 (.dK (kT tv)))) pz = some (.lst (zs.map V.str)) := by rw [upd_ne npzF]; exact hpz
        have Y : Yields (Itk pF od2 (kT tv)) ((tv.map (·.1)).map V.str) (fun H => H pF = some (.frz od2 (.dK (kT tv)))) := by
          rw [← kV_kT]
          exact yields_keys
        have ltv := oV.len
        refine lc_pairs (us := tv.map (·.1)) (val := V.str) Y (fun x => x) (FiV K) (fun x => (resM fs f g x).getD ("", "")) (fun x => !inV (V.str x) (zs.map V.str)) (fun x => [some (.ref B), some (.ref o), some (.ref t), some (.ref D), z4, some (.str x), some (.ref pF), some (.ref Cn), z8, z9, z10, z11, z12, none, some (.ref pz)]) hD3 (fun H5 s5 => s5 _ _ upd_same) (fun _ _ => rfl)
          (fun H5 x _ _ S k => k) (fun H5 x s5 _ S k => ⟨.str x, rfl, .ref pz, rfl, pz, _, rfl, .inl (SqL.of (s5 _ _ hpzL)), rfl, flat_strs _, _, rfl, k H5 (Same.refl H5)⟩) (fun _ _ _ _ k h => FvV.keep h k) (fun H5 x s5 hx _ S k => ?_) (by rw [List.length_map]; omega) (fun as2 Hd sd hd pr2 => ?_)
        · have z := hVc.mem.mp hx
          cases e1 : resM fs f g x with
          | none => rw [e1] at z; cases z
          | some p =>
            obtain ⟨v, hv, rv⟩ := hVc.at e1
            have d1 := dget_kT (t := tv) (.inr ⟨od2, s5 _ _ upd_same⟩) x
            rw [hv] at d1
            refine ⟨.str x, rfl, .ref pF, rfl, .str x, rfl, pF, _, rfl, d1, (by show 2 ≤ sizeLine; decide), fun tp ntp => ?_⟩
            have st := same_new (o := .tup [.str x, v]) ntp
            refine k tp v _ st upd_same ?_
            rw [e1]
            exact FvV.keep rv (kc.trans (TupKeep.of (s5.trans st)))
        refine ⟨sd _ _ upd_same, ?_⟩
        have sce : Same Hc (upd Hd pF (.dK (kT tv))) := same_unlock sd hpFc
        have kd : TupKeep Hd (upd Hd pF (.dK (kT tv))) := TupKeep.at fun xs z => by rw [sd _ _ upd_same] at z; cases z
        have he : (upd Hd pF (.dK (kT tv))) D3 = some (.lst (as2.map V.ref)) := by rw [upd_ne nD3]; exact hd
        have pq : ∀ x, (!inV (V.str x) (zs.map V.str)) = true ↔ ¬ CrossM (resM fs f g) x := fun x => by
          rw [Bool.not_eq_true', ← Bool.not_eq_true, inV_strs, mz']
        obtain ⟨tab2, p3, p4⟩ := files_pairs (K := K) (g := clearM (resM fs f g)) (n := 16) (kf := fun x : Str => x) (us := (tv.map (·.1)).filter fun x => !inV (V.str x) (zs.map V.str)) (by rw [List.map_id']; exact (show (tv.map (·.1)).Nodup from oV.nd).filter _) (fun x hx => by
            obtain ⟨q1, q2⟩ := List.mem_filter.mp hx
            have z := hV.mem.mp q1
            unfold clearM
            rw [if_neg ((pq x).mp q2)]
            cases e : resM fs f g x with
            | none => rw [e] at z; cases z
            | some p => rfl) (fun x hx => by
            rw [List.map_id'] at hx
            unfold clearM
            split
            · rfl
            · rename_i nc
              cases e1 : resM fs f g x with
              | none => rfl
              | some p0 => exact absurd (List.mem_filter.mpr ⟨hV.mem.mpr (by rw [e1]; rfl), (pq x).mpr nc⟩) hx) (Paired.mapP pr2 fun b x ⟨v, z1, z2⟩ => ⟨v, kd _ _ z1, FvV.keep z2 kd⟩) (fun x hx => oV.path x (List.mem_filter.mp hx).1) (fun x hx => by
            have z := hV.mem.mp (List.mem_filter.mp hx).1
            cases e : resM fs f g x with
            | none => rw [e] at z; cases z
            | some p => exact gR x p e) (Nat.le_trans (List.length_filter_le _ _) (by rw [List.length_map]; exact ltv))
        refine ⟨D3, as2, kT tab2, rfl, .inl (.inl he), p3, fun pG npG => ?_⟩
        have hGG := p4 pG npG
        have scg := sce.trans (same_new (o := .dK (mergeK [] (kT tab2))) npG)
        generalize upd (upd Hd pF (.dK (kT tv))) pG (.dK (mergeK [] (kT tab2))) = Hg at scg hGG
        have s8g := (s8b.trans sc).trans scg
        have hCg := s8g _ _ hC8
        have hpzg := scg _ _ hpz
        have mt : ∀ x, x ∈ ys.filter tn ↔ TornM fs f g x := fun x => by
          rw [List.mem_filter]
          unfold TornM
          refine ⟨fun z => of_decide_eq_true z.2, fun z => ⟨?_, decide_eq_true z⟩⟩
          rcases res2 x with ⟨e, _⟩ | ⟨v, e, _⟩
          · refine inY x ?_
            cases c : f x with
            | some _ => exact .inl rfl
            | none =>
              cases c2 : g x with
              | some _ => exact .inr rfl
              | none =>
                unfold mvM mvF at e
                rw [if_pos (c.trans c2.symm)] at e
                have := congrArg List.length e
                exact absurd this (by show ¬ (1 : Nat) = 2; decide)
          · rw [e] at z
            exact absurd z (by show ¬ (1 : Nat) = 2; decide)
        have ndt : (ys.filter tn).Nodup := ndy.filter _
        have dis : ∀ x ∈ ys.filter tn, x ∉ zs := fun x hx hc' => by
          have z1 := (mt x).mp hx
          have z2 := ((mz' x).mp hc').1
          rcases res2 x with ⟨_, er⟩ | ⟨v, em, er⟩
          · rw [er] at z2; cases z2
          · unfold TornM at z1
            rw [em] at z1
            exact absurd z1 (by show ¬ (1 : Nat) = 2; decide)
        have ndA : (ys.filter tn ++ zs).Nodup := List.nodup_append.mpr ⟨ndt, ndz, fun a ha b hb e => dis a ha (e ▸ hb)⟩
        have subA : ∀ x ∈ ys.filter tn ++ zs, x ∈ MENU := fun x hx => by
          rcases List.mem_append.mp hx with h | h
          · exact yM x (List.mem_filter.mp h).1
          · exact yM x (yR x ((mz' x).mp h).1)
        have lA : (ys.filter tn ++ zs).length ≤ 16 := len_of_sub ndA subA
        have lA2 : (ys.filter tn).length + zs.length ≤ 16 := by rw [List.length_append] at lA; exact lA
        generalize ys.filter tn = ts at hCg mt ndA subA lA lA2
        refine ⟨.ref Cn, rfl, .ref pz, rfl, Cn, pz, _, _, rfl, rfl, hCg, hpzg, small_line (by rw [List.length_map, List.length_map]; omega), fun pl npl => ?_⟩
        have sh := same_new (o := .lst (ts.map V.str ++ zs.map V.str)) npl
        have hh : (upd Hg pl (.lst (ts.map V.str ++ zs.map V.str))) pl = some (.lst ((ts ++ zs).map V.str)) := by rw [upd_same, List.map_append]
        generalize upd Hg pl (.lst (ts.map V.str ++ zs.map V.str)) = Hh at sh hh
        refine ⟨pl, ts ++ zs, rfl, .inl (.inl hh), by omega, fun ys2 p2' hp2 hs2 hn2 => ⟨p2', _, rfl, .inl ⟨.inl (.inl upd_same), fun l hl => ⟨(by show 2 ≤ sizeLine; decide), fun pt npt => ?_⟩⟩⟩⟩
        have si := same_new (o := .lst (ys2.map V.str)) hn2
        have sj := same_new (o := .tup (ys2.map V.str)) hl
        have sk := same_new (o := .tup [V.ref pG, .ref l]) npt
        have sgk := ((sh.trans si).trans sj).trans sk
        obtain ⟨tg', hg1, hg2, hg3⟩ := hGG.same sgk
        exact q (.ref pt) _ ((s08.trans s8g).trans sgk) ⟨pt, pG, l, tg', ys2, rfl, upd_same, hg1, hg2, hg3.mono (by decide), (fun z => nomatch z), sk _ _ upd_same, hs2, hp2.nodup_iff.mpr ndA, fun x hx => menu_ok x (subA x (hp2.mem_iff.mp hx)), fun x => by
          rw [hp2.mem_iff, List.mem_append, mt, mz']
          exact Iff.rfl⟩
end

end Fk

set_option maxHeartbeats 4000000
/-! A disk's files: what they are, where they stand, what deeds make of them. -/
namespace Fk
open PySem PySem.Spec PyProof.Rows L2
abbrev Byt := Array UInt8
/-- a file: its content, its last safe content, whether it is unsafe -/
structure Fl where
  c : Byt
  s : Option Byt
  u : Bool
def optB : Option Byt → V
  | none => .non
  | some b => .byt b
def optI : Option Int → V
  | none => .non
  | some n => .int n
/-- n: the books of the law say whether it is safe -/
def flL (n : Bool) (f : Fl) : List V := [.byt f.c, optB f.s, .bl (if n then !f.u else f.u)]
abbrev Fls := List (Str × Fl)
def FlsAt (n : Bool) (H : Hp) (t : Tab) (fs : Fls) : Prop := Paired (fun p f => p.1 = f.1 ∧ ∃ q, p.2 = V.ref q ∧ H q = some (.tup (flL n f.2))) t fs
def putF (fs : Fls) (x : Str) (f : Fl) : Fls := if (fs.any fun p => decide (p.1 = x)) = true then fs.map (fun p => if p.1 = x then (p.1, f) else p) else fs ++ [(x, f)]
def dropF (fs : Fls) (x : Str) : Fls := fs.filter fun p => decide (p.1 ≠ x)
def lookF (fs : Fls) (x : Str) : Option Fl := (fs.find? fun p => decide (p.1 = x)).map (·.2)
section
variable {n : Bool} {H H' : Hp} {t : Tab} {fs : Fls}
theorem FlsAt.keep (h : FlsAt n H t fs) (k : TupKeep H H') : FlsAt n H' t fs := Paired.mapP h fun p f ⟨e, q, e1, e2⟩ => ⟨e, q, e1, k _ _ e2⟩
theorem FlsAt.keys : ∀ {t : Tab} {fs : Fls}, FlsAt n H t fs → t.map (·.1) = fs.map (·.1)
  | _, _, .nil => rfl
  | _, _, .cons ⟨e, _⟩ r => by
    rw [List.map_cons, List.map_cons, e, FlsAt.keys r]
theorem FlsAt.len (h : FlsAt n H t fs) : t.length = fs.length := by
  have := congrArg List.length h.keys
  rwa [List.length_map, List.length_map] at this
theorem FlsAt.any (x : Str) : ∀ {t : Tab} {fs : Fls}, FlsAt n H t fs → (t.any fun p => decide (p.1 = x)) = fs.any fun p => decide (p.1 = x)
  | _, _, .nil => rfl
  | _, _, .cons ⟨e, _⟩ r => by
    rw [List.any_cons, List.any_cons, e, FlsAt.any x r]
theorem FlsAt.val (x : Str) : ∀ {t : Tab} {fs : Fls}, FlsAt n H t fs → (lookF fs x = none ∧ valV t x = none) ∨ ∃ f q, lookF fs x = some f ∧ valV t x = some (.ref q) ∧ H q = some (.tup (flL n f))
  | _, _, .nil => .inl ⟨rfl, rfl⟩
  | _, _, .cons (a := p) (b := f) (l₂ := l) ⟨e, q, e1, e2⟩ r => by
    by_cases h : f.1 = x
    · refine .inr ⟨f.2, q, ?_, ?_, e2⟩
      · unfold lookF
        rw [List.find?_cons, decide_eq_true h]
        rfl
      · rw [show p = (p.1, p.2) from rfl, valV_pos (by rw [← h, ← e]), e1]
    · have a : lookF (f :: l) x = lookF l x := by
        unfold lookF
        rw [List.find?_cons, decide_eq_false h]
      rw [a, valV_neg (p := p) (fun z => h (by rw [← e, z]))]
      exact FlsAt.val x r
theorem fls_map {x : Str} {f : Fl} {q : Addr} (hq : H q = some (.tup (flL n f))) : ∀ {t : Tab} {fs : Fls}, FlsAt n H t fs → FlsAt n H (t.map fun kv => if kv.1 = x then (kv.1, V.ref q) else kv) (fs.map fun p => if p.1 = x then (p.1, f) else p)
  | _, _, .nil => .nil
  | _, _, .cons (a := a) (b := b) ⟨e, y⟩ r => by
    refine .cons ?_ (fls_map hq r)
    show (if a.1 = x then (a.1, V.ref q) else a).1 = (if b.1 = x then (b.1, f) else b).1 ∧ ∃ q', (if a.1 = x then (a.1, V.ref q) else a).2 = V.ref q' ∧ H q' = some (.tup (flL n (if b.1 = x then (b.1, f) else b).2))
    by_cases z : b.1 = x
    · rw [if_pos z, if_pos (by rw [e, z])]
      exact ⟨e, q, rfl, hq⟩
    · rw [if_neg z, if_neg (fun w => z (by rw [← e, w]))]
      exact ⟨e, y⟩
theorem fls_snoc {x : Str} {f : Fl} {q : Addr} (hq : H q = some (.tup (flL n f))) : ∀ {t : Tab} {fs : Fls}, FlsAt n H t fs → FlsAt n H (t ++ [(x, V.ref q)]) (fs ++ [(x, f)])
  | _, _, .nil => .cons ⟨rfl, q, rfl, hq⟩ .nil
  | _, _, .cons e r => .cons e (fls_snoc hq r)
theorem FlsAt.put {x : Str} {f : Fl} {q : Addr} (h : FlsAt n H t fs) (hq : H q = some (.tup (flL n f))) : FlsAt n H (putK t x (.ref q)) (putF fs x f) := by
  unfold putK putF
  rw [h.any x]
  split
  · exact fls_map hq h
  · exact fls_snoc hq h
theorem FlsAt.drop (x : Str) : ∀ {t : Tab} {fs : Fls}, FlsAt n H t fs → FlsAt n H (dropK t x) (dropF fs x)
  | _, _, .nil => .nil
  | _, _, .cons (a := a) (b := b) (l₁ := l) (l₂ := m) ⟨e, y⟩ r => by
    have ih : FlsAt n H (dropK l x) (dropF m x) := FlsAt.drop x r
    unfold dropK dropF at ih ⊢
    rw [List.filter_cons, List.filter_cons, e]
    split
    · exact .cons ⟨e, y⟩ ih
    · exact ih
end
/-- a disk -/
structure Dk where
  fs : Fls
  left : Option Int
inductive Out where
  | told (b : Option Byt)
  | crash
  | absent (x : Str)
  deriving DecidableEq
inductive Deed where
  | write (x : Str) (b : Byt)
  | sync (x : Str)
  | rename (x y : Str)
  | remove (x : Str)
  | read (x : Str)
def spent (k : Dk) (fs : Fls) : Dk := ⟨fs, k.left.map (· - 1)⟩
/-- a deed that is a step -/
def stepD (k : Dk) (fs : Fls) : Out × Dk := if k.left = some 0 then (.crash, k) else (.told none, spent k fs)
def doDeed (d : Deed) (k : Dk) : Out × Dk :=
  match d with
  | .write x b => stepD k (putF k.fs x ⟨b, (lookF k.fs x).bind (·.s), true⟩)
  | .sync x => match lookF k.fs x with
    | none => (.absent x, k)
    | some f => stepD k (putF k.fs x ⟨f.c, some f.c, false⟩)
  | .rename x y => match lookF k.fs x with
    | none => (.absent x, k)
    | some f => stepD k (putF (dropF k.fs x) y f)
  | .remove x => match lookF k.fs x with
    | none => (.absent x, k)
    | some _ => stepD k (dropF k.fs x)
  | .read x => match lookF k.fs x with
    | none => (.absent x, k)
    | some f => (.told (some f.c), k)
end Fk

set_option maxHeartbeats 4000000
/-! a != b of two tuples with the same flat items (also bytes). -/
namespace Fk
open PySem PySem.Spec PyProof.Rows L2
def rNeTF (K : PySem.W.Frag) : R2 := fun x y H Q => ∃ a b l, x = .ref a ∧ y = .ref b ∧ SqT K H a l ∧ SqT K H b l ∧ (∀ v ∈ l, flatB v = true) ∧ Q (.bl false) H
theorem vals_eqat {A : Around} {s : Shared} : ∀ {l : List V} {us ws : List Value}, Vals l us → Vals l ws → (∀ v ∈ l, flatB v = true) → ∀ j (h1 : j < us.length) (h2 : j < ws.length), SeqAt.EqAt A s us[j] ws[j] true
  | _, _, _, .nil, .nil, _, j, h1, _ => absurd h1 (Nat.not_lt_zero j)
  | _, _, _, .cons r1 t1, .cons r2 t2, f, 0, _, _ => eqAt_same r1 r2 (f _ List.mem_cons_self)
  | _, _, _, .cons r1 t1, .cons r2 t2, f, j + 1, h1, h2 => by
    have := vals_eqat (A := A) (s := s) t1 t2 (fun v hv => f v (List.mem_cons_of_mem _ hv)) j (by simpa using h1) (by simpa using h2)
    simpa using this
theorem op_neTF {X : Cx} (hu : X.A.units < cLine) : OpR X (compareOp .NotEq) (rNeTF X.K) := by
  intro pins s σ H x y v u Q I rx ry h
  obtain ⟨a, b, l, rfl, rfl, ha, hb, f, q⟩ := h
  obtain rfl : v = Value.ref a := rx
  obtain rfl : u = Value.ref b := ry
  obtain ⟨us, r1, p1, _⟩ := I.tuple ha
  obtain ⟨ws, r2, p2, _⟩ := I.tuple hb
  have l1 := r1.length
  have l2 := r2.length
  refine SeqAt.RcNeAt.tuples (e := fun _ => true) p1 p2 hu (fun j h1 h2 => ?_) _ _ _ _ ?_
  · have := vals_eqat (A := X.A.in1) (s := s) r1 r2 f j (by simpa using h1) (by simpa using h2)
    simpa using this
  · have e : (us.toArray.size == ws.toArray.size) = true := by simp; omega
    rw [e, show ((List.range (min us.toArray.size ws.toArray.size)).all fun _ => true) = true from List.all_eq_true.mpr fun _ _ => rfl]
    exact ⟨.bl false, H, I, rfl, q⟩
end Fk
namespace Fk
open PySem PySem.Spec PyProof.Rows L2
theorem op_neTFK {X : Cx} {K : PySem.W.Frag} (h : X.K = K) (hu : X.A.units + 64 < cLine) : OpR X (compareOp .NotEq) (rNeTF K) := h ▸ op_neTF (Nat.lt_of_le_of_lt (Nat.le_add_right _ 64) hu)
end Fk

set_option maxHeartbeats 4000000
/-! == and != of two pairs of a dict and a tuple of texts. -/
namespace Fk
open PySem PySem.Spec PyProof.Rows L2 PySem.SeqAt
open AutoSeq1 (wpAny_loadPart')
open MeetsSeq MeetsSeq2 MeetsSeq3 SeqRoads2
/-- a != b of tuples whose items are compared within this program and world -/
theorem pair_ne {prog : Program} {w : World} (l b : Addr) (items items2 : Array Value) (n n2 : Nat) (dd dd2 : Option Addr) (sl sl2 : Array (Option Value)) (e : Nat → Bool) :
    MeetsIn prog w (Builtin.«tuple.__ne__» ⟨[.ref l, .ref b], []⟩)
      (fun A R s => s.heap.get? l = some { cls := .type "tuple", dict := dd, data := .seq items n, slots := sl } ∧ s.heap.get? b = some { cls := .type "tuple", dict := dd2, data := .seq items2 n2, slots := sl2 } ∧
        (∀ j (h1 : j < items.size) (h2 : j < items2.size), EqIn prog w A.in1 s items[j] items2[j] (e j)) ∧
        R (.ok (.ret (.bool (!((List.range (min items.size items2.size)).all e && items.size == items2.size))))) s) :=
  .of_wp fun A R s h => by
    obtain ⟨hp, g, d, tk, os⟩ := s
    obtain ⟨hl, hb, he, h⟩ := h
    have sub := AutoSeq1.sub_tuple_tuple
    have lz : (items.toList.zip items2.toList).length = min items.size items2.size := by simp
    wp_walk using wpAny_loadPart' hl, wpAny_loadPart' hb, wpAny_forIn_list _ (fun rest b s' => b.1 = none ∧ s' = ⟨hp, g, d, tk, os⟩ ∧ ∃ i, rest = (items.toList.zip items2.toList).drop i ∧
      R (.ok (.ret (.bool (!(((List.range (min items.size items2.size)).drop i).all e && items.size == items2.size))))) ⟨hp, g, d, tk, os⟩) _
    case turn =>
      rintro ⟨y, x⟩ rest b s' ⟨hb', rfl, i, hz, hR⟩
      have lt : i < (items.toList.zip items2.toList).length := Nat.lt_of_not_le fun z => by
        rw [List.drop_of_length_le z] at hz
        cases hz
      have lm : i < min items.size items2.size := lz ▸ lt
      have h1 : i < items.size := Nat.lt_of_lt_of_le lm (Nat.min_le_left _ _)
      have h2 : i < items2.size := Nat.lt_of_lt_of_le lm (Nat.min_le_right _ _)
      rw [List.drop_eq_getElem_cons lt] at hz
      injection hz with hyx hrest
      have hy : y = items[i] := by simpa using congrArg Prod.fst hyx
      have hx : x = items2[i] := by simpa using congrArg Prod.snd hyx
      subst hy hx
      have hd : (List.range (min items.size items2.size)).drop i = i :: (List.range (min items.size items2.size)).drop (i + 1) := by simp [List.drop_eq_getElem_cons, lm]
      rw [hd, List.all_cons] at hR
      refine wpAny_bind (he i h1 h2 _ _ ?_)
      cases hy : e i <;> rw [hy] at hR
      · wp_walk
        exact ⟨_, rfl, by simpa using hR⟩
      · wp_walk
        exact ⟨rfl, rfl, i + 1, hrest, by simpa using hR⟩
    case fin =>
      rintro ⟨b1, b2⟩ s' ⟨hb', rfl, i, hz, hR⟩
      simp only at hb'
      subst hb'
      have ge : min items.size items2.size ≤ i := by
        rcases Nat.lt_or_ge i (items.toList.zip items2.toList).length with z | z
        · rw [List.drop_eq_getElem_cons z] at hz
          cases hz
        · exact lz ▸ z
      rw [List.drop_of_length_le (by simpa using ge)] at hR
      wp_walk
      exact ⟨_, rfl, by simpa [Builtin.Tuple.tupleCompareSizes, bne] using hR⟩
    case h => exact ⟨rfl, rfl, 0, rfl, by simpa using h⟩
theorem rc_pair_ne {prog : Program} {w : World} {A : Around} {s : Shared} {E : Value → Shared → Prop} {l b : Addr} {items items2 : Array Value} {e : Nat → Bool} {Q : Value → Shared → Prop} (hl : s.heap.IsTuple l items) (hb : s.heap.IsTuple b items2) (hu : A.units < cLine)
    (he : ∀ j (h1 : j < items.size) (h2 : j < items2.size), EqIn prog w A.in1 s items[j] items2[j] (e j)) (h : Q (.bool (!((List.range (min items.size items2.size)).all e && items.size == items2.size))) s) :
    wpAny (model prog w) A (richCompare .NotEq (.ref l) (.ref b)) Q E s := by
  obtain ⟨⟨cls, dd, data, sl⟩, ho, hc, n, hd⟩ := id hl
  obtain ⟨⟨cls2, dd2, data2, sl2⟩, ho2, hc2, n2, hd2⟩ := id hb
  simp only at hc hd hc2 hd2
  subst hc hd hc2 hd2
  refine wpAny_richCompare_same_room (T := "tuple") (op := .NotEq) ⟨_, ho, rfl⟩ ⟨_, ho2, rfl⟩ F.slot_tuple_ne (call_meetsIn F.slot_tuple_ne ⟨_, ho, rfl⟩ F.entry_tuple_ne (F.args_tuple_ne_2 _ _) (pair_ne l b items items2 n n2 dd dd2 sl sl2 e) ⟨ho, ho2, he, ?_⟩) hu
  exact ⟨(fun x => nomatch x), h⟩
/-- the two pairs: equal dicts of data, the same texts -/
def PairAt (K : PySem.W.Frag) (H : Hp) (x y : V) : Prop := ∃ (a b d1 d2 c1 c2 : Addr) (ds es : List (Key × PyData)) (ys : List Str), x = .ref a ∧ y = .ref b ∧ H a = some (.tup [.ref d1, .ref c1]) ∧ H b = some (.tup [.ref d2, .ref c2]) ∧
  DatAt K H d1 ds ∧ DatAt K H d2 es ∧ shapedAll ds ∧ shapedAll es ∧ eqvDict ds es = true ∧ H c1 = some (.tup (ys.map V.str)) ∧ H c2 = some (.tup (ys.map V.str)) ∧ ∀ y ∈ ys, OkS y
section
variable {X : Cx}
theorem pair_in {pins : List (Addr × Obj)} {σ : L2.St} {H : Hp} {s : Shared} {A : Around} {x y : V} (I : Inv X pins σ H s) (hu : A.units + 66 < cLine) (h : PairAt X.K H x y) :
    ∃ (a b : Addr) (us ws : List Value), x = .ref a ∧ y = .ref b ∧ s.heap.IsTuple a us.toArray ∧ s.heap.IsTuple b ws.toArray ∧ us.length = 2 ∧ ws.length = 2 ∧ ∀ j (h1 : j < us.toArray.size) (h2 : j < ws.toArray.size), EqIn X.prog X.w A s us.toArray[j] ws.toArray[j] true := by
  obtain ⟨a, b, d1, d2, c1, c2, ds, es, ys, rfl, rfl, ha, hb, ⟨ks, e1, da⟩, ⟨ls, e2, db⟩, sd, se, eq, h1, h2, ok⟩ := h
  obtain ⟨us, r1, p1, _⟩ := I.tuple (SqT.of ha)
  obtain ⟨ws, r2, p2, _⟩ := I.tuple (SqT.of hb)
  obtain ⟨_, ya, va, ra, dda⟩ := (show ObjOk X.prog X.w H s.heap d1 (.dK ks) from I.hok d1 _ e1)
  obtain ⟨_, yb, vb, rb, ddb⟩ := (show ObjOk X.prog X.w H s.heap d2 (.dK ls) from I.hok d2 _ e2)
  obtain ⟨t1, q1, pl1, _⟩ := I.tuple (SqT.of h1)
  obtain ⟨t2, q2, pl2, _⟩ := I.tuple (SqT.of h2)
  cases r1 with
  | cons x1 r1 =>
    cases r1 with
    | cons x2 r1 =>
      cases r1
      cases r2 with
      | cons z1 r2 =>
        cases r2 with
        | cons z2 r2 =>
          cases r2
          cases x1
          cases x2
          cases z1
          cases z2
          refine ⟨a, b, _, _, rfl, rfl, p1, p2, rfl, rfl, fun j h1' h2' => ?_⟩
          have j2 : j = 0 ∨ j = 1 := by
            have : j < 2 := h1'
            omega
          rcases j2 with rfl | rfl
          · show EqIn X.prog X.w A s (.ref d1) (.ref d2) true
            by_cases ed : d1 = d2
            · subst ed
              exact (EqAt.same _).inModel _ _
            · refine EqIn.of_refs ed fun E Q hq => ?_
              have e : (va.length == vb.length && ds.all (hitD es)) = true := by
                rw [← eq]
                unfold eqvDict
                rw [← ra.length, ← rb.length, da.len, db.len]
                rfl
              refine PySem.W.keq_eq (knd := mixKind X.prog X.w) (r := ds.all (hitD es)) ya yb dda ddb (by omega) (fun _ => hits_data I ?_ rb db se ra da sd) ?_
              · show A.units + 1 + 64 < cLine
                omega
              · rw [e]
                exact hq
          · show EqIn X.prog X.w A s (.ref c1) (.ref c2) true
            by_cases ec : c1 = c2
            · subst ec
              exact (EqAt.same _).inModel _ _
            · refine EqIn.of_refs ec fun E Q hq => ?_
              have n1 := q1.length
              have n2 := q2.length
              refine RcAt.tuples (e := fun _ => true) pl1 pl2 (by omega) (fun k k1 k2 => ?_) _ _ _ _ ?_
              · have := vals_eqat (A := A.in1) (s := s) q1 q2 (fun v hv => by
                  obtain ⟨y, _, rfl⟩ := List.mem_map.mp hv
                  rfl) k (by simpa using k1) (by simpa using k2)
                simpa using this
              · have e : (t1.toArray.size == t2.toArray.size) = true := by simp; omega
                rw [e, show ((List.range (min t1.toArray.size t2.toArray.size)).all fun _ => true) = true from List.all_eq_true.mpr fun _ _ => rfl]
                exact hq
def rEqPr (K : PySem.W.Frag) : R2 := fun x y H Q => PairAt K H x y ∧ Q (.bl true) H
def rNePr (K : PySem.W.Frag) : R2 := fun x y H Q => PairAt K H x y ∧ Q (.bl false) H
theorem op_eqPr {K : PySem.W.Frag} (eK : X.K = K) (hu : X.A.units + 70 < cLine) : OpR X (compareOp .Eq) (rEqPr K) := by
  subst eK
  rintro pins s σ H x y v u Q I rx ry ⟨h, q⟩
  obtain ⟨a, b, us, ws, rfl, rfl, p1, p2, l1, l2, e⟩ := pair_in (A := X.A.in1) I (by show X.A.units + 1 + 66 < cLine; omega) h
  cases rx
  cases ry
  refine rcIn_tuples (e := fun _ => true) p1 p2 (by omega) e ?_
  have z : (us.toArray.size == ws.toArray.size) = true := by simp; omega
  rw [z, show ((List.range (min us.toArray.size ws.toArray.size)).all fun _ => true) = true from List.all_eq_true.mpr fun _ _ => rfl]
  exact ⟨.bl true, H, I, rfl, q⟩
theorem op_nePr {K : PySem.W.Frag} (eK : X.K = K) (hu : X.A.units + 70 < cLine) : OpR X (compareOp .NotEq) (rNePr K) := by
  subst eK
  rintro pins s σ H x y v u Q I rx ry ⟨h, q⟩
  obtain ⟨a, b, us, ws, rfl, rfl, p1, p2, l1, l2, e⟩ := pair_in (A := X.A.in1) I (by show X.A.units + 1 + 66 < cLine; omega) h
  cases rx
  cases ry
  refine rc_pair_ne (e := fun _ => true) p1 p2 (by omega) e ?_
  have z : (us.toArray.size == ws.toArray.size) = true := by simp; omega
  rw [z, show ((List.range (min us.toArray.size ws.toArray.size)).all fun _ => true) = true from List.all_eq_true.mpr fun _ _ => rfl]
  exact ⟨.bl false, H, I, rfl, q⟩
end
theorem room70 {k : Nat} {A : Around} (r : Room k A) : A.units + 70 < cLine := by
  have := r.un
  omega
end Fk

set_option maxHeartbeats 4000000
namespace Fk
open PySem PySem.Spec PyProof.Rows L2
def fiD (p : Fi) : PyData := .tuple [.str p.1, .str p.2]
theorem FiV.dp {K : PySem.W.Frag} {H : Hp} {v : V} {p : Fi} (h : FiV K H v p) : Dp K H v (fiD p) := by
  obtain ⟨q, rfl, t⟩ := h
  exact dp_head t
theorem eqv_fi (a b : Fi) : PyData.eqv (fiD a) (fiD b) = true ↔ a = b := by
  have := eqv_fv (some a) (some b)
  rw [show fvD (some a) = fiD a from rfl, show fvD (some b) = fiD b from rfl] at this
  rw [this, decide_eq_true_eq]
  exact ⟨fun h => Option.some.inj h, fun h => by rw [h]⟩
theorem FilesOk.shaped {K : PySem.W.Frag} {H : Hp} {n : Nat} {t : Tab} {m : Mp Fi} (h : FilesOk n t m) (hh : Holds (FiV K H) t m) : shapedAll (dataM fiD t m) := fun p hp => by
  unfold dataM at hp
  obtain ⟨x, hx, rfl⟩ := List.mem_map.mp hp
  have z := hh.mem.mp hx
  cases y : m x with
  | none => rw [y] at z; cases z
  | some r => exact shaped_fv (h.good x r y).f
theorem eqv_selfL : ∀ ys : List Str, PyData.eqvAll (ys.map PyData.str) (ys.map PyData.str) = true
  | [] => rfl
  | y :: l => by
    show (PyData.eqv (.str y) (.str y) && PyData.eqvAll (l.map PyData.str) (l.map PyData.str)) = true
    rw [eqv_selfL l, Bool.and_true]
    show decide (y = y) = true
    exact decide_eq_true rfl
theorem pair_of {K : PySem.W.Frag} {H : Hp} {v u : V} {g : Mp Fi} {S : Str → Prop} {b c : Bool} (h : MergV K H v g S b) (k : MergV K H u g S c) : PairAt K H v u := by
  obtain ⟨p, d, e, t, ys, rfl, hp, hd, hh, ho, _, he, sy, ny, py, my⟩ := h
  obtain ⟨p2, d2, e2, t2, zs, rfl, hp2, hd2, hh2, ho2, _, he2, sz, nz, pz, mz⟩ := k
  have pr : ys.Perm zs := (List.perm_ext_iff_of_nodup ny nz).mpr fun x => (my x).trans (mz x).symm
  obtain rfl := sort_uniq sy sz pr
  refine ⟨p, p2, d, d2, e, e2, dataM fiD t g, dataM fiD t2 g, ys, rfl, rfl, hp, hp2, ⟨_, hd, hh.dd (fun _ _ x => FiV.dp x) ho.nd⟩, ⟨_, hd2, hh2.dd (fun _ _ x => FiV.dp x) ho2.nd⟩, ho.shaped hh, ho2.shaped hh2, ?_, he, he2, fun y hy => (py y hy).2.2⟩
  rw [eqv_data (fun a b => eqv_fi a b) hh hh2 ho.nd ho2.nd]
theorem MergV.same {K : PySem.W.Frag} {H H' : Hp} {v : V} {g : Mp Fi} {S : Str → Prop} {b : Bool} (h : MergV K H v g S b) (s : Same H H') : MergV K H' v g S b := by
  obtain ⟨p, d, e, t, ys, rfl, hp, hd, hh, ho, hs, he, r⟩ := h
  exact ⟨p, d, e, t, ys, rfl, s _ _ hp, s _ _ hd, hh.imp fun _ _ x => FvV.keep x (TupKeep.of s), ho, hs, s _ _ he, r⟩
/-- a row of differences as data -/
def row3 (f g : Mp Fi) (x : Str) : PyData := .tuple [.str x, fvD (f x), fvD (g x)]
theorem lay_row3 {f g : Mp Fi} (gf : ∀ x, GoodF (f x)) (gg : ∀ x, GoodF (g x)) : ∀ ys : List Str, (∀ y ∈ ys, OkS y) → PyData.canLayAll0 (ys.map (row3 f g)) = true
  | [], _ => rfl
  | y :: l, h => by
    have i := lay_row3 gf gg l fun z hz => h z (List.mem_cons_of_mem _ hz)
    have a : PyData.strOk y = true := strOk_of (h y List.mem_cons_self)
    have b : PyData.canLay0 (row3 f g y) = true := by
      unfold row3
      simp only [PyData.canLay0, PyData.canLayAll0, a, lay_fv (gf y), lay_fv (gg y), Bool.and_self]
    rw [List.map_cons]
    simp only [PyData.canLayAll0, b, i, Bool.and_self]
theorem shaped_row3 {f g : Mp Fi} (gf : ∀ x, GoodF (f x)) (gg : ∀ x, GoodF (g x)) {ys : List Str} (h : ∀ y ∈ ys, OkS y) : SeqAt.shaped (.list (ys.map (row3 f g))) = true := by
  unfold SeqAt.shaped
  have c : PyData.canLay0 (.list (ys.map (row3 f g))) = true := lay_row3 gf gg ys h
  rw [c, Bool.true_and]
  refine decide_eq_true ?_
  have : PyData.depthAll (ys.map (row3 f g)) ≤ 2 := depthAll_le fun d hd => by
    obtain ⟨y, _, rfl⟩ := List.mem_map.mp hd
    have d1 := depth_fv (f y)
    have d2 := depth_fv (g y)
    show PyData.depthAll [.str y, fvD (f y), fvD (g y)] + 1 ≤ 2
    simp only [PyData.depthAll, PyData.depth]
    omega
  show PyData.depthAll _ + 1 ≤ 64
  omega
theorem dp_row3 {K : PySem.W.Frag} {H : Hp} {f g : Mp Fi} : ∀ {as : List Addr} {ys : List Str}, Paired (fun (a : Addr) x => ∃ v1 v2, H a = some (.tup [.str x, v1, v2]) ∧ FvV K H v1 (f x) ∧ FvV K H v2 (g x)) as ys → DpAll K H (as.map V.ref) (ys.map (row3 f g))
  | _, _, .nil => .nil
  | _, _, .cons ⟨v1, v2, h1, h2, h3⟩ r => .cons (.tup (SqT.of h1) (.cons (.str _) (.cons h2.dp (.cons h3.dp .nil)))) (dp_row3 r)
section
variable {P : Program} {w : World} {K : PySem.W.Frag} {mg : Str → Option Value} {base : Heap} {fk iF cP : Addr}
theorem paired_maps {α β : Type} {R : α → β → Prop} : ∀ {l : List (α × β)}, (∀ u ∈ l, R u.1 u.2) → Paired R (l.map (·.1)) (l.map (·.2))
  | [], _ => .nil
  | u :: l, h => .cons (h u List.mem_cons_self) (paired_maps fun w hw => h w (List.mem_cons_of_mem _ hw))
def spSame (K : PySem.W.Frag) : Sp := fun vs H Q _ => ∃ (v u : V) (g : Mp Fi) (S : Str → Prop) (b : Bool), vs = [v, u] ∧ MergV K H v g S true ∧ MergV K H u g S b ∧ ∀ H', Same H H' → Q (.bl true) H'
theorem c_l_same (T : TopG K mg fk cP iF) : C8.Cal P w K mg base 1 "_law_same" (spSame K) [] := by
  refine cal_of T.d_l_same sc_l_same (fun _ _ _ _ _ _ us hl => match us, hl with | [_, _], _ => rfl) (fun vs H Q E h => ?_) (fun fa cdv A outer s H vs Q E hr h => ?_)
  · obtain ⟨v, u, g, S, b, rfl, _⟩ := h
    rfl
  · obtain ⟨v, u, g, S, b, rfl, hv, hu, q⟩ := h
    have pr := pair_of hv hu
    obtain ⟨p, d, e, t, ys, rfl, hp, hd, hh, ho, hs, he, _⟩ := id hv
    refine ⟨_, (pss_cons (ps_if (PW.pt (pw_or (pt_not (pt_val (pe_callB call_isi (by rfl) T.z_isinstance (by decide +kernel) (pa_cons (pv 0) (pa_cons (pe_bltn (v := .ty "tuple") (by rfl) T.z_tuple (by decide +kernel) rfl) pa_nil))))) (pw_or (pt_cmpR op_ne (pe_callB call_len_seq (by rfl) T.z_len (by decide +kernel) (pa_cons (pv 0) pa_nil)) pe_int (nomark _)) (pw_or1 (pt_not (pt_val (pe_callB call_isi (by rfl) T.z_isinstance (by decide +kernel) (pa_cons (pe_ix ix_tup (pv 0) pe_int (fun _ _ => rfl)) (pa_cons (pe_bltn (v := .ty "dict") (by rfl) T.z_dict (by decide +kernel) rfl) pa_nil)))))))))
      (pss_one (ps_ret pe_bl))
      pss_nil)
      (pss_one (ps_ret (pe_and (pe_cmpR (op_eqPr (K := K) rfl (room70 hr)) (pv 0) (pv 1) (nomark _)) (pe_and (pe_cmpR (op_eqD hr.units) (pe_callTy (call_listD rfl) (by rfl) T.z_list (by decide +kernel) (pa_cons (pe_ix ix_tup (pv 0) pe_int (fun _ _ => rfl)) pa_nil)) (pe_callB (call_sortedD (by rfl)) (by rfl) T.z_sorted (by decide +kernel) (pa_cons (pe_ix ix_tup (pv 0) pe_int (fun _ _ => rfl)) pa_nil)) (nomark _)) (pe_one (pe_callB call_isi (by rfl) T.z_isinstance (by decide +kernel) (pa_cons (pe_ix ix_tup (pv 0) pe_int (fun _ _ => rfl)) (pa_cons (pe_bltn (v := .ty "tuple") (by rfl) T.z_tuple (by decide +kernel) rfl) pa_nil))))))))), ?_⟩
    refine ⟨.ref p, rfl, ?_⟩
    dsimp only [tCons, tC, tNil]
    refine isi_tup (.inl hp) ⟨_, rfl, iteF ?_⟩
    refine ⟨.ref p, rfl, p, _, rfl, .inr (SqT.of hp), rfl, _, rfl, iteF ?_⟩
    refine ⟨.ref p, rfl, p, _, 0, .ref d, rfl, rfl, SqT.of hp, rfl, ?_⟩
    dsimp only [tCons, tC, tNil]
    refine ⟨_, _, .type "dict", .type "dict", true, rfl, .ty "dict", .base (.dK hd), kit_ty (by decide +kernel), _, rfl, iteF ?_⟩
    refine ⟨.ref p, rfl, u, rfl, pr, _, rfl, iteT ?_⟩
    have lt := ho.len
    refine ⟨.ref p, rfl, p, _, 0, .ref d, rfl, rfl, SqT.of hp, rfl, d, kT t, rfl, .inl hd, fun pl npl => ?_⟩
    have s13 := same_new (o := .lst ((kT t).map fun kv => kV kv.1)) npl
    have h13 := upd_same (H := H) (a := pl) (o := .lst ((kT t).map fun kv => kV kv.1))
    rw [show ((kT t).map fun kv => kV kv.1) = (t.map (·.1)).map V.str from kV_kT t] at s13 h13 ⊢
    generalize upd H pl (.lst ((t.map (·.1)).map V.str)) = H13 at s13 h13
    refine ⟨.ref p, rfl, p, _, 0, .ref d, rfl, rfl, SqT.of (s13 _ _ hp), rfl, d, kT t, t.map (·.1), rfl, .inl (s13 _ _ hd), keys_kT t, by rw [List.length_map]; omega, fun zs pq hpp hss npq => ?_⟩
    obtain rfl := sort_uniq hss (hs rfl) hpp
    have s14 := same_new (o := .lst ((t.map (·.1)).map V.str)) npq
    have h14 := upd_same (H := H13) (a := pq) (o := .lst ((t.map (·.1)).map V.str))
    generalize upd H13 pq (.lst ((t.map (·.1)).map V.str)) = H14 at s14 h14
    have ok : ∀ y ∈ t.map (·.1), OkS y := fun y hy => (ho.path y hy).2.2
    refine ⟨.list ((t.map (·.1)).map PyData.str), .list ((t.map (·.1)).map PyData.str), .lst (SqL.of (s14 _ _ h13)) (dp_strs _), .lst (SqL.of h14) (dp_strs _), shaped_strs _ ok, shaped_strs _ ok, ?_⟩
    rw [show PyData.eqv (.list ((t.map (·.1)).map PyData.str)) (.list ((t.map (·.1)).map PyData.str)) = true from eqv_selfL _]
    refine ⟨_, rfl, iteT ?_⟩
    have s0 := s13.trans s14
    refine ⟨.ref p, rfl, p, _, 1, .ref e, rfl, rfl, SqT.of (s0 _ _ hp), rfl, ?_⟩
    dsimp only [tCons, tC, tNil]
    exact isi_tup (.inl (s0 _ _ he)) (q _ s0)
def spRowsR (K : PySem.W.Frag) : Sp := fun vs H Q _ => ∃ (o t : Addr) (f g : Mp Fi), vs = [.ref o, .ref t] ∧ FilesAt K H o 16 f ∧ FilesAt K H t 16 g ∧ ∀ H', Same H H' → Q (.bl true) H'
set_option pp.maxSteps 60 in
theorem c_l_rows_right (T : TopG K mg fk cP iF) : C8.Cal P w K mg base 7 "_law_rows_right" (spRowsR K) [] := by
  refine cal_of T.d_l_rows_right sc_l_rows_right (fun _ _ _ _ _ _ us hl => match us, hl with | [_, _], _ => rfl) (fun vs H Q E h => ?_) (fun fa cdv A outer s H vs Q E hr h => ?_)
  · obtain ⟨o, t, f, g, rfl, _⟩ := h
    rfl
  · obtain ⟨o, t, f, g, rfl, hF, hG, q⟩ := h
    refine ⟨_, (pss_cons (ps_set (i := 2) sc_l_rows_right.nd rfl (Or.inl rfl) (pe_cx (cx_differences T) hr (by decide) (fun _ => passAt takes_none5 _) (by rfl) (pa_cons (pv 0) (pa_cons (pv 1) pa_nil))))
      (pss_cons (ps_set (i := 3) sc_l_rows_right.nd rfl (Or.inl rfl) (pe_callB (cr_sortedS) (by rfl) T.z_sorted (by decide +kernel) (pa_cons (pe_op op_cat (pe_lock (pe_lc (own := [("_law_path", 4)]) (g := gName 4) (by rfl) sc_l_rows_right.nd (pi_keys (pv 0)) (blkOk_by (own := [("_law_path", 4)]) (N := ["_law_ours", "_law_theirs", "_law_rows", "_law_paths", "_law_path", "_law_wanted", "_law_row"]) (sc := C8.fnScope s_l_rows_right) (by decide +kernel)) (fun _ _ _ _ _ => (pg_name (i := 4) sc_l_rows_right.nd rfl (Or.inl rfl))) (fun _ _ _ _ _ => pts_nil) (fun _ _ _ _ _ => (pv 4)))) (pe_lock (pe_lc (own := [("_law_path", 4)]) (g := gName 4) (by rfl) sc_l_rows_right.nd (pi_keys (pv 1)) (blkOk_by (own := [("_law_path", 4)]) (N := ["_law_ours", "_law_theirs", "_law_rows", "_law_paths", "_law_path", "_law_wanted", "_law_row"]) (sc := C8.fnScope s_l_rows_right) (by decide +kernel)) (fun _ _ _ _ _ => (pg_name (i := 4) sc_l_rows_right.nd rfl (Or.inl rfl))) (fun _ _ _ _ _ => pts_one (pt_cmp (pc_dnotin (hu_of hr) (pv 4) (pv 0)))) (fun _ _ _ _ _ => (pv 4))))) pa_nil)))
      (pss_cons (ps_setLc (i := 5) (own := [("_law_path", 4)]) (g := gName 4) (by rfl) sc_l_rows_right.nd rfl rfl (sw_true rfl rfl rfl (by decide +kernel)) (pi_list (pv 3)) (blkOk_by (own := [("_law_path", 4)]) (N := ["_law_ours", "_law_theirs", "_law_rows", "_law_paths", "_law_path", "_law_wanted", "_law_row"]) (sc := C8.fnScope s_l_rows_right) (by decide +kernel)) (fun _ _ _ _ _ => (pg_name (i := 4) sc_l_rows_right.nd rfl (Or.inl rfl))) (fun _ _ _ _ _ => pts_nil) (fun _ _ _ _ _ => (pe_tup (pa_cons (pv 4) (pa_cons (pe_dget1 (hu_of hr) (pv 0) (pv 4) ⟨rfl, rfl, rfl, rfl⟩) (pa_cons (pe_dget1 (hu_of hr) (pv 1) (pv 4) ⟨rfl, rfl, rfl, rfl⟩) pa_nil))))))
      (pss_one (ps_ret (pe_and (pe_callB call_isi (by rfl) T.z_isinstance (by decide +kernel) (pa_cons (pv 2) (pa_cons (pe_bltn (v := .ty "list") (by rfl) T.z_list (by decide +kernel) rfl) pa_nil))) (pe_one (pe_cmpR (op_eqD hr.units) (pv 2) (pe_lc (own := [("_law_row", 6)]) (g := gName 6) (by rfl) sc_l_rows_right.nd (pi_list (pv 5)) (blkOk_by (own := [("_law_row", 6)]) (N := ["_law_ours", "_law_theirs", "_law_rows", "_law_paths", "_law_path", "_law_wanted", "_law_row"]) (sc := C8.fnScope s_l_rows_right) (by decide +kernel)) (fun _ _ _ _ _ => (pg_name (i := 6) sc_l_rows_right.nd rfl (Or.inl rfl))) (fun _ _ _ _ _ => pts_one (pt_cmpR (op_neFv (K := K) rfl hr.units) (pe_ix (ixK_tup (K := K) rfl) (pv 6) pe_int (fun _ _ => rfl)) (pe_ix (ixK_tup (K := K) rfl) (pv 6) pe_int (fun _ _ => rfl)) (nomark _))) (fun _ _ _ _ _ => (pv 6))) (nomark _))))))))), ?_⟩
    refine ⟨.ref o, rfl, .ref t, rfl, o, t, 16, 16, f, g, rfl, hF, hG, by decide, fun D0 as0 ys0 H1 s1 hD0 ndy0 sy0 ly0 py0 my0 pr0 => ?_⟩
    obtain ⟨tf, gf, hHf, oF⟩ := hF.same s1
    obtain ⟨tg, gg, hHg, oG⟩ := hG.same s1
    have lf := oF.len
    have lg := oG.len
    have gF : ∀ x, GoodF (f x) := fun x p e => oF.good x p e
    have gG : ∀ x, GoodF (g x) := fun x p e => oG.good x p e
    refine ⟨o, _, gf, trivial, fun od => ⟨.ref o, rfl, o, od, rfl, .inl ⟨kT tf, upd_same, fun D1 hD1 => ?_⟩⟩⟩
    have Yf : Yields (Itk o od (kT tf)) ((tf.map (·.1)).map V.str) (fun H => H o = some (.frz od (.dK (kT tf)))) := by
      rw [← kV_kT]
      exact yields_keys
    have nD1 := lock_ne hD1
    refine lc_pure (i := 4) (us := tf.map (·.1)) (g := V.str) Yf V.str (fun _ => true) hD1 (fun H s => s _ _ upd_same) (fun H5 x s5 hx R r => r H5 (Same.refl H5)) (fun H5 x s5 hx _ R r => ⟨_, rfl, r H5 (Same.refl H5)⟩) (by rw [List.length_map]; omega) (fun H2 s2 h2 => ⟨s2 _ _ upd_same, ?_⟩)
    rw [filt_all] at h2
    have s13 : Same H1 (upd H2 o (.dK (kT tf))) := same_unlock s2 gf
    have h3 : (upd H2 o (.dK (kT tf))) D1 = some (.lst ((tf.map (·.1)).map V.str)) := by rw [upd_ne nD1]; exact h2
    generalize upd H2 o (.dK (kT tf)) = H3 at s13 h3
    have gg3 := s13 _ _ gg
    have gf3 := s13 _ _ gf
    refine ⟨t, _, gg3, trivial, fun od2 => ⟨.ref t, rfl, t, od2, rfl, .inl ⟨kT tg, upd_same, fun D2 hD2 => ?_⟩⟩⟩
    have Yg : Yields (Itk t od2 (kT tg)) ((tg.map (·.1)).map V.str) (fun H => H t = some (.frz od2 (.dK (kT tg)))) := by
      rw [← kV_kT]
      exact yields_keys
    have nD2 := lock_ne hD2
    refine lc_pure (i := 4) (us := tg.map (·.1)) (g := V.str) Yg V.str (fun x => !(valV tf x).isSome) hD2 (fun H s => s _ _ upd_same) (fun H5 x s5 hx R r => ⟨.str x, rfl, .ref o, rfl, o, _, rfl, dget_two gg3 gf3 s5 x, _, rfl, r H5 (Same.refl H5)⟩) (fun H5 x s5 hx _ R r => ⟨_, rfl, r H5 (Same.refl H5)⟩) (by rw [List.length_map]; omega) (fun H4 s4 h4 => ⟨s4 _ _ upd_same, ?_⟩)
    have s35 : Same H3 (upd H4 t (.dK (kT tg))) := same_unlock s4 gg3
    have h5 : (upd H4 t (.dK (kT tg))) D2 = some (.lst (((tg.map (·.1)).filter fun x => !(valV tf x).isSome).map V.str)) := by rw [upd_ne nD2]; exact h4
    generalize upd H4 t (.dK (kT tg)) = H5 at s35 h5
    have h35 := s35 _ _ h3
    have lk2 := List.length_filter_le (fun x => !(valV tf x).isSome) (tg.map (·.1))
    rw [List.length_map] at lk2
    have mk2 : ∀ x, x ∈ (tg.map (·.1)).filter (fun x => !(valV tf x).isSome) ↔ (g x).isSome = true ∧ (f x).isSome = false := fun x => by
      rw [List.mem_filter, hHg.mem, hHf.isSome]
      simp
    have nd2 : ((tg.map (·.1)).filter fun x => !(valV tf x).isSome).Nodup := List.Pairwise.filter _ oG.nd
    generalize (tg.map (·.1)).filter (fun x => !(valV tf x).isSome) = ks2 at h5 lk2 mk2 nd2
    refine ⟨D1, D2, _, _, rfl, rfl, h35, h5, small_line (by rw [List.length_map, List.length_map, List.length_map]; omega), fun pl npl => ?_⟩
    have s6 := same_new (o := .lst ((tf.map (·.1)).map V.str ++ ks2.map V.str)) npl
    have h6 : (upd H5 pl (.lst ((tf.map (·.1)).map V.str ++ ks2.map V.str))) pl = some (.lst ((tf.map (·.1) ++ ks2).map V.str)) := by rw [upd_same, List.map_append]
    generalize upd H5 pl (.lst ((tf.map (·.1)).map V.str ++ ks2.map V.str)) = H6 at s6 h6
    refine ⟨pl, tf.map (·.1) ++ ks2, rfl, .inl (.inl h6), by rw [List.length_append, List.length_map]; omega, fun ys p hp hs np => ?_⟩
    have s7 := same_new (o := .lst (ys.map V.str)) np
    have h7 := upd_same (H := H6) (a := p) (o := .lst (ys.map V.str))
    generalize upd H6 p (.lst (ys.map V.str)) = H7 at s7 h7
    have s17 := ((s13.trans s35).trans s6).trans s7
    have gf7 := s17 _ _ gf
    have gg7 := s17 _ _ gg
    have ly : ys.length ≤ 32 := by rw [hp.length_eq, List.length_append, List.length_map]; omega
    have ndA : (tf.map (·.1) ++ ks2).Nodup := List.nodup_append.mpr ⟨oF.nd, nd2, fun a ha b hb e => by
      subst e
      have z := ((mk2 a).mp hb).2
      rw [hHf.mem.mp ha] at z
      cases z⟩
    have ndy : ys.Nodup := hp.nodup_iff.mpr ndA
    have my : ∀ x, x ∈ ys ↔ (f x).isSome = true ∨ (g x).isSome = true := fun x => by
      rw [hp.mem_iff, List.mem_append, hHf.mem, mk2]
      cases f x <;> cases g x <;> simp
    have oky : ∀ x ∈ ys, OkS x := fun x hx => by
      rcases (my x).mp hx with z | z
      · exact (oF.path x (hHf.mem.mpr z)).2.2
      · exact (oG.path x (hHg.mem.mpr z)).2.2
    let va : Str → V := fun x => (valV tf x).getD .non
    let vb : Str → V := fun x => (valV tg x).getD .non
    refine ⟨.ref p, rfl, p, rfl, ⟨_, SqL.of h7⟩, fun D3 hD3 => ?_⟩
    refine lc_new (us := ys) (val := V.str) yields_list (fun x => [.str x, va x, vb x]) (fun _ => true) (fun x => [some (.ref o), some (.ref t), some (.ref D0), some (.ref p), some (.str x), none, none]) hD3 (fun H s => SqL.of (s _ _ h7)) (fun _ _ => rfl) (fun H u _ _ R r => r) (fun H u _ _ R r => r H (Same.refl H)) (fun H5 x s5 hx _ R r => ?_) (by omega) (fun as H8 s8 h8 tp => ?_)
    · have dA := dget_kT (.inl (s5 _ _ gf7)) x
      have dB := dget_kT (.inl (s5 _ _ gg7)) x
      exact ⟨.str x, rfl, .ref o, rfl, o, rfl, .inl ⟨_, .inl (s5 _ _ gf7)⟩, .str x, rfl, _, dA, .ref t, rfl, t, rfl, .inl ⟨_, .inl (s5 _ _ gg7)⟩, .str x, rfl, _, dB, (by show 3 ≤ sizeLine; decide), fun pt hpt => r pt _ (same_new hpt) upd_same⟩
    rw [filt_all] at tp
    have s18 := s17.trans s8
    refine ⟨.ref D0, rfl, ?_⟩
    dsimp only [tCons, tC, tNil]
    refine ⟨_, _, .type "list", .type "list", true, rfl, .ty "list", .base (.lst (s18 _ _ hD0)), kit_ty (by decide +kernel), _, rfl, iteT ?_⟩
    refine ⟨.ref D0, rfl, .ref D3, rfl, D3, rfl, ⟨_, SqL.of h8⟩, fun D4 hD4 => ?_⟩
    have el : as.length = ys.length := by
      have := tp.1
      rw [List.length_map] at this
      exact this
    have row : ∀ {H' : Hp}, Same H8 H' → ∀ u ∈ as.zip ys, H' u.1 = some (.tup [.str u.2, va u.2, vb u.2]) ∧ FvV K H' (va u.2) (f u.2) ∧ FvV K H' (vb u.2) (g u.2) := fun {H'} s u hu =>
      ⟨s _ _ (tups_get tp hu), (get_fv hHf u.2).keep (TupKeep.of (s18.trans s)), (get_fv hHg u.2).keep (TupKeep.of (s18.trans s))⟩
    refine lc_pure (i := 6) (us := as.zip ys) (g := fun u => V.ref u.1) (yields_zipL el) (fun u => V.ref u.1) (fun u => !decide (f u.2 = g u.2)) hD4 (fun H s => SqL.of (s _ _ h8)) (fun H6 u s6 hu R k => ?_) (fun H6 u s6 hu _ R k => ⟨_, rfl, k H6 (Same.refl H6)⟩) (by rw [List.length_zip]; omega) (fun H9 s9 h9 => ?_)
    · obtain ⟨r1, r2, r3⟩ := row s6 u hu
      exact ⟨.ref u.1, rfl, u.1, _, 1, va u.2, rfl, rfl, SqT.of r1, rfl, .ref u.1, rfl, u.1, _, 2, vb u.2, rfl, rfl, SqT.of r1, rfl, f u.2, g u.2, r2, r3, gF _, gG _, _, rfl, k H6 (Same.refl H6)⟩
    · have ez : ((as.zip ys).filter fun u => !decide (f u.2 = g u.2)).map (·.2) = ys.filter fun x => !decide (f x = g x) := by
        have := List.filter_map (f := (Prod.snd : Addr × Str → Str)) (p := fun x => !decide (f x = g x)) (l := as.zip ys)
        rw [List.map_snd_zip (by omega)] at this
        exact this.symm
      have pr9 : Paired (fun (a : Addr) x => ∃ v1 v2, H9 a = some (.tup [.str x, v1, v2]) ∧ FvV K H9 v1 (f x) ∧ FvV K H9 v2 (g x)) (((as.zip ys).filter fun u => !decide (f u.2 = g u.2)).map (·.1)) (((as.zip ys).filter fun u => !decide (f u.2 = g u.2)).map (·.2)) := paired_maps fun u hu => ⟨_, _, row s9 u (List.mem_filter.mp hu).1⟩
      rw [ez] at pr9
      have e9 : ((as.zip ys).filter fun u => !decide (f u.2 = g u.2)).map (fun u => V.ref u.1) = (((as.zip ys).filter fun u => !decide (f u.2 = g u.2)).map (·.1)).map V.ref := by rw [List.map_map]; rfl
      rw [e9] at h9
      have mz : ∀ x, x ∈ ys.filter (fun x => !decide (f x = g x)) ↔ f x ≠ g x := fun x => by
        rw [List.mem_filter, my]
        constructor
        · rintro ⟨_, z⟩ e
          rw [decide_eq_true e] at z
          cases z
        · intro ne
          refine ⟨?_, by rw [decide_eq_false ne]; rfl⟩
          cases e : f x with
          | some _ => exact .inl rfl
          | none =>
            cases e2 : g x with
            | some _ => exact .inr rfl
            | none => exact absurd (e.trans e2.symm) ne
      have pz : ys0.Perm (ys.filter fun x => !decide (f x = g x)) := (List.perm_ext_iff_of_nodup ndy0 (ndy.filter _)).mpr fun x => (my0 x).trans (mz x).symm
      obtain e0 := sort_uniq sy0 (sorted_filter hs (fun x => !decide (f x = g x))) pz
      rw [← e0] at pr9
      have pr0' : Paired (fun (a : Addr) x => ∃ v1 v2, H9 a = some (.tup [.str x, v1, v2]) ∧ FvV K H9 v1 (f x) ∧ FvV K H9 v2 (g x)) as0 ys0 := Paired.mapP pr0 fun a x ⟨v1, v2, z1, z2, z3⟩ => ⟨v1, v2, (s18.trans s9) _ _ z1, z2.keep (TupKeep.of (s18.trans s9)), z3.keep (TupKeep.of (s18.trans s9))⟩
      have ok0 : ∀ y ∈ ys0, OkS y := fun y hy => (py0 y hy).2.2
      refine ⟨.list (ys0.map (row3 f g)), .list (ys0.map (row3 f g)), .lst (SqL.of ((s18.trans s9) _ _ hD0)) (dp_row3 pr0'), .lst (SqL.of h9) (dp_row3 pr9), shaped_row3 gF gG ok0, shaped_row3 gF gG ok0, ?_⟩
      rw [PySem.SeqAt.eqv_refl (.list (ys0.map (row3 f g))) (lay_row3 gF gG ys0 ok0)]
      exact q _ ((s1.trans s18).trans s9)
end

end Fk

set_option maxHeartbeats 4000000
/-! lambdas that stand in lists: a lambda is an object of its own; a comprehension whose tests call it through a def. -/
namespace Fk
open PySem PySem.Spec PyProof.Rows L2 LamX
/-- the lambda at f, its code object at c' -/
def LamE (cells : List (Str × Addr)) (q : Str) (params : Arguments) (body : Expr) (scope : Scope) (c' f : Addr) : HO :=
  .ext fun h => ∃ pm ctv : Value, h.get? f = some (PySem.W.kla_obj "<lambda>" q params body scope (cloFrom cells scope.names []) pm c' ctv)
theorem lamE_ne {cells : List (Str × Addr)} {q : Str} {params : Arguments} {body : Expr} {scope : Scope} {c' f : Addr} (ps : Array Value) : LamE cells q params body scope c' f ≠ .tbl ps := fun z => by
  unfold LamE at z
  cases z
/-- what stands at f, when it is called, does t -/
def AskOf (X : Cx) (k : Nat) (f : Addr) (t : XK → TE) (H : Hp) : Prop :=
  ∃ (params : Arguments) (body : Expr) (scope : Scope) (c' : Addr), H f = some (LamE X.env.cells (X.env.qual ++ "<lambda>") params body scope c' f) ∧ H c' = some (CodeO c' (X.env.qual ++ "<lambda>")) ∧ LamS X.env.scope scope ∧
    (∀ (q : Str) (cl : List (Str × Addr)) (pm cv ctv : Value), bindArgs (PySem.W.kla_fn "<lambda>" q params body scope cl pm cv ctv) ⟨[], []⟩ = pure []) ∧
    ∀ (A : Around) (outer : List Env) (s : Shared) (H : Hp) (E : XK) (f c' : Addr), Room k (A.deeper (lamEnv X scope s.heap.objs.size f c')) → PE (lamCx X A outer s H E scope f c') body (t E)
theorem AskOf.ext {X : Cx} {k : Nat} {f : Addr} {t : XK → TE} {H H' : Hp} (a : AskOf X k f t H) (e : ExtN H H') : AskOf X k f t H' := by
  obtain ⟨params, body, scope, c', h1, h2, h3⟩ := a
  exact ⟨params, body, scope, c', e _ _ h1 lamE_ne, e _ _ h2 codeO_ne, h3⟩
section
variable {X : Cx} {pins : List (Addr × Obj)} {σ : L2.St} {H : Hp} {s : Shared}
/-- a new lambda is laid and known -/
theorem lam_laid {q : Str} {params : Arguments} {body : Expr} {scope : Scope} {pm ctv : Value} {c' : Addr} {h' : Heap} {tk : Nat} (I : Inv X pins σ H { s with heap := h', toks := tk }) :
    Inv X pins σ (upd H h'.objs.size (LamE X.env.cells q params body scope c' h'.objs.size)) { s with heap := h'.push (PySem.W.kla_obj "<lambda>" q params body scope (cloFrom X.env.cells scope.names []) pm c' ctv), toks := tk } :=
  I.laid (t' := tk) (fun b u e => Heap.get?_push_of_some _ e) (Nat.le_refl _) ⟨⟨pm, ctv, Heap.get?_push_size _ rfl⟩, ⟨_, Heap.get?_push_size _ rfl⟩, fun h1 h2 ⟨pm, ctv, e⟩ k => ⟨pm, ctv, k _ e⟩⟩
theorem ext_new {H H1 : Hp} {f : Addr} {o : HO} (e : ExtN H H1) (n : H1 f = none) : ExtN H (upd H1 f o) := fun b u q z => by
  have w := e b u q z
  rw [upd_ne (ne_of_none w n)]
  exact w
theorem tabs_new {T : List (Addr × Str)} {H1 : Hp} {f : Addr} {o : HO} (t : Tabs T H1) (n : H1 f = none) : Tabs T (upd H1 f o) := t.ext fun b u q => by rw [upd_ne (ne_of_none q n)]; exact q
theorem lam_make3 {T : List (Addr × Str)} {c P : Addr} {params : Arguments} {body : Expr} {scope : Scope} {pos : Pos} {E : Value → Shared → Prop} {Q : Value → Shared → Prop} (I : Inv X pins σ H s) (TB : TabB X.base X.mg c P) (hcode : X.env.code = .ref c)
    (hm : (P, X.env.qual ++ "<lambda>") ∈ T) (hu : ∀ p ∈ T, p.1 = P → p.2 = X.env.qual ++ "<lambda>") (hT : Tabs T H) (hdef : defaultsOf params X.env = ([], [])) (hfree : ∀ y ∈ scope.names, y.2 = .free → ∃ c, X.env.cells.lookup y.1 = some c)
    (h : ∀ (f c' : Addr) (H1 : Hp) (s' : Shared), Inv X pins σ H1 s' → ExtN H H1 → Tabs T H1 → H f = none → H1 f = some (LamE X.env.cells (X.env.qual ++ "<lambda>") params body scope c' f) → H1 c' = some (CodeO c' (X.env.qual ++ "<lambda>")) → Q (.ref f) s') :
    wpAny (model X.prog X.w) X.A (eval (.Lambda params body scope pos) X.env) Q E s := by
  obtain ⟨ps, hP, ht, ha⟩ := hT _ hm
  refine PySem.W.kla_eval hdef ?_
  have bP : s.heap.BuiltinsAt X.mg P := TB.bm.keeps I.bk
  have hP' : s.heap.get? P = some { cls := .none, data := .fields ps } := I.hok P _ hP
  cases hc : codeAmong pos ps.toList with
  | some cv =>
    obtain ⟨c', e, hco⟩ := ha pos cv hc
    subst e
    refine PySem.W.kla_makeFunctionHit (mg := X.mg) (c := c) (P := P) (ps := ps) (closure_ok hfree) I.ok.glob (I.mod.glob.keeps I.bk) hcode (TB.code.keeps I.bk) hP' ht hc bP fun ctv h' tk hx hsz => ?_
    have I1 : Inv X pins σ H { s with heap := h', toks := tk } := I.kept hx
    have n : H h'.objs.size = none := I1.hok.fresh (Nat.le_refl _)
    exact h _ c' _ _ (lam_laid I1) (ext_new (ExtN.refl H) n) (tabs_new hT n) n upd_same (by rw [upd_ne (ne_of_none hco n)]; exact hco)
  | none =>
    refine PySem.W.kla_makeFunction (mg := X.mg) (c := c) (P := P) (ps := ps) (closure_ok hfree) I.ok.glob (I.mod.glob.keeps I.bk) hcode (TB.code.keeps I.bk) hP' ht hc TB.gP bP fun c' ctv h' tk hx hge hlt hrec htb => ?_
    obtain ⟨c2, oc, vs, t, e2, hoc, hd, hv⟩ := hrec
    cases e2
    have nC : H c' = none := I.hok.fresh hge
    have I1 := inv_table (t' := tk) (more := #[rawInt pos.line, rawInt pos.col, .ref c']) (h' := h') I hP (fun b o hb e => hx b o hb e) htb hge ⟨oc, vs, t, hoc, hd, hv⟩
    have n0 : H h'.objs.size = none := I.hok.fresh (Nat.le_trans hge (Nat.le_of_lt hlt))
    have eC : upd (upd H P (.tbl (ps ++ #[rawInt pos.line, rawInt pos.col, .ref c']))) c' (CodeO c' (X.env.qual ++ "<lambda>")) c' = some (CodeO c' (X.env.qual ++ "<lambda>")) := upd_same
    have hE : ExtN H (upd (upd H P (.tbl (ps ++ #[rawInt pos.line, rawInt pos.col, .ref c']))) c' (CodeO c' (X.env.qual ++ "<lambda>"))) := fun b o e n => by
      rw [upd_ne (ne_of_none e nC), upd_ne (fun z => n ps (Option.some.inj (e.symm.trans (by rw [z]; exact hP))))]
      exact e
    have hTn : Tabs T (upd (upd H P (.tbl (ps ++ #[rawInt pos.line, rawInt pos.col, .ref c']))) c' (CodeO c' (X.env.qual ++ "<lambda>"))) := fun p hp => by
      by_cases hb : p.1 = P
      · rw [hu p hp hb, hb]
        refine ⟨_, by rw [upd_ne (ne_of_none hP nC), upd_same], by simpa using PySem.TriplesOk_snoc _ _ _ _ ht, fun p' cv hcv => ?_⟩
        rcases among_app (pos := pos) (c := .ref c') _ ht (by simpa using hcv) with z | z
        · obtain ⟨c0, e1, e2⟩ := ha p' cv z
          exact ⟨c0, e1, hE _ _ e2 codeO_ne⟩
        · exact ⟨c', z, eC⟩
      · obtain ⟨ps', a1, a2, a3⟩ := hT p hp
        refine ⟨ps', by rw [upd_ne (ne_of_none a1 nC), upd_ne hb]; exact a1, a2, fun p' cv hcv => ?_⟩
        obtain ⟨c0, e1, e2⟩ := a3 p' cv hcv
        exact ⟨c0, e1, hE _ _ e2 codeO_ne⟩
    generalize upd (upd H P (.tbl (ps ++ #[rawInt pos.line, rawInt pos.col, .ref c']))) c' (CodeO c' (X.env.qual ++ "<lambda>")) = H1 at I1 hE hTn eC
    have n : H1 h'.objs.size = none := I1.hok.fresh (Nat.le_refl _)
    exact h _ c' _ _ (lam_laid I1) (ext_new hE n) (tabs_new hTn n) n0 upd_same (by rw [upd_ne (ne_of_none eC n)]; exact eC)
/-- a lambda, as a value -/
def tLamV (X : Cx) (T : List (Addr × Str)) (k : Nat) (t : XK → TE) : TE := fun σ H Q => Tabs T H ∧ ∀ f H1, ExtN H H1 → Tabs T H1 → H f = none → AskOf X k f t H1 → Q (.ref f) H1
theorem pe_lamV {T : List (Addr × Str)} {c P : Addr} {k : Nat} {params : Arguments} {body : Expr} {scope : Scope} {t : XK → TE} {lpos : Pos}
    (TB : TabB X.base X.mg c P) (hcode : X.env.code = .ref c) (hmT : (P, X.env.qual ++ "<lambda>") ∈ T) (hu : ∀ p ∈ T, p.1 = P → p.2 = X.env.qual ++ "<lambda>") (L : LamS X.env.scope scope) (hdef : defaultsOf params X.env = ([], []))
    (hbind : ∀ (q : Str) (cl : List (Str × Addr)) (pm cv ctv : Value), bindArgs (PySem.W.kla_fn "<lambda>" q params body scope cl pm cv ctv) ⟨[], []⟩ = pure [])
    (hbody : ∀ (A : Around) (outer : List Env) (s : Shared) (H : Hp) (E : XK) (f c' : Addr), Room k (A.deeper (lamEnv X scope s.heap.objs.size f c')) → PE (lamCx X A outer s H E scope f c') body (t E)) :
    PE X (.Lambda params body scope lpos) (tLamV X T k t) := by
  refine ⟨fun pins s σ H Q I h => ?_⟩
  obtain ⟨hT, h⟩ := h
  exact lam_make3 I TB hcode hmT hu hT hdef (L.has I.ok) fun f c' H1 s' I1 eN T1 nf hf hc => ⟨.ref f, H1, I1, rfl, h f H1 eN T1 nf ⟨params, body, scope, c', hf, hc, L, hbind, hbody⟩⟩
end
/-! ### the def that asks -/
/-- the def that calls what it got; R: what is to be known of the heap where it calls -/
def GivesR (X : Cx) (Ng : List Str) (x : Str) (sg : Scope) (g : Addr) (cdg : Value) (bg : List Stmt) (a : Str) (TT : (XK → Hp → VK → Prop) → Hp → VK → Prop) : Prop :=
  ∀ (R : Hp → Prop) (f : Addr) (s : Shared) (H : Hp) (Q : VK) (tl : XK → Hp → VK → Prop),
    (∀ (W : WX) (pn : List (Addr × Obj)) (xe : Value → Shared → Prop) (E : XK) (p1 p2 : Pos), Takes ((cxOf C8.CX0 X.prog X.w X.K X.mg X.base Ng x sg g cdg X.A X.stack s H C8.E0).tr pn xe) W → (∀ cls d σ' H', E cls d H' → W cls d σ' H') →
      PE ((cxOf C8.CX0 X.prog X.w X.K X.mg X.base Ng x sg g cdg X.A X.stack s H C8.E0).tr pn xe) (.Call (.Name a p1) [] [] p2) (fun σZ HZ Q => σZ[0]? = some (some (.ref f)) ∧ R HZ ∧ tl E HZ Q)) →
    R H → TT tl H Q →
    ∃ t, PSs (cxOf C8.CX0 X.prog X.w X.K X.mg X.base Ng x sg g cdg X.A X.stack s H C8.E0).nox bg t ∧ t { nx := fun _ H' => Q .non H', rt := Q } (L2.start Ng [.ref f]) H
theorem GivesR.to {X : Cx} {Ng : List Str} {x : Str} {sg : Scope} {g : Addr} {cdg : Value} {bg : List Stmt} {a q : Str} {TT : (XK → Hp → VK → Prop) → Hp → VK → Prop} (h : GivesR X Ng x sg g cdg bg a TT) : GivesTo X Ng x sg g cdg bg a q TT :=
  fun f c' s H Q tl act hc ht => h (fun HZ => HZ c' = some (CodeO c' q)) f s H Q tl act hc ht
section
variable {X : Cx} {pins : List (Addr × Obj)} {σ : L2.St} {H HZ : Hp} {s s1 : Shared}
/-- x(), in the def that got a lambda that is known -/
theorem pe_actR {CXg : CXT} {Eg : XK} {Ng : List Str} {qg : Str} {sg : Scope} {g f c' : Addr} {cdg : Value} {params : Arguments} {body : Expr} {scope : Scope} {k i : Nat} {a : Str} {pn : List (Addr × Obj)} {xe : Value → Shared → Prop} {W : WX} {E : XK} {tb : TE} {p1 p2 : Pos}
    (I : Inv X pins σ H s) (L : LamS X.env.scope scope)
    (hbind : ∀ (pm ctv : Value), bindArgs (PySem.W.kla_fn "<lambda>" (X.env.qual ++ "<lambda>") params body scope (cloFrom X.env.cells scope.names []) pm (.ref c') ctv) ⟨[], []⟩ = pure [])
    (tk : Takes ((cxOf CXg X.prog X.w X.K X.mg X.base Ng qg sg g cdg X.A X.stack s H Eg).tr pn xe) W) (hW : ∀ cls d σ' H', E cls d H' → W cls d σ' H') (hr : Room (k + 1) (X.A.deeper (envOfC qg sg s.heap.objs.size g cdg)))
    (hbody : ∀ (A : Around) (outer : List Env) (s : Shared) (H : Hp), Room k (A.deeper (lamEnv X scope s.heap.objs.size f c')) → PE (lamCx X A outer s H E scope f c') body tb)
    (hN : Ng[i]? = some a) (hv : Vis sg a) (hd : (a == ("__debug__" : Str)) = false := by decide) (hcd : (a == ("__classdict__" : Str)) = false := by decide) :
    PE ((cxOf CXg X.prog X.w X.K X.mg X.base Ng qg sg g cdg X.A X.stack s H Eg).tr pn xe) (.Call (.Name a p1) [] [] p2)
      (fun σZ HZ Q => σZ[i]? = some (some (.ref f)) ∧ (HZ f = some (LamE X.env.cells (X.env.qual ++ "<lambda>") params body scope c' f) ∧ HZ c' = some (CodeO c' (X.env.qual ++ "<lambda>"))) ∧ tb σ HZ Q) := by
  refine ⟨fun pinsZ sZ σZ HZ Q IZ h => ?_⟩
  obtain ⟨hs, ⟨hf, hc⟩, ht⟩ := h
  refine wpAny_Call_Name_kw (thn ((pe_var (pos := p1) (i := i) hN hv hd hcd).run pinsZ sZ σZ HZ (fun v H1 => v = .ref f ∧ H1 = HZ) IZ ⟨.ref f, hs, rfl, rfl⟩) fun u s1 ⟨v, H1, I1, r1, q1⟩ => ?_)
  obtain ⟨ev, eH⟩ := q1
  subst ev
  rw [eH] at I1
  obtain rfl : u = Value.ref f := r1
  obtain ⟨pm, ctv, of1⟩ := (I1.hok f _ hf).1
  refine PySem.W.callWith_F0 ⟨_, _, _, _, of1⟩ ?_
  have un : Un (frs X.stack) [] H HZ s.heap s1.heap := I1.base
  obtain ⟨⟨oc, vs, t, hoc, hdc, hvc⟩, _, _⟩ := I1.hok c' _ hc
  have rc : codeAny (model X.prog X.w) (X.A.deeper (envOfC qg sg s.heap.objs.size g cdg)) (.call (.ref f) ⟨[], []⟩) (CR (L2.CX X.prog X.w) (envOfC qg sg s.heap.objs.size g cdg :: X.stack) X.prog X.w HZ s1 Q E) s1 := by
    refine PySem.W.kla_callFunE hr.depth of1 rfl L.co L.gen rfl ⟨c', oc, vs, t, rfl, hoc, hdc, hvc⟩ ?_
    rw [hbind]
    refine wpAny_pure (wpAny_newFunctionEnv (fun y hy => (L.own y hy).2) (fun y hy => absurd hy (by simp)) (fun h₁ hns hsb => ⟨I1.nolimit.fresh _ hsb, ?_⟩) L.kind)
    show codeAny _ _ (.expr body (lamEnv X scope s1.heap.objs.size f c')) _ _
    have kp : ∀ b o, s1.heap.get? b = some o → h₁.get? b = some o := fun b o e => hsb.extBut b o (Nat.ne_of_lt (Heap.lt_size e)) (Heap.get?_push_of_some _ e)
    have J : Inv (lamCx X (X.A.deeper (envOfC qg sg s.heap.objs.size g cdg)) (envOfC qg sg s.heap.objs.size g cdg :: X.stack) s1 HZ E scope f c') [] σ HZ { s1 with heap := h₁, toks := s1.toks + ([] : List (Str × Value)).length } :=
      lam_start2 I L I1.env0 hr.hd un hns kp
    refine PySem.W.kla_codeExpr (wpAny_mono ((hbody _ _ s1 HZ (hr.deeper _)).run [] _ _ HZ Q J ht) (fun v s' hq => ?_) fun e s' hq => hq)
    obtain ⟨w', H', J', rv, q⟩ := hq
    exact ⟨w', H', J'.os, J'.bare, J'.base, J'.hok, rv, q⟩
  have hx : Passes (L2.CX X.prog X.w) ((cxOf CXg X.prog X.w X.K X.mg X.base Ng qg sg g cdg X.A X.stack s H Eg).tr pn xe) E := passes_call tk hW
  refine wpAny_call (codeAny_mono rc fun r s' hq => ?_)
  cases r with
  | error e => exact hx pinsZ σZ HZ s1 e s' I1 hq
  | ok fl =>
    cases fl with
    | ret u => exact I1.after hq
    | next => exact False.elim hq
    | brk => exact False.elim hq
    | cont => exact False.elim hq
end
/-! ### within a comprehension -/
/-- the block started where the def stood so -/
structure Blk0 (X : Cx) (pins : List (Addr × Obj)) (σ : L2.St) (s : Shared) (H : Hp) (fp : List Addr) : Prop where
  I : Inv X pins σ H s
  f : ∀ b ∈ fp, FpOk X pins H b
theorem Blk0.back {X : Cx} {pins pinsY : List (Addr × Obj)} {σ σY : L2.St} {s s' : Shared} {H H' : Hp} {fp : List Addr} {scope : Scope} {ce : Env} (B : Blk0 X pins σ s H fp) (IY : Inv (X.blk s H scope ce fp) pinsY σY H' s') : Inv X pins σ H' s' :=
  B.I.call' (ch := fp) IY.os IY.base IY.hok IY.bare fun b hb => ⟨(B.f b hb).2.2.2.1, (B.f b hb).2.1, (B.f b hb).2.2.2.2.1, (B.f b hb).2.2.2.2.2⟩
/-- x(y), x a def that calls what it got, y a lambda that is known -/
def tAskV (X : Cx) (k : Nat) (TT : (XK → Hp → VK → Prop) → Hp → VK → Prop) (σ0 : L2.St) (te : TE) : TE := fun σ H Q => te σ H fun v H1 => ∃ f t, v = .ref f ∧ AskOf X k f t H1 ∧ TT (fun E H' Q' => t E σ0 H' Q') H1 Q
theorem pe_askY {X : Cx} {pins : List (Addr × Obj)} {σ0 : L2.St} {s0 : Shared} {H0 : Hp} {fp : List Addr} {scope : Scope} {ce : Env} {TT : (XK → Hp → VK → Prop) → Hp → VK → Prop} {x a : Str} {st : Stmt} {k j : Nat} {Ng : List Str} {e : Expr} {te : TE} {p pos : Pos}
    (B : Blk0 X pins σ0 s0 H0 fp) (D : IsDef X.K X.mg x st) (Sg : FnScope Ng [a] (C8.fnScope st))
    (hb : ∀ (kV doc pm : Value) (an : Option Addr) (cdv ct : Value) (us : List Value), us.length = 1 → bindArgs (PySem.W.fnOf x x (C8.fnArgs st) (C8.fnBody st) (C8.fnScope st) .none kV doc pm an cdv ct) ⟨us, []⟩ = pure ([a].zip us))
    (hg : Gl (X.blk s0 H0 scope ce fp) x) (hNg : Ng[0]? = some a) (hva : Vis (C8.fnScope st) a) (hG : ∀ (g : Addr) (cdg : Value), GivesR X Ng x (C8.fnScope st) g cdg (C8.fnBody st) a TT) (hr : Room j X.A) (hk : k + 2 ≤ j) (he : PE (X.blk s0 H0 scope ce fp) e te)
    (hs : starEach [e] (X.blk s0 H0 scope ce fp).env = [(false, eval e (X.blk s0 H0 scope ce fp).env)] := by rfl)
    (hdb : (x == ("__debug__" : Str)) = false := by decide) (hd : (a == ("__debug__" : Str)) = false := by decide) (hcd : (a == ("__classdict__" : Str)) = false := by decide) :
    PE (X.blk s0 H0 scope ce fp) (.Call (.Name x p) [e] [] pos) (tAskV X k TT σ0 te) := by
  obtain ⟨g, fd, D, df⟩ := D
  obtain ⟨oc, od, dV, kV, doc, pm, an, cdv, ct, osl, rfl, lk, hcg⟩ := D.fn.ex
  have ed : dV = .none := df
  subst ed
  refine ⟨fun pinsY s σ H Q IY h => ?_⟩
  have h : te σ H fun v H1 => ∃ f t, v = .ref f ∧ AskOf X k f t H1 ∧ TT (fun E H' Q' => t E σ0 H' Q') H1 Q := h
  refine wpAny_Call_Name_kw (ld_glob IY hg D.mgf ?_ hdb)
  refine PySem.W.callWith_K (h₀ := X.base) IY.ok.mod.kin D.kp ?_ (by rw [hs]; rfl) (by rfl)
  rw [hs]
  show wpAny _ _ (spliced ((false, eval e (X.blk s0 H0 scope ce fp).env) :: backTo pos (starEach [] (X.blk s0 H0 scope ce fp).env))) _ _ s
  refine Calls.spliced_cons (thn (he.run pinsY s σ H _ IY h) fun u s1 ⟨v, H1, I1, r1, f, t, ev, ⟨params, body, lsc, c', hf, hc, L, hbind, hbody⟩, ht⟩ => ?_)
  subst ev
  obtain rfl : u = Value.ref f := r1
  refine Calls.spliced_nil ⟨I1.kIn, ?_⟩
  have IX := B.back I1
  have hbs : L2.Binds X.K (PySem.W.fnOf x x (C8.fnArgs st) (C8.fnBody st) (C8.fnScope st) .none kV doc pm an cdv ct) [a] [] := .all (hb kV doc pm an cdv ct)
  have rc : codeAny (model X.prog X.w) X.A (.call (.ref g) ⟨[.ref f], []⟩) (CR C8.CX0 X.stack X.prog X.w H1 s1 Q C8.E0) s1 := by
    refine run_ofS (N := Ng) (ps := [a]) (us := [.ref f]) (vs := [.ref f]) (k := k + 1) lk hcg Sg (hr.mono hk) IX.env0 (hbs s1 [.ref f] IX.kIn rfl) (.cons rfl .nil) rfl fun hr' => ?_
    obtain ⟨t', ht', hq'⟩ := hG g cdv (fun HZ => HZ f = some (LamE X.env.cells (X.env.qual ++ "<lambda>") params body lsc c' f) ∧ HZ c' = some (CodeO c' (X.env.qual ++ "<lambda>"))) f s1 H1 Q (fun E H' Q' => t E σ0 H' Q')
      (fun W pn xe E p1 p2 tk hW => pe_actR (i := 0) IX L (fun pm ctv => hbind _ _ _ _ _) tk hW hr' (fun A outer s H hr2 => hbody A outer s H E f c' hr2) hNg hva hd hcd) ⟨hf, hc⟩ ht
    exact ⟨t', ht'.nox, hq'⟩
  refine wpAny_call (codeAny_mono rc fun r s2 hq => ?_)
  cases r with
  | error e => exact (show False from hq).elim
  | ok fl =>
    cases fl with
    | ret u => exact I1.after hq
    | next => exact False.elim hq
    | brk => exact False.elim hq
    | cont => exact False.elim hq
end Fk

set_option maxHeartbeats 4000000
/-! a list comprehension whose tests and items may lean on what is known of the def around it (Blk0); steps as in HandS.Comp. -/
namespace Fk
open PySem PySem.Spec PyProof.Rows L2 LamX
section
variable {X : Cx}
theorem pe_lcI {elt tg iter : Expr} {ifs : List Expr} {scope : Scope} {own : List (Str × Nat)} {pos : Pos} {wi : TI} {g : TG} {tt : L2.St → TT} {te : L2.St → TE} (hc : X.calm = true) (hN : X.N.Nodup) (hi : PI X tg iter wi) (ok : BlkOk X.N X.env.scope scope own)
    (hg : ∀ (s : Shared) (H : Hp) (C : Addr) (cl : List (Str × Addr)) (fp : List Addr), PG (X.blk s H scope (compEnvC scope cl C X.env) fp) tg g)
    (ht : ∀ (pins : List (Addr × Obj)) (σ : L2.St) (s : Shared) (H : Hp) (C : Addr) (cl : List (Str × Addr)) (fp : List Addr), Blk0 X pins σ s H fp → PTs (X.blk s H scope (compEnvC scope cl C X.env) fp) ifs (tt σ))
    (he : ∀ (pins : List (Addr × Obj)) (σ : L2.St) (s : Shared) (H : Hp) (C : Addr) (cl : List (Str × Addr)) (fp : List Addr), Blk0 X pins σ s H fp → PE (X.blk s H scope (compEnvC scope cl C X.env) fp) elt (te σ)) (hs : ∀ x, foldedSetIterable iter X.env x = pure x := by intro _; rfl) :
    PE X (.ListComp elt [⟨tg, iter, ifs, 0⟩] scope pos) (fun σ => tLc wi g (tt σ) (te σ) (own.map (·.2)) σ) := by
  refine ⟨fun pins s σ H Q I h => ?_⟩
  rw [eval_ListComp]
  have hfree : ∀ y ∈ scope.names, y.2 = .free → ∃ c, X.env.cells.lookup y.1 = some c := fun y hy e => (ok.free y hy e).elim (fun k => I.ok.has _ (.inl k)) fun k => I.ok.has _ (.inr k)
  refine wpAny_comprehension_free (use := none) rfl hs (closure_ok hfree) ok.kind (fun y hy e => by rw [ok.uniq y hy, e]) (thn (hi.run pins s σ H _ I h) fun xv s1 hx => thn hx fun itv s2 h2 => ?_)
  obtain ⟨it, fp, tn, J, H2, e, I2, T, st2, f2, q⟩ := h2
  subst e
  refine wpAny_newObj_type (newEnv_comp ?_) (by show 0 ≤ sizeLine; decide)
  generalize hD : s2.heap.objs.size = D
  have hDn : H2 D = none := I2.hok.fresh (Nat.le_of_eq hD)
  obtain ⟨W, ⟨m0, w0⟩, turn⟩ := q D hDn
  generalize hs3 : ({ s2 with heap := s2.heap.push { cls := .type "list", data := .seq ([] : List Value).toArray } } : Shared) = s3
  have h3 : s3.heap = s2.heap.push { cls := .type "list", data := .seq ([] : List Value).toArray } := by rw [← hs3]
  have I3 : Inv X pins σ (upd H2 D (.lst [])) s3 := by
    rw [← hs3]
    refine I2.laid (t' := s2.toks) (fun b o e => Heap.get?_push_of_some _ e) (Nat.le_of_eq hD) ⟨Nat.zero_le _, [], 0, .nil, ?_⟩
    rw [← hD]
    exact Heap.get?_push_size _ rfl
  have f3 : ∀ b ∈ fp, FpOk X pins (upd H2 D (.lst [])) b ∧ b < s3.heap.objs.size := fun b hb => by
    obtain ⟨o, e, _⟩ := T.obj _ _ st2 b hb
    have hlt := Heap.lt_size e
    refine ⟨⟨?_, (f2 b hb).2⟩, by rw [h3, Heap.size_push]; exact Nat.lt_succ_of_lt hlt⟩
    rw [upd_ne (by rw [← hD]; exact Nat.ne_of_lt hlt)]
    exact (f2 b hb).1
  have B0 : Blk0 X pins σ s3 (upd H2 D (.lst [])) fp := ⟨I3, fun b hb => (f3 b hb).1⟩
  have st3 : tn 0 s3.heap := T.keep _ _ _ st2 fun b _ o e => by rw [h3]; exact Heap.get?_push_of_some _ e
  have I4 := block_start I3 ok hN f3
  have pg := hg s3 (upd H2 D (.lst [])) s3.heap.objs.size (cellsFrom (s3.heap.objs.size + 1) scope.names (cloFrom X.env.cells scope.names [])) fp
  have pt := ht pins σ s3 (upd H2 D (.lst [])) s3.heap.objs.size (cellsFrom (s3.heap.objs.size + 1) scope.names (cloFrom X.env.cells scope.names [])) fp B0
  have pe := he pins σ s3 (upd H2 D (.lst [])) s3.heap.objs.size (cellsFrom (s3.heap.objs.size + 1) scope.names (cloFrom X.env.cells scope.names [])) fp B0
  show codeAny _ _ (.compStart (.ListComp elt [⟨tg, iter, ifs, 0⟩] scope pos) 0 (.ref it) (.ref D) (compEnvC scope (cellsFrom (s3.heap.objs.size + 1) scope.names (cloFrom X.env.cells scope.names [])) s3.heap.objs.size X.env)) (compPost (model X.prog X.w) X.A X.xe none (EP X pins σ Q) (.ref D) s3.heap.objs.size) { s3 with heap := pushCells (s3.heap.push { cls := .type "dict", data := .dict #[] }) scope.names }
  have nfp : ∀ b ∈ fp, (upd H2 D (.lst [])) b = none := fun b hb => (f3 b hb).1.1
  generalize hce : compEnvC scope (cellsFrom (s3.heap.objs.size + 1) scope.names (cloFrom X.env.cells scope.names [])) s3.heap.objs.size X.env = ce at I4 pg pt pe ⊢
  have cL : ce.locals = s3.heap.objs.size := by subst hce; rfl
  generalize hH3 : upd H2 D (.lst []) = H3 at I3 I4 pg pt pe w0 nfp f3 B0
  generalize hs4 : ({ s3 with heap := pushCells (s3.heap.push { cls := .type "dict", data := .dict #[] }) scope.names } : Shared) = s4 at I4 ⊢
  have st4 : tn 0 s4.heap := T.keep _ _ _ st3 fun b _ o e => by rw [← hs4]; exact pushCells_keeps _ _ _ _ (Heap.get?_push_of_some _ e)
  have stat : ∀ {σ' : L2.St} {H' : Hp} {s' : Shared}, Inv (X.blk s3 H3 scope ce fp) [] σ' H' s' → (∀ b ∈ fp, H' b = none) → ∀ b ∈ fp, FpOk (X.blk s3 H3 scope ce fp) [] H' b := fun {σ' H' s'} I' hn b hb =>
    ⟨hn b hb, (I'.ok.exf b hb).1, I'.ok.exfs b hb, .inl hb, fun x c e => (I'.ok.exf b hb).2 x c e, fun p hp => absurd (show p ∈ ([] : List (Addr × Obj)) ++ [] from hp) (by simp)⟩
  have loop : codeAny (model X.prog X.w) X.A (.compLoop (.ListComp elt [⟨tg, iter, ifs, 0⟩] scope pos) 0 (.ref it) (.ref D) ce) (compPost (model X.prog X.w) X.A X.xe none (EP X pins σ Q) (.ref D) s3.heap.objs.size) s4 := by
    refine compLoop_any (fun n s' => ∃ i H', Inv (X.blk s3 H3 scope ce fp) [] (wipe σ (own.map (·.2))) H' s' ∧ tn i s'.heap ∧ (∀ b ∈ fp, H' b = none) ∧ W i n H') ?_ m0 ⟨0, H3, I4, st4, nfp, w0⟩
    rintro n s5 ⟨i, H5, I5, st5, n5, w5⟩
    rcases turn i n H5 w5 with ⟨stop, qq⟩ | ⟨go, Nx, hNx, step⟩
    · refine thnF (T.done (X.blk s3 H3 scope ce fp) rfl rfl rfl hc i [] s5 _ H5 (fun _ _ => False) I5 (stat I5 n5) st5 stop) fun r s6 ⟨hr, I6⟩ => ?_
      subst hr
      have I7 : Inv X pins σ H5 s6 := B0.back I6
      have nC : H5 s3.heap.objs.size = none := by
        have z : H5 ce.locals = none := I6.free
        rw [cL] at z
        exact z
      obtain ⟨m, hn, _⟩ := I6.loc
      have hn : s6.heap.Ns ce.locals m := hn
      rw [cL] at hn
      refine ⟨m, hn, fun h'' sb => ?_⟩
      obtain ⟨k0, k1, k2, k3, k4, k5⟩ := I3.fpOk (Nat.le_refl _) nC
      exact ⟨.ref D, H5, I7.turned (t' := s6.toks) (fun b o hb e => (sb.2 b hb).trans e) k0 k1 k3 k4 k5, rfl, qq⟩
    · refine thnF (T.item (X.blk s3 H3 scope ce fp) rfl rfl rfl hc i [] s5 _ H5 (fun _ _ => False) I5 (stat I5 n5) st5 go) fun r s6 ⟨u, hr, h6⟩ => ?_
      subst hr
      refine thnF h6 fun _ s7 ⟨x, H7, I7, r7, y7, st7, n7⟩ => ?_
      refine thnF (pg.run _ s7 _ H7 x u _ (I7.pinned (stat I7 n7) (T.obj _ _ st7)) r7 (step x H7 y7)) fun _ s8 ⟨σ8, H8, I8, hw8, q8⟩ => ?_
      refine thnF (pt.run _ s8 σ8 H8 _ I8 q8) fun b s9 ⟨H9, I9, q9⟩ => ?_
      have fin : ∀ {s' : Shared} {H' : Hp}, Inv (X.blk s3 H3 scope ce fp) ([] ++ pinsAt fp s7.heap) σ8 H' s' → Nx H' → ∃ m, m < n ∧ ∃ i H', Inv (X.blk s3 H3 scope ce fp) [] (wipe σ (own.map (·.2))) H' s' ∧ tn i s'.heap ∧ (∀ b ∈ fp, H' b = none) ∧ W i m H' := fun {s' H'} I' nx => by
        obtain ⟨m', hm, w'⟩ := hNx H' nx
        have pin' : ∀ b ∈ fp, ∀ o, s7.heap.get? b = some o → s'.heap.get? b = some o ∧ H' b = none := fun b hb o e =>
          let z := I'.pin (b, o) (List.mem_append_right _ (List.mem_append_right _ (mem_pinsAt hb e)))
          ⟨z.1, z.2.1⟩
        refine ⟨m', hm, i + 1, H', (I'.unpinned (pins := [])).weak (by rw [← hw8, wipe_length]) (fun j v e => ?_), T.keep _ _ _ st7 fun b hb o e => (pin' b hb o e).1, fun b hb => ?_, w'⟩
        · rw [← hw8] at e
          exact (wipe_some e).1
        · obtain ⟨o, e, _⟩ := T.obj _ _ st7 b hb
          exact (pin' b hb o e).2
      cases b with
      | false =>
        simp only [Bool.false_eq_true, if_false] at q9 ⊢
        exact fin I9 q9
      | true =>
        simp only [if_true] at q9 ⊢
        refine thnF (pe.run _ s9 σ8 H9 _ I9 q9) fun z s10 ⟨yv, H10, I10, r10, acc, hD10, hz10, nx⟩ => ?_
        exact app_ok (X := X.blk s3 H3 scope ce fp) I10 hD10 hz10 r10 fun s11 I11 => fin I11 nx
  exact codeAny_compStart_list loop (T.self X.A 0 _ _ _ st4 loop)
end
end Fk

set_option maxHeartbeats 4000000
/-! lambdas of several defs: the name of a code object by its line; tables may be one and the same. -/
namespace Fk
open PySem PySem.Spec PyProof.Rows L2 LamX
/-- the table at P: what it tells bears the name of its line -/
def TabL (qf : Nat → Str) (P : Addr) (H : Hp) : Prop := ∃ ps : Array Value, H P = some (.tbl ps) ∧ TriplesOk ps.toList ∧ ∀ (pos : Pos) (cv : Value), codeAmong pos ps.toList = some cv → ∃ c, cv = .ref c ∧ H c = some (CodeO c (qf pos.line))
def TabsL (qf : Nat → Str) (Ps : List Addr) (H : Hp) : Prop := ∀ P ∈ Ps, TabL qf P H
theorem TabL.ext {qf : Nat → Str} {P : Addr} {H H' : Hp} (t : TabL qf P H) (e : ∀ b o, (∀ l, o ≠ .lst l) → (∀ l, o ≠ .dK l) → H b = some o → H' b = some o) : TabL qf P H' := by
  obtain ⟨ps, h1, h2, h3⟩ := t
  refine ⟨ps, e _ _ (fun l z => nomatch z) (fun l z => nomatch z) h1, h2, fun pos cv hc => ?_⟩
  obtain ⟨c, e1, e2⟩ := h3 pos cv hc
  exact ⟨c, e1, e _ _ (fun l z => nomatch z) (fun l z => nomatch z) e2⟩
theorem TabsL.ext {qf : Nat → Str} {Ps : List Addr} {H H' : Hp} (t : TabsL qf Ps H) (e : ∀ b o, (∀ l, o ≠ .lst l) → (∀ l, o ≠ .dK l) → H b = some o → H' b = some o) : TabsL qf Ps H' := fun P hP => (t P hP).ext e
theorem TabsL.same {qf : Nat → Str} {Ps : List Addr} {H H' : Hp} (t : TabsL qf Ps H) (e : ∀ b o, H b = some o → H' b = some o) : TabsL qf Ps H' := t.ext fun b o _ _ q => e b o q
theorem TabL.nil {qf : Nat → Str} {H : Hp} {P : Addr} (h : H P = some (.tbl #[])) : TabL qf P H := ⟨#[], h, True.intro, fun pos cv hc => by
  have z : codeAmong pos [] = some cv := hc
  simp [codeAmong] at z⟩
theorem among_line {pos p' : Pos} {c cv : Value} (l : List Value) (h : TriplesOk l) (hc : codeAmong p' (l ++ [rawInt pos.line, rawInt pos.col, c]) = some cv) : codeAmong p' l = some cv ∨ (cv = c ∧ p'.line = pos.line) := by
  fun_induction TriplesOk l with
  | case1 =>
    simp only [List.nil_append, rawInt, codeAmong] at hc
    split at hc
    · rename_i q
      have q1 := (Bool.and_eq_true_iff.mp q).1
      have q2 : ((pos.line : Nat) : Int) = ((p'.line : Nat) : Int) := by simpa using q1
      exact .inr ⟨(Option.some.inj hc).symm, by omega⟩
    · cases hc
  | case2 a t b u x rest ih =>
    simp only [List.cons_append, codeAmong] at hc ⊢
    split at hc
    · rename_i q
      rw [if_pos q]
      exact .inl hc
    · rename_i q
      rw [if_neg q]
      exact ih h hc
  | case3 l h1 h2 => exact h.elim
section
variable {X : Cx} {pins : List (Addr × Obj)} {σ : L2.St} {H : Hp} {s : Shared}
theorem lam_make4 {qf : Nat → Str} {Ps : List Addr} {c P : Addr} {params : Arguments} {body : Expr} {scope : Scope} {pos : Pos} {E : Value → Shared → Prop} {Q : Value → Shared → Prop} (I : Inv X pins σ H s) (TB : TabB X.base X.mg c P) (hcode : X.env.code = .ref c)
    (hm : P ∈ Ps) (hu : qf pos.line = X.env.qual ++ "<lambda>") (hT : TabsL qf Ps H) (hdef : defaultsOf params X.env = ([], [])) (hfree : ∀ y ∈ scope.names, y.2 = .free → ∃ c, X.env.cells.lookup y.1 = some c)
    (h : ∀ (f c' : Addr) (H1 : Hp) (s' : Shared), Inv X pins σ H1 s' → ExtN H H1 → TabsL qf Ps H1 → H f = none → H1 f = some (LamE X.env.cells (X.env.qual ++ "<lambda>") params body scope c' f) → H1 c' = some (CodeO c' (X.env.qual ++ "<lambda>")) → Q (.ref f) s') :
    wpAny (model X.prog X.w) X.A (eval (.Lambda params body scope pos) X.env) Q E s := by
  obtain ⟨ps, hP, ht, ha⟩ := hT _ hm
  refine PySem.W.kla_eval hdef ?_
  have bP : s.heap.BuiltinsAt X.mg P := TB.bm.keeps I.bk
  have hP' : s.heap.get? P = some { cls := .none, data := .fields ps } := I.hok P _ hP
  have tnew : ∀ {H1 : Hp} {f : Addr} {o : HO}, TabsL qf Ps H1 → H1 f = none → TabsL qf Ps (upd H1 f o) := fun t n => t.same fun b u q => by rw [upd_ne (ne_of_none q n)]; exact q
  cases hc : codeAmong pos ps.toList with
  | some cv =>
    obtain ⟨c', e, hco⟩ := ha pos cv hc
    subst e
    rw [hu] at hco
    refine PySem.W.kla_makeFunctionHit (mg := X.mg) (c := c) (P := P) (ps := ps) (closure_ok hfree) I.ok.glob (I.mod.glob.keeps I.bk) hcode (TB.code.keeps I.bk) hP' ht hc bP fun ctv h' tk hx hsz => ?_
    have I1 : Inv X pins σ H { s with heap := h', toks := tk } := I.kept hx
    have n : H h'.objs.size = none := I1.hok.fresh (Nat.le_refl _)
    exact h _ c' _ _ (lam_laid I1) (ext_new (ExtN.refl H) n) (tnew hT n) n upd_same (by rw [upd_ne (ne_of_none hco n)]; exact hco)
  | none =>
    refine PySem.W.kla_makeFunction (mg := X.mg) (c := c) (P := P) (ps := ps) (closure_ok hfree) I.ok.glob (I.mod.glob.keeps I.bk) hcode (TB.code.keeps I.bk) hP' ht hc TB.gP bP fun c' ctv h' tk hx hge hlt hrec htb => ?_
    obtain ⟨c2, oc, vs, t, e2, hoc, hd, hv⟩ := hrec
    cases e2
    have nC : H c' = none := I.hok.fresh hge
    have I1 := inv_table (t' := tk) (more := #[rawInt pos.line, rawInt pos.col, .ref c']) (h' := h') I hP (fun b o hb e => hx b o hb e) htb hge ⟨oc, vs, t, hoc, hd, hv⟩
    have n0 : H h'.objs.size = none := I.hok.fresh (Nat.le_trans hge (Nat.le_of_lt hlt))
    have eC : upd (upd H P (.tbl (ps ++ #[rawInt pos.line, rawInt pos.col, .ref c']))) c' (CodeO c' (X.env.qual ++ "<lambda>")) c' = some (CodeO c' (X.env.qual ++ "<lambda>")) := upd_same
    have hE : ExtN H (upd (upd H P (.tbl (ps ++ #[rawInt pos.line, rawInt pos.col, .ref c']))) c' (CodeO c' (X.env.qual ++ "<lambda>"))) := fun b o e n => by
      rw [upd_ne (ne_of_none e nC), upd_ne (fun z => n ps (Option.some.inj (e.symm.trans (by rw [z]; exact hP))))]
      exact e
    have hTn : TabsL qf Ps (upd (upd H P (.tbl (ps ++ #[rawInt pos.line, rawInt pos.col, .ref c']))) c' (CodeO c' (X.env.qual ++ "<lambda>"))) := fun p hp => by
      by_cases hb : p = P
      · subst hb
        refine ⟨_, by rw [upd_ne (ne_of_none hP nC), upd_same], by simpa using PySem.TriplesOk_snoc _ _ _ _ ht, fun p' cv hcv => ?_⟩
        rcases among_line (pos := pos) (c := .ref c') _ ht (by simpa using hcv) with z | ⟨z, z2⟩
        · obtain ⟨c0, e1, e2⟩ := ha p' cv z
          exact ⟨c0, e1, hE _ _ e2 codeO_ne⟩
        · exact ⟨c', z, by rw [z2, hu]; exact eC⟩
      · obtain ⟨ps', a1, a2, a3⟩ := hT p hp
        refine ⟨ps', by rw [upd_ne (ne_of_none a1 nC), upd_ne hb]; exact a1, a2, fun p' cv hcv => ?_⟩
        obtain ⟨c0, e1, e2⟩ := a3 p' cv hcv
        exact ⟨c0, e1, hE _ _ e2 codeO_ne⟩
    generalize upd (upd H P (.tbl (ps ++ #[rawInt pos.line, rawInt pos.col, .ref c']))) c' (CodeO c' (X.env.qual ++ "<lambda>")) = H1 at I1 hE hTn eC
    have n : H1 h'.objs.size = none := I1.hok.fresh (Nat.le_refl _)
    exact h _ c' _ _ (lam_laid I1) (ext_new hE n) (tnew hTn n) n0 upd_same (by rw [upd_ne (ne_of_none eC n)]; exact eC)
/-- a lambda, as a value -/
def tLamL (X : Cx) (qf : Nat → Str) (Ps : List Addr) (k : Nat) (t : XK → TE) : TE := fun σ H Q => TabsL qf Ps H ∧ ∀ f H1, ExtN H H1 → TabsL qf Ps H1 → H f = none → AskOf X k f t H1 → Q (.ref f) H1
theorem pe_lamL {qf : Nat → Str} {Ps : List Addr} {c P : Addr} {k : Nat} {params : Arguments} {body : Expr} {scope : Scope} {t : XK → TE} {lpos : Pos}
    (TB : TabB X.base X.mg c P) (hcode : X.env.code = .ref c) (hm : P ∈ Ps) (hu : qf lpos.line = X.env.qual ++ "<lambda>") (L : LamS X.env.scope scope) (hdef : defaultsOf params X.env = ([], []))
    (hbind : ∀ (q : Str) (cl : List (Str × Addr)) (pm cv ctv : Value), bindArgs (PySem.W.kla_fn "<lambda>" q params body scope cl pm cv ctv) ⟨[], []⟩ = pure [])
    (hbody : ∀ (A : Around) (outer : List Env) (s : Shared) (H : Hp) (E : XK) (f c' : Addr), Room k (A.deeper (lamEnv X scope s.heap.objs.size f c')) → PE (lamCx X A outer s H E scope f c') body (t E)) :
    PE X (.Lambda params body scope lpos) (tLamL X qf Ps k t) := by
  refine ⟨fun pins s σ H Q I h => ?_⟩
  obtain ⟨hT, h⟩ := h
  exact lam_make4 I TB hcode hm hu hT hdef (L.has I.ok) fun f c' H1 s' I1 eN T1 nf hf hc => ⟨.ref f, H1, I1, rfl, h f H1 eN T1 nf ⟨params, body, scope, c', hf, hc, L, hbind, hbody⟩⟩
end
/-- x(y) in the def itself -/
def tAskX (X : Cx) (k : Nat) (TT : (XK → Hp → VK → Prop) → Hp → VK → Prop) (te : TE) : TE := fun σ H Q => te σ H fun v H1 => ∃ f t, v = .ref f ∧ AskOf X k f t H1 ∧ TT (fun E H' Q' => t E σ H' Q') H1 Q
theorem pe_askX {X : Cx} {TT : (XK → Hp → VK → Prop) → Hp → VK → Prop} {x a : Str} {st : Stmt} {k j : Nat} {Ng : List Str} {e : Expr} {te : TE} {p pos : Pos}
    (D : IsDef X.K X.mg x st) (Sg : FnScope Ng [a] (C8.fnScope st))
    (hb : ∀ (kV doc pm : Value) (an : Option Addr) (cdv ct : Value) (us : List Value), us.length = 1 → bindArgs (PySem.W.fnOf x x (C8.fnArgs st) (C8.fnBody st) (C8.fnScope st) .none kV doc pm an cdv ct) ⟨us, []⟩ = pure ([a].zip us))
    (hg : Gl X x) (hNg : Ng[0]? = some a) (hva : Vis (C8.fnScope st) a) (hG : ∀ (g : Addr) (cdg : Value), GivesR X Ng x (C8.fnScope st) g cdg (C8.fnBody st) a TT) (hr : Room j X.A) (hk : k + 2 ≤ j) (he : PE X e te)
    (hs : starEach [e] X.env = [(false, eval e X.env)] := by rfl)
    (hdb : (x == ("__debug__" : Str)) = false := by decide) (hd : (a == ("__debug__" : Str)) = false := by decide) (hcd : (a == ("__classdict__" : Str)) = false := by decide) :
    PE X (.Call (.Name x p) [e] [] pos) (tAskX X k TT te) := by
  obtain ⟨g, fd, D, df⟩ := D
  obtain ⟨oc, od, dV, kV, doc, pm, an, cdv, ct, osl, rfl, lk, hcg⟩ := D.fn.ex
  have ed : dV = .none := df
  subst ed
  refine ⟨fun pins s σ H Q I h => ?_⟩
  have h : te σ H fun v H1 => ∃ f t, v = .ref f ∧ AskOf X k f t H1 ∧ TT (fun E H' Q' => t E σ H' Q') H1 Q := h
  refine wpAny_Call_Name_kw (ld_glob I hg D.mgf ?_ hdb)
  refine PySem.W.callWith_K (h₀ := X.base) I.ok.mod.kin D.kp ?_ (by rw [hs]; rfl) (by rfl)
  rw [hs]
  show wpAny _ _ (spliced ((false, eval e X.env) :: backTo pos (starEach [] X.env))) _ _ s
  refine Calls.spliced_cons (thn (he.run pins s σ H _ I h) fun u s1 ⟨v, H1, I1, r1, f, t, ev, ⟨params, body, lsc, c', hf, hc, L, hbind, hbody⟩, ht⟩ => ?_)
  subst ev
  obtain rfl : u = Value.ref f := r1
  refine Calls.spliced_nil ⟨I1.kIn, ?_⟩
  have hbs : L2.Binds X.K (PySem.W.fnOf x x (C8.fnArgs st) (C8.fnBody st) (C8.fnScope st) .none kV doc pm an cdv ct) [a] [] := .all (hb kV doc pm an cdv ct)
  have rc : codeAny (model X.prog X.w) X.A (.call (.ref g) ⟨[.ref f], []⟩) (CR C8.CX0 X.stack X.prog X.w H1 s1 Q C8.E0) s1 := by
    refine run_ofS (N := Ng) (ps := [a]) (us := [.ref f]) (vs := [.ref f]) (k := k + 1) lk hcg Sg (hr.mono hk) I1.env0 (hbs s1 [.ref f] I1.kIn rfl) (.cons rfl .nil) rfl fun hr' => ?_
    obtain ⟨t', ht', hq'⟩ := hG g cdv (fun HZ => HZ f = some (LamE X.env.cells (X.env.qual ++ "<lambda>") params body lsc c' f) ∧ HZ c' = some (CodeO c' (X.env.qual ++ "<lambda>"))) f s1 H1 Q (fun E H' Q' => t E σ H' Q')
      (fun W pn xe E p1 p2 tk hW => pe_actR (i := 0) I1 L (fun pm ctv => hbind _ _ _ _ _) tk hW hr' (fun A outer s H hr2 => hbody A outer s H E f c' hr2) hNg hva hd hcd) ⟨hf, hc⟩ ht
    exact ⟨t', ht'.nox, hq'⟩
  refine wpAny_call (codeAny_mono rc fun r s2 hq => ?_)
  cases r with
  | error e => exact (show False from hq).elim
  | ok fl =>
    cases fl with
    | ret u => exact I1.after hq
    | next => exact False.elim hq
    | brk => exact False.elim hq
    | cont => exact False.elim hq
end Fk

set_option maxHeartbeats 4000000
namespace Fk
open PySem PySem.Spec PyProof.Rows L2
open LamX
abbrev Q1L : Str := Str.ofString "_law_refuses" ++ ".<locals>." ++ "<lambda>"
/-- the name of the code objects -/
def qfL (_ : Nat) : Str := Q1L
def rTupOf (K : PySem.W.Frag) : List V → Hp → VK → Prop := fun xs H Q => ∃ p ys, xs = [.ref p] ∧ ((SqL K H p ys ∧ ∀ l, H l = none → Q (.ref l) (upd H l (.tup ys))) ∨ (SqT K H p ys ∧ Q (.ref p) H))
theorem call_tuple_ofK {X : Cx} {K : PySem.W.Frag} (h : X.K = K) : CallR X (.type "tuple") (rTupOf K) := h ▸ call_tuple_of
theorem Wl.ext {W : Addr} {H H' : Hp} {c : Int} (h : Wl H W c) (e : ExtN H H') : Wl H' W c := by
  obtain ⟨h0, x, y, hw⟩ := h
  exact ⟨h0, x, y, e _ _ hw fun ps z => nomatch z⟩
/-- what is kept -/
def Kq (W : Addr) (H H' : Hp) : Prop := ∀ b o, b ≠ W → (∀ ps, o ≠ .tbl ps) → H b = some o → H' b = some o
theorem Kq.refl (W : Addr) (H : Hp) : Kq W H H := fun _ _ _ _ e => e
theorem Kq.trans {W : Addr} {H H1 H2 : Hp} (x : Kq W H H1) (y : Kq W H1 H2) : Kq W H H2 := fun b o n t e => y b o n t (x b o n t e)
theorem Kq.same {W : Addr} {H H' : Hp} (s : Same H H') : Kq W H H' := fun b o _ _ e => s b o e
theorem Kq.fr {W : Addr} {H H' : Hp} (s : Fr W H H') : Kq W H H' := fun b o n _ e => s b o n e
theorem Kq.extN {W : Addr} {H H' : Hp} (s : ExtN H H') : Kq W H H' := fun b o _ t e => s b o e t
/-- the reading of the def that asks -/
def TRef (cP : Addr) : (XK → Hp → VK → Prop) → Hp → VK → Prop := fun tl H Q => tl (fun cls d H' => cls = .ref cP ∧ Q (.bl true) H') H fun v H' => Q (.bl false) H'
theorem refused_gives {X : Cx} {fk cP iF g : Addr} {cdg : Value} (T : TopG X.K X.mg fk cP iF) : GivesR X ["_law_ask"] "_law_refused" (C8.fnScope s_l_refused) g cdg (C8.fnBody s_l_refused) "_law_ask" (TRef cP) := by
  intro R f s H Q tl act hc h
  refine' ⟨_, (pss_cons (ps_tryA (tb := fun W D σ H => ∃ Ech : XK, (∀ cls d (σ' : L2.St) H', σ'.length = 1 → Ech cls d H' → W cls d σ' H') ∧ σ[0]? = some (some (.ref f)) ∧ R H ∧ tl Ech H fun v H' => D.nx σ H') rfl rfl takes_none5 (fun W pn xe tk _ => ?B) (HdA.cons ⟨rfl, by decide, .inl T.eP.mgc⟩ (fun a oe cls d pn hz hf => ?S) HdA.nil)) (pss_one (ps_ret pe_bl))), ?_⟩
  case B =>
    refine ⟨fun pins s' σ H' D I h' => ?_⟩
    obtain ⟨Ech, hW, h1, h2, h3⟩ := h'
    exact (pss_one (ps_expr (act _ pn xe Ech _ _ (takes_len tk) (fun cls d σ' H' e n => hW cls d σ' H' n e)))).run pins s' σ H' D I ⟨h1, h2, h3⟩
  case S => exact (pss_one (ps_ret pe_bl))
  refine ⟨fun cls d H' => cls = .ref cP ∧ Q (.bl true) H', fun cls d σ' H' n h => ?_, rfl, hc, h⟩
  obtain ⟨rfl, k⟩ := h
  exact ⟨true, T.exP, fun _ a na => k, fun z => Bool.noConfusion z⟩
/-- the heap, but for the object at p -/
theorem AskOf.kq {X : Cx} {kk : Nat} {f p : Addr} {t : XK → TE} {H H' : Hp} (a : AskOf X kk f t H) (n : ∀ φ, H p ≠ some (.ext φ)) (s : Kq p H H') : AskOf X kk f t H' := by
  have m : ∀ b φ, H b = some (.ext φ) → b ≠ p := fun b φ e z => n φ (z ▸ e)
  obtain ⟨params, body, scope, c', h1, h2, h3⟩ := a
  exact ⟨params, body, scope, c', s _ _ (m _ _ h1) lamE_ne h1, s _ _ (m _ _ h2) codeO_ne h2, h3⟩
/-- the asks so far, at p; H1 is the heap before them -/
structure AskSt (X : Cx) (Ps : List Addr) (p : Addr) (H1 H : Hp) (fs : List (Addr × (XK → TE))) : Prop where
  at_ : H p = some (.lst (fs.map fun f => V.ref f.1))
  all : ∀ f ∈ fs, AskOf X 6 f.1 f.2 H
  ext : ExtN H1 H
  tab : TabsL qfL Ps H
theorem TabsL.lst {Ps : List Addr} {H : Hp} {p : Addr} {l l' : List V} (t : TabsL qfL Ps H) (h : H p = some (.lst l)) : TabsL qfL Ps (upd H p (.lst l')) := t.ext fun b o nl _ e => by
  rw [upd_ne (fun z => by rw [z, h] at e; exact nl _ (Option.some.inj e).symm)]
  exact e
theorem AskSt.step {X : Cx} {Ps : List Addr} {p f : Addr} {t : XK → TE} {H1 H H2 : Hp} {fs : List (Addr × (XK → TE))} (hp : H1 p = none) (s : AskSt X Ps p H1 H fs) (e : ExtN H H2) (tb : TabsL qfL Ps H2) (af : AskOf X 6 f t H2) :
    H2 p = some (.lst (fs.map fun f => V.ref f.1)) ∧ AskSt X Ps p H1 (upd H2 p (.lst ((fs.map fun f => V.ref f.1) ++ [.ref f]))) (fs ++ [(f, t)]) := by
  have h2 := e _ _ s.at_ (fun ps z => nomatch z)
  have kq : Kq p H2 (upd H2 p (.lst ((fs.map fun f => V.ref f.1) ++ [.ref f]))) := fun b o n _ z => by rw [upd_ne n]; exact z
  have ne : ∀ φ, H2 p ≠ some (.ext φ) := fun φ z => by rw [h2] at z; cases z
  refine ⟨h2, by rw [upd_same, List.map_append]; rfl, fun x hx => ?_, fun b o z n => ?_, tb.lst h2⟩
  · rcases List.mem_append.mp hx with h | h
    · exact ((s.all x h).ext e).kq ne kq
    · obtain rfl := List.mem_singleton.mp h
      exact af.kq ne kq
  · rw [upd_ne (ne_of_none z hp)]
    exact e _ _ (s.ext _ _ z n) n
/-- an odd value -/
def OddF (H : Hp) (v : V) : Prop := v = .non ∨ (∃ q, v = .ref q ∧ H q = some (.lst [])) ∨ (∃ q p, v = .ref q ∧ H q = some (.dK [(.inr "", .ref p)])) ∨ (∃ q, v = .ref q ∧ H q = some (.dK [(.inr "a", .non)])) ∨
  (∃ q p x, v = .ref q ∧ H q = some (.dK [(.inr "a", .ref p)]) ∧ H p = some (.tup [.str "dir", .str x])) ∨ ∃ q, v = .ref q ∧ H q = some (.dK [(.inl 3, .int 3)])
theorem OddF.ext {H H' : Hp} {v : V} (h : OddF H v) (e : ExtN H H') : OddF H' v := by
  rcases h with h | ⟨q, a, b⟩ | ⟨q, p, a, b⟩ | ⟨q, a, b⟩ | ⟨q, p, x, a, b, c⟩ | ⟨q, a, b⟩
  · exact .inl h
  · exact .inr (.inl ⟨q, a, e _ _ b fun ps z => nomatch z⟩)
  · exact .inr (.inr (.inl ⟨q, p, a, e _ _ b fun ps z => nomatch z⟩))
  · exact .inr (.inr (.inr (.inl ⟨q, a, e _ _ b fun ps z => nomatch z⟩)))
  · exact .inr (.inr (.inr (.inr (.inl ⟨q, p, x, a, e _ _ b (fun ps z => nomatch z), e _ _ c fun ps z => nomatch z⟩))))
  · exact .inr (.inr (.inr (.inr (.inr ⟨q, a, e _ _ b fun ps z => nomatch z⟩))))
theorem OddF.bad {K : PySem.W.Frag} {H : Hp} {v : V} (h : OddF H v) : BadFile K H v := by
  have pa : isPathF "a" = true := by decide +kernel
  rcases h with rfl | ⟨q, rfl, b⟩ | ⟨q, p, rfl, b⟩ | ⟨q, rfl, b⟩ | ⟨q, p, x, rfl, b, c⟩ | ⟨q, rfl, b⟩
  · exact .inl ⟨"NoneType", by decide, .base .non⟩
  · exact .inl ⟨"list", by decide, .base (.lst b)⟩
  · exact .inr ⟨q, _, _, rfl, b, .inl ⟨fun H' => .str "" (by decide) (ok_by (by decide +kernel)), by show isPathF "" = false; decide +kernel⟩⟩
  · exact .inr ⟨q, _, _, rfl, b, .inr ⟨"a", rfl, by decide, ok_by (by decide +kernel), pa, fun H' _ _ => .inl ⟨"NoneType", by decide, .base .non⟩⟩⟩
  · exact .inr ⟨q, _, _, rfl, b, .inr ⟨"a", rfl, by decide, ok_by (by decide +kernel), pa, fun H' k _ => .inr ⟨p, "dir", x, rfl, .inl (k _ _ c), by decide +kernel⟩⟩⟩
  · exact .inr ⟨q, _, _, rfl, b, .inl ⟨fun H' => .int 3, rfl⟩⟩
theorem FilesAt.extN {K : PySem.W.Frag} {e : Addr} {H H' : Hp} {n : Nat} {m : Mp Fi} (h : FilesAt K H e n m) (x : ExtN H H') : FilesAt K H' e n m := by
  obtain ⟨t, h1, h2, h3⟩ := h
  exact ⟨t, x _ _ h1 (fun ps z => nomatch z), h2.imp fun _ _ y => FvV.keep y (fun b xs z => x b _ z fun ps y => nomatch y), h3⟩
theorem MenuAt.fileV {K : PySem.W.Frag} {e : Addr} {H : Hp} {m : Mp Fi} (h : MenuAt K H e m) : FileV K H (.ref e) := by
  obtain ⟨⟨t, h1, h2, h3⟩, _⟩ := h
  exact ⟨e, m, rfl, t, h1, h2, h3.nd, Nat.le_trans h3.len (by decide), h3.path, h3.good⟩
theorem FileV.extN {K : PySem.W.Frag} {H H' : Hp} {v : V} (h : FileV K H v) (x : ExtN H H') : FileV K H' v := let ⟨e, m, a, b⟩ := h; ⟨e, m, a, b.extN x⟩
section
variable {P : Program} {w : World} {K : PySem.W.Frag} {mg : Str → Option Value} {base : Heap} {fk iF cP : Addr}
def spRefu (K : PySem.W.Frag) (P1 : Addr) : Sp := fun vs H Q _ => ∃ (W B o t : Addr) (us : List (Addr × Mp Fi)) (f g : Mp Fi) (c : Int), vs = [.ref W, .ref B, .ref o, .ref t] ∧ Wl H W c ∧ c < 2 ^ 36 ∧ H B = some (.lst (us.map fun u => V.ref u.1)) ∧ us.length ≤ 18 ∧ (∀ u ∈ us, MenuAt K H u.1 u.2) ∧ MenuAt K H o f ∧ MenuAt K H t g ∧ TabsL qfL [P1] H ∧
  ∀ H' c', Kq W H H' → Wl H' W c' → c ≤ c' → c' ≤ c + 1 → TabsL qfL [P1] H' → Q (.bl true) H'
set_option pp.maxSteps 3000 in
theorem c_l_refuses (T : TopG K mg fk cP iF) {cd P1 : Addr} (TB : TabB base mg cd P1) (D : IsDefC K mg "_law_refuses" s_l_refuses cd) : C8.Cal P w K mg base 9 "_law_refuses" (spRefu K P1) [] := by
  refine cal_ofC D sc_l_refuses (fun _ _ _ _ _ _ us hl => match us, hl with | [_, _, _, _], _ => rfl) (fun vs H Q E h => ?_) (fun fa A outer s H vs Q E hr h => ?_)
  · obtain ⟨W, B, o, t, us, f, g, c, rfl, _⟩ := h
    rfl
  · obtain ⟨W, B, o, t, us, f, g, c, rfl, hw, hc, hB, hl, hu, ho, ht, tb, q⟩ := h
    refine ⟨_, (pss_cons (ps_set (i := 4) sc_l_refuses.nd rfl (Or.inl rfl) (pe_lst (pa_cons pe_non (pa_cons (pe_lst pa_nil) (pa_cons (pe_disp (pps_cons pe_str (pe_tup (pa_cons pe_str (pa_cons (pe_op op_mul_si pe_str pe_int) pa_nil))) pps_nil) (by rfl) (by rfl) (fun z => by cases z) (by decide)) (pa_cons (pe_disp (pps_cons pe_str pe_non pps_nil) (by rfl) (by rfl) (fun z => by cases z) (by decide)) (pa_cons (pe_disp (pps_cons pe_str (pe_tup (pa_cons pe_str (pa_cons (pe_op op_mul_si pe_str pe_int) pa_nil))) pps_nil) (by rfl) (by rfl) (fun z => by cases z) (by decide)) (pa_cons (pe_disp (pps_cons pe_int pe_int pps_nil) (by rfl) (by rfl) (fun z => by cases z) (by decide)) pa_nil))))))))
      (pss_cons (ps_set (i := 5) sc_l_refuses.nd rfl (Or.inr rfl) (C8.pe_c (c_l_pick T.toTop) hr (by decide) (by rfl) (pa_cons (pv 0) (pa_cons (pv 4) pa_nil))))
      (pss_cons (ps_set (i := 6) sc_l_refuses.nd rfl (Or.inl rfl) (pe_lst (pa_cons (pe_lamL (qf := qfL) (Ps := [P1]) (k := 6) TB rfl List.mem_cons_self rfl (show LamS (C8.fnScope s_l_refuses) _ from lamS_by (by decide +kernel)) rfl (fun _ _ _ _ _ => rfl) (fun A outer s H E f c2 hr2 => (pe_cx (cb_merged T) hr2 (by decide) (fun _ => passAt takes_lam _) (by rfl) (pa_cons (pe_tup (pa_cons (pv 5) pa_nil)) (pa_cons (pv 2) (pa_cons (pv 3) pa_nil)))))) pa_nil)))
      (pss_cons (ps_expr (pe_bm PySem.F.plainAttrs_list PySem.F.slot_list_append PySem.F.type_list_append mt_append (pv 6) (pa_cons (pe_lamL (qf := qfL) (Ps := [P1]) (k := 6) TB rfl List.mem_cons_self rfl (show LamS (C8.fnScope s_l_refuses) _ from lamS_by (by decide +kernel)) rfl (fun _ _ _ _ _ => rfl) (fun A outer s H E f c2 hr2 => (pe_cx (cb_merged T) hr2 (by decide) (fun _ => passAt takes_lam _) (by rfl) (pa_cons (pe_callTy (call_tuple_ofK (K := K) rfl) (by rfl) T.z_tuple (by decide +kernel) (pa_cons (pv 1) pa_nil)) (pa_cons (pv 5) (pa_cons (pv 3) pa_nil)))))) pa_nil)))
      (pss_cons (ps_expr (pe_bm PySem.F.plainAttrs_list PySem.F.slot_list_append PySem.F.type_list_append mt_append (pv 6) (pa_cons (pe_lamL (qf := qfL) (Ps := [P1]) (k := 6) TB rfl List.mem_cons_self rfl (show LamS (C8.fnScope s_l_refuses) _ from lamS_by (by decide +kernel)) rfl (fun _ _ _ _ _ => rfl) (fun A outer s H E f c2 hr2 => (pe_cx (cb_merged T) hr2 (by decide) (fun _ => passAt takes_lam _) (by rfl) (pa_cons (pe_callTy (call_tuple_ofK (K := K) rfl) (by rfl) T.z_tuple (by decide +kernel) (pa_cons (pv 1) pa_nil)) (pa_cons (pv 2) (pa_cons (pv 5) pa_nil)))))) pa_nil)))
      (pss_cons (ps_expr (pe_bm PySem.F.plainAttrs_list PySem.F.slot_list_append PySem.F.type_list_append mt_append (pv 6) (pa_cons (pe_lamL (qf := qfL) (Ps := [P1]) (k := 6) TB rfl List.mem_cons_self rfl (show LamS (C8.fnScope s_l_refuses) _ from lamS_by (by decide +kernel)) rfl (fun _ _ _ _ _ => rfl) (fun A outer s H E f c2 hr2 => (pe_cx (cb_merged T) hr2 (by decide) (fun _ => passAt takes_lam _) (by rfl) (pa_cons (pv 1) (pa_cons (pv 2) (pa_cons (pv 3) pa_nil)))))) pa_nil)))
      (pss_cons (ps_expr (pe_bm PySem.F.plainAttrs_list PySem.F.slot_list_append PySem.F.type_list_append mt_append (pv 6) (pa_cons (pe_lamL (qf := qfL) (Ps := [P1]) (k := 6) TB rfl List.mem_cons_self rfl (show LamS (C8.fnScope s_l_refuses) _ from lamS_by (by decide +kernel)) rfl (fun _ _ _ _ _ => rfl) (fun A outer s H E f c2 hr2 => (pe_cx (cb_differences T) hr2 (by decide) (fun _ => passAt takes_lam _) (by rfl) (pa_cons (pv 5) (pa_cons (pv 3) pa_nil))))) pa_nil)))
      (pss_cons (ps_expr (pe_bm PySem.F.plainAttrs_list PySem.F.slot_list_append PySem.F.type_list_append mt_append (pv 6) (pa_cons (pe_lamL (qf := qfL) (Ps := [P1]) (k := 6) TB rfl List.mem_cons_self rfl (show LamS (C8.fnScope s_l_refuses) _ from lamS_by (by decide +kernel)) rfl (fun _ _ _ _ _ => rfl) (fun A outer s H E f c2 hr2 => (pe_cx (cb_differences T) hr2 (by decide) (fun _ => passAt takes_lam _) (by rfl) (pa_cons (pv 2) (pa_cons (pv 5) pa_nil))))) pa_nil)))
      (pss_one (ps_ret (pe_cmpR (op_eqE hr.units) (pe_lcI (own := [("_law_ask", 7)]) (g := gName 7) (by rfl) sc_l_refuses.nd (pi_list (pv 6)) (blkOk_by (own := [("_law_ask", 7)]) (N := ["_law_well_here", "_law_bases", "_law_ours", "_law_theirs", "_law_some", "_law_odd", "_law_asks", "_law_ask"]) (sc := C8.fnScope s_l_refuses) (by decide +kernel)) (fun _ _ _ _ _ => (pg_name (i := 7) sc_l_refuses.nd rfl (Or.inl rfl))) (fun pins σ s H C cl fp B => pts_one (pt_not (pt_val (pe_askY (k := 6) B T.d_l_refused sc_l_refused (fun _ _ _ _ _ _ us hl => match us, hl with | [_], _ => rfl) (by rfl) rfl (.inl rfl) (fun g cdg => refused_gives T) hr (by decide) (pv 7))))) (fun pins σ s H C cl fp B => (pv 7))) (pe_lst pa_nil) (nomark _)))))))))))), ?_⟩
    refine ⟨(by show 0 ≤ sizeLine; decide), fun k1 nk1 => ?_⟩
    have x1 := same_new (o := .lst []) nk1
    have kk1 := upd_same (H := H) (a := k1) (o := .lst [])
    generalize upd H k1 (.lst []) = G1 at x1 kk1
    refine fun k2 nk2 => ⟨("0" : Str), 16, rfl, rfl, by decide, by decide, by decide +kernel, (by show 2 ≤ sizeLine; decide), fun t2 nt2 => ⟨(same_new nt2) _ _ upd_same, [(.inr "", .ref t2)], rfl, (by show 1 ≤ 15; decide), ?_⟩⟩
    have x2 := same_mut ((same_new (o := .dK []) nk2).trans (same_new (o := .tup [V.str "file", .str (repS ("0" : Str) (Int.toNat 16))]) nt2)) (o := .dK (mergeK [] [((.inr "" : Key), V.ref t2)])) nk2
    have kk2 : (upd (upd (upd G1 k2 (.dK [])) t2 (.tup [V.str "file", .str (repS ("0" : Str) (Int.toNat 16))])) k2 (.dK (mergeK [] [((.inr "" : Key), V.ref t2)]))) k2 = some (.dK [(.inr "", .ref t2)]) := upd_same
    generalize upd (upd (upd G1 k2 (.dK [])) t2 (.tup [V.str "file", .str (repS ("0" : Str) (Int.toNat 16))])) k2 (.dK (mergeK [] [((.inr "" : Key), V.ref t2)])) = G2 at x2 kk2
    refine fun k3 nk3 => ⟨upd_same, [(.inr "a", .non)], rfl, (by decide), ?_⟩
    have x3 := same_mut (same_new (o := .dK []) nk3) (o := .dK (mergeK [] [((.inr "a" : Key), V.non)])) nk3
    have kk3 : (upd (upd G2 k3 (.dK [])) k3 (.dK (mergeK [] [((.inr "a" : Key), V.non)]))) k3 = some (.dK [(.inr "a", .non)]) := upd_same
    generalize upd (upd G2 k3 (.dK [])) k3 (.dK (mergeK [] [((.inr "a" : Key), V.non)])) = G3 at x3 kk3
    refine fun k4 nk4 => ⟨("0" : Str), 16, rfl, rfl, by decide, by decide, by decide +kernel, (by show 2 ≤ sizeLine; decide), fun t4 nt4 => ⟨(same_new nt4) _ _ upd_same, [(.inr "a", .ref t4)], rfl, (by show 1 ≤ 15; decide), ?_⟩⟩
    have nkt : t4 ≠ k4 := fun z => by rw [z, upd_same] at nt4; cases nt4
    have x4 := same_mut ((same_new (o := .dK []) nk4).trans (same_new (o := .tup [V.str "dir", .str (repS ("0" : Str) (Int.toNat 16))]) nt4)) (o := .dK (mergeK [] [((.inr "a" : Key), V.ref t4)])) nk4
    have kk4 : (upd (upd (upd G3 k4 (.dK [])) t4 (.tup [V.str "dir", .str (repS ("0" : Str) (Int.toNat 16))])) k4 (.dK (mergeK [] [((.inr "a" : Key), V.ref t4)]))) k4 = some (.dK [(.inr "a", .ref t4)]) := upd_same
    have kt4 : (upd (upd (upd G3 k4 (.dK [])) t4 (.tup [V.str "dir", .str (repS ("0" : Str) (Int.toNat 16))])) k4 (.dK (mergeK [] [((.inr "a" : Key), V.ref t4)]))) t4 = some (.tup [V.str "dir", .str (repS ("0" : Str) (Int.toNat 16))]) := by rw [upd_ne nkt, upd_same]
    generalize upd (upd (upd G3 k4 (.dK [])) t4 (.tup [V.str "dir", .str (repS ("0" : Str) (Int.toNat 16))])) k4 (.dK (mergeK [] [((.inr "a" : Key), V.ref t4)])) = G4 at x4 kk4 kt4
    refine fun k5 nk5 => ⟨upd_same, [(.inl 3, .int 3)], rfl, (by decide), ?_⟩
    have x5 := same_mut (same_new (o := .dK []) nk5) (o := .dK (mergeK [] [((.inl 3 : Key), V.int 3)])) nk5
    have kk5 : (upd (upd G4 k5 (.dK [])) k5 (.dK (mergeK [] [((.inl 3 : Key), V.int 3)]))) k5 = some (.dK [(.inl 3, .int 3)]) := upd_same
    generalize upd (upd G4 k5 (.dK [])) k5 (.dK (mergeK [] [((.inl 3 : Key), V.int 3)])) = G5 at x5 kk5
    refine ⟨(by show 6 ≤ sizeLine; decide), fun kS nkS => ?_⟩
    have xS := same_new (o := .lst [V.non, .ref k1, .ref k2, .ref k3, .ref k4, .ref k5]) nkS
    have hkS := upd_same (H := G5) (a := kS) (o := .lst [V.non, .ref k1, .ref k2, .ref k3, .ref k4, .ref k5])
    generalize upd G5 kS (.lst [V.non, .ref k1, .ref k2, .ref k3, .ref k4, .ref k5]) = G6 at xS hkS
    have y5 := x5.trans xS
    have y4 := x4.trans y5
    have y3 := x3.trans y4
    have y2 := x2.trans y3
    have y1 := y2
    have y0 := x1.trans y1
    have wS := hw.same y0
    have nS : kS ≠ W := (hw.same (x1.trans (x2.trans (x3.trans (x4.trans x5))))).ne nkS
    refine ⟨.ref W, rfl, .ref kS, rfl, do_pick wS hkS nS (by show 0 < 6; decide) (by show 6 < 1000000; decide) (by omega) fun odd hodd H1 c1 f1 w1 l1 m1 => ?_⟩
    have nl : ∀ {b : Addr} {o : HO}, G6 b = some o → (∀ l, o ≠ .lst l) → b ≠ W := fun {b o} z no e => by
      obtain ⟨_, x, y, h⟩ := wS
      rw [e, h] at z
      exact no _ (Option.some.inj z).symm
    have n1 : k1 ≠ W := hw.ne nk1
    have h1 := f1 _ _ n1 (y1 _ _ kk1)
    have h2 := f1 _ _ (nl (y3 _ _ kk2) fun _ z => nomatch z) (y3 _ _ kk2)
    have h3 := f1 _ _ (nl (y4 _ _ kk3) fun _ z => nomatch z) (y4 _ _ kk3)
    have h4 := f1 _ _ (nl (y5 _ _ kk4) fun _ z => nomatch z) (y5 _ _ kk4)
    have h4t := f1 _ _ (nl (y5 _ _ kt4) fun _ z => nomatch z) (y5 _ _ kt4)
    have h5 := f1 _ _ (nl (xS _ _ kk5) fun _ z => nomatch z) (xS _ _ kk5)
    have od : OddF H1 odd := by
      simp only [List.mem_cons, List.not_mem_nil, or_false] at hodd
      rcases hodd with rfl | rfl | rfl | rfl | rfl | rfl
      · exact .inl rfl
      · exact .inr (.inl ⟨_, rfl, h1⟩)
      · exact .inr (.inr (.inl ⟨_, _, rfl, h2⟩))
      · exact .inr (.inr (.inr (.inl ⟨_, rfl, h3⟩)))
      · exact .inr (.inr (.inr (.inr (.inl ⟨_, _, _, rfl, h4, h4t⟩))))
      · exact .inr (.inr (.inr (.inr (.inr ⟨_, rfl, h5⟩))))
    have F1 : Fr W H H1 := (Fr.same y0).trans f1
    have tb1 : TabsL qfL [P1] H1 := (tb.same y0).ext fun b o nl _ e => f1 b o (fun z => by
      obtain ⟨_, x, y, hW⟩ := wS
      rw [z, hW] at e
      exact nl _ (Option.some.inj e).symm) e
    have nB : B ≠ W := fun z => by
      obtain ⟨_, x, y, h⟩ := hw
      rw [z, h] at hB
      have e := congrArg (fun o : Option HO => match o with | some (.lst (.int _ :: _)) => true | _ => false) hB
      cases us <;> cases e
    have hB1 := F1 _ _ nB hB
    have ho1 := ho.fr F1 hw
    have ht1 := ht.fr F1 hw
    have hu1 : ∀ u ∈ us, MenuAt K H1 u.1 u.2 := fun u h => (hu u h).fr F1 hw
    clear h1 h2 h3 h4 h4t h5 hodd
    refine ⟨tb1, fun f1' H2 eN2 tb2 _ af1 => ⟨(by show 1 ≤ sizeLine; decide), fun p hp => ?_⟩⟩
    have sp := same_new (o := .lst [V.ref f1']) hp
    have st : AskSt _ [P1] p H2 (upd H2 p (.lst [V.ref f1'])) [(f1', _)] := ⟨upd_same, fun x hx => by
      obtain rfl := List.mem_singleton.mp hx
      exact af1.ext (ExtN.of sp), ExtN.of sp, tb2.same sp⟩
    generalize upd H2 p (.lst [V.ref f1']) = H3 at st ⊢
    refine ⟨.ref p, rfl, .inl ⟨rfl, _, SqL.of st.at_⟩, st.tab, fun f2 Ha eN tbn _ af => ?_⟩
    have ⟨hp2, st⟩ := st.step hp eN tbn af
    refine ⟨p, _, .ref f2, rfl, rfl, hp2, by show 1 < sizeLine; decide, ?_⟩
    generalize upd Ha p _ = H5 at st ⊢
    refine ⟨.ref p, rfl, .inl ⟨rfl, _, SqL.of st.at_⟩, st.tab, fun f3 Ha eN tbn _ af => ?_⟩
    have ⟨hp2, st⟩ := st.step hp eN tbn af
    refine ⟨p, _, .ref f3, rfl, rfl, hp2, by show 2 < sizeLine; decide, ?_⟩
    generalize upd Ha p _ = H6 at st ⊢
    refine ⟨.ref p, rfl, .inl ⟨rfl, _, SqL.of st.at_⟩, st.tab, fun f4 Ha eN tbn _ af => ?_⟩
    have ⟨hp2, st⟩ := st.step hp eN tbn af
    refine ⟨p, _, .ref f4, rfl, rfl, hp2, by show 3 < sizeLine; decide, ?_⟩
    generalize upd Ha p _ = H7 at st ⊢
    refine ⟨.ref p, rfl, .inl ⟨rfl, _, SqL.of st.at_⟩, st.tab, fun f5 Ha eN tbn _ af => ?_⟩
    have ⟨hp2, st⟩ := st.step hp eN tbn af
    refine ⟨p, _, .ref f5, rfl, rfl, hp2, by show 4 < sizeLine; decide, ?_⟩
    generalize upd Ha p _ = H8 at st ⊢
    refine ⟨.ref p, rfl, .inl ⟨rfl, _, SqL.of st.at_⟩, st.tab, fun f6 Ha eN tbn _ af => ?_⟩
    have ⟨hp2, st⟩ := st.step hp eN tbn af
    refine ⟨p, _, .ref f6, rfl, rfl, hp2, by show 5 < sizeLine; decide, ?_⟩
    generalize upd Ha p _ = H9 at st ⊢
    have e1 : ExtN H1 H9 := eN2.trans st.ext
    have hB2 := e1 _ _ hB1 (fun ps z => nomatch z)
    have od2 := od.ext e1
    have fo2 : FileV K H9 (.ref o) := (ho1.fileV).extN e1
    have ft2 : FileV K H9 (.ref t) := (ht1.fileV).extN e1
    have fu2 : ∀ u ∈ us, FileV K H9 (.ref u.1) := fun u h => ((hu1 u h).fileV).extN e1
    have fu3 : ∀ {j : Nat} {u : V}, (us.map fun u => V.ref u.1)[j]? = some u → FileV K H9 u := fun {j u} h => by
      obtain ⟨x, hx, rfl⟩ := List.mem_map.mp (List.mem_of_getElem? h)
      exact fu2 x hx
    have w8 := w1.ext e1
    have K8 : Kq W H H9 := (Kq.fr F1).trans (Kq.extN e1)
    have ll : (us.map fun u => V.ref u.1).length = us.length := List.length_map _
    have ask := st.all
    refine ⟨.ref p, rfl, p, rfl, ⟨_, SqL.of st.at_⟩, fun D hD => ?_⟩
    refine lc_pure (i := 7) (g := fun (x : Addr × (XK → TE)) => V.ref x.1) yields_list (fun x => V.ref x.1) (fun _ => false) hD (fun H s => SqL.of (s _ _ st.at_)) (fun Hc u s hm R r => ?_) (fun _ _ _ _ z => nomatch z) ?_ (fun Hd s9 h9 => ?_)
    · have bad : ∀ {H' : Hp} {Ex : XK}, Same Hc H' → (∀ (d : Option Addr) (H2 : Hp), Same Hc H2 → Ex (.ref cP) d H2) → Bad cP H' Ex := fun s1 h dd y H2 s2 _ => h _ _ (s1.trans s2)
      have au := (ask u hm).ext (ExtN.of s)
      have hB9 := s _ _ hB2
      have od9 : BadFile K Hc odd := (od2.ext (ExtN.of s)).bad
      have fo9 := fo2.extN (ExtN.of s)
      have ft9 := ft2.extN (ExtN.of s)
      simp only [List.mem_append, List.mem_cons, List.not_mem_nil, or_false] at hm
      rcases hm with ((((rfl | rfl) | rfl) | rfl) | rfl) | rfl
      · refine ⟨_, rfl, _, _, rfl, au, odd, rfl, (by show 1 ≤ sizeLine; decide), fun p2 np2 => ⟨.ref o, rfl, .ref t, rfl, _, _, _, rfl, bad (same_new np2) (fun d Hz sz => ⟨rfl, _, rfl, r _ sz⟩), .inr ⟨p2, _, rfl, upd_same, by show 1 ≤ 20; decide, 0, odd, rfl, (fun j u h => absurd h (Nat.not_lt_zero _)), od9.same (same_new np2)⟩⟩⟩
      · refine ⟨_, rfl, _, _, rfl, au, .ref B, rfl, B, _, rfl, .inl ⟨SqL.of hB9, fun p2 np2 => ⟨odd, rfl, .ref t, rfl, _, _, _, rfl, bad (same_new np2) (fun d Hz sz => ⟨rfl, _, rfl, r _ sz⟩), .inr ⟨p2, _, rfl, upd_same, by omega, us.length, odd, ?_, fun j u hj hu => ?_, od9.same (same_new np2)⟩⟩⟩⟩
        · rw [List.getElem?_append_right (by omega), ll, Nat.sub_self]; rfl
        · rw [List.getElem?_append_left (by omega)] at hu
          exact (fu3 hu).extN (ExtN.of (s.trans (same_new np2)))
      · refine ⟨_, rfl, _, _, rfl, au, .ref B, rfl, B, _, rfl, .inl ⟨SqL.of hB9, fun p2 np2 => ⟨.ref o, rfl, odd, rfl, _, _, _, rfl, bad (same_new np2) (fun d Hz sz => ⟨rfl, _, rfl, r _ sz⟩), .inr ⟨p2, _, rfl, upd_same, by omega, us.length + 1, odd, ?_, fun j u hj hu => ?_, od9.same (same_new np2)⟩⟩⟩⟩
        · rw [List.getElem?_append_right (by omega), ll, Nat.add_sub_cancel_left]; rfl
        · rcases Nat.lt_or_ge j us.length with z | z
          · rw [List.getElem?_append_left (by omega)] at hu
            exact (fu3 hu).extN (ExtN.of (s.trans (same_new np2)))
          · obtain rfl : j = us.length := by omega
            rw [List.getElem?_append_right (by omega), ll, Nat.sub_self] at hu
            cases hu
            exact fo9.extN (ExtN.of (same_new np2))
      · exact ⟨_, rfl, _, _, rfl, au, .ref B, rfl, .ref o, rfl, .ref t, rfl, _, _, _, rfl, bad (Same.refl _) (fun d Hz sz => ⟨rfl, _, rfl, r _ sz⟩), .inl ⟨"list", by decide, .base (.lst hB9)⟩⟩
      · exact ⟨_, rfl, _, _, rfl, au, odd, rfl, .ref t, rfl, _, _, rfl, .inl od9, bad (Same.refl _) (fun d Hz sz => ⟨rfl, _, rfl, r _ sz⟩)⟩
      · exact ⟨_, rfl, _, _, rfl, au, .ref o, rfl, odd, rfl, _, _, rfl, .inr ⟨fo9, od9⟩, bad (Same.refl _) (fun d Hz sz => ⟨rfl, _, rfl, r _ sz⟩)⟩
    · show 6 ≤ 1000000
      decide
    · refine ⟨(by show 0 ≤ sizeLine; decide), fun q3 n3 => ⟨D, q3, [], rfl, rfl, ?_, upd_same, ?_⟩⟩
      · rw [show (List.filter (fun _ => false) _) = ([] : List (Addr × (XK → TE))) from List.filter_eq_nil_iff.mpr fun _ _ z => nomatch z] at h9
        exact (same_new n3) _ _ h9
      · have sz := s9.trans (same_new (o := .lst []) n3)
        exact q _ c1 (K8.trans (Kq.same sz)) (w8.same sz) l1 m1 (st.tab.same sz)
end

end Fk

set_option maxHeartbeats 4000000
/-! No list of the law's own is the table of modules: told to a reading, from the heap at the law's start. -/
namespace Fk
open PySem PySem.Spec PyProof.Rows L2 LamX
/-- the table of modules is no object of the law's own -/
theorem note_sys {X : Cx} {e : Expr} {te : TE} (h : ∃ o, X.base.get? sysModules = some o) (he : PE X e te) : PE X e (fun σ H Q => H sysModules = none → te σ H Q) :=
  ⟨fun pins s σ H Q I q => he.run pins s σ H Q I (q (h.elim fun o e => (I.bs _ o e).2))⟩
/-- what is known of the law's promise to the topmost caller at the head's heap -/
def LawTopS (l : PySem.W.OpenLaw) (w : World) (K : PySem.W.Frag) (CX : CXT) (n : Nat) (x : Str) (mg : Str → Option Value) (fa : Addr) (h : Heap) : Prop :=
  ∃ (fd : FuncData) (cs : List (Addr × Addr)) (sp : Sp), (∀ p ∈ cs, h.get? p.2 = some { cls := .none, data := .fields #[] }) ∧ (∀ p ∈ cs, K.lookup p.2 = none) ∧ (∀ p ∈ cs, PySem.W.CodeHd h p.1 p.2) ∧ (∀ (s : Shared) (u : Value), BindsTo s fd ⟨[u], []⟩ [(x, u)]) ∧
    (∀ (H : Hp) (a : Addr) (ns : List Int), ns.length ≤ n → (∀ z ∈ ns, Builtin.Int.intBits z ≤ 1048576) → (∀ p ∈ cs, H p.2 = some (.tbl #[])) → SqL K H a (ns.map V.int) → sp [.ref a] H (fun v _ => v = .bl true) fun _ _ _ => False) ∧
    ∀ base : Heap, K.In base → base.Ns mainGlobals mg → (∀ p ∈ cs, TabB base mg p.1 p.2) → (∃ o, base.get? sysModules = some o) → TopOk l.prog w K mg base CX fa fd [x] sp
theorem walk_ofTopS {l : PySem.W.OpenLaw} {n : Nat} {q : Program} {loose : List Str} {XP : (Str → Option Value) → Heap → Prop} {YP : World → Heap → Prop} {d : DefRec} {K : Params → PySem.W.Frag} {CX : World → CXT} {x : Str} {ys : List Str}
    (hsee : importsNone q = true) (hn : l.most = some n) (hn2 : n ≤ sizeLine) (hdf : d.params.defaults = []) (hrec : ∀ y ∈ ys, ((recsOf q).any fun e => e.name == y) = true) (hY : ∀ (w : World) (h : Heap), YP w h → (K w.params).In h)
    (F : ∀ (w : World) (mg : Str → Option Value) (fa : Addr) (h : Heap), YP w h → (K w.params).In h → h.Ns mainGlobals mg → mg d.name = some (.ref fa) → (∀ y ∈ ys, ∃ c P, TabD mg h y c P) → LawTopS l w (K w.params) (CX w) n x mg fa h)
    (hCX : ∀ (w : World) (H : Hp) (s : Shared) (e : Value) (s' : Shared), CX w [] H s (fun _ _ _ => False) e s' → False) :
    PySem.W.WalkO q loose XP YP l.row.toRowW d [] (fun f vs => PySem.call f vs) := by
  refine Att.attach_callB hn hdf fun w s₀ s₁ mg mb fa o pm cd doc a vs ns G Y ho hd hcd hmg hobj hints hlen hbits hg => ?_
  have KX := hY w _ Y
  have tabs : ∀ y ∈ ys, ∃ c P, TabD mg s₁.heap y c P := fun y hy => by
    obtain ⟨dL, hm, hn1⟩ := List.any_eq_true.mp (hrec y hy)
    have hn2 : dL.name = y := beq_iff_eq.mp hn1
    obtain ⟨a', o', fd', c', P', h1, h2, h3, h4, h5, h6⟩ := G.T.tab dL hm
    rw [hn2] at h1
    exact ⟨c', P', a', o', fd', h1, h2, h3, h4, PySem.W.CodeHd.of h5 h6, h6.2⟩
  obtain ⟨fd, cs, sp, hT, nT, C, hb, hsp, hF⟩ := F w mg fa _ Y KX G.T.g hmg tabs
  obtain ⟨hS, TB, e0⟩ := top_env (P := l.prog) (w := w) KX G.T.g G.T.b G.T.builtins G.T.nolimit hg hT nT C G.T.bmain hobj hints (Nat.le_trans hlen hn2)
  have seen : ∃ o, (hidT s₁.heap (topH (K w.params) cs a vs ns)).get? sysModules = some o := by
    obtain ⟨mm, ⟨o, es, ep, e, d, r⟩, _⟩ := (G.T.seer hsee).mods
    refine ⟨o, hidT_get e ?_⟩
    cases z : topH (K w.params) cs a vs ns sysModules with
    | none => rfl
    | some u =>
      rcases topH_not z with ⟨m, _⟩ | ⟨m, _, _⟩
      · obtain ⟨p, hp, ep⟩ := List.mem_map.mp m
        have := hT p hp
        rw [ep, e] at this
        cases this
        cases d
      · rw [m, hobj] at e
        cases e
        cases d
  refine codeAny_mono ((hF _ e0.mod.kin e0.mod.glob TB seen).run s₁ _ ⟨[.ref a], []⟩ [.ref a] [.ref a] _ _ e0 (hb s₁ (.ref a)) (.cons rfl .nil) (hsp _ a ns hlen hbits (fun p hp => topH_tab hp) hS)) fun r s' z => ?_
  rcases r with er | (_ | _ | _ | u)
  · exact (hCX w _ s₁ er s' z).elim
  · exact absurd z id
  · exact absurd z id
  · exact absurd z id
  · obtain ⟨v, H', os, bare, un, hok', rv, q⟩ := z
    have q' : v = .bl true := q
    subst q'
    obtain rfl : u = Value.bool true := rv
    exact ⟨rfl, top_old hT C e0.hok un hok', os, bare⟩
end Fk

set_option maxHeartbeats 4000000
/-! Files (paths to values) as data that repr can show. -/
namespace Fk
open PySem PySem.Spec PyProof.Rows L2
def fileD (m : Mp Fi) (y : Str) : PyData := ((m y).map fun p => fvD (some p)).getD .none
def filesD (ys : List Str) (m : Mp Fi) : PyData := .dict ((ys.map PyData.str).zip (ys.map (fileD m)))
section
variable {K : PySem.W.Frag} {H : Hp}
theorem dq_files {e : Addr} {t : Tab} {m : Mp Fi} (h : H e = some (.dK (kT t))) (hh : Holds (FiV K H) t m) (nd : Nd t) : Dq K H (.ref e) (filesD (t.map (·.1)) m) := by
  have key : ∀ l : Tab, (∀ p ∈ l, ∃ r, m p.1 = some r ∧ FiV K H p.2 r) → DqAll K H ((kT l).map (·.2)) ((l.map (·.1)).map (fileD m)) := by
    intro l
    induction l with
    | nil => intro _; exact .nil
    | cons p l ih =>
      intro hl
      obtain ⟨r, a, b⟩ := hl p List.mem_cons_self
      refine .cons ?_ (ih fun q hq => hl q (List.mem_cons_of_mem _ hq))
      show Dq K H p.2 (fileD m p.1)
      unfold fileD
      rw [a]
      exact FvV.dq b
  have := Dq.dic h (key t fun p hp => hh.at' (by
    clear key hh h
    induction t with
    | nil => cases hp
    | cons q l ih =>
      obtain ⟨h1, h2⟩ := List.nodup_cons.mp (show ((q :: l).map (·.1)).Nodup from nd)
      rcases List.mem_cons.mp hp with z | z
      · rw [z, show q = (q.1, q.2) from rfl, valV_pos rfl]
      · rw [valV_neg (fun e => h1 (by dsimp only; rw [e]; exact List.mem_map.mpr ⟨p, z, rfl⟩))]
        exact ih h2 z))
  have ek : ((kT t).map fun p => keyD p.1) = (t.map (·.1)).map PyData.str := by
    unfold kT
    rw [List.map_map, List.map_map]
    rfl
  rw [ek] at this
  exact this
end
theorem fi_facts {m : Mp Fi} (hg : ∀ x r, m x = some r → GoodP r) (y : Str) : (fileD m y).showable = true ∧ (fileD m y).leavesShort 13 = true ∧ (fileD m y).depth ≤ 2 ∧ (fileD m y).weight ≤ 100 := by
  unfold fileD
  cases e : m y with
  | none => exact ⟨rfl, rfl, by decide, by decide⟩
  | some p =>
    have g := (hg y p e).f
    obtain ⟨a1, a2, a3, a4⟩ := rw_facts (r := (some p, none)) ⟨g, fun q z => nomatch z⟩
    refine ⟨(fv_facts g).1, ?_, ?_, Nat.le_trans (fv_facts g).2.2 (by decide)⟩
    · have z : PyData.leavesShortAll 13 [fvD (some p), fvD none] = true := a2
      simp only [PyData.leavesShortAll, Bool.and_eq_true] at z
      exact z.1
    · show PyData.depthAll [PyData.str p.1, .str p.2] + 1 ≤ 2
      simp [PyData.depthAll, PyData.depth]
theorem files_kv {m : Mp Fi} (hg : ∀ x r, m x = some r → GoodP r) : ∀ ys : List Str, (∀ y ∈ ys, PathOk y) →
    PyData.showableKv ((ys.map PyData.str).zip (ys.map (fileD m))) = true ∧ PyData.leavesShortKv 13 ((ys.map PyData.str).zip (ys.map (fileD m))) = true ∧ PyData.depthKv ((ys.map PyData.str).zip (ys.map (fileD m))) ≤ 2 ∧ PyData.weightKv ((ys.map PyData.str).zip (ys.map (fileD m))) ≤ 2000 * ys.length
  | [], _ => ⟨rfl, rfl, Nat.zero_le _, Nat.zero_le _⟩
  | y :: l, h => by
    obtain ⟨i1, i2, i3, i4⟩ := files_kv hg l fun z hz => h z (List.mem_cons_of_mem _ hz)
    obtain ⟨r1, r2, r3, r4⟩ := fi_facts hg y
    obtain ⟨_, p2, p3⟩ := h y List.mem_cons_self
    have p2 : y.cps.size ≤ 1000 := p2
    have ls : PyData.leavesShort 13 (.str y) = true := PyData.leavesShort_of_canLay0 13 (.str y) (strOk_of p3) rfl
    rw [List.map_cons, List.map_cons, List.zip_cons_cons]
    refine ⟨?_, ?_, ?_, ?_⟩
    · simp only [PyData.showableKv, PyData.showable, r1, i1, Bool.and_self]
    · simp only [PyData.leavesShortKv, ls, r2, i2, Bool.and_self]
    · simp only [PyData.depthKv, PyData.depth]
      omega
    · simp only [PyData.weightKv, PyData.weight, List.length_cons]
      omega
theorem files_facts {m : Mp Fi} (hg : ∀ x r, m x = some r → GoodP r) {ys : List Str} (hy : ∀ y ∈ ys, PathOk y) (hl : ys.length ≤ 60) : (filesD ys m).showable = true ∧ (filesD ys m).leavesShort 13 = true ∧ (filesD ys m).depth ≤ 3 ∧ (filesD ys m).weight ≤ 120000 := by
  obtain ⟨i1, i2, i3, i4⟩ := files_kv hg ys hy
  refine ⟨i1, i2, ?_, ?_⟩
  · show PyData.depthKv _ + 1 ≤ 3
    omega
  · show PyData.weightKv _ ≤ 120000
    omega
/-- two tables in a tuple can be shown -/
theorem two_shown {d1 d2 : PyData} (h1 : d1.showable = true ∧ d1.leavesShort 13 = true ∧ d1.depth ≤ 3 ∧ d1.weight ≤ 120000) (h2 : d2.showable = true ∧ d2.leavesShort 13 = true ∧ d2.depth ≤ 3 ∧ d2.weight ≤ 120000) :
    PyData.showable (.tuple [d1, d2]) = true ∧ PyData.depth (.tuple [d1, d2]) ≤ 60 ∧ (PyData.shown (.tuple [d1, d2])).length ≤ sizeLine := by
  obtain ⟨a1, a2, a3, a4⟩ := h1
  obtain ⟨b1, b2, b3, b4⟩ := h2
  refine ⟨?_, ?_, PyData.shown_fits (B := 13) (by decide) (by decide) ?_ ?_⟩
  · simp only [PyData.showable, PyData.showableAll, a1, b1, Bool.and_self]
  · simp only [PyData.depth, PyData.depthAll]
    omega
  · simp only [PyData.leavesShort, PyData.leavesShortAll, a2, b2, Bool.and_self]
  · simp only [PyData.weight, PyData.weightAll]
    omega
end Fk

set_option maxHeartbeats 4000000
namespace Fk
open PySem PySem.Spec PyProof.Rows L2
open LamX
/-! ### the sides of a merge exchanged; ours alone as its base -/
theorem any_old {os : List Fv} (h : (os.any fun v => !decide (v = oldF os)) = false) : ∀ v ∈ os, v = oldF os := fun v hv => by
  have := List.any_eq_false.mp h v hv
  simpa using this
theorem any_same {os : List Fv} {c : Fv} (h : ∀ v ∈ os, v = c) : (os.any fun v => !decide (v = oldF os)) = false := by
  refine List.any_eq_false.mpr fun v hv => ?_
  have e : oldF os = c := by
    unfold oldF
    cases os with
    | nil => cases hv
    | cons a l => exact h a List.mem_cons_self
  rw [e, h v hv]
  simp
theorem any_rev (os : List Fv) : ((os.reverse).any fun v => !decide (v = oldF os.reverse)) = os.any fun v => !decide (v = oldF os) := by
  cases h : os.any fun v => !decide (v = oldF os) with
  | false => exact any_same fun v hv => any_old h v (List.mem_reverse.mp hv)
  | true =>
    cases k : (os.reverse).any fun v => !decide (v = oldF os.reverse) with
    | true => rfl
    | false =>
      rw [any_same (c := oldF os.reverse) fun v hv => any_old k v (List.mem_reverse.mpr hv)] at h
      cases h
theorem old_rev {os : List Fv} (h : (os.any fun v => !decide (v = oldF os)) = false) : oldF os.reverse = oldF os := by
  cases os with
  | nil => rfl
  | cons a l =>
    cases k : (a :: l).reverse with
    | nil => exact absurd (congrArg List.length k) (by simp)
    | cons b m => exact any_old h b (List.mem_reverse.mp (by rw [k]; exact List.mem_cons_self))
theorem mvF_rev (os : List Fv) (m o : Fv) : mvF os.reverse o m = mvF os m o ∨ (mvF os m o = [m, o] ∧ mvF os.reverse o m = [o, m]) := by
  unfold mvF
  by_cases h : m = o
  · left
    rw [if_pos h, if_pos h.symm, h]
  · rw [if_neg h, if_neg fun z => h z.symm, any_rev]
    cases k : os.any fun v => !decide (v = oldF os) with
    | true => exact .inr ⟨if_pos rfl, if_pos rfl⟩
    | false =>
      rw [if_neg Bool.false_ne_true, if_neg Bool.false_ne_true, old_rev k]
      by_cases h1 : m = oldF os
      · left
        rw [if_pos h1, if_neg fun z => h (h1.trans z.symm), if_pos h1]
      · rw [if_neg h1]
        by_cases h2 : o = oldF os
        · left
          rw [if_pos h2, if_pos h2, if_neg h1]
        · right
          exact ⟨by rw [if_neg h1, if_neg h2], by rw [if_neg h2]⟩
theorem mvM_rev (fs : List (Mp Fi)) (f g : Mp Fi) (x : Str) : mvM fs.reverse g f x = mvM fs f g x ∨ (mvM fs f g x = [f x, g x] ∧ mvM fs.reverse g f x = [g x, f x]) := by
  unfold mvM
  rw [List.map_reverse]
  exact mvF_rev _ _ _
theorem resM_rev (fs : List (Mp Fi)) (f g : Mp Fi) : resM fs.reverse g f = resM fs f g := by
  funext x
  unfold resM
  rcases mvM_rev fs f g x with h | ⟨h, k⟩
  · rw [h]
  · rw [h, k]
theorem confM_rev (fs : List (Mp Fi)) (f g : Mp Fi) : ConfM fs.reverse g f = ConfM fs f g := by
  funext x
  unfold ConfM TornM
  rw [resM_rev]
  rcases mvM_rev fs f g x with h | ⟨h, k⟩
  · rw [h]
  · rw [h, k]
    rfl
theorem mvM_own (f g : Mp Fi) (x : Str) : mvM [f] f g x = [g x] := by
  show mvF [f x] (f x) (g x) = [g x]
  unfold mvF
  by_cases h : f x = g x
  · rw [if_pos h, h]
  · rw [if_neg h, if_neg (by rw [any_same (c := f x) fun v hv => List.mem_singleton.mp hv]; exact Bool.false_ne_true), if_pos (show f x = oldF [f x] from rfl)]
theorem resM_own (f g : Mp Fi) : resM [f] f g = g := by
  funext x
  unfold resM
  rw [mvM_own]
theorem confM_own (f g : Mp Fi) : ConfM [f] f g = CrossM g := by
  funext x
  unfold ConfM TornM
  rw [resM_own, mvM_own]
  exact propext ⟨fun h => h.elim (fun z => absurd z (by show ¬ (1 : Nat) = 2; decide)) id, .inr⟩
/-! ### lists of files -/
section
variable {K : PySem.W.Frag}
theorem MenuAt.lst {H : Hp} {D e : Addr} {l l' : List V} {m : Mp Fi} (h : MenuAt K H e m) (hD : H D = some (.lst l)) : MenuAt K (upd H D (.lst l')) e m := by
  obtain ⟨⟨t, h1, h2, h3⟩, h4⟩ := h
  exact ⟨⟨t, by rw [upd_ne (fun z => by rw [z, hD] at h1; cases h1)]; exact h1, h2.imp fun _ _ x => FvV.keep x (TupKeep.at fun xs z => by rw [hD] at z; cases z), h3⟩, h4⟩
theorem menu_nil {H : Hp} {e : Addr} (h : H e = some (.dK (kT []))) : MenuAt K H e (fun _ => none) :=
  ⟨⟨[], h, Holds.nil, ⟨by unfold Nd; exact List.nodup_nil, Nat.zero_le _, (fun x z => nomatch z), (fun x r z => nomatch z)⟩⟩, fun x z => nomatch z⟩
end
/-! ### what repr gives -/
theorem list_shown : ∀ {ds : List PyData}, (∀ d ∈ ds, d.showable = true ∧ d.leavesShort 13 = true ∧ d.depth ≤ 3 ∧ d.weight ≤ 120000) → PyData.showableAll ds = true ∧ PyData.leavesShortAll 13 ds = true ∧ PyData.depthAll ds ≤ 3 ∧ PyData.weightAll ds ≤ 130000 * ds.length
  | [], _ => ⟨rfl, rfl, Nat.zero_le _, Nat.le_refl _⟩
  | d :: l, h => by
    obtain ⟨a1, a2, a3, a4⟩ := list_shown (ds := l) fun x hx => h x (List.mem_cons_of_mem _ hx)
    obtain ⟨b1, b2, b3, b4⟩ := h d List.mem_cons_self
    refine ⟨?_, ?_, ?_, ?_⟩
    · simp only [PyData.showableAll, a1, b1, Bool.and_self]
    · simp only [PyData.leavesShortAll, a2, b2, Bool.and_self]
    · simp only [PyData.depthAll]
      omega
    · simp only [PyData.weightAll, List.length_cons]
      omega
theorem lst_shown3 {ds : List PyData} {d1 d2 : PyData} (hl : ds.length ≤ 3) (h : ∀ d ∈ ds, d.showable = true ∧ d.leavesShort 13 = true ∧ d.depth ≤ 3 ∧ d.weight ≤ 120000)
    (h1 : d1.showable = true ∧ d1.leavesShort 13 = true ∧ d1.depth ≤ 3 ∧ d1.weight ≤ 120000) (h2 : d2.showable = true ∧ d2.leavesShort 13 = true ∧ d2.depth ≤ 3 ∧ d2.weight ≤ 120000) :
    PyData.showable (.tuple [.list ds, d1, d2]) = true ∧ PyData.depth (.tuple [.list ds, d1, d2]) ≤ 60 ∧ (PyData.shown (.tuple [.list ds, d1, d2])).length ≤ sizeLine := by
  obtain ⟨a1, a2, a3, a4⟩ := h1
  obtain ⟨b1, b2, b3, b4⟩ := h2
  obtain ⟨c1, c2, c3, c4⟩ := list_shown h
  refine ⟨?_, ?_, PyData.shown_fits (B := 13) (by decide) (by decide) ?_ ?_⟩
  · simp only [PyData.showable, PyData.showableAll, a1, b1, c1, Bool.and_self]
  · simp only [PyData.depth, PyData.depthAll]
    omega
  · simp only [PyData.leavesShort, PyData.leavesShortAll, a2, b2, c2, Bool.and_self]
  · simp only [PyData.weight, PyData.weightAll]
    omega
theorem dq_menu {K : PySem.W.Frag} {H : Hp} {e : Addr} {m : Mp Fi} (h : MenuAt K H e m) : ∃ d : PyData, (∀ H', Same H H' → Dq K H' (.ref e) d) ∧ d.showable = true ∧ d.leavesShort 13 = true ∧ d.depth ≤ 3 ∧ d.weight ≤ 120000 := by
  obtain ⟨⟨t, h1, h2, h3⟩, _⟩ := h
  exact ⟨_, fun H' s => dq_files (s _ _ h1) (h2.imp fun _ _ x => FvV.keep x (TupKeep.of s)) h3.nd, files_facts h3.good h3.path (by rw [List.length_map]; exact Nat.le_trans h3.len (by decide))⟩
theorem dq_menus {K : PySem.W.Frag} {H : Hp} : ∀ {us : List (Addr × Mp Fi)}, (∀ u ∈ us, MenuAt K H u.1 u.2) → ∃ ds : List PyData, ds.length = us.length ∧ (∀ H', Same H H' → DqAll K H' (us.map fun u => V.ref u.1) ds) ∧ ∀ d ∈ ds, d.showable = true ∧ d.leavesShort 13 = true ∧ d.depth ≤ 3 ∧ d.weight ≤ 120000
  | [], _ => ⟨[], rfl, fun _ _ => .nil, fun d z => nomatch z⟩
  | u :: l, h => by
    obtain ⟨ds, a, b, c⟩ := dq_menus (us := l) fun x hx => h x (List.mem_cons_of_mem _ hx)
    obtain ⟨d, x, y⟩ := dq_menu (h u List.mem_cons_self)
    refine ⟨d :: ds, by rw [List.length_cons, List.length_cons, a], fun H' s => .cons (x H' s) (b H' s), fun z hz => ?_⟩
    rcases List.mem_cons.mp hz with rfl | hz
    · exact y
    · exact c z hz
section
variable {P : Program} {w : World} {K : PySem.W.Frag} {mg : Str → Option Value} {base : Heap} {fk iF cP : Addr}
def spLawT (K : PySem.W.Frag) (P1 : Addr) : Sp := fun vs H Q _ => ∃ (a : Addr) (zs : List Int), vs = [.ref a] ∧ SqL K H a (zs.map V.int) ∧ zs.length ≤ 63 ∧ TabsL qfL [P1] H ∧ ∀ H', Q (.bl true) H'
set_option pp.maxSteps 600 in
theorem ok_law (T : TopG K mg fk cP iF) (zrep : mg "repr" = none) (hb : ∃ o, base.get? sysModules = some o) {cdr P1 : Addr} (TB : TabB base mg cdr P1) (D : IsDefC K mg "_law_refuses" s_l_refuses cdr) {f : Addr} {fd : FuncData} {cd : Value} (F : C8.Fun K "law" "law" s_law f fd) (hc : fd.code = cd) (hR : Room 11 callerA) : TopOk P w K mg base C8.CX0 f fd ["_law_script"] (spLawT K P1) := by
  refine top_of F hc sc_law hR (fun vs H Q E h => ?_) (fun A outer s H vs Q E hg hr h => ?_)
  · obtain ⟨a, zs, rfl, _⟩ := h
    rfl
  · obtain ⟨a, zs, rfl, hS, hlen, tb, q⟩ := h
    refine ⟨_, (pss_cons (ps_for PassesOwn.never rfl (pi_list (pe_op op_cat (pe_lst (pa_cons (C8.pe_c (c_l_cell_at T.toTop) hr (by decide) (by rfl) (pa_cons (pv 0) (pa_cons pe_int pa_nil))) pa_nil)) (pe_slice sl_list (pv 0) (po_some pe_int) (po_some pe_int)))) (pg_name (i := 1) sc_law.nd rfl (Or.inl rfl))
      (pss_cons (ps_set (i := 2) sc_law.nd rfl (Or.inr rfl) (C8.pe_c (c_l_well T.toTop) hr (by decide) (by rfl) (pa_cons (pv 1) pa_nil)))
      (pss_cons (ps_set (i := 3) sc_law.nd rfl (Or.inr rfl) (C8.pe_c (c_l_some_files T) hr (by decide) (by rfl) (pa_cons (pv 2) (pa_cons pe_int pa_nil))))
      (pss_cons (ps_setLc (i := 4) (own := [("_law_k", 5)]) (g := gName 5) (by rfl) sc_law.nd rfl rfl (sw_true rfl rfl rfl (by decide +kernel)) (pi_range1 (by rfl) T.z_range (pa_cons (C8.pe_c (c_l_pick T.toTop) hr (by decide) (by rfl) (pa_cons (pv 2) (pa_cons (pe_lst (pa_cons pe_int (pa_cons pe_int (pa_cons pe_int (pa_cons pe_int (pa_cons pe_int pa_nil)))))) pa_nil))) pa_nil)) (blkOk_by (own := [("_law_k", 5)]) (N := ["_law_script", "_law_cell", "_law_well_here", "_law_root", "_law_bases", "_law_k", "_law_ours", "_law_theirs", "_law_due_here", "_law_kept", "_law_turned", "_law_path", "_law_founds", "_law_alike", "_law_bad"]) (sc := C8.fnScope s_law) (by decide +kernel)) (fun _ _ _ _ _ => (pg_name (i := 5) sc_law.nd rfl (Or.inl rfl))) (fun _ _ _ _ _ => pts_nil) (fun _ _ _ _ _ => (C8.pe_c (c_l_near T) hr (by decide) (by rfl) (pa_cons (pv 2) (pa_cons (pv 3) pa_nil)))))
      (pss_cons (ps_asg (pe_tup (pa_cons (C8.pe_c (c_l_near T) hr (by decide) (by rfl) (pa_cons (pv 2) (pa_cons (pv 3) pa_nil))) (pa_cons (C8.pe_c (c_l_near T) hr (by decide) (by rfl) (pa_cons (pv 2) (pa_cons (C8.pe_c (c_l_pick T.toTop) hr (by decide) (by rfl) (pa_cons (pv 2) (pa_cons (pe_lst (pa_cons (pv 3) (pa_cons (pv 3) (pa_cons pe_dnewK pa_nil)))) pa_nil))) pa_nil))) pa_nil))) (pg_tup rfl (pgs_cons (pg_name (i := 6) sc_law.nd rfl (Or.inr rfl)) (pgs_cons (pg_name (i := 7) sc_law.nd rfl (Or.inr rfl)) pgs_nil))))
      (pss_cons (ps_set (i := 8) sc_law.nd rfl (Or.inl rfl) (C8.pe_c (c_l_due T) hr (by decide) (by rfl) (pa_cons (pv 4) (pa_cons (pv 6) (pa_cons (pv 7) pa_nil)))))
      (pss_cons (ps_set (i := 9) sc_law.nd rfl (Or.inl rfl) (note_sys hb (pe_callB (call_rep hg hr.units) (by rfl) zrep (by decide +kernel) (pa_cons (pe_tup (pa_cons (pv 4) (pa_cons (pv 6) (pa_cons (pv 7) pa_nil)))) pa_nil))))
      (pss_cons (ps_set (i := 10) sc_law.nd rfl (Or.inl rfl) (pe_callTy (call_dictP rfl) (by rfl) T.z_dict (by decide +kernel) (pa_cons (pe_lc (own := [("_law_path", 11)]) (g := gName 11) (by rfl) sc_law.nd (pi_list (pe_back (pe_callB (call_sortedD (by rfl)) (by rfl) T.z_sorted (by decide +kernel) (pa_cons (pv 6) pa_nil)) (pe_un un_neg pe_int))) (blkOk_by (own := [("_law_path", 11)]) (N := ["_law_script", "_law_cell", "_law_well_here", "_law_root", "_law_bases", "_law_k", "_law_ours", "_law_theirs", "_law_due_here", "_law_kept", "_law_turned", "_law_path", "_law_founds", "_law_alike", "_law_bad"]) (sc := C8.fnScope s_law) (by decide +kernel)) (fun _ _ _ _ _ => (pg_name (i := 11) sc_law.nd rfl (Or.inl rfl))) (fun _ _ _ _ _ => pts_nil) (fun _ _ _ _ _ => (pe_tup (pa_cons (pv 11) (pa_cons (pe_dget (hu_of hr) (pv 6) (pv 11) (fun _ _ => rfl)) pa_nil))))) pa_nil)))
      (pss_cons (ps_set (i := 12) sc_law.nd rfl (Or.inl rfl) (pe_lst (pa_cons (pe_cx (cx_merged T) hr (by decide) (fun _ => passAt takes_none5 _) (by rfl) (pa_cons (pe_callTy (call_tuple_ofK (K := K) rfl) (by rfl) T.z_tuple (by decide +kernel) (pa_cons (pv 4) pa_nil)) (pa_cons (pv 6) (pa_cons (pv 7) pa_nil)))) (pa_cons (pe_cx (cx_merged T) hr (by decide) (fun _ => passAt takes_none5 _) (by rfl) (pa_cons (pe_callTy (call_tuple_ofK (K := K) rfl) (by rfl) T.z_tuple (by decide +kernel) (pa_cons (pe_back (pv 4) (pe_un un_neg pe_int)) pa_nil)) (pa_cons (pv 7) (pa_cons (pv 10) pa_nil)))) pa_nil))))
      (pss_cons (ps_if (PW.pt (pw_or (pt_not (pt_val (C8.pe_c (c_l_same T) hr (by decide) (by rfl) (pa_cons (pe_ix ix_list (pv 12) pe_int (fun _ _ => rfl)) (pa_cons (pv 8) pa_nil))))) (pw_or (pt_not (pt_val (C8.pe_c (c_l_same T) hr (by decide) (by rfl) (pa_cons (pe_ix ix_list (pv 12) pe_int (fun _ _ => rfl)) (pa_cons (pv 8) pa_nil))))) (pw_or1 (pt_cmpR op_ne (note_sys hb (pe_callB (call_rep hg hr.units) (by rfl) zrep (by decide +kernel) (pa_cons (pe_tup (pa_cons (pv 4) (pa_cons (pv 6) (pa_cons (pv 7) pa_nil)))) pa_nil))) (pv 9) (nomark _))))))
      (pss_one (ps_ret pe_bl))
      pss_nil)
      (pss_cons (ps_expr (pe_dclear (pe_ix ix_tup (pe_ix ix_list (pv 12) pe_int (fun _ _ => rfl)) pe_int (fun _ _ => rfl))))
      (pss_cons (ps_if (pt_cmpR (op_nePr (K := K) rfl (room70 hr)) (pe_cx (cx_merged T) hr (by decide) (fun _ => passAt takes_none5 _) (by rfl) (pa_cons (pe_callTy (call_tuple_ofK (K := K) rfl) (by rfl) T.z_tuple (by decide +kernel) (pa_cons (pv 4) pa_nil)) (pa_cons (pv 6) (pa_cons (pv 7) pa_nil)))) (pv 8) (nomark _))
      (pss_one (ps_ret pe_bl))
      pss_nil)
      (pss_cons (ps_set (i := 13) sc_law.nd rfl (Or.inl rfl) (pe_cx (cx_merged T) hr (by decide) (fun _ => passAt takes_none5 _) (by rfl) (pa_cons (pe_tup (pa_cons (pv 6) pa_nil)) (pa_cons (pv 6) (pa_cons (pv 7) pa_nil)))))
      (pss_cons (ps_set (i := 14) sc_law.nd rfl (Or.inr rfl) (C8.pe_c (c_l_clashes T) hr (by decide) (by rfl) (pa_cons (pv 7) pa_nil)))
      (pss_cons (ps_if (pt_cmpR (op_nePr (K := K) rfl (room70 hr)) (pv 13) (pe_tup (pa_cons (pe_callTy (call_dictP rfl) (by rfl) T.z_dict (by decide +kernel) (pa_cons (pe_lock (pe_lc (own := [("_law_path", 11)]) (g := gName 11) (by rfl) sc_law.nd (pi_keys (pv 7)) (blkOk_by (own := [("_law_path", 11)]) (N := ["_law_script", "_law_cell", "_law_well_here", "_law_root", "_law_bases", "_law_k", "_law_ours", "_law_theirs", "_law_due_here", "_law_kept", "_law_turned", "_law_path", "_law_founds", "_law_alike", "_law_bad"]) (sc := C8.fnScope s_law) (by decide +kernel)) (fun _ _ _ _ _ => (pg_name (i := 11) sc_law.nd rfl (Or.inl rfl))) (fun _ _ _ _ _ => pts_one (pt_cmpR (notInK (K := K) rfl) (pv 11) (pv 14) rfl)) (fun _ _ _ _ _ => (pe_tup (pa_cons (pv 11) (pa_cons (pe_dget (hu_of hr) (pv 7) (pv 11) (fun _ _ => rfl)) pa_nil)))))) pa_nil)) (pa_cons (pe_callTy call_tuple_of (by rfl) T.z_tuple (by decide +kernel) (pa_cons (pv 14) pa_nil)) pa_nil))) (nomark _))
      (pss_one (ps_ret pe_bl))
      pss_nil)
      (pss_one (ps_if (PW.pt (pw_or (pt_not (pt_val (C8.pe_c (c_l_rows_right T) hr (by decide) (by rfl) (pa_cons (pv 6) (pa_cons (pv 7) pa_nil))))) (pw_or1 (pt_not (pt_val (C8.pe_c (c_l_refuses T TB D) hr (by decide) (by rfl) (pa_cons (pv 2) (pa_cons (pv 4) (pa_cons (pv 6) (pa_cons (pv 7) pa_nil))))))))))
      (pss_one (ps_ret pe_bl))
      pss_nil)))))))))))))))))
      (pss_one (ps_ret pe_bl))), ?_⟩
    refine ⟨.ref a, rfl, a, zs, 0, rfl, hS, fun v => ⟨(by show 1 ≤ sizeLine; decide), fun p1 n1 => ?_⟩⟩
    have s2 := same_new (o := .lst [V.int v]) n1
    have h1 : (upd H p1 (.lst [V.int v])) p1 = some (.lst [V.int v]) := upd_same
    generalize upd H p1 (.lst [V.int v]) = H2 at s2 h1 ⊢
    refine ⟨.ref a, rfl, 1, rfl, 12, rfl, a, zs.map V.int, rfl, s2.seq hS, fun p2 n2 => ?_⟩
    have s3 := same_new (o := .lst (cutV (zs.map V.int) (some 1) (some 12))) n2
    have h2 : (upd H2 p2 (.lst (cutV (zs.map V.int) (some 1) (some 12)))) p2 = some (.lst (cutV (zs.map V.int) (some 1) (some 12))) := upd_same
    generalize upd H2 p2 (.lst (cutV (zs.map V.int) (some 1) (some 12))) = H3 at s3 h2 ⊢
    refine ⟨p1, p2, _, _, rfl, rfl, s3 _ _ h1, h2, ?_, fun L nLL => ?_⟩
    · have := cutV_length (zs.map V.int) (some 1) (some 12)
      rw [List.length_map] at this
      exact small_line (by simp only [List.length_cons, List.length_nil]; omega)
    have s4 := same_new (o := .lst ([V.int v] ++ cutV (zs.map V.int) (some 1) (some 12))) nLL
    have h4 : (upd H3 L (.lst ([V.int v] ++ cutV (zs.map V.int) (some 1) (some 12)))) L = some (.lst ([V.int v] ++ cutV (zs.map V.int) (some 1) (some 12))) := upd_same
    generalize upd H3 L (.lst ([V.int v] ++ cutV (zs.map V.int) (some 1) (some 12))) = H4 at s4 h4 ⊢
    have tb4 := tb.same ((s2.trans s3).trans s4)
    refine ⟨L, rfl, ⟨_, SqL.of h4⟩, ?_⟩
    refine forG (items := [V.int v] ++ cutV (zs.map V.int) (some 1) (some 12)) yields_list (fun i σ H' => H' L = some (.lst ([V.int v] ++ cutV (zs.map V.int) (some 1) (some 12))) ∧ TabsL qfL [P1] H' ∧ ∃ z1 z2 z3 z4 z5 z6 z7 z8 z9 z10 z11 z12 z13 z14, σ = [some (.ref a), z1, z2, z3, z4, z5, z6, z7, z8, z9, z10, z11, z12, z13, z14])
      ⟨h4, tb4, none, none, none, none, none, none, none, none, none, none, none, none, none, none, rfl⟩ (fun i σ H' I => SqL.of I.1) (fun i x σ H' hi I => ?_) (fun σ H' I => ?_)
    · obtain ⟨hL, tbL, z1, z2, z3, z4, z5, z6, z7, z8, z9, z10, z11, z12, z13, z14, rfl⟩ := I
      obtain ⟨n, rfl⟩ : ∃ n, x = .int n := by
        have h := List.mem_of_getElem? hi
        rcases List.mem_append.mp h with h | h
        · exact ⟨v, List.mem_singleton.mp h⟩
        · have e : ∃ m : List Int, cutV (zs.map V.int) (some 1) (some 12) = m.map V.int := by
            unfold cutV
            rw [← List.map_drop, ← List.map_take]
            exact ⟨_, rfl⟩
          obtain ⟨m, e⟩ := e
          rw [e] at h
          obtain ⟨n, _, rfl⟩ := List.mem_map.mp h
          exact ⟨n, rfl⟩
      refine ⟨.int n, rfl, n, rfl, fun H5 W nW s5 w5 => ?_⟩
      have LW : L ≠ W := fun e => by rw [← e, hL] at nW; cases nW
      refine ⟨.ref W, rfl, W, 6, 0, rfl, w5, by decide, by decide, by decide, fun r H6 c6 fr ner f6 w6 l6 u6 hRt => ?_⟩
      refine ⟨.ref W, rfl, (by show 5 ≤ sizeLine; decide), fun kp nkp => ?_⟩
      have sk := same_new (o := .lst [V.int 1, .int 1, .int 0, .int 2, .int 3]) nkp
      have hk := upd_same (H := H6) (a := kp) (o := .lst [V.int 1, .int 1, .int 0, .int 2, .int 3])
      generalize upd H6 kp (.lst [V.int 1, .int 1, .int 0, .int 2, .int 3]) = G6 at sk hk
      refine do_pick (w6.same sk) hk (w6.ne nkp) (by show 0 < 5; decide) (by show 5 < 1000000; decide) (by omega) fun pv hpv H7 c7 f7 w7 l7 u7 => ?_
      obtain ⟨nb, rfl, hnb⟩ : ∃ nb : Nat, pv = .int nb ∧ nb ≤ 3 := by
        simp only [List.mem_cons, List.not_mem_nil, or_false] at hpv
        rcases hpv with rfl | rfl | rfl | rfl | rfl
        · exact ⟨1, rfl, by decide⟩
        · exact ⟨1, rfl, by decide⟩
        · exact ⟨0, rfl, by decide⟩
        · exact ⟨2, rfl, by decide⟩
        · exact ⟨3, rfl, by decide⟩
      have F7 : Fr W H6 H7 := (Fr.same sk).trans f7
      have hR7 := hRt.fr F7 w6
      have hR7 : MenuAt K H7 r fr := hR7
      refine ⟨(nb : Int), rfl, by omega, by omega, fun Bl hBn => ?_⟩
      have sB := same_new (o := .lst []) hBn
      have nBW : Bl ≠ W := w7.ne hBn
      refine lc_inv (i := 5) (items := (List.range ((nb : Int).toNat)).map fun (i : Nat) => V.int (0 + (i : Int))) yields_range (fun k acc H' => ∃ (us : List (Addr × Mp Fi)) (c' : Int), acc = us.map (fun u => V.ref u.1) ∧ us.length = k ∧ (∀ u ∈ us, MenuAt K H' u.1 u.2) ∧ Fr W H7 H' ∧ Wl H' W c' ∧ c7 ≤ c' ∧ c' ≤ c7 + 1000 * k)
        (fun _ _ _ _ _ => trivial) ⟨[], c7, rfl, rfl, (fun u hu => nomatch hu), Fr.same sB, w7.same sB, by omega, by omega⟩ (fun k acc H' x I hBl hx hacc hk => ?_) (by rw [List.length_map, List.length_range]; omega) (fun acc H8 I hBl hacc => ?_)
      · obtain ⟨us, c', rfl, hlk, hus, fr', w', l', u'⟩ := I
        have hi := (List.getElem?_eq_some_iff.mp hx).1
        rw [List.length_map, List.length_range] at hi
        dsimp only [tYes]
        rw [if_pos (rfl : true = true)]
        refine ⟨.ref W, rfl, .ref r, rfl, W, r, c', fr, rfl, w', by omega, hR7.fr fr' w7, fun e Hn cn g ne fn wn ln un hg => lc_take (fn _ _ nBW hBl) hacc hk ⟨us ++ [(e, g)], cn, by rw [List.map_append]; rfl, by rw [List.length_append, hlk]; rfl, fun u hu => ?_, (fr'.trans fn).mut hBn, wn.mut nBW, by omega, by push_cast; omega⟩⟩
        rcases List.mem_append.mp hu with h | h
        · exact ((hus u h).fr fn w').lst (fn _ _ nBW hBl)
        · obtain rfl := List.mem_singleton.mp h
          exact hg.lst (fn _ _ nBW hBl)
      · obtain ⟨us, c8, rfl, hlk, hus, f8, w8, l8, u8⟩ := I
        rw [List.length_map, List.length_range] at hlk u8
        have hR8 := hR7.fr f8 w7
        have us3 : us.length ≤ 3 := by omega
        refine ⟨.ref W, rfl, .ref r, rfl, W, r, c8, fr, rfl, w8, by omega, hR8, fun o H9 c9 f no f9 w9 l9 u9 ho => ?_⟩
        refine ⟨.ref W, rfl, .ref W, rfl, .ref r, rfl, .ref r, rfl, fun kE nkE => ⟨(by show 3 ≤ sizeLine; decide), fun kq nkq => ?_⟩⟩
        have sE := same_new (o := .dK []) nkE
        have hkE := upd_same (H := H9) (a := kE) (o := .dK [])
        generalize upd H9 kE (.dK []) = G9 at sE hkE nkq
        have sq := same_new (o := .lst [V.ref r, .ref r, .ref kE]) nkq
        have hkq := upd_same (H := G9) (a := kq) (o := .lst [V.ref r, .ref r, .ref kE])
        generalize upd G9 kq (.lst [V.ref r, .ref r, .ref kE]) = J9 at sq hkq
        have s9 := sE.trans sq
        refine do_pick (w9.same s9) hkq ((w9.same sE).ne nkq) (by show 0 < 3; decide) (by show 3 < 1000000; decide) (by omega) fun pv hpv H10 c10 f10 w10 l10 u10 => ?_
        have F10 : Fr W H9 H10 := (Fr.same s9).trans f10
        obtain ⟨e2, f2, rfl, he2⟩ : ∃ e2 f2, pv = .ref e2 ∧ MenuAt K H10 e2 f2 := by
          have hr10 := (hR8.fr f9 w8).fr F10 w9
          have hk10 := (menu_nil (K := K) (sq _ _ hkE)).fr f10 (w9.same s9)
          simp only [List.mem_cons, List.not_mem_nil, or_false] at hpv
          rcases hpv with rfl | rfl | rfl
          · exact ⟨_, _, rfl, hr10⟩
          · exact ⟨_, _, rfl, hr10⟩
          · exact ⟨_, _, rfl, hk10⟩
        refine ⟨W, e2, c10, f2, rfl, w10, by omega, he2, fun t H11 c11 g nt f11 w11 l11 u11 ht => ⟨(by show 2 ≤ sizeLine; decide), fun pT npT => ?_⟩⟩
        have sT := same_new (o := .tup [V.ref o, .ref t]) npT
        have hT := upd_same (H := H11) (a := pT) (o := .tup [V.ref o, .ref t])
        generalize upd H11 pT (.tup [V.ref o, .ref t]) = H12 at sT hT
        have F11 : Fr W H9 H12 := F10.trans (f11.trans (Fr.same sT))
        have F12 : Fr W H8 H12 := f9.trans F11
        have w12 := w11.same sT
        have hB12 := F12 _ _ nBW hBl
        have hu12 : ∀ u ∈ us, MenuAt K H12 u.1 u.2 := fun u h => (hus u h).fr F12 w8
        have ho12 : MenuAt K H12 o f := ho.fr F11 w9
        have ht12 : MenuAt K H12 t g := ht.same sT
        refine ⟨pT, _, rfl, SqT.of hT, rfl, _, _, rfl, _, _, rfl, rfl, ?_⟩
        refine ⟨.ref Bl, rfl, .ref o, rfl, .ref t, rfl, Bl, o, t, us, f, g, rfl, hB12, by omega, hu12, ho12, ht12, fun v0 H13 s13 hv0 => ?_⟩
        have hB13 := s13 _ _ hB12
        have hu13 : ∀ u ∈ us, MenuAt K H13 u.1 u.2 := fun u h => (hu12 u h).same s13
        have ho13 := ho12.same s13
        have ht13 := ht12.same s13
        have hv0 : MergV K H13 v0 (clearM (resM (us.map (·.2)) f g)) (ConfM (us.map (·.2)) f g) false := hv0
        have w13 := w12.same s13
        obtain ⟨ds, lds, sds, fds⟩ := dq_menus hu13
        obtain ⟨d1, sd1, fd1⟩ := dq_menu ho13
        obtain ⟨d2, sd2, fd2⟩ := dq_menu ht13
        have can := lst_shown3 (by omega) fds fd1 fd2
        generalize hTX : PyData.tuple [.list ds, d1, d2] = TX at can
        have shows : ∀ {H' : Hp} {p : Addr}, Bl ≠ sysModules → Same H13 H' → H' p = some (.tup [V.ref Bl, .ref o, .ref t]) → Dq K H' (.ref p) TX := fun {H' p} n s hp => by
          rw [← hTX]
          exact .tup (SqT.of hp) (.cons (.lst (SqL.of (s _ _ hB13)) n (sds _ s)) (.cons (sd1 _ s) (.cons (sd2 _ s) .nil)))
        refine fun sy13 => ⟨.ref Bl, rfl, .ref o, rfl, .ref t, rfl, (by show 3 ≤ sizeLine; decide), fun pR npR => ?_⟩
        have nBs : Bl ≠ sysModules := fun z => by rw [← z, hB13] at sy13; cases sy13
        have s14 := same_new (o := .tup [V.ref Bl, .ref o, .ref t]) npR
        have h14 := upd_same (H := H13) (a := pR) (o := .tup [V.ref Bl, .ref o, .ref t])
        generalize upd H13 pR (.tup [V.ref Bl, .ref o, .ref t]) = H14 at s14 h14
        refine ⟨pR, TX, rfl, shows nBs s14 h14, can.1, can.2.1, can.2.2, ?_⟩
        have ho14 := ho13.same s14
        obtain ⟨⟨tO, gO, hHO, oO⟩, hIO⟩ := id ho14
        have lO := oO.len
        refine ⟨.ref o, rfl, o, kT tO, tO.map (·.1), rfl, .inl gO, keys_kT tO, (by rw [List.length_map]; omega), fun ys pS hp hs npS => ?_⟩
        have s15 := same_new (o := .lst (ys.map V.str)) npS
        have h15 := upd_same (H := H14) (a := pS) (o := .lst (ys.map V.str))
        generalize upd H14 pS (.lst (ys.map V.str)) = H15 at s15 h15
        refine ⟨1, rfl, rfl, .inl ⟨pS, _, rfl, SqL.of h15, fun pV npV => ?_⟩⟩
        have s16 := same_new (o := .lst (ys.map V.str).reverse) npV
        have h16 : (upd H15 pV (.lst (ys.map V.str).reverse)) pV = some (.lst (ys.reverse.map V.str)) := by rw [upd_same, List.map_reverse]
        generalize upd H15 pV (.lst (ys.map V.str).reverse) = H16 at s16 h16
        have s1416 := s15.trans s16
        refine ⟨pV, rfl, ⟨_, SqL.of h16⟩, fun D1 hD1 => ?_⟩
        have ndy : ys.Nodup := hp.nodup_iff.mpr oO.nd
        have ndr : ys.reverse.Nodup := (List.reverse_perm ys).nodup_iff.mpr ndy
        have my : ∀ x, x ∈ ys.reverse ↔ (f x).isSome = true := fun x => by rw [List.mem_reverse, hp.mem_iff, hHO.mem]
        have hH16 := hHO.imp fun _ _ x => FvV.keep x (TupKeep.of s1416)
        have lyr : ys.reverse.length ≤ 16 := by rw [List.length_reverse, hp.length_eq, List.length_map]; exact lO
        refine lc_pairs (us := ys.reverse) (val := V.str) yields_list (fun x => x) (FiV K) (fun x => (f x).getD ("", "")) (fun _ => true) (fun x => [some (.ref a), some (.int n), some (.ref W), some (.ref r), some (.ref Bl), z5, some (.ref o), some (.ref t), some v0, some (.str TX.shown), z10, some (.str x), z12, z13, z14]) hD1 (fun H5 s5 => SqL.of (s5 _ _ h16)) (fun _ _ => rfl)
          (fun H5 x _ _ S k => k) (fun H5 x s5 _ S k => k H5 (Same.refl H5)) (fun _ _ _ _ k h => FvV.keep h k) (fun H5 x s5 hx _ S k => ?_) (by omega) (fun as1 H17 s17 h17 pr1 => ?_)
        · have z := (my x).mp hx
          cases e1 : f x with
          | none => rw [e1] at z; cases z
          | some p =>
            obtain ⟨v, hv, rv⟩ := hH16.at e1
            have d1 := dget_kT (t := tO) (.inl (s5 _ _ (s1416 _ _ gO))) x
            rw [hv] at d1
            refine ⟨.str x, rfl, .ref o, rfl, .str x, rfl, o, _, rfl, d1, (by show 2 ≤ sizeLine; decide), fun tp ntp => ?_⟩
            have st := same_new (o := .tup [.str x, v]) ntp
            refine k tp v _ st upd_same ?_
            rw [e1]
            exact FvV.keep rv (TupKeep.of (s5.trans st))
        rw [filt_all'] at pr1
        obtain ⟨tab1, p1p, p1q⟩ := files_pairs (K := K) (g := f) (n := 16) (kf := fun x : Str => x) (us := ys.reverse) (by rw [List.map_id']; exact ndr) (fun x hx => by
            have z := (my x).mp hx
            cases e : f x with
            | none => rw [e] at z; cases z
            | some p => rfl) (fun x hx => by
            rw [List.map_id'] at hx
            cases e1 : f x with
            | none => rfl
            | some p0 => exact absurd ((my x).mpr (by rw [e1]; rfl)) hx) pr1 (fun x hx => oO.path x (hHO.mem.mpr ((my x).mp hx))) (fun x hx => by
            have z := (my x).mp hx
            cases e : f x with
            | none => rw [e] at z; cases z
            | some p => exact oO.good x p e) lyr
        refine ⟨D1, as1, kT tab1, rfl, SqL.of h17, p1p, fun pU npU => ?_⟩
        have hFU := p1q pU npU
        have s18 := same_new (o := .dK (mergeK [] (kT tab1))) npU
        generalize upd H17 pU (.dK (mergeK [] (kT tab1))) = H18 at s18 hFU
        have s1318 : Same H13 H18 := s14.trans (s1416.trans (s17.trans s18))
        have hB18 := s1318 _ _ hB13
        have hu18 : ∀ u ∈ us, MenuAt K H18 u.1 u.2 := fun u h => (hu13 u h).same s1318
        have ho18 := ho13.same s1318
        have ht18 := ht13.same s1318
        have ll : (us.map fun u => V.ref u.1).length = us.length := List.length_map _
        refine ⟨.ref Bl, rfl, Bl, _, rfl, .inl ⟨SqL.of hB18, fun l1 nl1 => ⟨.ref o, rfl, .ref t, rfl, l1, o, t, us, f, g, rfl, upd_same, by omega, (fun u h => ((hu18 u h).same (same_new nl1)).1), (ho18.same (same_new nl1)).1, (ht18.same (same_new nl1)).1, fun v1 H19 s19 hv1 hn1 => ?_⟩⟩⟩
        have hv1 : MergV K H19 v1 (clearM (resM (us.map (·.2)) f g)) (ConfM (us.map (·.2)) f g) true := hv1
        have sl1 := same_new (o := .tup (us.map fun u => V.ref u.1)) nl1
        generalize upd H18 l1 (.tup (us.map fun u => V.ref u.1)) = Hm at s19 hn1 sl1
        have s13m := s1318.trans sl1
        have s1319 := s13m.trans s19
        have hB19 := s1319 _ _ hB13
        have hFUm : FilesAt K H19 pU 16 f := (hFU.same sl1).same s19
        refine ⟨.ref Bl, rfl, 1, rfl, rfl, .inl ⟨Bl, _, rfl, SqL.of hB19, fun pb npb => ?_⟩⟩
        have sb := same_new (o := .lst (us.map fun u => V.ref u.1).reverse) npb
        have hb2 : (upd H19 pb (.lst (us.map fun u => V.ref u.1).reverse)) pb = some (.lst (us.reverse.map fun u => V.ref u.1)) := by rw [upd_same, List.map_reverse]
        generalize upd H19 pb (.lst (us.map fun u => V.ref u.1).reverse) = H20 at sb hb2
        have s1320 := s1319.trans sb
        refine ⟨pb, _, rfl, .inl ⟨SqL.of hb2, fun l2 nl2 => ?_⟩⟩
        have sl2 := same_new (o := .tup (us.reverse.map fun u => V.ref u.1)) nl2
        have hl2 := upd_same (H := H20) (a := l2) (o := .tup (us.reverse.map fun u => V.ref u.1))
        generalize upd H20 l2 (.tup (us.reverse.map fun u => V.ref u.1)) = H21 at sl2 hl2
        have s1321 := s1320.trans sl2
        refine ⟨.ref t, rfl, .ref pU, rfl, l2, t, pU, us.reverse, g, f, rfl, hl2, by rw [List.length_reverse]; omega, (fun u h => ((hu13 u (List.mem_reverse.mp h)).same s1321).1), (ht13.same s1321).1, hFUm.same (sb.trans sl2), fun v2 H22 s22 hv2 _ => ⟨(by show 2 ≤ sizeLine; decide), fun pF npF => ?_⟩⟩
        have hv2 : MergV K H22 v2 (clearM (resM (us.reverse.map (·.2)) g f)) (ConfM (us.reverse.map (·.2)) g f) true := hv2
        rw [List.map_reverse, resM_rev, confM_rev] at hv2
        obtain ⟨q1, e1, c1', t1, ys1, rfl, hq1, he1, _⟩ := id hv1
        have he1m : Hm e1 = none := hn1 q1 e1 c1' rfl hq1
        have sF := same_new (o := .lst [.ref q1, v2]) npF
        have hF := upd_same (H := H22) (a := pF) (o := .lst [.ref q1, v2])
        generalize upd H22 pF (.lst [.ref q1, v2]) = H23 at sF hF
        have s1923 := ((sb.trans sl2).trans s22).trans sF
        have sm23 := s19.trans s1923
        have hv1 := hv1.same s1923
        have hv2 := hv2.same sF
        have hv0m := hv0.same s13m
        have hv0x := hv0m.same sm23
        refine ⟨.ref pF, rfl, pF, _, 0, .ref q1, rfl, rfl, SqL.of hF, rfl, v0, rfl, .ref q1, v0, _, _, false, rfl, hv1, hv0x, fun H24 s24 => ⟨_, rfl, iteF ?_⟩⟩
        refine ⟨.ref pF, rfl, pF, _, 1, v2, rfl, rfl, SqL.of (s24 _ _ hF), rfl, v0, rfl, v2, v0, _, _, false, rfl, hv2.same s24, hv0x.same s24, fun H25 s25 => ⟨_, rfl, iteF ?_⟩⟩
        have s2325 := s24.trans s25
        have sm25 := sm23.trans s2325
        refine fun _ => ⟨.ref Bl, rfl, .ref o, rfl, .ref t, rfl, (by show 3 ≤ sizeLine; decide), fun pQ npQ => ?_⟩
        have s26 := same_new (o := .tup [V.ref Bl, .ref o, .ref t]) npQ
        have h26 := upd_same (H := H25) (a := pQ) (o := .tup [V.ref Bl, .ref o, .ref t])
        generalize upd H25 pQ (.tup [V.ref Bl, .ref o, .ref t]) = H26 at s26 h26
        have sm26 := sm25.trans s26
        refine ⟨pQ, TX, rfl, shows nBs (s13m.trans sm26) h26, can.1, can.2.1, can.2.2, .str TX.shown, rfl, rfl, _, rfl, ?_⟩
        rw [decide_eq_true rfl]
        refine iteF ?_
        have s2326 := s2325.trans s26
        have s1926 := s1923.trans s2326
        refine ⟨.ref pF, rfl, pF, _, 0, .ref q1, rfl, rfl, SqL.of (s2326 _ _ hF), rfl, q1, _, 0, .ref e1, rfl, rfl, SqT.of (s1926 _ _ hq1), rfl, ?_⟩
        refine ⟨.inr (.inr (.inl ⟨rfl, .inl ⟨_, s1926 _ _ he1⟩⟩)), e1, kT t1, rfl, rfl, s1926 _ _ he1, ?_⟩
        have sc : Same Hm (upd H26 e1 (.dK [])) := fun b u z => by rw [upd_ne (ne_of_none z he1m)]; exact sm26 _ _ z
        generalize upd H26 e1 (.dK []) = Hc at sc
        have s13c := s13m.trans sc
        have hBc := s13c _ _ hB13
        have huc : ∀ u ∈ us, MenuAt K Hc u.1 u.2 := fun u h => (hu13 u h).same s13c
        have hoc := ho13.same s13c
        have htc := ht13.same s13c
        refine ⟨.ref Bl, rfl, Bl, _, rfl, .inl ⟨SqL.of hBc, fun l3 nl3 => ⟨.ref o, rfl, .ref t, rfl, l3, o, t, us, f, g, rfl, upd_same, by omega, (fun u h => ((huc u h).same (same_new nl3)).1), (hoc.same (same_new nl3)).1, (htc.same (same_new nl3)).1, fun v3 H27 s27 hv3 _ => ?_⟩⟩⟩
        have hv3 : MergV K H27 v3 (clearM (resM (us.map (·.2)) f g)) (ConfM (us.map (·.2)) f g) true := hv3
        have sc27 := (same_new (o := .tup (us.map fun u => V.ref u.1)) nl3).trans s27
        have s1327 := s13c.trans sc27
        refine ⟨v0, rfl, pair_of hv3 (hv0.same s1327), _, rfl, iteF ?_⟩
        refine ⟨.ref o, rfl, (by show 1 ≤ sizeLine; decide), fun l4 nl4 => ?_⟩
        have sl4 := same_new (o := .tup [V.ref o]) nl4
        have hl4 := upd_same (H := H27) (a := l4) (o := .tup [V.ref o])
        generalize upd H27 l4 (.tup [V.ref o]) = H28 at sl4 hl4
        have s1328 := s1327.trans sl4
        refine ⟨.ref o, rfl, .ref t, rfl, l4, o, t, [(o, f)], f, g, rfl, hl4, (by show 1 ≤ 20; decide), (fun u h => by obtain rfl := List.mem_singleton.mp h; exact (ho13.same s1328).1), (ho13.same s1328).1, (ht13.same s1328).1, fun v4 H29 s29 hv4 _ => ?_⟩
        have hv4 : MergV K H29 v4 (clearM (resM [f] f g)) (ConfM [f] f g) true := hv4
        rw [resM_own, confM_own] at hv4
        have s1329 := s1328.trans s29
        have ht29 := ht13.same s1329
        obtain ⟨⟨tT, gT, hHT, oT⟩, hIT⟩ := id ht29
        have lT := oT.len
        refine ⟨.ref t, rfl, t, tT, rfl, gT, oT.nd, by omega, oT.path, fun zs2 pz H30 ndz sz lz mz npz s30 hpz => ?_⟩
        have mz' : ∀ x, x ∈ zs2 ↔ CrossM g x := fun x => by
          rw [mz x]
          unfold crossF CrossM
          rw [hHT.mem]
          constructor
          · rintro ⟨z1, y, hy, z2⟩
            exact ⟨z1, y, hHT.mem.mp hy, z2⟩
          · rintro ⟨z1, y, hy, z2⟩
            exact ⟨z1, y, hHT.mem.mpr hy, z2⟩
        have gT30 := s30 _ _ gT
        have hHT30 := hHT.imp fun _ _ x => FvV.keep x (TupKeep.of s30)
        refine ⟨v4, rfl, ?_⟩
        refine ⟨t, _, gT30, trivial, fun od2 => ⟨.ref t, rfl, t, od2, rfl, .inl ⟨kT tT, upd_same, fun D3 hD3 => ?_⟩⟩⟩
        have nD3 : D3 ≠ t := lock_ne hD3
        have npzF : pz ≠ t := fun z => by rw [z, gT30] at hpz; cases hpz
        have kc : TupKeep H30 (upd H30 t (.frz od2 (.dK (kT tT)))) := TupKeep.at fun xs z => by rw [gT30] at z; cases z
        have hpzL : (upd H30 t (.frz od2 (.dK (kT tT)))) pz = some (.lst (zs2.map V.str)) := by rw [upd_ne npzF]; exact hpz
        have Y : Yields (Itk t od2 (kT tT)) ((tT.map (·.1)).map V.str) (fun H => H t = some (.frz od2 (.dK (kT tT)))) := by
          rw [← kV_kT]
          exact yields_keys
        refine lc_pairs (us := tT.map (·.1)) (val := V.str) Y (fun x => x) (FiV K) (fun x => (g x).getD ("", "")) (fun x => !inV (V.str x) (zs2.map V.str)) (fun x => [some (.ref a), some (.int n), some (.ref W), some (.ref r), some (.ref Bl), z5, some (.ref o), some (.ref t), some v0, some (.str TX.shown), some (.ref pU), some (.str x), some (.ref pF), some v4, some (.ref pz)]) hD3 (fun H5 s5 => s5 _ _ upd_same) (fun _ _ => rfl)
          (fun H5 x _ _ S k => k) (fun H5 x s5 _ S k => ⟨.str x, rfl, .ref pz, rfl, pz, _, rfl, .inl (SqL.of (s5 _ _ hpzL)), rfl, flat_strs _, _, rfl, k H5 (Same.refl H5)⟩) (fun _ _ _ _ k h => FvV.keep h k) (fun H5 x s5 hx _ S k => ?_) (by rw [List.length_map]; omega) (fun as2 Hd sd hd pr2 => ?_)
        · have z := hHT30.mem.mp hx
          cases e1 : g x with
          | none => rw [e1] at z; cases z
          | some p =>
            obtain ⟨v, hv, rv⟩ := hHT30.at e1
            have d1 := dget_kT (t := tT) (.inr ⟨od2, s5 _ _ upd_same⟩) x
            rw [hv] at d1
            refine ⟨.str x, rfl, .ref t, rfl, .str x, rfl, t, _, rfl, d1, (by show 2 ≤ sizeLine; decide), fun tp ntp => ?_⟩
            have st := same_new (o := .tup [.str x, v]) ntp
            refine k tp v _ st upd_same ?_
            rw [e1]
            exact FvV.keep rv (kc.trans (TupKeep.of (s5.trans st)))
        refine ⟨sd _ _ upd_same, ?_⟩
        have sce : Same H30 (upd Hd t (.dK (kT tT))) := same_unlock sd gT30
        have kd : TupKeep Hd (upd Hd t (.dK (kT tT))) := TupKeep.at fun xs z => by rw [sd _ _ upd_same] at z; cases z
        have he : (upd Hd t (.dK (kT tT))) D3 = some (.lst (as2.map V.ref)) := by rw [upd_ne nD3]; exact hd
        have pq : ∀ x, (!inV (V.str x) (zs2.map V.str)) = true ↔ ¬ CrossM g x := fun x => by
          rw [Bool.not_eq_true', ← Bool.not_eq_true, inV_strs, mz']
        obtain ⟨tab2, p3, p4⟩ := files_pairs (K := K) (g := clearM g) (n := 16) (kf := fun x : Str => x) (us := (tT.map (·.1)).filter fun x => !inV (V.str x) (zs2.map V.str)) (by rw [List.map_id']; exact (show (tT.map (·.1)).Nodup from oT.nd).filter _) (fun x hx => by
            obtain ⟨q1, q2⟩ := List.mem_filter.mp hx
            have z := hHT.mem.mp q1
            unfold clearM
            rw [if_neg ((pq x).mp q2)]
            cases e : g x with
            | none => rw [e] at z; cases z
            | some p => rfl) (fun x hx => by
            rw [List.map_id'] at hx
            unfold clearM
            split
            · rfl
            · rename_i nc
              cases e1 : g x with
              | none => rfl
              | some p0 => exact absurd (List.mem_filter.mpr ⟨hHT.mem.mpr (by rw [e1]; rfl), (pq x).mpr nc⟩) hx) (Paired.mapP pr2 fun b x ⟨v, z1, z2⟩ => ⟨v, kd _ _ z1, FvV.keep z2 kd⟩) (fun x hx => oT.path x (List.mem_filter.mp hx).1) (fun x hx => by
            have z := hHT.mem.mp (List.mem_filter.mp hx).1
            cases e : g x with
            | none => rw [e] at z; cases z
            | some p => exact oT.good x p e) (Nat.le_trans (List.length_filter_le _ _) (by rw [List.length_map]; exact lT))
        refine ⟨D3, as2, kT tab2, rfl, SqL.of he, p3, fun pG npG => ?_⟩
        have hGG := p4 pG npG
        have scg := sce.trans (same_new (o := .dK (mergeK [] (kT tab2))) npG)
        generalize upd (upd Hd t (.dK (kT tT))) pG (.dK (mergeK [] (kT tab2))) = Hg at scg hGG
        refine ⟨.ref pz, rfl, pz, _, rfl, .inl ⟨SqL.of (scg _ _ hpz), fun l5 nl5 => ⟨(by show 2 ≤ sizeLine; decide), fun pt npt => ?_⟩⟩⟩
        have s5a := same_new (o := .tup (zs2.map V.str)) nl5
        have h5a := upd_same (H := Hg) (a := l5) (o := .tup (zs2.map V.str))
        generalize upd Hg l5 (.tup (zs2.map V.str)) = Hh at s5a h5a npt
        have s5b := same_new (o := .tup [V.ref pG, .ref l5]) npt
        have h5b := upd_same (H := Hh) (a := pt) (o := .tup [V.ref pG, .ref l5])
        generalize upd Hh pt (.tup [V.ref pG, .ref l5]) = Hi at s5b h5b
        have sgi := s5a.trans s5b
        obtain ⟨tg', hg1, hg2, hg3⟩ := hGG.same sgi
        have s29i : Same H29 Hi := (s30.trans scg).trans sgi
        have hv5 : MergV K Hi (.ref pt) (clearM g) (CrossM g) false := ⟨pt, pG, l5, tg', zs2, rfl, h5b, hg1, hg2, hg3.mono (by decide), (fun z => nomatch z), s5b _ _ h5a, sz, ndz, (fun x hx => oT.path x (hHT.mem.mpr ((mz' x).mp hx).1)), mz'⟩
        have s13i := s1329.trans s29i
        refine ⟨pair_of (hv4.same s29i) hv5, _, rfl, iteF ?_⟩
        refine ⟨.ref o, rfl, .ref t, rfl, o, t, f, g, rfl, (ho13.same s13i).1, (ht13.same s13i).1, fun Hj sj => ⟨_, rfl, iteF ?_⟩⟩
        have s13j := s13i.trans sj
        have F0j : Fr W H' Hj := (Fr.same s5).trans (f6.trans (F7.trans (f8.trans (F12.trans (Fr.same (s13.trans s13j))))))
        have tbj : TabsL qfL [P1] Hj := tbL.ext fun b u _ _ e => F0j b u (ne_of_none e nW) e
        refine ⟨.ref W, rfl, .ref Bl, rfl, .ref o, rfl, .ref t, rfl, W, Bl, o, t, us, f, g, c11, rfl, w13.same s13j, by omega, s13j _ _ hB13, by omega, (fun u h => (hu13 u h).same s13j), ho13.same s13j, ht13.same s13j, tbj, fun Hk ck kq wk lk uk tbk => ⟨_, rfl, iteF ?_⟩⟩
        exact ⟨kq L _ LW (fun ps z => nomatch z) (F0j L _ LW hL), tbk, _, _, _, _, _, _, _, _, _, _, _, _, _, _, rfl⟩
    · exact q H'
end

end Fk

set_option maxHeartbeats 4000000
namespace Fk
open PySem PySem.Spec PyProof.Rows L2 LamX
section
variable {P : Program} {w : World} {K : PySem.W.Frag} {mg : Str → Option Value} {base : Heap}
theorem ini_ForkError {f : Addr} {fd : FuncData} (F : C8.Fun K "__init__" "ForkError.__init__" s_ForkError_init f fd) : FnOk P w K mg base C8.CX0 1 f fd ["self", "why"] (spErr K "why") := by
  refine C8.fn0 F sc_ForkError_init (fun vs H Q E h => ?_) (fun cdv A outer s H vs Q E hr h => ?_)
  · obtain ⟨a, C, fI, y, rfl, _⟩ := h
    rfl
  · obtain ⟨a, C, fI, y, rfl, T, hno, ea, q⟩ := h
    refine ⟨_, pss_one (ps_osv (pv 0) (pv 1)), ?_⟩
    exact ⟨y, rfl, .ref a, rfl, a, C, fI, rfl, T, hno, ea, q⟩
end
theorem notab_none {K : PySem.W.Frag} {h : Heap} {P : Addr} (X : K.In h) (n : PySem.W.noTabs K = true) (hP : h.get? P = some { cls := .none, data := .fields #[] }) : K.lookup P = none := by
  cases e : K.lookup P with
  | none => rfl
  | some o =>
    have e1 := X _ _ e
    rw [hP] at e1
    cases e1
    exact absurd (show false = true from List.all_eq_true.mp n (P, _) (PySem.W.mem_of_lookupK e)) Bool.false_ne_true
theorem all_mk {l : PySem.W.OpenLaw} {w : World} {K : PySem.W.Frag} {h : Heap} {mg : Str → Option Value} {fa : Addr} (X : K.In h) (G : h.Ns mainGlobals mg) (hfa : mg "law" = some (.ref fa))
    {f1 f2 f3 f4 f5 f6 f7 f8 f9 f10 f11 f12 f13 f14 f15 f16 f17 f18 f19 f20 f21 f22 f23 f24 f25 : Addr} {od1 an1 od2 an2 od3 an3 od4 an4 od5 an5 od6 an6 od7 an7 od8 an8 od9 an9 od10 an10 od11 an11 od12 an12 od13 an13 od14 an14 od15 an15 od16 an16 od17 an17 od18 an18 od19 an19 od20 an20 od21 an21 od22 an22 od23 an23 od24 an24 od25 an25 : Option Addr} {sl1 sl2 sl3 sl4 sl5 sl6 sl7 sl8 sl9 sl10 sl11 sl12 sl13 sl14 sl15 sl16 sl17 sl18 sl19 sl20 sl21 sl22 sl23 sl24 sl25 : Array (Option Value)} {oc1 kV1 dc1 pm1 cd1 ct1 oc2 kV2 dc2 pm2 cd2 ct2 oc3 kV3 dc3 pm3 cd3 ct3 oc4 kV4 dc4 pm4 cd4 ct4 oc5 kV5 dc5 pm5 cd5 ct5 oc6 kV6 dc6 pm6 cd6 ct6 oc7 kV7 dc7 pm7 cd7 ct7 oc8 kV8 dc8 pm8 cd8 ct8 oc9 kV9 dc9 pm9 cd9 ct9 oc10 kV10 dc10 pm10 cd10 ct10 oc11 kV11 dc11 pm11 cd11 ct11 oc12 kV12 dc12 pm12 cd12 ct12 oc13 kV13 dc13 pm13 cd13 ct13 oc14 kV14 dc14 pm14 cd14 ct14 oc15 kV15 dc15 pm15 cd15 ct15 oc16 kV16 dc16 pm16 cd16 ct16 oc17 kV17 dc17 pm17 cd17 ct17 oc18 kV18 dc18 pm18 cd18 ct18 oc19 kV19 dc19 pm19 cd19 ct19 oc20 kV20 dc20 pm20 cd20 ct20 oc21 kV21 dc21 pm21 cd21 ct21 oc22 kV22 dc22 pm22 cd22 ct22 oc23 kV23 dc23 pm23 cd23 ct23 oc24 kV24 dc24 pm24 cd24 ct24 oc25 kV25 dc25 pm25 cd25 ct25 : Value} {t_HEX_DIGITS : Tok} {t_SEGMENT_SIGNS : Tok} {t_LONGEST_WORD : Tok}
    (a1 : PySem.W.nsIn K mainGlobals "is_id" = some (some (.ref f1))) (l1 : K.lookup f1 = some ⟨oc1, od1, .func (PySem.W.fnOf "is_id" "is_id" (C8.fnArgs s_is_id) (C8.fnBody s_is_id) (C8.fnScope s_is_id) .none kV1 dc1 pm1 an1 cd1 ct1), sl1⟩) (c1 : PySem.W.codeIn K cd1 "is_id" = true) (k1 : PySem.W.keepIn K (.ref f1) = true)
    (a2 : PySem.W.nsIn K mainGlobals "is_path" = some (some (.ref f2))) (l2 : K.lookup f2 = some ⟨oc2, od2, .func (PySem.W.fnOf "is_path" "is_path" (C8.fnArgs s_is_path) (C8.fnBody s_is_path) (C8.fnScope s_is_path) .none kV2 dc2 pm2 an2 cd2 ct2), sl2⟩) (c2 : PySem.W.codeIn K cd2 "is_path" = true) (k2 : PySem.W.keepIn K (.ref f2) = true)
    (a3 : PySem.W.nsIn K mainGlobals "is_segment" = some (some (.ref f3))) (l3 : K.lookup f3 = some ⟨oc3, od3, .func (PySem.W.fnOf "is_segment" "is_segment" (C8.fnArgs s_is_segment) (C8.fnBody s_is_segment) (C8.fnScope s_is_segment) .none kV3 dc3 pm3 an3 cd3 ct3), sl3⟩) (c3 : PySem.W.codeIn K cd3 "is_segment" = true) (k3 : PySem.W.keepIn K (.ref f3) = true)
    (a4 : PySem.W.nsIn K mainGlobals "ascending" = some (some (.ref f4))) (l4 : K.lookup f4 = some ⟨oc4, od4, .func (PySem.W.fnOf "ascending" "ascending" (C8.fnArgs s_ascending) (C8.fnBody s_ascending) (C8.fnScope s_ascending) .none kV4 dc4 pm4 an4 cd4 ct4), sl4⟩) (c4 : PySem.W.codeIn K cd4 "ascending" = true) (k4 : PySem.W.keepIn K (.ref f4) = true)
    (a5 : PySem.W.nsIn K mainGlobals "prefixes" = some (some (.ref f5))) (l5 : K.lookup f5 = some ⟨oc5, od5, .func (PySem.W.fnOf "prefixes" "prefixes" (C8.fnArgs s_prefixes) (C8.fnBody s_prefixes) (C8.fnScope s_prefixes) .none kV5 dc5 pm5 an5 cd5 ct5), sl5⟩) (c5 : PySem.W.codeIn K cd5 "prefixes" = true) (k5 : PySem.W.keepIn K (.ref f5) = true)
    (a6 : PySem.W.nsIn K mainGlobals "_is_word" = some (some (.ref f6))) (l6 : K.lookup f6 = some ⟨oc6, od6, .func (PySem.W.fnOf "_is_word" "_is_word" (C8.fnArgs s__is_word) (C8.fnBody s__is_word) (C8.fnScope s__is_word) .none kV6 dc6 pm6 an6 cd6 ct6), sl6⟩) (c6 : PySem.W.codeIn K cd6 "_is_word" = true) (k6 : PySem.W.keepIn K (.ref f6) = true)
    (a7 : PySem.W.nsIn K mainGlobals "is_value" = some (some (.ref f7))) (l7 : K.lookup f7 = some ⟨oc7, od7, .func (PySem.W.fnOf "is_value" "is_value" (C8.fnArgs s_is_value) (C8.fnBody s_is_value) (C8.fnScope s_is_value) .none kV7 dc7 pm7 an7 cd7 ct7), sl7⟩) (c7 : PySem.W.codeIn K cd7 "is_value" = true) (k7 : PySem.W.keepIn K (.ref f7) = true)
    (a8 : PySem.W.nsIn K mainGlobals "differences" = some (some (.ref f8))) (l8 : K.lookup f8 = some ⟨oc8, od8, .func (PySem.W.fnOf "differences" "differences" (C8.fnArgs s_differences) (C8.fnBody s_differences) (C8.fnScope s_differences) .none kV8 dc8 pm8 an8 cd8 ct8), sl8⟩) (c8 : PySem.W.codeIn K cd8 "differences" = true) (k8 : PySem.W.keepIn K (.ref f8) = true)
    (a9 : PySem.W.nsIn K mainGlobals "merged" = some (some (.ref f9))) (l9 : K.lookup f9 = some ⟨oc9, od9, .func (PySem.W.fnOf "merged" "merged" (C8.fnArgs s_merged) (C8.fnBody s_merged) (C8.fnScope s_merged) .none kV9 dc9 pm9 an9 cd9 ct9), sl9⟩) (c9 : PySem.W.codeIn K cd9 "merged" = true) (k9 : PySem.W.keepIn K (.ref f9) = true)
    (a10 : PySem.W.nsIn K mainGlobals "check_are_files" = some (some (.ref f10))) (l10 : K.lookup f10 = some ⟨oc10, od10, .func (PySem.W.fnOf "check_are_files" "check_are_files" (C8.fnArgs s_check_are_files) (C8.fnBody s_check_are_files) (C8.fnScope s_check_are_files) .none kV10 dc10 pm10 an10 cd10 ct10), sl10⟩) (c10 : PySem.W.codeIn K cd10 "check_are_files" = true) (k10 : PySem.W.keepIn K (.ref f10) = true)
    (a11 : PySem.W.nsIn K mainGlobals "crossing" = some (some (.ref f11))) (l11 : K.lookup f11 = some ⟨oc11, od11, .func (PySem.W.fnOf "crossing" "crossing" (C8.fnArgs s_crossing) (C8.fnBody s_crossing) (C8.fnScope s_crossing) .none kV11 dc11 pm11 an11 cd11 ct11), sl11⟩) (c11 : PySem.W.codeIn K cd11 "crossing" = true) (k11 : PySem.W.keepIn K (.ref f11) = true)
    (a12 : PySem.W.nsIn K mainGlobals "_merged_values" = some (some (.ref f12))) (l12 : K.lookup f12 = some ⟨oc12, od12, .func (PySem.W.fnOf "_merged_values" "_merged_values" (C8.fnArgs s__merged_values) (C8.fnBody s__merged_values) (C8.fnScope s__merged_values) .none kV12 dc12 pm12 an12 cd12 ct12), sl12⟩) (c12 : PySem.W.codeIn K cd12 "_merged_values" = true) (k12 : PySem.W.keepIn K (.ref f12) = true)
    (a13 : PySem.W.nsIn K mainGlobals "_law_cell_at" = some (some (.ref f13))) (l13 : K.lookup f13 = some ⟨oc13, od13, .func (PySem.W.fnOf "_law_cell_at" "_law_cell_at" (C8.fnArgs s_l_cell_at) (C8.fnBody s_l_cell_at) (C8.fnScope s_l_cell_at) .none kV13 dc13 pm13 an13 cd13 ct13), sl13⟩) (c13 : PySem.W.codeIn K cd13 "_law_cell_at" = true) (k13 : PySem.W.keepIn K (.ref f13) = true)
    (a14 : PySem.W.nsIn K mainGlobals "_law_well" = some (some (.ref f14))) (l14 : K.lookup f14 = some ⟨oc14, od14, .func (PySem.W.fnOf "_law_well" "_law_well" (C8.fnArgs s_l_well) (C8.fnBody s_l_well) (C8.fnScope s_l_well) .none kV14 dc14 pm14 an14 cd14 ct14), sl14⟩) (c14 : PySem.W.codeIn K cd14 "_law_well" = true) (k14 : PySem.W.keepIn K (.ref f14) = true)
    (a15 : PySem.W.nsIn K mainGlobals "_law_draw" = some (some (.ref f15))) (l15 : K.lookup f15 = some ⟨oc15, od15, .func (PySem.W.fnOf "_law_draw" "_law_draw" (C8.fnArgs s_l_draw) (C8.fnBody s_l_draw) (C8.fnScope s_l_draw) .none kV15 dc15 pm15 an15 cd15 ct15), sl15⟩) (c15 : PySem.W.codeIn K cd15 "_law_draw" = true) (k15 : PySem.W.keepIn K (.ref f15) = true)
    (a16 : PySem.W.nsIn K mainGlobals "_law_pick" = some (some (.ref f16))) (l16 : K.lookup f16 = some ⟨oc16, od16, .func (PySem.W.fnOf "_law_pick" "_law_pick" (C8.fnArgs s_l_pick) (C8.fnBody s_l_pick) (C8.fnScope s_l_pick) .none kV16 dc16 pm16 an16 cd16 ct16), sl16⟩) (c16 : PySem.W.codeIn K cd16 "_law_pick" = true) (k16 : PySem.W.keepIn K (.ref f16) = true)
    (a17 : PySem.W.nsIn K mainGlobals "_law_some_files" = some (some (.ref f17))) (l17 : K.lookup f17 = some ⟨oc17, od17, .func (PySem.W.fnOf "_law_some_files" "_law_some_files" (C8.fnArgs s_l_some_files) (C8.fnBody s_l_some_files) (C8.fnScope s_l_some_files) .none kV17 dc17 pm17 an17 cd17 ct17), sl17⟩) (c17 : PySem.W.codeIn K cd17 "_law_some_files" = true) (k17 : PySem.W.keepIn K (.ref f17) = true)
    (a18 : PySem.W.nsIn K mainGlobals "_law_near" = some (some (.ref f18))) (l18 : K.lookup f18 = some ⟨oc18, od18, .func (PySem.W.fnOf "_law_near" "_law_near" (C8.fnArgs s_l_near) (C8.fnBody s_l_near) (C8.fnScope s_l_near) .none kV18 dc18 pm18 an18 cd18 ct18), sl18⟩) (c18 : PySem.W.codeIn K cd18 "_law_near" = true) (k18 : PySem.W.keepIn K (.ref f18) = true)
    (a19 : PySem.W.nsIn K mainGlobals "_law_clashes" = some (some (.ref f19))) (l19 : K.lookup f19 = some ⟨oc19, od19, .func (PySem.W.fnOf "_law_clashes" "_law_clashes" (C8.fnArgs s_l_clashes) (C8.fnBody s_l_clashes) (C8.fnScope s_l_clashes) .none kV19 dc19 pm19 an19 cd19 ct19), sl19⟩) (c19 : PySem.W.codeIn K cd19 "_law_clashes" = true) (k19 : PySem.W.keepIn K (.ref f19) = true)
    (a20 : PySem.W.nsIn K mainGlobals "_law_due" = some (some (.ref f20))) (l20 : K.lookup f20 = some ⟨oc20, od20, .func (PySem.W.fnOf "_law_due" "_law_due" (C8.fnArgs s_l_due) (C8.fnBody s_l_due) (C8.fnScope s_l_due) .none kV20 dc20 pm20 an20 cd20 ct20), sl20⟩) (c20 : PySem.W.codeIn K cd20 "_law_due" = true) (k20 : PySem.W.keepIn K (.ref f20) = true)
    (a21 : PySem.W.nsIn K mainGlobals "_law_same" = some (some (.ref f21))) (l21 : K.lookup f21 = some ⟨oc21, od21, .func (PySem.W.fnOf "_law_same" "_law_same" (C8.fnArgs s_l_same) (C8.fnBody s_l_same) (C8.fnScope s_l_same) .none kV21 dc21 pm21 an21 cd21 ct21), sl21⟩) (c21 : PySem.W.codeIn K cd21 "_law_same" = true) (k21 : PySem.W.keepIn K (.ref f21) = true)
    (a22 : PySem.W.nsIn K mainGlobals "_law_refused" = some (some (.ref f22))) (l22 : K.lookup f22 = some ⟨oc22, od22, .func (PySem.W.fnOf "_law_refused" "_law_refused" (C8.fnArgs s_l_refused) (C8.fnBody s_l_refused) (C8.fnScope s_l_refused) .none kV22 dc22 pm22 an22 cd22 ct22), sl22⟩) (c22 : PySem.W.codeIn K cd22 "_law_refused" = true) (k22 : PySem.W.keepIn K (.ref f22) = true)
    (a23 : PySem.W.nsIn K mainGlobals "_law_rows_right" = some (some (.ref f23))) (l23 : K.lookup f23 = some ⟨oc23, od23, .func (PySem.W.fnOf "_law_rows_right" "_law_rows_right" (C8.fnArgs s_l_rows_right) (C8.fnBody s_l_rows_right) (C8.fnScope s_l_rows_right) .none kV23 dc23 pm23 an23 cd23 ct23), sl23⟩) (c23 : PySem.W.codeIn K cd23 "_law_rows_right" = true) (k23 : PySem.W.keepIn K (.ref f23) = true)
    (a24 : PySem.W.nsIn K mainGlobals "_law_refuses" = some (some (.ref f24))) (l24 : K.lookup f24 = some ⟨oc24, od24, .func (PySem.W.fnOf "_law_refuses" "_law_refuses" (C8.fnArgs s_l_refuses) (C8.fnBody s_l_refuses) (C8.fnScope s_l_refuses) .none kV24 dc24 pm24 an24 cd24 ct24), sl24⟩) (c24 : PySem.W.codeIn K cd24 "_law_refuses" = true) (k24 : PySem.W.keepIn K (.ref f24) = true)
    (a25 : PySem.W.nsIn K mainGlobals "law" = some (some (.ref f25))) (l25 : K.lookup f25 = some ⟨oc25, od25, .func (PySem.W.fnOf "law" "law" (C8.fnArgs s_law) (C8.fnBody s_law) (C8.fnScope s_law) .none kV25 dc25 pm25 an25 cd25 ct25), sl25⟩) (c25 : PySem.W.codeIn K cd25 "law" = true) (k25 : PySem.W.keepIn K (.ref f25) = true)
    (z_ValueError : PySem.W.nsIn K mainGlobals "ValueError" = some none)
    (z_all : PySem.W.nsIn K mainGlobals "all" = some none)
    (z_any : PySem.W.nsIn K mainGlobals "any" = some none)
    (z_dict : PySem.W.nsIn K mainGlobals "dict" = some none)
    (z_int : PySem.W.nsIn K mainGlobals "int" = some none)
    (z_isinstance : PySem.W.nsIn K mainGlobals "isinstance" = some none)
    (z_len : PySem.W.nsIn K mainGlobals "len" = some none)
    (z_list : PySem.W.nsIn K mainGlobals "list" = some none)
    (z_range : PySem.W.nsIn K mainGlobals "range" = some none)
    (z_sorted : PySem.W.nsIn K mainGlobals "sorted" = some none)
    (z_str : PySem.W.nsIn K mainGlobals "str" = some none)
    (z_tuple : PySem.W.nsIn K mainGlobals "tuple" = some none)
    (g_HEX_DIGITS : PySem.W.nsIn K mainGlobals "HEX_DIGITS" = some (some (.str (Str.ofString "0123456789abcdef") t_HEX_DIGITS)))
    (g_SEGMENT_SIGNS : PySem.W.nsIn K mainGlobals "SEGMENT_SIGNS" = some (some (.str (Str.ofString "abcdefghijklmnopqrstuvwxyz0123456789._-") t_SEGMENT_SIGNS)))
    (g_LONGEST_WORD : PySem.W.nsIn K mainGlobals "LONGEST_WORD" = some (some (.int 12 t_LONGEST_WORD)))
    {cF cP iF fk dT : Addr}
    {fko : Option Addr} {fkn : Nat} {fkl : Array (Option Value)} {tk1 tk2 : Tok}
    {qF : Str} {NF : Addr} {bsF subF : List Value} {snF : List Str} {abF : Bool} {colF : Option Bool} {ddF : Option Addr} {mF_0 mF_1 mF_2 mF_3 mF_5 : Option Value}
    {qP : Str} {NP : Addr} {bsP subP : List Value} {snP : List Str} {abP : Bool} {colP : Option Bool} {ddP : Option Addr} {mP_0 mP_1 mP_2 mP_3 mP_5 : Option Value}
    {odiF aniF : Option Addr} {sliF : Array (Option Value)} {ociF kViF dciF pmiF cdiF ctiF : Value}
    {tkd : Tok} {tcw : Value} {tow : Option Addr} {tnw : Nat} {tsw : Array (Option Value)}
    (eF_mg : PySem.W.nsIn K mainGlobals "ForkError" = some (some (.ref cF)))
    (eP_mg : PySem.W.nsIn K mainGlobals "BadPath" = some (some (.ref cP)))
    (z_repr : PySem.W.nsIn K mainGlobals "repr" = some none)
    (e_hn : PySem.W.specialIn K (.builtin "object.__class__") "__get__" = some (some (.builtin "getset_descriptor.__get__")))
    (e_ht : PySem.W.takesIn K (.builtin "object.__class__") = some true)
    (g_FK : PySem.W.nsIn K mainGlobals "FILE_KINDS" = some (some (.ref fk)))
    (t_fk : K.lookup fk = some ⟨.type "tuple", fko, .seq #[.str (Str.ofString "file") tk1, .str (Str.ofString "exec") tk2] fkn, fkl⟩)
    (xF : K.lookup cF = some (excClassObj "ForkError" qF cF NF bsF [.type "ValueError", .type "Exception", .type "BaseException", .type "object"] true snF subF abF colF ddF mF_0 mF_1 mF_2 mF_3 mF_5 "ValueError.__new__"))
    (xP : K.lookup cP = some (excClassObj "BadPath" qP cP NP bsP [.ref cF, .type "ValueError", .type "Exception", .type "BaseException", .type "object"] true snP subP abP colP ddP mP_0 mP_1 mP_2 mP_3 mP_5 "ValueError.__new__"))
    (saP : PySem.W.findIn K (.ref cP) "__setattr__" = some (some (.builtin "object.__setattr__")))
    (kCP : PySem.W.keepIn K (.ref cP) = true)
    (iCP : PySem.W.findIn K (.ref cP) "__init__" = some (some (.ref iF)))
    (gaP : PySem.W.findIn K (.ref cP) "__getattribute__" = some (some (.builtin "BaseException.__getattribute__")))
    (ggP : PySem.W.findIn K (.ref cP) "__getattr__" = some none)
    (haP : PySem.W.findIn K (.ref cP) "__class__" = some (some (.builtin "object.__class__")))
    (nfP : PySem.W.findIn K (.ref cP) "why" = some none)
    (tiF : PySem.W.typeIn K (.ref iF) = some (.type "function"))
    (liF : K.lookup iF = some ⟨ociF, odiF, .func (PySem.W.fnOf "__init__" "ForkError.__init__" (C8.fnArgs s_ForkError_init) (C8.fnBody s_ForkError_init) (C8.fnScope s_ForkError_init) (.ref dT) kViF dciF pmiF aniF cdiF ctiF), sliF⟩)
    (ciF : PySem.W.codeIn K cdiF "ForkError.__init__" = true)
    (kiF : PySem.W.keepIn K (.ref iF) = true)
    (e_dT : K.lookup dT = some ⟨tcw, tow, .seq #[.str (Str.ofString "") tkd] tnw, tsw⟩)
    (nTabs : PySem.W.noTabs K = true) (hTb1 : ∃ cd Pt, TabD mg h "_law_refuses" cd Pt)
    : LawTopS l w K C8.CX0 63 "_law_script" mg fa h := by
  have e := hfa.symm.trans (PySem.W.mg_of X G a25)
  cases e
  have T : Top K mg := {
    d_is_id := ⟨_, _, ⟨⟨⟨_, _, _, _, _, _, _, _, _, _, rfl, l1, c1⟩⟩, PySem.W.mg_of X G a1, k1⟩, rfl⟩
    d_is_path := ⟨_, _, ⟨⟨⟨_, _, _, _, _, _, _, _, _, _, rfl, l2, c2⟩⟩, PySem.W.mg_of X G a2, k2⟩, rfl⟩
    d_is_segment := ⟨_, _, ⟨⟨⟨_, _, _, _, _, _, _, _, _, _, rfl, l3, c3⟩⟩, PySem.W.mg_of X G a3, k3⟩, rfl⟩
    d_ascending := ⟨_, _, ⟨⟨⟨_, _, _, _, _, _, _, _, _, _, rfl, l4, c4⟩⟩, PySem.W.mg_of X G a4, k4⟩, rfl⟩
    d_prefixes := ⟨_, _, ⟨⟨⟨_, _, _, _, _, _, _, _, _, _, rfl, l5, c5⟩⟩, PySem.W.mg_of X G a5, k5⟩, rfl⟩
    d__is_word := ⟨_, _, ⟨⟨⟨_, _, _, _, _, _, _, _, _, _, rfl, l6, c6⟩⟩, PySem.W.mg_of X G a6, k6⟩, rfl⟩
    d_is_value := ⟨_, _, ⟨⟨⟨_, _, _, _, _, _, _, _, _, _, rfl, l7, c7⟩⟩, PySem.W.mg_of X G a7, k7⟩, rfl⟩
    d_differences := ⟨_, _, ⟨⟨⟨_, _, _, _, _, _, _, _, _, _, rfl, l8, c8⟩⟩, PySem.W.mg_of X G a8, k8⟩, rfl⟩
    d_merged := ⟨_, _, ⟨⟨⟨_, _, _, _, _, _, _, _, _, _, rfl, l9, c9⟩⟩, PySem.W.mg_of X G a9, k9⟩, rfl⟩
    d_check_are_files := ⟨_, _, ⟨⟨⟨_, _, _, _, _, _, _, _, _, _, rfl, l10, c10⟩⟩, PySem.W.mg_of X G a10, k10⟩, rfl⟩
    d_crossing := ⟨_, _, ⟨⟨⟨_, _, _, _, _, _, _, _, _, _, rfl, l11, c11⟩⟩, PySem.W.mg_of X G a11, k11⟩, rfl⟩
    d__merged_values := ⟨_, _, ⟨⟨⟨_, _, _, _, _, _, _, _, _, _, rfl, l12, c12⟩⟩, PySem.W.mg_of X G a12, k12⟩, rfl⟩
    d_l_cell_at := ⟨_, _, ⟨⟨⟨_, _, _, _, _, _, _, _, _, _, rfl, l13, c13⟩⟩, PySem.W.mg_of X G a13, k13⟩, rfl⟩
    d_l_well := ⟨_, _, ⟨⟨⟨_, _, _, _, _, _, _, _, _, _, rfl, l14, c14⟩⟩, PySem.W.mg_of X G a14, k14⟩, rfl⟩
    d_l_draw := ⟨_, _, ⟨⟨⟨_, _, _, _, _, _, _, _, _, _, rfl, l15, c15⟩⟩, PySem.W.mg_of X G a15, k15⟩, rfl⟩
    d_l_pick := ⟨_, _, ⟨⟨⟨_, _, _, _, _, _, _, _, _, _, rfl, l16, c16⟩⟩, PySem.W.mg_of X G a16, k16⟩, rfl⟩
    d_l_some_files := ⟨_, _, ⟨⟨⟨_, _, _, _, _, _, _, _, _, _, rfl, l17, c17⟩⟩, PySem.W.mg_of X G a17, k17⟩, rfl⟩
    d_l_near := ⟨_, _, ⟨⟨⟨_, _, _, _, _, _, _, _, _, _, rfl, l18, c18⟩⟩, PySem.W.mg_of X G a18, k18⟩, rfl⟩
    d_l_clashes := ⟨_, _, ⟨⟨⟨_, _, _, _, _, _, _, _, _, _, rfl, l19, c19⟩⟩, PySem.W.mg_of X G a19, k19⟩, rfl⟩
    d_l_due := ⟨_, _, ⟨⟨⟨_, _, _, _, _, _, _, _, _, _, rfl, l20, c20⟩⟩, PySem.W.mg_of X G a20, k20⟩, rfl⟩
    d_l_same := ⟨_, _, ⟨⟨⟨_, _, _, _, _, _, _, _, _, _, rfl, l21, c21⟩⟩, PySem.W.mg_of X G a21, k21⟩, rfl⟩
    d_l_refused := ⟨_, _, ⟨⟨⟨_, _, _, _, _, _, _, _, _, _, rfl, l22, c22⟩⟩, PySem.W.mg_of X G a22, k22⟩, rfl⟩
    d_l_rows_right := ⟨_, _, ⟨⟨⟨_, _, _, _, _, _, _, _, _, _, rfl, l23, c23⟩⟩, PySem.W.mg_of X G a23, k23⟩, rfl⟩
    d_l_refuses := ⟨_, _, ⟨⟨⟨_, _, _, _, _, _, _, _, _, _, rfl, l24, c24⟩⟩, PySem.W.mg_of X G a24, k24⟩, rfl⟩
    d_law := ⟨_, _, ⟨⟨⟨_, _, _, _, _, _, _, _, _, _, rfl, l25, c25⟩⟩, PySem.W.mg_of X G a25, k25⟩, rfl⟩
    z_ValueError := PySem.W.mg_none_of X G z_ValueError
    z_all := PySem.W.mg_none_of X G z_all
    z_any := PySem.W.mg_none_of X G z_any
    z_dict := PySem.W.mg_none_of X G z_dict
    z_int := PySem.W.mg_none_of X G z_int
    z_isinstance := PySem.W.mg_none_of X G z_isinstance
    z_len := PySem.W.mg_none_of X G z_len
    z_list := PySem.W.mg_none_of X G z_list
    z_range := PySem.W.mg_none_of X G z_range
    z_sorted := PySem.W.mg_none_of X G z_sorted
    z_str := PySem.W.mg_none_of X G z_str
    z_tuple := PySem.W.mg_none_of X G z_tuple
    g_HEX_DIGITS := ⟨_, PySem.W.mg_of X G g_HEX_DIGITS, ⟨_, rfl⟩⟩
    g_SEGMENT_SIGNS := ⟨_, PySem.W.mg_of X G g_SEGMENT_SIGNS, ⟨_, rfl⟩⟩
    g_LONGEST_WORD := ⟨_, PySem.W.mg_of X G g_LONGEST_WORD, ⟨_, rfl⟩⟩ }
  have cfF : CF K "ForkError" "ValueError.__new__" VE cF := ⟨_, _, _, _, _, _, _, _, _, _, _, _, _, xF⟩
  have cfP : CF K "BadPath" "ValueError.__new__" (.ref cF :: VE) cP := ⟨_, _, _, _, _, _, _, _, _, _, _, _, _, xP⟩
  have hbE : ((Value.ref cF :: VE).contains (.type "BaseException")) = true := rfl
  have hbO : ((Value.ref cF :: VE).contains (.type "object")) = true := rfl
  have FD : FunD K "__init__" "ForkError.__init__" (C8.fnArgs s_ForkError_init) (C8.fnBody s_ForkError_init) (C8.fnScope s_ForkError_init) [V.str ""] [] iF (PySem.W.fnOf "__init__" "ForkError.__init__" (C8.fnArgs s_ForkError_init) (C8.fnBody s_ForkError_init) (C8.fnScope s_ForkError_init) (.ref dT) kViF dciF pmiF aniF cdiF ctiF) :=
    ⟨⟨_, _, _, _, _, _, _, _, _, _, rfl, liF, ciF, .inr ⟨(fun z => by cases z), dT, _, [.str (Str.ofString "") tkd], tnw, rfl, e_dT, rfl, .cons ⟨tkd, rfl⟩ .nil⟩, .inl rfl⟩, kiF⟩
  have hvE : PySem.HandSPX.refsVE (Value.ref cF :: VE) = true := by show PySem.HandSPX.refsVE VE = true; decide +kernel
  have bF : Binds K (PySem.W.fnOf "__init__" "ForkError.__init__" (C8.fnArgs s_ForkError_init) (C8.fnBody s_ForkError_init) (C8.fnScope s_ForkError_init) (.ref dT) kViF dciF pmiF aniF cdiF ctiF) ["self", "why"] [] := by
    obtain ⟨ds, v, b⟩ := FD.binds1 (ps := ["self", "why"]) 2 1 (fun z => by cases z) rfl (fun T kV doc pm an cdv ct us its h1 h2 => match us, its, h1, h2 with | [_, _], [_], _, _ => ⟨_, rfl, rfl⟩)
    cases v
    exact b
  have eP : ErrC K mg "BadPath" "why" cP iF := ⟨PySem.W.mg_of X G eP_mg, ⟨(cfP.oex hvE saP kCP hbE).exC, cfP.typ⟩,
      cfP.xc PySem.F.excBase_ValueError (rve_ok _) (rve_pass _) hbO hbE saP kCP iCP tiF gaP ggP haP e_hn e_ht, nfP, _, fun P w base => ini_ForkError ⟨⟨_, _, _, _, _, _, _, _, _, _, rfl, liF, ciF⟩⟩, bF⟩
  have TS : TopG K mg fk cP iF := { T with
    g_FILE_KINDS := ⟨_, PySem.W.mg_of X G g_FK, rfl⟩
    kF := ⟨_, _, _, t_fk, rfl, rfl, by show 2 ≤ sizeLine; decide, .cons ⟨tk1, rfl⟩ (.cons ⟨tk2, rfl⟩ .nil)⟩
    eP := eP
    exP := cfP.exm cfP hbE (by rw [List.contains_cons, beq_self_eq_true]; rfl) }
  obtain ⟨cd1, P1, hTD1⟩ := hTb1
  have hcd1 := hTD1.code X (PySem.W.mg_of X G a24) l24
  obtain ⟨fa1, o1, fd1, u1, u2, u3, u4, uC, uT⟩ := hTD1
  have nT1 : K.lookup P1 = none := notab_none X nTabs uT
  have one : ∀ {Q : Addr × Addr → Prop}, Q (cd1, P1) → ∀ p ∈ [(cd1, P1)], Q p := fun q1 p hp => by rw [List.mem_singleton.mp hp]; exact q1
  refine ⟨PySem.W.fnOf "law" "law" (C8.fnArgs s_law) (C8.fnBody s_law) (C8.fnScope s_law) .none kV25 dc25 pm25 an25 cd25 ct25, [(cd1, P1)], spLawT K P1, one uT, one nT1, one uC, fun s v => .of_eq rfl, fun H a ns hl _ hT hS => ⟨a, ns, rfl, hS, hl, fun P hP => ?_, fun _ => rfl⟩, fun base _ _ hB hsys => ok_law TS (PySem.W.mg_none_of X G z_repr) hsys (hB (cd1, P1) List.mem_cons_self) ⟨_, _, ⟨⟨⟨_, _, _, _, _, _, _, _, _, _, rfl, l24, c24⟩⟩, PySem.W.mg_of X G a24, k24⟩, rfl, hcd1⟩ ⟨⟨_, _, _, _, _, _, _, _, _, _, rfl, l25, c25⟩⟩ rfl ⟨rfl, by decide, by decide⟩⟩
  rw [List.mem_singleton.mp hP]
  exact TabL.nil (hT (cd1, P1) List.mem_cons_self)
end Fk
open PySem PySem.W PyProof.Rows
set_option maxHeartbeats 0 in
theorem PySem.Challenge.cw_forkhaul_k39_files_merged_holds : PySem.Challenge.rw_forkhaul_k39_files_merged.Holds := by
  w_on; o_law; k_head; (case hw => w_witness2)
  k_fill
  refine Fk.walk_ofTopS (l := PySem.Challenge.rw_forkhaul_k39_files_merged) (n := 63) (x := "_law_script") (CX := fun _ => C8.CX0) (ys := ["_law_refuses"]) ?S rfl (by decide) rfl ?R (fun w h Y => PySem.W.km_in_of Y) ?F (fun _ _ _ _ _ h => h)
  case S => first | rfl | decide +kernel | k_is
  case R => intro y hy; rw [List.mem_singleton.mp hy]; first | rfl | decide +kernel | k_is
  case F =>
    intro w mg fa h Y KX G hmg tabs
    refine' Fk.all_mk KX G hmg ?a1 ?l1 ?c1 ?k1 ?a2 ?l2 ?c2 ?k2 ?a3 ?l3 ?c3 ?k3 ?a4 ?l4 ?c4 ?k4 ?a5 ?l5 ?c5 ?k5 ?a6 ?l6 ?c6 ?k6 ?a7 ?l7 ?c7 ?k7 ?a8 ?l8 ?c8 ?k8 ?a9 ?l9 ?c9 ?k9 ?a10 ?l10 ?c10 ?k10 ?a11 ?l11 ?c11 ?k11 ?a12 ?l12 ?c12 ?k12 ?a13 ?l13 ?c13 ?k13 ?a14 ?l14 ?c14 ?k14 ?a15 ?l15 ?c15 ?k15 ?a16 ?l16 ?c16 ?k16 ?a17 ?l17 ?c17 ?k17 ?a18 ?l18 ?c18 ?k18 ?a19 ?l19 ?c19 ?k19 ?a20 ?l20 ?c20 ?k20 ?a21 ?l21 ?c21 ?k21 ?a22 ?l22 ?c22 ?k22 ?a23 ?l23 ?c23 ?k23 ?a24 ?l24 ?c24 ?k24 ?a25 ?l25 ?c25 ?k25 ?z_ValueError ?z_all ?z_any ?z_dict ?z_int ?z_isinstance ?z_len ?z_list ?z_range ?z_sorted ?z_str ?z_tuple ?g_HEX_DIGITS ?g_SEGMENT_SIGNS ?g_LONGEST_WORD ?eF_mg ?eP_mg ?z_repr ?e_hn ?e_ht ?g_FK ?t_fk ?xF ?xP ?saP ?kCP ?iCP ?gaP ?ggP ?haP ?nfP ?tiF ?liF ?ciF ?kiF ?e_dT ?nTabs (tabs _ List.mem_cons_self)
    (case a1 => k_is); (case l1 => k_is); (case c1 => k_is); (case k1 => k_is); (case a2 => k_is); (case l2 => k_is); (case c2 => k_is); (case k2 => k_is); (case a3 => k_is); (case l3 => k_is); (case c3 => k_is); (case k3 => k_is); (case a4 => k_is); (case l4 => k_is); (case c4 => k_is); (case k4 => k_is); (case a5 => k_is); (case l5 => k_is); (case c5 => k_is); (case k5 => k_is); (case a6 => k_is); (case l6 => k_is); (case c6 => k_is); (case k6 => k_is); (case a7 => k_is); (case l7 => k_is); (case c7 => k_is); (case k7 => k_is); (case a8 => k_is); (case l8 => k_is); (case c8 => k_is); (case k8 => k_is); (case a9 => k_is); (case l9 => k_is); (case c9 => k_is); (case k9 => k_is); (case a10 => k_is); (case l10 => k_is); (case c10 => k_is); (case k10 => k_is); (case a11 => k_is); (case l11 => k_is); (case c11 => k_is); (case k11 => k_is); (case a12 => k_is); (case l12 => k_is); (case c12 => k_is); (case k12 => k_is); (case a13 => k_is); (case l13 => k_is); (case c13 => k_is); (case k13 => k_is); (case a14 => k_is); (case l14 => k_is); (case c14 => k_is); (case k14 => k_is); (case a15 => k_is); (case l15 => k_is); (case c15 => k_is); (case k15 => k_is); (case a16 => k_is); (case l16 => k_is); (case c16 => k_is); (case k16 => k_is); (case a17 => k_is); (case l17 => k_is); (case c17 => k_is); (case k17 => k_is); (case a18 => k_is); (case l18 => k_is); (case c18 => k_is); (case k18 => k_is); (case a19 => k_is); (case l19 => k_is); (case c19 => k_is); (case k19 => k_is); (case a20 => k_is); (case l20 => k_is); (case c20 => k_is); (case k20 => k_is); (case a21 => k_is); (case l21 => k_is); (case c21 => k_is); (case k21 => k_is); (case a22 => k_is); (case l22 => k_is); (case c22 => k_is); (case k22 => k_is); (case a23 => k_is); (case l23 => k_is); (case c23 => k_is); (case k23 => k_is); (case a24 => k_is); (case l24 => k_is); (case c24 => k_is); (case k24 => k_is); (case a25 => k_is); (case l25 => k_is); (case c25 => k_is); (case k25 => k_is); (case z_ValueError => k_is); (case z_all => k_is); (case z_any => k_is); (case z_dict => k_is); (case z_int => k_is); (case z_isinstance => k_is); (case z_len => k_is); (case z_list => k_is); (case z_range => k_is); (case z_sorted => k_is); (case z_str => k_is); (case z_tuple => k_is); (case g_HEX_DIGITS => k_is); (case g_SEGMENT_SIGNS => k_is); (case g_LONGEST_WORD => k_is); (case eF_mg => k_is); (case eP_mg => k_is); (case z_repr => k_is); (case e_hn => k_is); (case e_ht => k_is); (case g_FK => k_is); (case t_fk => k_is); (case xF => k_is); (case xP => k_is); (case saP => k_is); (case kCP => k_is); (case iCP => k_is); (case gaP => k_is); (case ggP => k_is); (case haP => k_is); (case nfP => k_is); (case tiF => k_is); (case liF => k_is); (case ciF => k_is); (case kiF => k_is); (case e_dT => k_is); (case nTabs => first | k_is | exact rfl | kernel_rfl | decide +kernel)


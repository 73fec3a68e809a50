import PyProof.Rows.All
import Wide.All
import OpenK.AllK
import Wide.FinOn
import HandS.ForMost
import HandS.Codes
import HandS.IsInst
import HandS.Wide
import HandS.CallLocal
import HandS.StrMore
import HandS.Replace
import HandS.ReplaceDef
import HandS.ReplaceLit
import HandS.ReplaceList
import Wide.Txt
import HandS.Exc
import HandS.ExcInit
import HandS.Defaults
import HandS.MakeKw
import HandS.TryOnly
import HandS.ExcField
import KE.KExcIs
import KE.KExcInit
import PyProof.P3Eq
import HandS.ExcIs
import HandS.OwnEq
import HandS.Property
import HandS.ExcOwn
import HandS.NamedTupSort
import KE.KOpsOwn
import PyProof.InstNe
import HandS.MakeKwOnly
import PyProof.InstEq
import PyProof.DictUpdate
import PyProof.DictDisplay
import HandS.DictComp
import KE.KEqDict
import HandS.More
import HandS.TryMany
import HandS.WordsDict
import PyProof.Rows.StrMeet
import HandS.RaiseMore
import HandS.TupAny
import KE.KRevSl
import PyProof.SliceList
import HandS.Zip
import HandS.Conv
import PyProof.ListStr
import HandS.Lambda
import HandS.EndTab
import HandS.EndOwn
import PyProof.ReprReads
import PyProof.ReprRoads
import PyProof.ReprLen
import HandS.ListItems
import HandS.Style
import PySem.Challenge.RW_forkhaul_k42_changes_of_files
import HandS.ClsMeth
import HandS.Star
import HandS.Bytes
import KE.KStrBytes
import HandS.FStr
import KE.KxField
import PyProof.FString3
import HandS.HotCalls
import HandS.SuiteRaise
import HandS.ExcInitHot
import HandS.Iter
import HandS.Comp
import HandS.Words
import HandS.List
set_option Elab.async false
set_option linter.all false
set_option maxRecDepth 100000
set_option maxHeartbeats 4000000
/-! The base of the proofs: repetition of texts, defs by their names, comprehensions by an invariant, frames. -/
namespace Fk
open PySem PySem.Spec PyProof.Rows L2

/-! ### a text repeated -/
theorem fold_cps (x : Array Nat) : ∀ (n : Nat) (acc : Array Nat), ((List.replicate n x).foldl (· ++ ·) acc).toList = acc.toList ++ (List.replicate n x.toList).flatten
  | 0, acc => by simp
  | n + 1, acc => by
    rw [List.replicate_succ, List.foldl_cons, fold_cps x n (acc ++ x), List.replicate_succ, List.flatten_cons, Array.toList_append, List.append_assoc]
def repS (x : Str) (n : Nat) : Str := ⟨(List.replicate n x.cps.toList).flatten.toArray⟩
theorem tl_rep (x : Str) (n : Nat) : TL.tl (repS x n) = (List.replicate n (TL.tl x)).flatten := rfl
theorem rep_len (x : Str) (n : Nat) : (repS x n).length = n * x.length := by
  rw [TL.len_tl, tl_rep, TL.len_tl]
  induction n with
  | zero => simp
  | succ n ih => rw [List.replicate_succ, List.flatten_cons, List.length_append, ih, Nat.succ_mul, Nat.add_comm]
theorem tooLong_no {n : Nat} (h : n ≤ 16777216) : Builtin.Str.tooLong n = false := by
  unfold Builtin.Str.tooLong
  have e : (16777216 : Nat) = sizeLine ∨ 16777216 ≤ sizeLine := by right; decide
  have h2 : 16777216 ≤ sizeLine := by rcases e with e | e <;> omega
  simp
  omega
def rMulSI : R2 := fun x y H Q => ∃ (z : Str) (k : Int), x = .str z ∧ y = .int k ∧ 0 ≤ k ∧ k ≤ 10000 ∧ z.length * k.toNat ≤ 1000000 ∧ Q (.str (repS z k.toNat)) H
theorem op_mul_si {X : Cx} : OpR X (binaryOp .Mult) rMulSI := by
  intro pins s σ H x y v u Q I rx ry h
  obtain ⟨z, k, rfl, rfl, h0, h1, h2, q⟩ := h
  obtain ⟨t, rfl⟩ := rx
  obtain ⟨t', rfl⟩ := ry
  refine PySem.P.mul_str ?_ (fun h3 h4 => ?_) (fun h3 h4 => ?_) ?_
  · have e1 : ¬ k < -(2 ^ 63 : Int) := by omega
    have e2 : ¬ k ≥ 2 ^ 63 := by omega
    rw [decide_eq_false e1, decide_eq_false e2]
    rfl
  · have hk : 1 ≤ k := by omega
    have hz : z.length ≤ 1000000 := by
      have h5 : z.length * 1 ≤ z.length * k.toNat := Nat.mul_le_mul_left _ (by omega)
      omega
    have h6 : (10 ^ 14 : Int) ≤ (2 ^ 63 - 1) / k := by
      refine Int.le_ediv_of_mul_le (by omega) ?_
      have h7 : (10 ^ 14 : Int) * k ≤ 10 ^ 14 * 10000 := Int.mul_le_mul_of_nonneg_left h1 (by decide)
      have h8 : ((10 ^ 14 : Int) * 10000) ≤ 2 ^ 63 - 1 := by decide
      omega
    have h9 : ((z.length : Nat) : Int) ≤ 1000000 := by omega
    have h10 : (1000000 : Int) < 10 ^ 14 := by decide
    omega
  · exact tooLong_no (by omega)
  · by_cases h3 : k < 1
    · rw [if_pos h3]
      have e : k.toNat = 0 := by omega
      rw [e] at q
      have ez : repS z 0 = Str.empty := TL.ext_tl rfl
      rw [ez] at q
      exact ⟨by decide, V.str Str.empty, H, I.tok _, ⟨_, rfl⟩, q⟩
    · rw [if_neg h3]
      by_cases h4 : (k == 1 || z.length == 0) = true
      · rw [if_pos h4]
        have ez : repS z k.toNat = z := by
          apply TL.ext_tl
          rw [tl_rep]
          rcases Bool.or_eq_true_iff.mp h4 with h5 | h5
          · have e : k.toNat = 1 := by
              have := eq_of_beq h5
              omega
            rw [e]
            simp
          · have e : TL.tl z = [] := by
              have := eq_of_beq h5
              rw [TL.len_tl] at this
              exact List.length_eq_zero_iff.mp this
            rw [e]
            simp
        rw [ez] at q
        exact ⟨V.str z, H, I, ⟨_, rfl⟩, q⟩
      · rw [if_neg h4]
        have ez : (⟨(List.replicate k.toNat z.cps).foldl (· ++ ·) #[]⟩ : Str) = repS z k.toNat := by
          apply TL.ext_tl
          show ((List.replicate k.toNat z.cps).foldl (· ++ ·) #[]).toList = _
          rw [fold_cps]
          rfl
        have hl : (repS z k.toNat).length ≤ sizeLine := by
          rw [rep_len, Nat.mul_comm]
          exact Nat.le_trans h2 (by decide)
        rw [← ez] at q hl
        exact ⟨hl, V.str _, H, I.tok _, ⟨_, rfl⟩, q⟩

section
variable {P : Program} {w : World} {K : PySem.W.Frag} {mg : Str → Option Value} {base : Heap}
/-! ### defs by their names -/
/-- a def of the module whose parameters have no defaults -/
def IsDef (K : PySem.W.Frag) (mg : Str → Option Value) (x : Str) (st : Stmt) : Prop := ∃ f fd, C8.Def K mg x st f fd ∧ fd.defaults = .none
theorem cal_of {x : Str} {st : Stmt} {N ps : List Str} {k : Nat} {sp : Sp} (D : IsDef K mg x st) (S : FnScope N ps (C8.fnScope st))
    (hb : ∀ (kV doc pm : Value) (an : Option Addr) (cdv ct : Value) (us : List Value), us.length = ps.length → bindArgs (PySem.W.fnOf x x (C8.fnArgs st) (C8.fnBody st) (C8.fnScope st) .none kV doc pm an cdv ct) ⟨us, []⟩ = pure (ps.zip us))
    (len : ∀ vs H Q E, sp vs H Q E → vs.length = ps.length)
    (hbody : ∀ (f : Addr) (cdv : Value) (A : Around) (outer : List Env) (s : Shared) (H : Hp) (vs : List V) (Q : VK) (E : XK), Room k (A.deeper (envOfC x (C8.fnScope st) s.heap.objs.size f cdv)) → sp vs H Q E →
      ∃ t, PSs (cxOf C8.CX0 P w K mg base N x (C8.fnScope st) f cdv A outer s H E).nox (C8.fnBody st) t ∧ t { nx := fun _ H' => Q .non H', rt := Q } (start N vs) H) : C8.Cal P w K mg base (k + 1) x sp [] := by
  obtain ⟨f, fd, D, df⟩ := D
  exact C8.cal0 D (D.fn.binds df hb) .nil S len (hbody f)
theorem pe_c0 {X : Cx} {k j : Nat} {x : Str} {sp : Sp} {dvs : List V} {p pos : Pos} (c : C8.Cal X.prog X.w X.K X.mg X.base k x sp dvs) (hr : Room j X.A) (hk : k ≤ j) (hg : Gl X x)
    (hdb : (x == ("__debug__" : Str)) = false := by decide) : PE X (.Call (.Name x p) [] [] pos) (tCall sp dvs C8.E0 tNil) := by
  obtain ⟨f, fd, ps, ds, F, hm, kp, b, d⟩ := c.ex
  exact pe_call0 F (hr.mono hk) hg hm kp b d C8.pass0 hdb
/-- a def's address as a value, with its promise -/
theorem held_of {k : Nat} {x : Str} {sp : Sp} {f : Addr} (c : C8.Cal P w K mg base k x sp []) (h : mg x = some (.ref f)) : Held P w K mg base k f sp := by
  obtain ⟨f', fd, ps, ds, F, hm, kp, b, d⟩ := c.ex
  rw [h] at hm
  cases hm
  cases d
  exact ⟨fd, ps, F, kp, b⟩
end

/-! ### heaps -/
/-- all that was tracked is as it was, but what stands at a -/
def Fr (a : Addr) (H H' : Hp) : Prop := ∀ b o, b ≠ a → H b = some o → H' b = some o
theorem Fr.refl (a : Addr) (H : Hp) : Fr a H H := fun _ _ _ h => h
theorem Fr.trans {a : Addr} {H H1 H2 : Hp} (x : Fr a H H1) (y : Fr a H1 H2) : Fr a H H2 := fun b o n h => y b o n (x b o n h)
theorem Fr.at {a : Addr} {H : Hp} {o : HO} : Fr a H (upd H a o) := fun b u n h => by
  rw [upd_ne n]
  exact h
theorem Fr.new {a p : Addr} {H : Hp} {o : HO} (h : H p = none) : Fr a H (upd H p o) := fun b u _ e => by
  rw [upd_ne (ne_of_none e h)]
  exact e
/-- what came later may change -/
theorem Fr.mut {a p : Addr} {H H' : Hp} {o : HO} (x : Fr a H H') (h : H p = none) : Fr a H (upd H' p o) := fun b u n e => by
  rw [upd_ne (ne_of_none e h)]
  exact x b u n e
theorem Fr.same {a : Addr} {H H' : Hp} (h : Same H H') : Fr a H H' := fun b o _ e => h b o e
theorem Fr.free {a p : Addr} {H H' : Hp} (x : Fr a H H') (n : p ≠ a) (h : H' p = none) : H p = none := by
  cases q : H p with
  | none => rfl
  | some o =>
    rw [x p o n q] at h
    cases h
theorem same_new {H : Hp} {p : Addr} {o : HO} (h : H p = none) : Same H (upd H p o) := fun b u e => by
  rw [upd_ne (ne_of_none e h)]
  exact e
theorem same_mut {H H' : Hp} {p : Addr} {o : HO} (x : Same H H') (h : H p = none) : Same H (upd H' p o) := fun b u e => by
  rw [upd_ne (ne_of_none e h)]
  exact x b u e
theorem small_line {n : Nat} (h : n ≤ 1000000) : n ≤ sizeLine := Nat.le_trans h (by decide)
theorem small_lt {n : Nat} (h : n ≤ 1000000) : n < sizeLine := Nat.lt_of_le_of_lt h (by decide)

/-! ### comprehensions -/
theorem set_set {σ : L2.St} {i : Nat} {x y : Option V} : (σ.set i x).set i y = σ.set i y := by
  rw [List.set_set]
/-- what an iterator yields while the list at D grows: the items of a list -/
structure Yields (J : It) (items : List V) (G : Hp → Prop) : Prop where
  go : ∀ k H, G H → k < items.length → J.go k H
  stop : ∀ H, G H → J.stop items.length H
  yld : ∀ k H x H', k < items.length → G H → J.yld k H x H' → H' = H ∧ items[k]? = some x
theorem yields_str (x : Str) : Yields (Its x) (x.cps.toList.map fun c => V.str ⟨#[c]⟩) (fun _ => True) where
  go := fun k H _ h => by
    rw [List.length_map] at h
    exact (by simpa using h : k < x.cps.size)
  stop := fun H _ => by
    show x.cps.size ≤ _
    simp
  yld := fun k H v H' _ _ h => by
    obtain ⟨e, c, hc, hv⟩ := h
    refine ⟨e, ?_⟩
    rw [List.getElem?_map, Array.getElem?_toList, hc, hv]
    rfl
theorem yields_list {K : PySem.W.Frag} {a : Addr} {xs : List V} : Yields (Itl K a) xs (fun H => SqL K H a xs) where
  go := fun k H g h => ⟨xs, xs[k], g, List.getElem?_eq_getElem h⟩
  stop := fun H g => ⟨xs, g, Nat.le_refl _⟩
  yld := fun k H x H' _ g h => ⟨h.1, h.2 xs g⟩
theorem yields_range {lo : Int} {n : Nat} : Yields (Itr lo n) ((List.range n).map fun (i : Nat) => V.int (lo + (i : Int))) (fun _ => True) where
  go := fun k H _ h => by
    rw [List.length_map, List.length_range] at h
    exact h
  stop := fun H _ => by
    show n ≤ _
    rw [List.length_map, List.length_range]
    exact Nat.le_refl _
  yld := fun k H x H' hk _ h => by
    obtain ⟨e, hx⟩ := h
    rw [List.length_map, List.length_range] at hk
    refine ⟨e, ?_⟩
    rw [List.getElem?_map, List.getElem?_range hk, hx]
    rfl
/-- behind k turns of a comprehension: the list at D holds acc, of which I speaks -/
def LcN (I : Nat → List V → Hp → Prop) (D : Addr) (k : Nat) (H : Hp) : Prop := ∃ acc, H D = some (.lst acc) ∧ acc.length ≤ k ∧ I k acc H
theorem lc_take {I : Nat → List V → Hp → Prop} {D : Addr} {k : Nat} {H4 : Hp} {y : V} {acc : List V} (h : H4 D = some (.lst acc)) (l : acc.length ≤ k) (hk : k < 1000000) (q : I (k + 1) (acc ++ [y]) (upd H4 D (.lst (acc ++ [y])))) :
    ∃ acc, H4 D = some (.lst acc) ∧ acc.length < sizeLine ∧ LcN I D (k + 1) (upd H4 D (.lst (acc ++ [y]))) :=
  ⟨acc, h, small_lt (by omega), acc ++ [y], upd_same, by rw [List.length_append, List.length_singleton]; omega, q⟩
theorem lc_skip {I : Nat → List V → Hp → Prop} {D : Addr} {k : Nat} {H4 : Hp} {acc : List V} (h : H4 D = some (.lst acc)) (l : acc.length ≤ k) (q : I (k + 1) acc H4) : LcN I D (k + 1) H4 := ⟨acc, h, by omega, q⟩
/-- a comprehension by an invariant I over (turns, what the new list holds, the heap) -/
theorem lc_inv {J : It} {items : List V} {G : Hp → Prop} {H1 : Hp} {D : Addr} {σ : L2.St} {i : Nat} {tt : TT} {te : TE} {Q : Hp → Prop} (Y : Yields J items G) (I : Nat → List V → Hp → Prop)
    (hG : ∀ k acc H, I k acc H → H D = some (.lst acc) → G H) (h0 : I 0 [] (upd H1 D (.lst [])))
    (hs : ∀ k acc H x, I k acc H → H D = some (.lst acc) → items[k]? = some x → acc.length ≤ k → k < 1000000 → tt (σ.set i (some x)) H fun b H3 =>
      if b = true then te (σ.set i (some x)) H3 fun y H4 => ∃ acc, H4 D = some (.lst acc) ∧ acc.length < sizeLine ∧ LcN I D (k + 1) (upd H4 D (.lst (acc ++ [y]))) else LcN I D (k + 1) H3)
    (hl : items.length ≤ 1000000) (hd : ∀ acc H, I items.length acc H → H D = some (.lst acc) → acc.length ≤ items.length → Q H) :
    ∃ W : Nat → Nat → Hp → Prop, (∃ m, W 0 m (upd H1 D (.lst []))) ∧ ∀ k m H, W k m H →
      (J.stop k H ∧ Q H) ∨ (J.go k H ∧ ∃ Nx : Hp → Prop, (∀ H', Nx H' → ∃ m', m' < m ∧ W (k + 1) m' H') ∧ ∀ x H', J.yld k H x H' → gName i x (wipe σ [i]) H' fun σ2 H2 => wipe σ2 [i] = wipe σ [i] ∧ tt σ2 H2 fun b H3 =>
        if b = true then te σ2 H3 fun y H4 => ∃ acc, H4 D = some (.lst acc) ∧ acc.length < sizeLine ∧ Nx (upd H4 D (.lst (acc ++ [y]))) else Nx H3) := by
  refine ⟨fun k m H => m = items.length - k ∧ k ≤ items.length ∧ LcN I D k H, ⟨items.length, by omega, Nat.zero_le _, [], upd_same, Nat.zero_le _, h0⟩, ?_⟩
  rintro k m H ⟨rfl, hk, acc, hD, hacc, hI⟩
  by_cases hlt : k < items.length
  · refine .inr ⟨Y.go k H (hG _ _ _ hI hD) hlt, LcN I D (k + 1), fun H' q => ⟨items.length - (k + 1), by omega, rfl, hlt, q⟩, fun x H' y => ?_⟩
    obtain ⟨rfl, hx⟩ := Y.yld k H x H' hlt (hG _ _ _ hI hD) y
    show wipe ((wipe σ [i]).set i (some x)) [i] = wipe σ [i] ∧ tt ((wipe σ [i]).set i (some x)) _ _
    have e1 : (wipe σ [i]).set i (some x) = σ.set i (some x) := set_set
    have e2 : wipe (σ.set i (some x)) [i] = wipe σ [i] := set_set
    rw [e1]
    exact ⟨e2, hs k acc _ x hI hD hx hacc (by omega)⟩
  · have e : k = items.length := by omega
    subst e
    exact .inl ⟨Y.stop H (hG _ _ _ hI hD), hd acc H hI hD hacc⟩
/-- a comprehension whose element and test change nothing that is tracked -/
theorem lc_pure {α : Type} {J : It} {us : List α} {g : α → V} {G : Hp → Prop} {H1 : Hp} {D : Addr} {σ : L2.St} {i : Nat} {tt : TT} {te : TE} {Q : Hp → Prop} (Y : Yields J (us.map g) G) (f : α → V) (p : α → Bool) (hD1 : H1 D = none)
    (hG : ∀ H, Same H1 H → G H)
    (hs : ∀ H u, Same H1 H → u ∈ us → ∀ (R : Bool → Hp → Prop), (∀ H3, Same H H3 → R (p u) H3) → tt (σ.set i (some (g u))) H R)
    (he : ∀ H u, Same H1 H → u ∈ us → p u = true → ∀ (R : VK), (∀ H3, Same H H3 → R (f u) H3) → te (σ.set i (some (g u))) H R)
    (hl : us.length ≤ 1000000) (hd : ∀ H, Same H1 H → H D = some (.lst ((us.filter p).map f)) → Q H) :
    ∃ W : Nat → Nat → Hp → Prop, (∃ m, W 0 m (upd H1 D (.lst []))) ∧ ∀ k m H, W k m H →
      (J.stop k H ∧ Q H) ∨ (J.go k H ∧ ∃ Nx : Hp → Prop, (∀ H', Nx H' → ∃ m', m' < m ∧ W (k + 1) m' H') ∧ ∀ x H', J.yld k H x H' → gName i x (wipe σ [i]) H' fun σ2 H2 => wipe σ2 [i] = wipe σ [i] ∧ tt σ2 H2 fun b H3 =>
        if b = true then te σ2 H3 fun y H4 => ∃ acc, H4 D = some (.lst acc) ∧ acc.length < sizeLine ∧ Nx (upd H4 D (.lst (acc ++ [y]))) else Nx H3) := by
  refine lc_inv Y (fun k acc H => Same H1 H ∧ acc = ((us.take k).filter p).map f) (fun k acc H h _ => hG H h.1) ⟨same_new hD1, rfl⟩ (fun k acc H x hI hD hx hacc hk => ?_) (by rw [List.length_map]; exact hl) (fun acc H hI hD _ => ?_)
  · obtain ⟨sm, ea⟩ := hI
    rw [List.getElem?_map] at hx
    cases hu : us[k]? with
    | none => rw [hu] at hx; cases hx
    | some u =>
      rw [hu] at hx
      cases hx
      have hm : u ∈ us := List.mem_of_getElem? hu
      have et : us.take (k + 1) = us.take k ++ [u] := by
        rw [List.take_add_one, hu]
        rfl
      refine hs H u sm hm _ (fun H3 s3 => ?_)
      by_cases hp : p u = true
      · rw [if_pos hp]
        refine he H3 u (sm.trans s3) hm hp _ (fun H4 s4 => ?_)
        refine lc_take (s4 _ _ (s3 _ _ hD)) hacc hk ⟨same_mut ((sm.trans s3).trans s4) hD1, ?_⟩
        rw [et, List.filter_append, List.map_append, ← ea, List.filter_cons, hp]
        rfl
      · rw [if_neg hp]
        refine lc_skip (s3 _ _ hD) hacc ⟨sm.trans s3, ?_⟩
        rw [et, List.filter_append, List.map_append, ← ea, List.filter_cons, if_neg hp]
        simp
  · obtain ⟨sm, ea⟩ := hI
    rw [List.length_map, List.take_length] at ea
    rw [ea] at hD
    exact hd H sm hD

/-! ### what may be asked -/
def evalV (f : Str → Bool) : V → Bool
  | .str x => f x
  | _ => false
/-- its signs are signs -/
def OkS (x : Str) : Prop := ∀ u ∈ TL.tl x, u < 1114112
/-- a text, not too long, or a thing that is no text -/
inductive Thing (H : Hp) : V → Prop where
  | str (x : Str) (h : x.length ≤ 100000) (o : OkS x) : Thing H (.str x)
  | non : Thing H .non
  | bl (b : Bool) : Thing H (.bl b)
  | int (i : Int) : Thing H (.int i)
  | lst (a : Addr) (xs : List V) (h : H a = some (.lst xs)) : Thing H (.ref a)
  | tup (a : Addr) (xs : List V) (h : H a = some (.tup xs)) : Thing H (.ref a)
  | dK (a : Addr) (kvs : List (Key × V)) (h : H a = some (.dK kvs)) : Thing H (.ref a)
theorem Thing.fr {a : Addr} {H H' : Hp} {v : V} (t : Thing H v) (n : v ≠ .ref a) (f : Fr a H H') : Thing H' v := by
  cases t with
  | str x h o => exact .str x h o
  | non => exact .non
  | bl b => exact .bl b
  | int i => exact .int i
  | lst b xs h => exact .lst b xs (f b _ (fun e => n (by rw [e])) h)
  | tup b xs h => exact .tup b xs (f b _ (fun e => n (by rw [e])) h)
  | dK b xs h => exact .dK b xs (f b _ (fun e => n (by rw [e])) h)
theorem Thing.same {H H' : Hp} {v : V} (t : Thing H v) (f : Same H H') : Thing H' v := by
  cases t with
  | str x h o => exact .str x h o
  | non => exact .non
  | bl b => exact .bl b
  | int i => exact .int i
  | lst b xs h => exact .lst b xs (f b _ h)
  | tup b xs h => exact .tup b xs (f b _ h)
  | dK b xs h => exact .dK b xs (f b _ h)
/-- isinstance(thing, str) -/
theorem Thing.isi {K : PySem.W.Frag} {H : Hp} {v : V} {Q : VK} (t : Thing H v) (h : Q (.bl (evalV (fun _ => true) v)) H) : rIsi K [v, .ty "str"] H Q := by
  cases t with
  | str x _ _ => exact ⟨_, _, .type "str", .type "str", true, rfl, .ty "str", .base (.str x), kit_ty (by decide +kernel), h⟩
  | non => exact ⟨_, _, .type "NoneType", .type "str", false, rfl, .ty "str", .base .non, kit_ty (by decide +kernel), h⟩
  | bl b => exact ⟨_, _, .type "bool", .type "str", false, rfl, .ty "str", .base (.bl b), kit_ty (by decide +kernel), h⟩
  | int i => exact ⟨_, _, .type "int", .type "str", false, rfl, .ty "str", .base (.int i), kit_ty (by decide +kernel), h⟩
  | lst a xs e => exact ⟨_, _, .type "list", .type "str", false, rfl, .ty "str", .base (.lst e), kit_ty (by decide +kernel), h⟩
  | tup a xs e => exact ⟨_, _, .type "tuple", .type "str", false, rfl, .ty "str", .base (.tup e), kit_ty (by decide +kernel), h⟩
  | dK a xs e => exact ⟨_, _, .type "dict", .type "str", false, rfl, .ty "str", .base (.dK e), kit_ty (by decide +kernel), h⟩
theorem Thing.cases {H : Hp} {v : V} (t : Thing H v) : (∃ x, v = .str x ∧ x.length ≤ 100000 ∧ OkS x) ∨ ∀ f, evalV f v = false := by
  cases t with
  | str x h o => exact .inl ⟨x, rfl, h, o⟩
  | _ => exact .inr fun _ => rfl
/-- the promise of a def that tells whether its argument is such a text -/
def spWord (f : Str → Bool) : Sp := fun vs H Q _ => ∃ v, vs = [v] ∧ Thing H v ∧ ∀ H', Same H H' → Q (.bl (evalV f v)) H'

/-! ### the words, as functions of a text -/
def HEX : Str := "0123456789abcdef"
def LET : Str := "abcdefghijklmnopqrstuvwxyz"
def RSG : Str := "abcdefghijklmnopqrstuvwxyz0123456789-"
def SSG : Str := "abcdefghijklmnopqrstuvwxyz0123456789._-"
def sgn (c : Nat) : V := .str ⟨#[c]⟩
def hasOnly (x y : Str) : Bool := (TL.tl x).all fun c => decide (c ∈ TL.tl y)
def dots (x : Str) : Bool := !(Builtin.Str.occurrences x (".." : Str) 0 x.length 1).isEmpty
def isWordF (y x : Str) : Bool := decide (1 ≤ x.length) && (decide (x.length ≤ 12) && hasOnly x y)
def isSegF (x : Str) : Bool := isWordF SSG x && (!decide (x = ".") && !dots x)
def segs (x : Str) : List Str := Txt.split x "/"
def isIdF (x : Str) : Bool := decide (x.length = 16) && hasOnly x HEX
def isPathF (x : Str) : Bool := decide ((segs x).length ≤ 6) && (segs x).all isSegF
def mostF (x : Str) : Nat := if (segs x)[0]? = some ("far" : Str) then 7 else 5
def isRefF (x : Str) : Bool := decide ((segs x).length ≤ mostF x) && (segs x).all (isWordF RSG)
def plainC (c : Nat) : Bool := !decide ([c] < [32]) && !decide ([126] < [c])
def isTextF (x : Str) : Bool := decide (x.length ≤ 2000) && (TL.tl x).all fun c => decide (c = 10) || plainC c
end Fk
namespace Fk
open PySem PySem.Spec PyProof.Rows L2
theorem sql_fr {K : PySem.W.Frag} {a b : Addr} {H H' : Hp} {xs : List V} (h : SqL K H b xs) (n : b ≠ a) (f : Fr a H H') : SqL K H' b xs := by
  rcases h with (h | ⟨o, h⟩) | h
  · exact .inl (.inl (f _ _ n h))
  · exact .inl (.inr ⟨o, f _ _ n h⟩)
  · exact .inr h
/-- a well of numbers at a, from which c were drawn -/
def Wl (H : Hp) (a : Addr) (c : Int) : Prop := 0 ≤ c ∧ ∃ x y : Int, H a = some (.lst [.int x, .int y, .int c])
theorem Wl.same {H H' : Hp} {a : Addr} {c : Int} (h : Wl H a c) (f : Same H H') : Wl H' a c := by
  obtain ⟨h0, x, y, e⟩ := h
  exact ⟨h0, x, y, f _ _ e⟩
/-- behind at most d draws from the well at a -/
def Aft (a : Addr) (c d : Int) (H : Hp) (R : Hp → Prop) : Prop := ∀ H' c', Fr a H H' → Wl H' a c' → c ≤ c' → c' ≤ c + d → R H'
theorem join_signs : ∀ cs : List Nat, TL.tl (Txt.join ("" : Str) (cs.map fun c => (⟨#[c]⟩ : Str))) = cs := by
  intro cs
  rw [TL.join_eq, TL.tl_join]
  have e : TL.tl ("" : Str) = [] := by decide +kernel
  rw [e]
  induction cs with
  | nil => rfl
  | cons c r ih =>
    cases r with
    | nil => rfl
    | cons d r =>
      show [c] ++ [] ++ TL.joinL [] (((d :: r).map fun c => (⟨#[c]⟩ : Str)).map TL.tl) = _
      rw [ih]
      rfl
theorem signs_sum : ∀ cs : List Nat, ((cs.map fun c => (⟨#[c]⟩ : Str)).map (·.length)).sum = cs.length
  | [] => rfl
  | c :: r => by
    rw [List.map_cons, List.map_cons, List.sum_cons, signs_sum r, List.length_cons]
    show 1 + _ = _
    omega
theorem atI_int {α : Type} {xs : List α} {r : Int} (h0 : 0 ≤ r) (h1 : r < xs.length) : ∃ v, v ∈ xs ∧ xs[r.toNat]? = some v ∧ atI xs r = some v := by
  have h2 : r.toNat < xs.length := by omega
  have e : r = ((r.toNat : Nat) : Int) := by omega
  refine ⟨xs[r.toNat], List.getElem_mem h2, List.getElem?_eq_getElem h2, ?_⟩
  have q := atI_nat (List.getElem?_eq_getElem h2)
  rw [← e] at q
  exact q
theorem Wl.upd {H : Hp} {a : Addr} {x y c : Int} (h : 0 ≤ c) : Wl (upd H a (.lst [.int x, .int y, .int c])) a c := ⟨h, x, y, upd_same⟩
theorem Fr.fr_new {a p : Addr} {H H' : Hp} {o : HO} (x : Fr a H H') (h : H' p = none) : Fr a H (L2.upd H' p o) := x.trans (Fr.new h)
theorem Wl.new {H : Hp} {a p : Addr} {c : Int} {o : HO} (h : Wl H a c) (n : H p = none) : Wl (L2.upd H p o) a c := h.same (same_new n)
theorem Wl.mut {H : Hp} {a p : Addr} {c : Int} {o : HO} (h : Wl H a c) (n : p ≠ a) : Wl (L2.upd H p o) a c := by
  obtain ⟨h0, x, y, e⟩ := h
  exact ⟨h0, x, y, by rw [upd_ne n.symm]; exact e⟩
theorem Wl.ne {H : Hp} {a p : Addr} {c : Int} (h : Wl H a c) (n : H p = none) : p ≠ a := by
  obtain ⟨h0, x, y, e⟩ := h
  exact (ne_of_none e n).symm
theorem Aft.start {a : Addr} {c d : Int} {H : Hp} {R : Hp → Prop} (h : Aft a c d H R) (w : Wl H a c) (hd : 0 ≤ d) : R H := h H c (Fr.refl a H) w (Int.le_refl _) (by omega)
theorem Aft.more {a : Addr} {c c1 d d1 : Int} {H H1 : Hp} {R : Hp → Prop} (h : Aft a c d H R) (f : Fr a H H1) (h1 : c ≤ c1) (h2 : c1 + d1 ≤ c + d) : Aft a c1 d1 H1 R := fun H' c' f' w h3 h4 => h H' c' (f.trans f') w (by omega) (by omega)
theorem yes_ {σ : L2.St} {H : Hp} {A B : Hp → Prop} (h : A H) : tYes σ H (fun b H3 => if b = true then A H3 else B H3) := by
  show (if true = true then A H else B H)
  rw [if_pos rfl]
  exact h
end Fk

set_option maxHeartbeats 4000000
namespace Fk
open PySem PySem.Spec PyProof.Rows L2
/-! ### texts that are drawn: what holds of them -/
theorem tl_cut (z : Str) (lo hi : Option Int) : TL.tl (cutS z lo hi) = ((TL.tl z).drop (HT.sIx z.length 0 lo)).take (HT.sIx z.length z.length hi - HT.sIx z.length 0 lo) := rfl
theorem cut_to (z : Str) (n : Nat) : TL.tl (cutS z none (some (n : Int))) = (TL.tl z).take n := by
  rw [tl_cut, HT.sIx_none, HT.sIx_nat, List.drop_zero, Nat.sub_zero, TL.len_tl]
  rcases Nat.le_total n (TL.tl z).length with h | h
  · rw [Nat.min_eq_left h]
  · rw [Nat.min_eq_right h, List.take_length, List.take_of_length_le h]
theorem cut_from (z : Str) (n : Nat) : TL.tl (cutS z (some (n : Int)) none) = (TL.tl z).drop n := by
  rw [tl_cut, HT.sIx_none, HT.sIx_nat, TL.len_tl]
  rcases Nat.le_total n (TL.tl z).length with h | h
  · rw [Nat.min_eq_left h, List.take_of_length_le (by rw [List.length_drop]; omega)]
  · rw [Nat.min_eq_right h, List.drop_length, List.take_nil, List.drop_of_length_le h]
theorem cutS_le (z : Str) (lo hi : Option Int) : (cutS z lo hi).length ≤ z.length := cutS_length z lo hi
def LTS : Str := "abcdefghijklmnopqrstuvwxyz0123456789_-"
theorem dots_count {x : Str} (h : dots x = true) : 2 ≤ (TL.tl x).count 46 := by
  obtain ⟨i, _, h2⟩ := (StrLaws.found_iff x (".." : Str)).mp h
  rw [StrLaws.subAt_eq] at h2
  have e : ((TL.tl x).drop i).take 2 = [46, 46] := by
    have e1 := eq_of_beq h2
    have e2 : (".." : Str).length = 2 := by decide +kernel
    have e3 : (".." : Str).cps.toList = [46, 46] := by decide +kernel
    rw [e2, e3] at e1
    exact e1
  have s : List.Sublist [46, 46] (TL.tl x) := by
    rw [← e]
    exact (List.take_sublist _ _).trans (List.drop_sublist _ _)
  exact s.count_le 46
theorem has_only {x y : Str} (h : ∀ u ∈ TL.tl x, u ∈ TL.tl y) : hasOnly x y = true := by
  unfold hasOnly
  rw [List.all_eq_true]
  exact fun u hu => decide_eq_true (h u hu)
theorem dot_tl : TL.tl ("." : Str) = [46] := by decide +kernel
theorem seg_of {x : Str} (h : ∀ u ∈ TL.tl x, u ∈ TL.tl SSG) (h1 : 1 ≤ x.length) (h2 : x.length ≤ 12) (h3 : (TL.tl x).count 46 ≤ 1) (h4 : (TL.tl x).count 46 = 0 ∨ 2 ≤ x.length) : isSegF x = true := by
  unfold isSegF isWordF
  have d : dots x = false := Bool.eq_false_iff.mpr fun z => by
    have := dots_count z
    omega
  have n : ¬ x = "." := fun e => by
    have e1 : TL.tl x = [46] := by rw [e]; exact dot_tl
    rw [TL.len_tl, e1] at h4
    rcases h4 with h4 | h4
    · exact absurd h4 (by decide)
    · exact absurd h4 (by decide)
  rw [decide_eq_true h1, decide_eq_true h2, has_only h, decide_eq_false n, d]
  rfl
theorem lts_ssg : ∀ u ∈ TL.tl LTS, u ∈ TL.tl SSG := by decide +kernel
theorem lts_dot : 46 ∉ TL.tl LTS := by decide +kernel
theorem seg_plain {x : Str} (h : ∀ u ∈ TL.tl x, u ∈ TL.tl LTS) (h1 : 1 ≤ x.length) (h2 : x.length ≤ 12) : isSegF x = true := by
  have c0 : (TL.tl x).count 46 = 0 := List.count_eq_zero.mpr fun z => lts_dot (h _ z)
  exact seg_of (fun u hu => lts_ssg u (h u hu)) h1 h2 (by omega) (.inl c0)
theorem seg_dotted {x : Str} (n : Nat) (h : ∀ u ∈ TL.tl x, u ∈ TL.tl LTS) (h1 : 1 ≤ x.length) (h2 : x.length < 12) :
    isSegF ((cutS x none (some (n : Int)) ++ ("." : Str)) ++ cutS x (some (n : Int)) none) = true ∧ ((cutS x none (some (n : Int)) ++ ("." : Str)) ++ cutS x (some (n : Int)) none).length ≤ 12 := by
  have e : TL.tl ((cutS x none (some (n : Int)) ++ ("." : Str)) ++ cutS x (some (n : Int)) none) = ((TL.tl x).take n ++ [46]) ++ (TL.tl x).drop n := by
    rw [TL.tl_append, TL.tl_append, cut_to, cut_from, dot_tl]
  have c0 : (TL.tl x).count 46 = 0 := List.count_eq_zero.mpr fun z => lts_dot (h _ z)
  have len : (((TL.tl x).take n ++ [46]) ++ (TL.tl x).drop n).length = x.length + 1 := by
    have := congrArg List.length (List.take_append_drop n (TL.tl x))
    rw [List.length_append] at this
    rw [List.length_append, List.length_append, List.length_singleton, TL.len_tl]
    omega
  have cnt : (((TL.tl x).take n ++ [46]) ++ (TL.tl x).drop n).count 46 = 1 := by
    have := congrArg (List.count 46) (List.take_append_drop n (TL.tl x))
    rw [List.count_append, c0] at this
    rw [List.count_append, List.count_append]
    have : [46].count 46 = 1 := rfl
    omega
  refine ⟨seg_of (fun u hu => ?_) (by rw [TL.len_tl, e, len]; omega) (by rw [TL.len_tl, e, len]; omega) (by rw [e, cnt]; exact Nat.le_refl _) (.inr (by rw [TL.len_tl, e, len]; omega)), by rw [TL.len_tl, e, len]; omega⟩
  rw [e] at hu
  rcases List.mem_append.mp hu with hu | hu
  · rcases List.mem_append.mp hu with hu | hu
    · exact lts_ssg u (h u (List.mem_of_mem_take hu))
    · rw [List.mem_singleton.mp hu]
      decide +kernel
  · exact lts_ssg u (h u (List.mem_of_mem_drop hu))
theorem slash_tl : TL.tl ("/" : Str) = [47] := by decide +kernel
theorem seg_slash {x : Str} (h : isSegF x = true) : 47 ∉ TL.tl x := by
  unfold isSegF isWordF hasOnly at h
  simp only [Bool.and_eq_true] at h
  have h1 := h.1.2.2
  rw [List.all_eq_true] at h1
  intro z
  have h2 := of_decide_eq_true (h1 47 z)
  exact absurd h2 (by decide +kernel)
theorem seg_len {x : Str} (h : isSegF x = true) : x.length ≤ 12 := by
  unfold isSegF isWordF at h
  simp only [Bool.and_eq_true] at h
  exact of_decide_eq_true h.1.2.1
theorem path_of {ps : List Str} (h0 : ps ≠ []) (h1 : ps.length ≤ 6) (h : ∀ p ∈ ps, isSegF p = true) : isPathF (Txt.join "/" ps) = true := by
  unfold isPathF segs
  rw [TL.split_join (S := []) slash_tl (by decide +kernel) h0 fun p hp => seg_slash (h p hp), decide_eq_true h1, List.all_eq_true.mpr h]
  rfl
theorem join_len (y : Str) : ∀ ps : List Str, (∀ p ∈ ps, p.length ≤ 12) → (Txt.join y ps).length ≤ ps.length * (12 + y.length) := by
  intro ps h
  rw [TL.join_eq]
  refine Nat.le_trans (StrLaws.join_length_le y ps) ?_
  rw [Nat.mul_add]
  refine Nat.add_le_add_right ?_ _
  induction ps with
  | nil => exact Nat.le_refl _
  | cons p r ih =>
    rw [List.map_cons, List.sum_cons, List.length_cons, Nat.succ_mul]
    have := ih fun q hq => h q (List.mem_cons_of_mem _ hq)
    have := h p List.mem_cons_self
    omega
theorem sum_len : ∀ ps : List Str, (∀ p ∈ ps, p.length ≤ 12) → (ps.map (·.length)).sum ≤ ps.length * 12 := by
  intro ps h
  induction ps with
  | nil => exact Nat.le_refl _
  | cons p r ih =>
    rw [List.map_cons, List.sum_cons, List.length_cons, Nat.succ_mul]
    have := ih fun q hq => h q (List.mem_cons_of_mem _ hq)
    have := h p List.mem_cons_self
    omega
def ALL : Str := (" !\"#$&'()*+,-./0123456789:;<=>?@ABCDEFGHIJKLMNOPQRSTUVWXYZ[]^_`abcdefghijklmnopqrstuvwxyz{|}~" : Str) ++ ("\\" : Str) ++ ("\n" : Str)
theorem all_plain : ∀ u ∈ TL.tl ALL, (decide (u = 10) || plainC u) = true := by decide +kernel
theorem text_of {x : Str} (h : ∀ u ∈ TL.tl x, u ∈ TL.tl ALL) (h1 : x.length ≤ 2000) : isTextF x = true := by
  unfold isTextF
  rw [decide_eq_true h1, List.all_eq_true.mpr fun u hu => all_plain u (h u hu)]
  rfl
theorem id_of {x : Str} (h : ∀ u ∈ TL.tl x, u ∈ TL.tl HEX) (h1 : x.length = 16) : isIdF x = true := by
  unfold isIdF
  rw [decide_eq_true h1, has_only h]
  rfl
theorem filt_all {α : Type} (l : List α) : l.filter (fun _ => true) = l := List.filter_eq_self.mpr fun _ _ => rfl
theorem of_ev {f : Str → Bool} {x : Str} {b : Bool} {Q : VK} {H : Hp} (q : Q (.bl (evalV f (.str x))) H) (e : f x = b) : Q (.bl b) H := by
  rw [← e]
  exact q
theorem of_ev0 {f : Str → Bool} {v : V} {Q : VK} {H : Hp} (hn : ∀ f, evalV f v = false) (q : Q (.bl (evalV f v)) H) : Q (.bl false) H := by
  rw [← hn f]
  exact q
theorem segs_ne (x : Str) : segs x ≠ [] := by
  intro h
  have e := TL.split_spl x "/" (by decide +kernel) (TL.kind_ok (by decide +kernel))
  have h' : Txt.split x "/" = [] := h
  rw [h'] at e
  have e2 : ∀ l k acc, TL.spl (TL.tl "/") k acc l ≠ [] := by
    intro l
    induction l with
    | nil => intro k acc h; rw [TL.spl_nil] at h; cases h
    | cons c r ih =>
      intro k acc h
      cases k with
      | zero =>
        unfold TL.spl at h
        split at h
        · cases h
        · exact ih _ _ h
      | succ k => exact ih _ _ h
  exact e2 _ _ _ e.symm
theorem segs_len (x : Str) (h : x.length ≤ 100000) : (segs x).length ≤ 100001 ∧ ∀ y ∈ segs x, y.length ≤ 100000 := by
  have e := TL.split_spl x "/" (by decide +kernel) (TL.kind_ok (by decide +kernel))
  have e2 : ∀ l k acc, (TL.spl (TL.tl "/") k acc l).length ≤ l.length + 1 ∧ ∀ y ∈ TL.spl (TL.tl "/") k acc l, y.length ≤ acc.length + l.length := by
    intro l
    induction l with
    | nil => intro k acc; rw [TL.spl_nil]; exact ⟨Nat.le_refl _, fun y hy => by rw [List.mem_singleton.mp hy]; simp⟩
    | cons c r ih =>
      intro k acc
      cases k with
      | zero =>
        unfold TL.spl
        split
        · obtain ⟨i1, i2⟩ := ih ((TL.tl "/").length - 1) []
          refine ⟨by simp only [List.length_cons]; omega, fun y hy => ?_⟩
          rcases List.mem_cons.mp hy with rfl | hy
          · simp only [List.length_cons]; omega
          · have := i2 y hy
            simp only [List.length_cons, List.length_nil] at this ⊢
            omega
        · obtain ⟨i1, i2⟩ := ih 0 (acc ++ [c])
          refine ⟨by simp only [List.length_cons]; omega, fun y hy => ?_⟩
          have := i2 y hy
          simp only [List.length_cons, List.length_append, List.length_nil] at this ⊢
          omega
      | succ k =>
        obtain ⟨i1, i2⟩ := ih k acc
        unfold TL.spl
        refine ⟨by simp only [List.length_cons]; omega, fun y hy => ?_⟩
        have := i2 y hy
        simp only [List.length_cons] at this ⊢
        omega
  obtain ⟨i1, i2⟩ := e2 (TL.tl x) 0 []
  rw [← e] at i1 i2
  rw [List.length_map, ← TL.len_tl] at i1
  refine ⟨?_, fun y hy => ?_⟩
  · show (Txt.split x "/").length ≤ _
    omega
  · have := i2 (TL.tl y) (List.mem_map_of_mem hy)
    rw [← TL.len_tl, ← TL.len_tl] at this
    simp at this
    omega
theorem segs_ok (x : Str) (h : OkS x) : ∀ y ∈ segs x, OkS y := by
  have e := TL.split_spl x "/" (by decide +kernel) (TL.kind_ok (by decide +kernel))
  have e2 : ∀ l k acc, (∀ u ∈ l, u < 1114112) → (∀ u ∈ acc, u < 1114112) → ∀ y ∈ TL.spl (TL.tl "/") k acc l, ∀ u ∈ y, u < 1114112 := by
    intro l
    induction l with
    | nil =>
      intro k acc h1 h2 y hy
      rw [TL.spl_nil] at hy
      rw [List.mem_singleton.mp hy]
      exact h2
    | cons c r ih =>
      intro k acc h1 h2 y hy
      have h3 : ∀ u ∈ r, u < 1114112 := fun u hu => h1 u (List.mem_cons_of_mem _ hu)
      cases k with
      | zero =>
        unfold TL.spl at hy
        split at hy
        · rcases List.mem_cons.mp hy with rfl | hy
          · exact h2
          · exact ih _ _ h3 (fun u hu => (List.not_mem_nil hu).elim) y hy
        · refine ih _ _ h3 (fun u hu => ?_) y hy
          rcases List.mem_append.mp hu with hu | hu
          · exact h2 u hu
          · rw [List.mem_singleton.mp hu]
            exact h1 c List.mem_cons_self
      | succ k => exact ih _ _ h3 h2 y hy
  intro y hy
  have i2 := e2 (TL.tl x) 0 [] h (fun u hu => (List.not_mem_nil hu).elim) (TL.tl y)
  rw [← e] at i2
  exact i2 (List.mem_map_of_mem hy)
theorem dp_nil {K : PySem.W.Frag} {H : Hp} {p : Addr} (h : H p = some (.lst [])) : Dp K H (.ref p) (.list []) := .lst (SqL.of h) .nil
theorem dp_strs {K : PySem.W.Frag} {H : Hp} : ∀ ys : List Str, DpAll K H (ys.map V.str) (ys.map PyData.str)
  | [] => .nil
  | y :: r => .cons (.str y) (dp_strs r)
theorem strOk_of {x : Str} (h : OkS x) : PyData.strOk x = true := by
  unfold PyData.strOk
  rw [← Array.all_toList, List.all_eq_true]
  exact fun u hu => decide_eq_true (h u hu)
theorem lay_strs : ∀ ys : List Str, (∀ y ∈ ys, OkS y) → PyData.canLayAll0 (ys.map PyData.str) = true
  | [], _ => rfl
  | y :: r, h => by simp [PyData.canLayAll0, PyData.canLay0, lay_strs r fun z hz => h z (List.mem_cons_of_mem _ hz), strOk_of (h y List.mem_cons_self)]
theorem depth_strs : ∀ ys : List Str, PyData.depthAll (ys.map PyData.str) = 0
  | [] => rfl
  | _ :: r => by simp [PyData.depthAll, PyData.depth, depth_strs r]
theorem shaped_strs (ys : List Str) (h : ∀ y ∈ ys, OkS y) : SeqAt.shaped (.list (ys.map PyData.str)) = true := by
  simp [SeqAt.shaped, PyData.canLay0, PyData.depth, lay_strs ys h, depth_strs]
theorem shaped_nil : SeqAt.shaped (.list []) = true := shaped_strs [] fun _ h => (List.not_mem_nil h).elim
theorem eqv_nil (ys : List Str) : PyData.eqv (.list (ys.map PyData.str)) (.list []) = ys.isEmpty := by
  cases ys with
  | nil => simp [PyData.eqv, PyData.eqvAll]
  | cons y r => simp [PyData.eqv, PyData.eqvAll]
theorem ifF {c A B : Prop} [Decidable c] (h : ¬ c) (b : B) : if c then A else B := by
  rw [if_neg h]
  exact b
theorem ifT {c A B : Prop} [Decidable c] (h : c) (b : A) : if c then A else B := by
  rw [if_pos h]
  exact b
/-- a list of texts is asked for being empty -/
theorem ask_nil {K : PySem.W.Frag} {H' : Hp} {p q : Addr} {ys : List Str} {Q : VK} (ho : ∀ y ∈ ys, OkS y) (h : H' p = some (.lst (ys.map V.str))) (hq : H' q = some (.lst [])) (k : Q (.bl ys.isEmpty) H') : rEqD K (.ref p) (.ref q) H' Q :=
  ⟨_, _, .lst (SqL.of h) (dp_strs ys), dp_nil hq, shaped_strs ys ho, shaped_nil, by rw [eqv_nil]; exact k⟩
theorem filt_empty {α : Type} (l : List α) (p : α → Bool) : (l.filter fun u => !p u).isEmpty = l.all p := by
  induction l with
  | nil => rfl
  | cons a r ih =>
    rw [List.filter_cons, List.all_cons]
    cases h : p a with
    | true => simpa [h] using ih
    | false => simp [h]
theorem map_sgn (cs : List Nat) : cs.map sgn = (cs.map fun c => (⟨#[c]⟩ : Str)).map V.str := by
  rw [List.map_map]
  rfl
theorem ok_sgn {c : Nat} (h : c < 1114112) : OkS ⟨#[c]⟩ := fun u hu => by
  have e : u = c := List.mem_singleton.mp hu
  rw [e]
  exact h
theorem ok_sgns {x : Str} (h : OkS x) (p : Nat → Bool) : ∀ y ∈ ((TL.tl x).filter p).map fun c => (⟨#[c]⟩ : Str), OkS y := fun y hy => by
  obtain ⟨c, hc, rfl⟩ := List.mem_map.mp hy
  exact ok_sgn (h c ((List.mem_filter.mp hc).1))
end Fk
namespace Fk
open PySem PySem.Spec PyProof.Rows L2
theorem ok_app {x y : Str} (hx : OkS x) (hy : OkS y) : OkS (x ++ y) := fun u hu => by
  rw [TL.tl_append] at hu
  rcases List.mem_append.mp hu with hu | hu
  · exact hx u hu
  · exact hy u hu
theorem ok_cut {x : Str} (hx : OkS x) (lo hi : Option Int) : OkS (cutS x lo hi) := fun u hu => by
  rw [tl_cut] at hu
  exact hx u (List.mem_of_mem_drop (List.mem_of_mem_take hu))
theorem ok_rep {x : Str} (hx : OkS x) (n : Nat) : OkS (repS x n) := fun u hu => by
  rw [tl_rep] at hu
  obtain ⟨l, hl, hu⟩ := List.mem_flatten.mp hu
  rw [(List.mem_replicate.mp hl).2] at hu
  exact hx u hu
theorem ok_join {y : Str} (hy : OkS y) {ps : List Str} (h : ∀ p ∈ ps, OkS p) : OkS (Txt.join y ps) := fun u hu => by
  rw [TL.join_eq, TL.tl_join] at hu
  have e : ∀ ls : List (List Nat), (∀ l ∈ ls, ∀ u ∈ l, u < 1114112) → ∀ u ∈ TL.joinL (TL.tl y) ls, u < 1114112 := by
    intro ls
    induction ls with
    | nil => intro _ u hu; exact (List.not_mem_nil hu).elim
    | cons l r ih =>
      intro h u hu
      cases r with
      | nil => exact h l List.mem_cons_self u hu
      | cons m r =>
        have hu : u ∈ l ++ (TL.tl y ++ TL.joinL (TL.tl y) (m :: r)) := hu
        rcases List.mem_append.mp hu with hu | hu
        · exact h l List.mem_cons_self u hu
        · rcases List.mem_append.mp hu with hu | hu
          · exact hy u hu
          · exact ih (fun l hl => h l (List.mem_cons_of_mem _ hl)) u hu
  refine e _ (fun l hl => ?_) u hu
  obtain ⟨p, hp, rfl⟩ := List.mem_map.mp hl
  exact h p hp
theorem ok_by {x : Str} (h : (TL.tl x).all (fun u => decide (u < 1114112)) = true) : OkS x := fun u hu => of_decide_eq_true (List.all_eq_true.mp h u hu)
theorem ok_sub {x y : Str} (h : ∀ u ∈ TL.tl x, u ∈ TL.tl y) (hy : OkS y) : OkS x := fun u hu => hy u (h u hu)
theorem ok_hex : OkS HEX := ok_by (by decide +kernel)
theorem ok_ssg : OkS SSG := ok_by (by decide +kernel)
theorem ok_rsg : OkS RSG := ok_by (by decide +kernel)
theorem ok_let : OkS LET := ok_by (by decide +kernel)
theorem ok_all : OkS ALL := ok_by (by decide +kernel)
theorem ok_slash : OkS "/" := ok_by (by decide +kernel)
theorem only_sub {x y : Str} (h : hasOnly x y = true) : ∀ u ∈ TL.tl x, u ∈ TL.tl y := fun u hu => of_decide_eq_true (List.all_eq_true.mp h u hu)
theorem ok_seg {x : Str} (h : isSegF x = true) : OkS x := by
  unfold isSegF isWordF at h
  simp only [Bool.and_eq_true] at h
  exact ok_sub (only_sub h.1.2.2) ok_ssg
theorem word_of {x y : Str} (h : ∀ u ∈ TL.tl x, u ∈ TL.tl y) (h1 : 1 ≤ x.length) (h2 : x.length ≤ 12) : isWordF y x = true := by
  unfold isWordF
  rw [decide_eq_true h1, decide_eq_true h2, has_only h]
  rfl
theorem Same.of_fr {a : Addr} {H H1 H2 : Hp} (h : H a = none) (s : Same H H1) (f : Fr a H1 H2) : Same H H2 := fun b o e => f b o (ne_of_none e h) (s b o e)
theorem def_ne {K : PySem.W.Frag} {mg : Str → Option Value} {x y : Str} {st st' : Stmt} {f f' : Addr} {fd fd' : FuncData} (D : C8.Def K mg x st f fd) (D' : C8.Def K mg y st' f' fd') (h : x ≠ y) : f ≠ f' := by
  intro e
  subst e
  obtain ⟨oc, od, dV, kV, doc, pm, an, cdv, ct, osl, rfl, lk, _⟩ := D.fn.ex
  obtain ⟨oc', od', dV', kV', doc', pm', an', cdv', ct', osl', rfl, lk', _⟩ := D'.fn.ex
  rw [lk] at lk'
  have e1 := Option.some.inj lk'
  injection e1 with e1 e2 e3 e4
  injection e3 with e3
  exact h (congrArg FuncData.name e3)
end Fk
namespace Fk
open PySem PySem.Spec PyProof.Rows L2
theorem plain_lt {c : Nat} (h : (decide (c = 10) || plainC c) = true) : c < 1114112 := by
  rcases Bool.or_eq_true_iff.mp h with h | h
  · have := of_decide_eq_true h
    omega
  · unfold plainC at h
    have h2 := (Bool.and_eq_true_iff.mp h).2
    have h3 : ¬ ([126] < [c]) := fun z => by
      rw [decide_eq_true z] at h2
      exact absurd h2 (by decide)
    have h4 : ¬ 126 < c := fun z => h3 (List.Lex.rel z)
    omega
theorem ok_text {x : Str} (h : isTextF x = true) : OkS x := fun u hu => plain_lt (List.all_eq_true.mp (Bool.and_eq_true_iff.mp h).2 u hu)
end Fk

set_option maxHeartbeats 4000000
/-! strip(signs), isascii, replace, isprintable: what they say of the words; a def that begins with a token out. -/
namespace Fk
open PySem PySem.Spec PyProof.Rows L2
section
variable {X : Cx} {a b o : Expr} {rest : List Expr} {ta tb t to : TE} {pos : Pos}
theorem pet_one {op} (h : PET X a t) : PET X (.BoolOp op [a] pos) t := fun pins s σ H Q h0 I hw => BoolOp_one (h pins s σ H Q h0 I hw)
theorem pet_and (ha : PE X a ta) (hb : PET X (.BoolOp .And (b :: rest) pos) tb) : PET X (.BoolOp .And (a :: b :: rest) pos) (tAndV ta tb) := by
  intro pins s σ H Q h0 I h
  refine BoolOp_and (wpAny_mono (PySem.wpAny_toks (ha.run pins s σ H _ I h)) (fun v s1 q => ?_) fun _ _ z => z.2)
  obtain ⟨hk, x, H1, I1, r1, q1⟩ := q
  obtain ⟨c, rfl, q1⟩ := q1
  cases r1
  refine wpAny_truthy_bool ?_
  cases c with
  | true => exact hb pins s1 σ H1 Q (by omega) I1 q1
  | false => exact ⟨.bl false, H1, I1, rfl, q1⟩
theorem pet_bm0 {T id name : String} {apos cpos : Pos} {r : V → List V → Hp → VK → Prop} (pa : PlainAttrs T) (slot : Slot T name id) (hty : typeOf (.builtin id) = pure (.type "method_descriptor")) (hm : MtR X id r) (ho : PET X o to)
    (hbase : attributeBase o name X.env (eval o X.env) = eval o X.env := by rfl) (hline : (apos.endLine == cpos.line) = true := by rfl) : PET X (.Call (.Attribute o name apos) [] [] cpos) (tBM0 X.K T r to) := by
  intro pins s σ H Q h0 I h
  refine wpAny_Call_method0_late hbase hline (thn (ho pins s σ H _ h0 I h) fun v s1 ⟨x, H1, I1, r1, ty, q1⟩ => ?_)
  obtain ⟨h1, h2⟩ := tyV_is I1 r1 ty
  exact ⟨T, id, pa, slot, hty, h1, h2, Calls.callWith_builtin rfl (PySem.evalArgs_none (hm pins s1 σ H1 x [] v [] Q I1 r1 .nil q1))⟩
end
section
variable {P : Program} {w : World} {K : PySem.W.Frag} {mg : Str → Option Value} {base : Heap}
/-- a def whose parameters are no cells: a token is out when its body begins -/
theorem cal_ofT {x : Str} {st : Stmt} {N ps : List Str} {k : Nat} {sp : Sp} (D : IsDef K mg x st) (S : FnScope N ps (C8.fnScope st))
    (hnc : ∀ y ∈ (C8.fnScope st).names, y.2 ≠ .cell) (hps : 1 ≤ ps.length)
    (hb : ∀ (kV doc pm : Value) (an : Option Addr) (cdv ct : Value) (us : List Value), us.length = ps.length → bindArgs (PySem.W.fnOf x x (C8.fnArgs st) (C8.fnBody st) (C8.fnScope st) .none kV doc pm an cdv ct) ⟨us, []⟩ = pure (ps.zip us))
    (len : ∀ vs H Q E, sp vs H Q E → vs.length = ps.length)
    (hbody : ∀ (f : Addr) (cdv : Value) (A : Around) (outer : List Env) (s : Shared) (H : Hp) (vs : List V) (Q : VK) (E : XK), Room k (A.deeper (envOfC x (C8.fnScope st) s.heap.objs.size f cdv)) → sp vs H Q E →
      ∃ t, PSsT (cxOf C8.CX0 P w K mg base N x (C8.fnScope st) f cdv A outer s H E) (C8.fnBody st) t ∧ t { nx := fun _ H' => Q .non H', rt := Q } (start N vs) H) : C8.Cal P w K mg base (k + 1) x sp [] := by
  obtain ⟨f, fd, D, df⟩ := D
  obtain ⟨oc, od, dV, kV, doc, pm, an, cdv, ct, osl, rfl, lk, hcd⟩ := D.fn.ex
  have e : dV = .none := df
  subst e
  exact ⟨f, _, ps, [], fn_ofT lk hcd S hnc hps len (hbody f cdv), D.mgf, D.kp, .all (hb kV doc pm an cdv ct), .nil⟩
end

/-! ### what strip leaves -/
theorem tw_all {p : Nat → Bool} {l : List Nat} (h : ∀ c ∈ l, p c = true) : l.takeWhile p = l := by
  induction l with
  | nil => rfl
  | cons c r ih =>
    rw [List.takeWhile_cons, h c List.mem_cons_self, if_pos rfl, ih fun d hd => h d (List.mem_cons_of_mem _ hd)]
theorem tw_short {p : Nat → Bool} {l : List Nat} {c : Nat} (h : p c = false) : ((l ++ [c]).takeWhile p).length ≤ l.length := by
  induction l with
  | nil => simp [List.takeWhile_cons, h]
  | cons d r ih =>
    rw [List.cons_append, List.takeWhile_cons]
    cases hd : p d with
    | true => simpa using ih
    | false => simp
theorem dw_head {p : Nat → Bool} : ∀ {l : List Nat}, (∃ c ∈ l, p c = false) → ∃ c r, l.drop (l.takeWhile p).length = c :: r ∧ p c = false ∧ (l.takeWhile p).length + r.length + 1 = l.length
  | [], h => by
    obtain ⟨c, hc, _⟩ := h
    exact (List.not_mem_nil hc).elim
  | d :: r, h => by
    cases hd : p d with
    | false => exact ⟨d, r, by simp [List.takeWhile_cons, hd], hd, by simp [List.takeWhile_cons, hd]⟩
    | true =>
      have h' : ∃ c ∈ r, p c = false := by
        obtain ⟨c, hc, q⟩ := h
        rcases List.mem_cons.mp hc with rfl | hc
        · rw [hd] at q
          cases q
        · exact ⟨c, hc, q⟩
      obtain ⟨c, r', e1, e2, e3⟩ := dw_head h'
      refine ⟨c, r', ?_, e2, ?_⟩
      · rw [List.takeWhile_cons, hd, if_pos rfl, List.length_cons, List.drop_succ_cons, e1]
      · rw [List.takeWhile_cons, hd, if_pos rfl, List.length_cons, List.length_cons]
        omega
theorem strip_tl (g : Nat → Bool) (x : Str) : TL.tl (Txt.stripBy g true true x) = ((TL.tl x).drop ((TL.tl x).takeWhile g).length).take (x.length - (((TL.tl x).drop ((TL.tl x).takeWhile g).length).reverse.takeWhile g).length - ((TL.tl x).takeWhile g).length) := by
  rw [PySem.W.stripBy_eq]
  exact StrLaws.strSub_toList x _ _
theorem strip_none (x y : Str) : decide (V.str (Txt.stripChars x y) = V.str "") = hasOnly x y := by
  have e0 : TL.tl ("" : Str) = [] := by decide +kernel
  have hg : ∀ c, y.cps.contains c = decide (c ∈ TL.tl y) := fun c => by
    rw [Bool.eq_iff_iff]
    simp [TL.tl]
  have key : (Txt.stripChars x y = ("" : Str)) ↔ hasOnly x y = true := by
    have et := strip_tl (fun c => y.cps.contains c) x
    constructor
    · intro h
      refine Bool.not_eq_false _ ▸ fun hf => ?_
      have hx : ∃ c ∈ TL.tl x, y.cps.contains c = false := by
        refine Classical.byContradiction fun z => ?_
        have : hasOnly x y = true := by
          unfold hasOnly
          refine List.all_eq_true.mpr fun c hc => ?_
          rw [← hg]
          cases q : y.cps.contains c with
          | true => rfl
          | false => exact absurd ⟨c, hc, q⟩ z
        rw [this] at hf
        cases hf
      obtain ⟨c, r, e1, e2, e3⟩ := dw_head (p := fun c => y.cps.contains c) hx
      have h' : Txt.stripBy (fun c => y.cps.contains c) true true x = ("" : Str) := h
      rw [h', e0, e1] at et
      have hs := tw_short (p := fun c => y.cps.contains c) (l := r.reverse) e2
      rw [List.length_reverse, ← List.reverse_cons] at hs
      rw [← TL.len_tl] at e3
      have hp : ∃ m, x.length - (((c :: r).reverse.takeWhile fun c => y.cps.contains c)).length - ((TL.tl x).takeWhile fun c => y.cps.contains c).length = m + 1 := ⟨x.length - (((c :: r).reverse.takeWhile fun c => y.cps.contains c)).length - ((TL.tl x).takeWhile fun c => y.cps.contains c).length - 1, by omega⟩
      obtain ⟨m, hm⟩ := hp
      rw [hm, List.take_succ_cons] at et
      cases et
    · intro h
      have hx : ∀ c ∈ TL.tl x, y.cps.contains c = true := fun c hc => by
        rw [hg]
        unfold hasOnly at h
        exact List.all_eq_true.mp h c hc
      apply TL.ext_tl
      rw [e0]
      refine Eq.trans et ?_
      rw [tw_all hx, List.drop_length, List.take_nil]
  rw [Bool.eq_iff_iff, decide_eq_true_iff, ← key]
  exact ⟨fun h => V.str.inj h, fun h => by rw [h]⟩

/-! ### texts of plain signs -/
theorem plain_of {c : Nat} (h : c < 128) : plainC c = Unicode.isPrintable c := by
  have : ∀ c < 128, plainC c = Unicode.isPrintable c := by decide +kernel
  exact this c h
theorem plain_far {c : Nat} (h : ¬ c < 128) : plainC c = false := by
  have h2 : [126] < [c] := List.Lex.rel (by omega)
  unfold plainC
  rw [decide_eq_true h2]
  simp
theorem repl_one (k : Nat) : ∀ l : List Nat, StrLaws.replL [k] [] l = l.filter fun c => !decide (c = k)
  | [] => by rw [StrLaws.replL_nil]; rfl
  | c :: r => by
    by_cases h : c = k
    · rw [StrLaws.replL_hit (by simp) (by simp [h])]
      rw [List.filter_cons, h]
      simp [repl_one k r]
    · rw [StrLaws.replL_miss (by simp [h]), repl_one k r, List.filter_cons]
      simp [h]
def plainT (x : Str) : Bool := Txt.isascii x && Txt.isprintable (Txt.replace x "\n" "")
theorem plain_text (x : Str) : plainT x = (TL.tl x).all fun c => decide (c = 10) || plainC c := by
  have e10 : ("\n" : Str).cps.toList = [10] := by decide +kernel
  have e00 : ("" : Str).cps.toList = [] := by decide +kernel
  have hr : (Txt.replace x "\n" "").cps.toList = (TL.tl x).filter fun c => !decide (c = 10) := by
    rw [StrLaws.replace_list (by decide +kernel), e10, e00, repl_one]
  unfold plainT Txt.isascii Txt.isprintable
  rw [← Array.all_toList, ← Array.all_toList, hr]
  show ((TL.tl x).all _ && _) = _
  induction TL.tl x with
  | nil => rfl
  | cons c r ih =>
    rw [List.all_cons, List.all_cons, ← ih, List.filter_cons]
    by_cases h1 : c < 128
    · rw [plain_of h1]
      by_cases h2 : c = 10
      · simp [h1, h2]
      · simp [h1, h2]
        cases Unicode.isPrintable c <;> simp
    · rw [plain_far h1]
      have h2 : ¬ c = 10 := by omega
      simp [h1, h2]
end Fk

set_option maxHeartbeats 4000000
/-! An error of an own class as a value: made with keywords or without, its base any whose making is the plain one. -/
namespace Fk
open PySem PySem.Spec L2
open Builtin
section
variable {prog : Program} {w : World} {A : Around} {R : Result → Shared → Prop} {h : Heap} {g : Array GenState} {d : Drawn} {t : Nat} {os : OsState}
variable {nm q : Str} {C N : Addr} {bs bm bmB : List Value} {hdct : Bool} {sn : List Str} {sub : List Value} {ab : Bool} {col : Option Bool} {dd : Option Addr} {k0 k1 k2 k3 k5 : Option Value} {B newId initId : String} {kws : List (Str × Value)}
/-- what the class's own list of bases must say -/
structure BmOk (B : String) (bm : List Value) : Prop where
  b : bm.contains (.type B) = true
  a : bm.contains (.type "AttributeError") = false
  n : bm.contains (.type "NameError") = false
theorem BmOk.b' (o : BmOk B bm) : (Value.ref C :: bm).contains (.type B) = true := by
  have := o.b
  simp only [List.contains_cons, this, Bool.or_true]
theorem BmOk.a' (o : BmOk B bm) : (Value.ref C :: bm).contains (.type "AttributeError") = false := by
  have := o.a
  rw [List.contains_cons, this] <;> rfl
theorem BmOk.n' (o : BmOk B bm) : (Value.ref C :: bm).contains (.type "NameError") = false := by
  have := o.n
  rw [List.contains_cons, this] <;> rfl
theorem xcheck_new (F : ExcBaseFacts B newId initId bmB) (o : BmOk B bm) {rest : List Value} {M : Model} {E : Value → Shared → Prop} {Q : Unit → Shared → Prop} (hC : h.get? C = some (excClassObj nm q C N bs bm hdct sn sub ab col dd k0 k1 k2 k3 k5 newId))
    (hq : Q () ⟨h, g, d, t, os⟩) : wpAny M A (checkBuiltinCall newId ⟨.ref C :: rest, kws⟩) Q E ⟨h, g, d, t, os⟩ := by
  have z1 := o.b' (C := C)
  have z2 := F.noStar
  simp only [checkBuiltinCall, F.newKind, F.newSplit, F.newRow]
  repeat (first
    | refine wpAny_loadPart_at hC ?_
    | (refine wpAny_isSubtype_exc hC ?_; rw [z1])
    | refine wpAny_staticBase_exc hC ?_
    | refine wpAny_madeBy_exc hC ?_
    | simp only [bne_self_eq_false, Bool.false_eq_true, if_false]
    | wp_step)
  exact hq
theorem xnew (F : ExcBaseFacts B newId initId bmB) (o : BmOk B bm) {rest : List Value} (hC : h.get? C = some (excClassObj nm q C N bs bm hdct sn sub ab col dd k0 k1 k2 k3 k5 newId)) (hrest : rest.length ≤ sizeLine)
    (hq : R (.ok (.ret (.ref (h.objs.size + 1)))) ⟨(h.push (W.kdv_tup rest)).push (PySem.HandSPX.excO C h.objs.size), g, d, t, os⟩) :
    codeAny (model prog w) A (.builtin newId ⟨.ref C :: rest, kws⟩) R ⟨h, g, d, t, os⟩ := by
  have z0 := F.ends
  have z1 := o.b' (C := C)
  have z2 := o.a' (C := C)
  have z3 := o.n' (C := C)
  refine codeAny_builtinAt F.entry ?_
  unfold Builtin.«BaseException.__new__»
  refine wpAt_bind ?_
  show wpAt _ _ _ (stack >>= _) _ _ _
  refine wpAt_bind (wpAt_stack fun p below => wpAt_of_wpAny ?_)
  wp_walk
  refine wpAt_of_wpAny ?_
  rw [F.owner]
  repeat (first
    | with_reducible refine wpAny_madeHere_exc F.canon hC ?_
    | with_reducible refine wpAny_loadPart_at hC ?_
    | (with_reducible refine wpAny_isSubtype_exc hC ?_; first | rw [z1] | rw [z2] | rw [z3])
    | wp_step)
  show R _ _
  rw [Heap.size_push]
  exact hq
theorem xtype_call (F : ExcBaseFacts B newId initId bmB) (o : BmOk B bm) {rest : List Value} {fI : Addr} {Q : Fin → Shared → Prop} {E : Value → Shared → Prop} (hC : h.get? C = some (excClassObj nm q C N bs bm hdct sn sub ab col dd k0 k1 k2 k3 k5 newId))
    (hi : W.Looks (model prog w) h (typeLookup (.ref C) "__init__") (some (.ref fI))) (hb : ∀ self, W.Looks (model prog w) h (bindSpecial (.ref fI) self) (.ref fI, [self])) (hrest : rest.length ≤ sizeLine)
    (hq : codeAny (model prog w) A (.call (.ref fI) ⟨.ref (h.objs.size + 1) :: rest, kws⟩) (fun r s' => match r with | .ok (.ret v) => v = .none ∧ Q (.done (.ret (.ref (h.objs.size + 1)))) s' | .ok _ => False | .error e => E e s')
      ⟨(h.push (W.kdv_tup rest)).push (PySem.HandSPX.excO C h.objs.size), g, d, t, os⟩) :
    wpAny (model prog w) A (Builtin.«type.__call__» ⟨.ref C :: rest, kws⟩) Q E ⟨h, g, d, t, os⟩ := by
  repeat (first
    | with_reducible refine wpAny_loadPart_at hC ?_
    | with_reducible refine wpAny_madeBy_exc hC ?_
    | wp_step)
  refine codeAny_call_builtin_code (Code.quiet_builtin _ F.quiet) (xcheck_new F o hC ?_)
  refine xnew F o hC hrest ?_
  show wpAny _ _ _ _ _ _
  have kk : ∀ b u, h.get? b = some u → ((h.push (W.kdv_tup rest)).push (PySem.HandSPX.excO C h.objs.size)).get? b = some u := fun b u e => Heap.get?_push_of_some _ (Heap.get?_push_of_some _ e)
  have c1 := kk _ _ hC
  have gt : ((h.push (W.kdv_tup rest)).push (PySem.HandSPX.excO C h.objs.size)).get? (h.objs.size + 1) = some (PySem.HandSPX.excO C h.objs.size) := by heap_get
  have zC : (Value.ref C :: bm).contains (.ref C) = true := by
    rw [List.contains_cons, beq_self_eq_true, Bool.true_or]
  have j1 := hi.keeps kk
  have j2 := (hb (.ref (h.objs.size + 1))).keeps kk
  unfold isInstance
  repeat (first
    | with_reducible refine wpAny_loadPart_at gt ?_
    | (with_reducible refine wpAny_isSubtype_exc c1 ?_; rw [zC])
    | wp_step)
  show wpAny _ _ (typeLookup (.ref C) _) _ _ _
  refine j1.at (wpAny_holding (wpAny_bind (j2.at (wpAny_bind (wpAny_call (codeAny_mono hq fun r s' z => ?_))))))
  rcases r with e | (v | _ | _ | _) <;> first | exact z | exact z.elim | skip
  obtain ⟨rfl, z⟩ := z
  first
    | exact wpAny_pure (wpAny_pure z)
    | (wp_walk; exact z)

theorem xcall (F : ExcBaseFacts B newId initId bmB) (o : BmOk B bm) {rest : List Value} {fI : Addr} (hC : h.get? C = some (excClassObj nm q C N bs bm hdct sn sub ab col dd k0 k1 k2 k3 k5 newId))
    (hi : W.Looks (model prog w) h (typeLookup (.ref C) "__init__") (some (.ref fI))) (hb : ∀ self, W.Looks (model prog w) h (bindSpecial (.ref fI) self) (.ref fI, [self])) (hrest : rest.length ≤ sizeLine)
    (hq : codeAny (model prog w) (A.under (.builtin "type.__call__" ⟨.ref C :: rest, kws⟩)) (.call (.ref fI) ⟨.ref (h.objs.size + 1) :: rest, kws⟩) (W.InitBack (h.objs.size + 1) R) ⟨(h.push (W.kdv_tup rest)).push (PySem.HandSPX.excO C h.objs.size), g, d, t, os⟩) :
    codeAny (model prog w) A (.call (.ref C) ⟨rest, kws⟩) R ⟨h, g, d, t, os⟩ := by
  have z1 := tc_lookup
  have z2 := tc_bind (.ref C)
  have zT : (⟨h, g, d, t, os⟩ : Shared).TypeIs (.ref C) "type" := ⟨_, hC, rfl⟩
  refine codeAny_of_tree ?_
  show wpAny _ _ (callAny (.ref C) _) _ _ _
  repeat (any_goals (first
    | assumption
    | with_reducible refine wpAny_loadPart_at hC ?_
    | wp_step))
  refine ⟨rfl, codeAny_call_builtin_at (Code.quiet_builtin _ (by decide +kernel)) entry_typeCall (wpAny_check_type_call_sub hC (xtype_call F o hC hi hb hrest (codeAny_mono hq fun r s' z => ?_)))⟩
  rcases r with e | (v | _ | _ | _) <;> exact z

open Builtin.ObjectAttr in
theorem xosa {K : W.Frag} {name : Str} {tk : Tok} {v : Value} {x C : Addr} {fv : Array Value} {cd : ClassData} (XK : K.In h) (hx : h.get? x = some { cls := .ref C, data := .fields fv }) (hcd : W.clsIn K C = some cd) (hne : cd.mro.isEmpty = false)
    (hob : cd.mro.contains (.type "object") = true) (hps : refuseLoop (.ref x) "__setattr__" cd.mro = pure ()) (hh : cd.hasDict = true) (ha : W.findIn K (.ref C) name = some none)
    (hq : ∀ h' tk' dx, (∀ b u, b ≠ x → h.get? b = some u → h'.get? b = some u) → h.objs.size ≤ dx → dx ≠ x → h'.get? x = some { cls := .ref C, dict := some dx, data := .fields fv } → h'.Ns1 dx (fun y => if y = name then some v else none) → R (.ok (.ret .none)) ⟨h', g, d, tk', os⟩) :
    codeAny (model prog w) A (.call (.builtin "object.__setattr__") ⟨[.ref x, .str name tk, v], []⟩) R ⟨h, g, d, t, os⟩ := by
  have iT : W.InstAt h x { cls := .ref C, data := .fields fv } C none := ⟨hx, rfl, rfl, trivial⟩
  have sF := PySem.F.store_object
  have nx : x ≠ h.objs.size := Nat.ne_of_lt (Heap.lt_size hx)
  have isO : W.Looks (model prog w) h (isInstance (.ref x) (.type "object")) true := by
    refine iT.type.andThen (W.looks_mroIn XK ?_)
    unfold W.mroIn
    rw [hcd, Option.bind_some, if_neg (by rw [hne]; decide), hob]
  refine codeAny_call_builtin sF.slot.plain sF.entry (@W.check_slot (model prog w) _ _ ⟨h, g, d, t, os⟩ "object.__setattr__" "object" "__setattr__" (.ref x)
    [.str name tk, v] [] _ sF.kind sF.split isO (sF.args (.ref x) (.str name tk) v) ?_)
  have y1 : W.Looks (model prog w) h (mroOf (.ref C)) cd.mro := (W.looks_clsIn XK hcd).andThen .now
  have y2 : W.Looks (model prog w) h (storeTaker? none) none := .now
  have y3 : W.Looks (model prog w) h (classData C) cd := W.looks_clsIn XK hcd
  rw [W.osa_eq, refuse_eq]
  refine wpAny_bind (wpAny_bind (iT.type.at (wpAny_bind (y1.at ?_))))
  rw [hps]
  refine wpAny_pure (wpAny_bind (iT.type.at (wpAny_bind ((W.looks_findIn XK ha).at (wpAny_bind (y2.at ?_))))))
  show wpAny _ _ (storeInOwnDict (.ref x) (.ref C) (.str name tk) name v false) _ _ _
  obtain ⟨z1, z2, z3, z4, z5, hd, z6, z7, z8, z9, z10⟩ := cd
  dsimp only at hh
  subst hh
  unfold storeInOwnDict ownDictForStores
  repeat (first
    | with_reducible refine PySem.HandSPX.store_in_new ?_ ?_
    | with_reducible refine wpAny_loadPart_at hx ?_
    | with_reducible refine y3.at ?_
    | wp_step)
  · exact ⟨_, #[], _, (Heap.get?_update_ne _ _ _ _ nx.symm).trans (Heap.get?_push_at rfl rfl), rfl, fun e he => absurd he (by simp), fun _ => rfl⟩
  · intro h' tk' hn' hs
    have hx' : (h.push { cls := .type "dict", data := .dict #[] }).get? x = some { cls := .ref C, data := .fields fv } := Heap.get?_push_of_some _ hx
    refine hq h' tk' h.objs.size (fun b u hb hu => ?_) (Nat.le_refl _) nx.symm ?_ hn'
    · exact (hs.2 b (Nat.ne_of_lt (Heap.lt_size hu))).trans ((Heap.get?_update_ne _ _ _ _ hb).trans (Heap.get?_push_of_some _ hu))
    · exact (hs.2 x nx).trans (Heap.get?_update_self _ hx' rfl)
end
end Fk

set_option maxHeartbeats 4000000
namespace Fk
open PySem PySem.Spec L2
/-- what the written part says of an error's class, whose __init__ stands at fI -/
structure XC (K : PySem.W.Frag) (C fI : Addr) : Prop where
  cls : ∃ (B newId initId : String) (bmB : List Value) (nm q : Str) (N : Addr) (bs bm : List Value) (sn : List Str) (sub : List Value) (ab : Bool) (col : Option Bool) (dd : Option Addr) (k0 k1 k2 k3 k5 : Option Value),
    ExcBaseFacts B newId initId bmB ∧ BmOk B bm ∧ (∀ self, refuseLoop self "__setattr__" bm = pure ()) ∧ bm.contains (.type "object") = true ∧ K.lookup C = some (excClassObj nm q C N bs bm true sn sub ab col dd k0 k1 k2 k3 k5 newId)
  sa : PySem.W.findIn K (.ref C) "__setattr__" = some (some (.builtin "object.__setattr__"))
  kC : PySem.W.keepIn K (.ref C) = true
  iC : PySem.W.findIn K (.ref C) "__init__" = some (some (.ref fI))
  tI : PySem.W.typeIn K (.ref fI) = some (.type "function")
  ga : PySem.W.findIn K (.ref C) "__getattribute__" = some (some (.builtin "BaseException.__getattribute__"))
  gg : PySem.W.findIn K (.ref C) "__getattr__" = some none
  su : PySem.W.subIn K (.ref C) (.type "BaseException") = some true
  hd : PySem.W.hasDictIn K C = true
  ha : PySem.W.findIn K (.ref C) "__class__" = some (some (.builtin "object.__class__"))
  hn : PySem.W.specialIn K (.builtin "object.__class__") "__get__" = some (some (.builtin "getset_descriptor.__get__"))
  ht : PySem.W.takesIn K (.builtin "object.__class__") = some true
  hm : PySem.W.mroIn K C (.type "object") = some true
section
variable {X : Cx} {CX : CXT} {k : Nat} {fI C : Addr} {fd : FuncData} {ps : List Str} {sp : Sp}
theorem run_mkv {pins : List (Addr × Obj)} {σ : L2.St} {H : Hp} {s : Shared} {Q : VK} {us vals : List Value} {kz : List (Str × Value)} {vvs : List V} (T : XC X.K C fI) (F1 : FnOk X.prog X.w X.K X.mg X.base CX k fI fd ps sp) (hr : Room (k + 1) X.A)
    (hx : Passes CX X (fun _ _ _ => False)) (I : Inv X pins σ H s) (rv : Vals vvs vals) (hus : us.length ≤ 1000) (hbind : ∀ (s' : Shared) (self : Value), X.K.In s'.heap → BindsTo s' fd ⟨self :: us, kz⟩ (ps.zip (self :: vals)))
    (h : ∀ a, H a = none → sp (.ref a :: vvs) (upd H a (exo a C none)) (fun v H2 => v = .non ∧ Q (.ref a) H2) (fun _ _ _ => False)) :
    wpAny (model X.prog X.w) X.A (call (.ref C) us kz) (EP X pins σ Q) X.xe s := by
  obtain ⟨B, newId, initId, bmB, nm, q, N, bs, bm, sn, sub, ab, col, dd, k0, k1, k2, k3, k5, FB, ok, _, _, hC⟩ := T.cls
  obtain ⟨hp, g, dr, tk, os⟩ := s
  have hsz : hp.objs.size ≤ hp.objs.size + 1 := Nat.le_succ _
  have hq := h (hp.objs.size + 1) (I.hok.fresh hsz)
  have gt : ((hp.push (PySem.W.kdv_tup us)).push (PySem.HandSPX.excO C hp.objs.size)).get? (hp.objs.size + 1) = some (PySem.HandSPX.excO C hp.objs.size) := by heap_get
  have I2 : Inv X pins σ (upd H (hp.objs.size + 1) (exo (hp.objs.size + 1) C none)) ⟨(hp.push (PySem.W.kdv_tup us)).push (PySem.HandSPX.excO C hp.objs.size), g, dr, tk, os⟩ :=
    I.laid (t' := tk) (a := hp.objs.size + 1) (o := exo (hp.objs.size + 1) C none) (fun b u e => Heap.get?_push_of_some _ (Heap.get?_push_of_some _ e)) hsz (exo_ok gt)
  have r2 : Vals (V.ref (hp.objs.size + 1) :: vvs) (Value.ref (hp.objs.size + 1) :: vals) := .cons rfl rv
  have hz : us.length ≤ sizeLine := Nat.le_trans hus (by decide)
  refine wpAny_call (xcall FB ok (I.kIn _ _ hC) (PySem.W.looks_findIn I.kIn T.iC) (fun self => PySem.W.bind_fn I.kIn self T.tI) hz
    (codeAny_mono (F1.run _ X.stack _ _ ⟨Value.ref (hp.objs.size + 1) :: us, kz⟩ _ _ _ (fun _ _ _ => False) (hr.make C us kz) (I2.env0.make C us kz) (hbind _ _ I2.kIn) r2 hq) fun r s' z => ?_))
  cases r with
  | error e => exact hx pins σ _ _ e s' I2 z
  | ok fl =>
    cases fl with
    | ret u =>
      obtain ⟨v, H', I3, rv', ev, q3⟩ := I2.after z
      subst ev
      exact ⟨rv', ⟨V.ref (hp.objs.size + 1), H', I3, rfl, q3⟩⟩
    | next => exact z.elim
    | brk => exact z.elim
    | cont => exact z.elim
variable {x : Str} {p p' pos : Pos} {e o : Expr} {es : List Expr} {kws : List Keyword} {t tk : TA} {ds : List Value} {dvs : List V} {ks : List Str} {te to : TE} {f : Str}
/-- C(e, ..) as a value: an error's object stands at a, then __init__ -/
def tMkV (C : Addr) (sp : Sp) (dvs : List V) (t : TA) : TE := fun σ H Q => t σ H fun vs H1 => vs.length ≤ 1000 ∧ ∀ a, H1 a = none → sp (.ref a :: (vs ++ dvs)) (upd H1 a (exo a C none)) (fun v H2 => v = .non ∧ Q (.ref a) H2) (fun _ _ _ => False)
theorem pe_mkv (T : XC X.K C fI) (F1 : FnOk X.prog X.w X.K X.mg X.base CX k fI fd ps sp) (hr : Room (k + 1) X.A) (hb : Binds X.K fd ps ds) (hd : Vals dvs ds) (hx : Passes CX X (fun _ _ _ => False)) (hg : Gl X x) (hm : X.mg x = some (.ref C)) (ha : PA X (e :: es) t)
    (hdb : (x == ("__debug__" : Str)) = false := by decide) (he : starEach (e :: es) X.env = (false, eval e X.env) :: starEach es X.env := by rfl) (hpl : (backTo pos (starEach es X.env)).any (·.1) = false := by rfl) :
    PE X (.Call (.Name x p) (e :: es) [] pos) (tMkV C sp dvs t) := by
  refine ⟨fun pins s σ H Q I h => ?_⟩
  refine wpAny_Call_Name_kw (ld_glob I hg hm ?_ hdb)
  refine PySem.W.callWith_K (h₀ := X.base) I.ok.mod.kin T.kC (thn (ha.run pos pins s σ H _ I h) fun us s1 ⟨vs, H1, I1, r1, hz, q1⟩ => ⟨I1.kIn, ?_⟩) he hpl
  have q0 := q1 _ (I1.hok.fresh (Nat.le_refl _))
  have l0 := F1.len _ _ _ _ q0
  have l1 := (r1.append hd).length
  rw [List.length_cons] at l0
  exact run_mkv (us := us) (kz := []) T F1 hr hx I1 (r1.append hd) (by rw [← r1.length]; exact hz) (fun s' self X1 => hb s' (self :: us) X1 (by rw [List.cons_append, List.length_cons, ← l1]; exact l0)) q1
theorem pe_mkv0 (T : XC X.K C fI) (F1 : FnOk X.prog X.w X.K X.mg X.base CX k fI fd ps sp) (hr : Room (k + 1) X.A) (hb : Binds X.K fd ps ds) (hd : Vals dvs ds) (hx : Passes CX X (fun _ _ _ => False)) (hg : Gl X x) (hm : X.mg x = some (.ref C))
    (hdb : (x == ("__debug__" : Str)) = false := by decide) : PE X (.Call (.Name x p) [] [] pos) (tMkV C sp dvs tNil) := by
  refine ⟨fun pins s σ H Q I h => ?_⟩
  obtain ⟨_, q1⟩ := h
  refine wpAny_Call_Name_kw (ld_glob I hg hm ?_ hdb)
  refine PySem.W.callWith_K0 I.kIn T.kC ?_
  have q0 := q1 _ (I.hok.fresh (Nat.le_refl _))
  have l0 := F1.len _ _ _ _ q0
  rw [List.length_cons] at l0
  exact run_mkv (us := []) (kz := []) T F1 hr hx I hd (Nat.zero_le _) (fun s' self X1 => hb s' [self] X1 (by rw [List.singleton_append, List.length_cons, ← hd.length]; exact l0)) q1
/-- C(k = e, ..) as a value -/
def tMkVK (C : Addr) (n : Nat) (sp : Sp) (t : TA) : TE := fun σ H Q => t σ H fun zs H1 => zs.length = n ∧ ∀ a, H1 a = none → sp (.ref a :: zs) (upd H1 a (exo a C none)) (fun v H2 => v = .non ∧ Q (.ref a) H2) (fun _ _ _ => False)
theorem pe_mkvK (T : XC X.K C fI) (F1 : FnOk X.prog X.w X.K X.mg X.base CX k fI fd ps sp) (hr : Room (k + 1) X.A) (hb : ∀ (s : Shared) (self : Value) (ws : List Value), X.K.In s.heap → ws.length = ks.length → BindsTo s fd ⟨[self], ks.zip ws⟩ (ps.zip (self :: ws))) (hx : Passes CX X (fun _ _ _ => False))
    (hg : Gl X x) (hm : X.mg x = some (.ref C)) (hkw : PK X kws tk) (hall : (backToKw pos (keywordEach kws X.env)).all (·.1.isSome) = true := by rfl) (hks : (backToKw pos (keywordEach kws X.env)).filterMap (·.1) = ks := by rfl) (hdb : (x == ("__debug__" : Str)) = false := by decide)
    (hpl : ((backTo pos (starEach [] X.env)).any (·.1) || (backToKw pos (keywordEach kws X.env)).any (·.1.isNone)) = false := by rfl) : PE X (.Call (.Name x p) [] kws pos) (tMkVK C ks.length sp tk) := by
  refine ⟨fun pins s σ H Q I h => ?_⟩
  refine wpAny_Call_Name_kw (ld_glob I hg hm ?_ hdb)
  refine PySem.W.callWith_KW0 (h₀ := X.base) I.ok.mod.kin T.kC hall ?_ hpl
  refine thn (hkw.run pos pins s σ H _ I h) fun ws s2 ⟨zs, H2, I2, rz, l2, q2⟩ => ⟨I2.kIn, ?_⟩
  rw [hks]
  exact run_mkv (us := []) T F1 hr hx I2 rz (Nat.zero_le _) (fun s' self X1 => hb s' self ws X1 (by rw [← rz.length]; exact l2)) q2

theorem inst_v {H : Hp} {h : Heap} {P : Program} {w : World} {a d : Addr} {fs : List (Str × V)} (hok : HOk P w H h) (ea : H a = some (exo a C (some d))) (ed : H d = some (exd d fs)) :
    ∃ (ox od : Obj) (mA : Str → Option Value), PySem.W.InstAt h a ox C (some od) ∧ h.get? d = some od ∧ h.Ns1 d mA ∧ ∀ g, RelO (fs.lookup g) (mA g) := by
  obtain ⟨t1, ho⟩ := exo_at hok ea
  obtain ⟨mA, hns, rel⟩ := exd_at hok ed
  obtain ⟨od, es', ep, h1, h2, h3⟩ := id hns
  exact ⟨_, od, mA, ⟨ho, rfl, rfl, h1⟩, h1, hns, rel⟩
/-- e.f, e an error's value -/
def tFv (K : PySem.W.Frag) (f : Str) (te : TE) : TE := fun σ H Q => te σ H fun x H1 => ∃ (a C fI d : Addr) (fs : List (Str × V)) (v : V), x = .ref a ∧ XC K C fI ∧ PySem.W.findIn K (.ref C) f = some none ∧ H1 a = some (exo a C (some d)) ∧ H1 d = some (exd d fs) ∧ fs.lookup f = some v ∧ Q v H1
theorem pe_fv (he : PE X e te) (hb : attributeBase e f X.env (eval e X.env) = eval e X.env := by rfl) : PE X (.Attribute e f pos) (tFv X.K f te) := by
  refine ⟨fun pins s σ H Q I h => ?_⟩
  refine attr_of hb (thn (he.run pins s σ H _ I h) fun u s1 hh => ?_)
  obtain ⟨x, H1, I1, rx, a, C, fI, d, fs, v, ex, T, hno, ea, ed, l, q⟩ := hh
  subst ex
  obtain rfl : u = Value.ref a := rx
  obtain ⟨ox, od, mA, J, hod, hns, rel⟩ := inst_v I1.hok ea ed
  obtain ⟨od', ho', hl'⟩ := lookIn_ns hns
  rw [hod] at ho'
  cases ho'
  obtain ⟨u, hu, ru⟩ := RelO.some_of (v := v) (o := mA f) (by rw [← l]; exact rel f)
  exact PySem.HandSPX.exc_get I1.kIn J T.ga T.gg T.su (PySem.W.findObj_own T.hd hno rfl (by rw [hl', hu])) (handed_of ru) ⟨v, H1, I1.tok _, ru, q⟩
theorem kit_v {K : PySem.W.Frag} {a : Addr} {od : Option Obj} {ox : Obj} (T : XC K C fI) : PySem.W.KitX K (.ref a) (.ref C) (fun h => PySem.W.InstAt h a ox C od) := by
  refine PySem.W.kitx_exc ?_ T.ga T.gg T.su T.ha T.hn T.ht T.hm
  obtain ⟨B, newId, initId, bmB, nm, q, N, bs, bm, sn, sub, ab, col, dd, k0, k1, k2, k3, k5, FB, ok, _, _, hC⟩ := T.cls
  unfold PySem.W.clsIn
  rw [hC]
  rfl
/-- isinstance(e, c), e an error's value -/
def rIsV (K : PySem.W.Frag) : List V → Hp → VK → Prop := fun xs H Q => ∃ (a C fI d : Addr) (fs : List (Str × V)) (c : V) (u : Value) (b : Bool), xs = [.ref a, c] ∧ ClsV c u ∧ XC K C fI ∧ H a = some (exo a C (some d)) ∧ H d = some (exd d fs) ∧ PySem.W.kitOne K (.ref C) u = some b ∧ Q (.bl b) H
theorem call_isv : CallR X (.builtin "isinstance") (rIsV X.K) := by
  intro pins s σ H xs us Q I r h
  obtain ⟨a, C, fI, d, fs, c, u, b, rfl, kc, T, ea, ed, e, q⟩ := h
  obtain ⟨u1, u2, rfl, r1, r2⟩ := vals2 r
  have e2 := kc.eq r2
  subst e2
  obtain rfl : u1 = Value.ref a := r1
  obtain ⟨ox, od, mA, J, hod, hns, rel⟩ := inst_v I.hok ea ed
  exact PySem.W.kia_one (kit_v T) I.kIn J e (fun z => nomatch z) fun tk => ⟨.bl b, H, I.tok tk, rfl, q⟩
/-- isinstance(e, (c, ..)), e the error that the suite holds -/
def rIsS (K : PySem.W.Frag) (a : Addr) (cls : Value) (d : Option Addr) : List V → Hp → VK → Prop := fun xs H Q => ∃ (C fI tp dd : Addr) (fs : List (Str × V)) (cs : List V) (us : List Value) (b : Bool), xs = [.ref a, .ref tp] ∧ cls = .ref C ∧ d = some dd ∧ XC K C fI ∧ H dd = some (.xd fs) ∧
  H tp = some (.tup cs) ∧ Paired ClsV cs us ∧ PySem.W.kitAny K (.ref C) us = some b ∧ Q (.bl b) H
theorem call_isS {a : Addr} {oe : Obj} {cls : Value} {d : Option Addr} {pn : List (Addr × Obj)} (hz : Zc cls d oe) (hf : ∃ vs, oe.data = .fields vs) : CallR (X.suite a ((a, oe) :: pn)) (.builtin "isinstance") (rIsS X.K a cls d) := by
  intro pins s σ H xs us Q I r h
  obtain ⟨C, fI, tp, dd, fs, cs, ws, b, rfl, rfl, rfl, T, ed, hT, kc, e, q⟩ := h
  obtain ⟨u1, u2, rfl, r1, r2⟩ := vals2 r
  obtain rfl : u1 = Value.ref a := r1
  cases (show u2 = Value.ref tp from r2)
  obtain ⟨hget, _⟩ := I.pin (a, oe) (List.mem_append_left _ List.mem_cons_self)
  obtain ⟨vs, hv⟩ := hf
  obtain ⟨mA, hns, rel⟩ := (show ObjOk X.prog X.w H s.heap dd (.xd fs) from I.hok dd _ ed)
  obtain ⟨od, ho, hl⟩ := lookIn_ns hns
  have J : PySem.W.InstAt s.heap a oe C (some od) := ⟨hget, hz.1, by unfold PySem.W.notCls; rw [hv] <;> rfl, by rw [hz.2]; exact ho⟩
  obtain ⟨_, its, rv, o, h1, h2, n, h3⟩ := (show ObjOk X.prog X.w H s.heap tp (.tup cs) from I.hok tp _ hT)
  have e3 := ClsV.all kc rv
  subst e3
  obtain ⟨oc, od', dt, sl⟩ := o
  simp only at h2 h3
  subst h2 h3
  exact PySem.W.kia_tup (kit_v T) I.kIn J h1 e (fun z => nomatch z) fun tk => ⟨.bl b, H, I.tok tk, rfl, q⟩
theorem xost {pins : List (Addr × Obj)} {σ : L2.St} {H : Hp} {s : Shared} {a : Addr} {y : V} {u : Value} {Q : Unit → Shared → Prop} {E : Value → Shared → Prop} {A : Around} (T : XC X.K C fI) (I : Inv X pins σ H s) (ea : H a = some (exo a C none))
    (hno : PySem.W.findIn X.K (.ref C) f = some none) (ry : RelV y u)
    (h : ∀ dx s', H dx = none → dx ≠ a → Inv X pins σ (upd (upd H dx (exd dx [(f, y)])) a (exo a C (some dx))) s' → Q () s') : wpAny (model X.prog X.w) A (setAttr (.ref a) f u) Q E s := by
  obtain ⟨B, newId, initId, bmB, nm, q, N, bs, bm, sn, sub, ab, col, dd, k0, k1, k2, k3, k5, FB, ok, hps, hob, hC⟩ := T.cls
  have hcl : PySem.W.clsIn X.K C = some { name := nm, bases := bs, mro := .ref C :: bm, ns := N, qualname := q, hasDict := true, slotNames := sn, subclasses := sub, abstract := ab, collection := col, hasDel := false } := by
    unfold PySem.W.clsIn
    rw [hC]
  obtain ⟨t1, ho⟩ := exo_at I.hok ea
  obtain ⟨hp, g, d, t, os⟩ := s
  refine PySem.W.set_plain I.kIn (ox := { cls := .ref C, dict := none, data := .fields #[.ref t1, .none, .none, .none, .bool false, .none] }) (od := none) ⟨ho, rfl, rfl, trivial⟩ T.sa ?_
  refine xosa I.kIn ho hcl rfl (by rw [List.contains_cons, hob, Bool.or_true]) (by rw [refuseLoop_ref]; exact hps _) rfl hno (fun h' tk' dx kp dn dne hx hn => ?_)
  have zd : H dx = none := I.hok.fresh dn
  have nd : ∀ {b : Addr} {o : Obj}, hp.get? b = some o → b ≠ dx := fun {b o} w => Nat.ne_of_lt (Nat.lt_of_lt_of_le (Heap.lt_size w) dn)
  have na : ∀ {b : Addr}, H b = none → b ≠ a := fun {b} n z => by
    rw [z, ea] at n
    cases n
  have U : Un X.fs [] H (upd (upd H dx (exd dx [(f, y)])) a (exo a C (some dx))) hp h' := by
    refine ⟨fun b o w n _ _ => kp b o (na n) w, fun b o w n _ _ => ⟨o.slots, kp b o (na n) w⟩, fun b o w n _ => ?_, fun b o w _ => ?_, fun b xs w => ?_, fun b o v w => ?_, fun b ps w => ⟨#[], ?_⟩⟩
    · rw [upd_ne (na n), upd_ne (nd w)]
      exact n
    · by_cases hb : b = a
      · rw [hb]
        exact ⟨_, hx⟩
      · exact ⟨o, kp b o hb w⟩
    · rw [upd_ne (at_ne ea w exo_tup), upd_ne (ne_of_none w zd)]
      exact w
    · rw [upd_ne (at_ne ea w exo_frz), upd_ne (ne_of_none w zd)]
      exact w
    · rw [upd_ne (at_ne ea w exo_tbl), upd_ne (ne_of_none w zd), w]
      simp
  refine h dx _ zd dne (I.un (t' := tk') U fun b o w => ?_)
  by_cases hb : b = a
  · rw [hb, upd_same] at w
    cases w
    rw [hb]
    exact exo_ok hx
  rw [upd_ne hb] at w
  by_cases hd : b = dx
  · rw [hd, upd_same] at w
    cases w
    rw [hd]
    exact exd_ok hn (relO_put (fs := []) ry fun g => True.intro)
  rw [upd_ne hd] at w
  refine (I.hok b o w).stay (fun c v hc z => kp c v ?_ z) (fun c hc => ?_) (fun c xs hc => ?_)
  · rcases hc with hc | hc
    · rw [hc]
      exact hb
    · exact at_ne ea hc exo_own
  · rw [upd_ne (at_ne ea hc exo_own), upd_ne (ne_of_none hc zd)]
    exact hc
  · rw [upd_ne (at_ne ea hc exo_tup), upd_ne (ne_of_none hc zd)]
    exact hc
/-- self.f = e, self an error that has no field yet -/
def tOsv (K : PySem.W.Frag) (f : Str) (to te : TE) : TS := fun D σ H => te σ H fun y H1 => to σ H1 fun x H2 => ∃ a C fI : Addr, x = .ref a ∧ XC K C fI ∧ PySem.W.findIn K (.ref C) f = some none ∧ H2 a = some (exo a C none) ∧
  ∀ dx, H2 dx = none → dx ≠ a → D.nx σ (upd (upd H2 dx (exd dx [(f, y)])) a (exo a C (some dx)))
theorem ps_osv (ho : PE X o to) (he : PE X e te) (hs : swapsWith e (some (.Attribute o f p')) pos.line X.env = pure false := by rfl) : PS X (.Assign [.Attribute o f p'] e pos) (tOsv X.K f to te) := by
  refine ⟨fun pins s σ H D I h => ?_⟩
  refine plainObj_wpAny_Assign_Attribute (thn (he.run pins s σ H _ I h) fun v s1 ⟨y, H1, I1, r1, q1⟩ => thn (ho.run pins s1 σ H1 _ I1 q1) fun u s2 ⟨x, H2, I2, r2, a, C, fI, ex, T, hno, ea, q⟩ => ?_) hs
  subst ex
  obtain rfl : u = Value.ref a := r2
  exact xost T I2 ea hno r1 fun dx s' n ne J => ⟨σ, _, J, q dx n ne⟩
end
end Fk

set_option maxHeartbeats 4000000
/-! What is known of an error's class by its entry in the written part. -/
namespace Fk
open PySem PySem.Spec L2
def VE : List Value := [.type "ValueError", .type "Exception", .type "BaseException", .type "object"]
def KE : List Value := [.type "KeyError", .type "LookupError", .type "Exception", .type "BaseException", .type "object"]
structure CF (K : PySem.W.Frag) (nm : Str) (newId : String) (bm : List Value) (C : Addr) : Prop where
  x : ∃ (q : Str) (N : Addr) (bs : List Value) (sn : List Str) (sub : List Value) (ab : Bool) (col : Option Bool) (dd : Option Addr) (k0 k1 k2 k3 k5 : Option Value), K.lookup C = some (excClassObj nm q C N bs bm true sn sub ab col dd k0 k1 k2 k3 k5 newId)
section
variable {K : PySem.W.Frag} {nm nm' : Str} {newId newId' : String} {bm bm' : List Value} {C C' : Addr}
theorem CF.sub (c : CF K nm newId bm C) (u : Value) : PySem.W.subIn K (.ref C) u = some ((Value.ref C :: bm).contains u) := by
  obtain ⟨q, N, bs, sn, sub, ab, col, dd, k0, k1, k2, k3, k5, e⟩ := c.x
  show PySem.W.mroIn K C u = _
  unfold PySem.W.mroIn PySem.W.clsIn
  rw [e]
  rfl
theorem CF.mro (c : CF K nm newId bm C) (u : Value) : PySem.W.mroIn K C u = some ((Value.ref C :: bm).contains u) := c.sub u
theorem CF.typ (c : CF K nm newId bm C) : PySem.W.typeIn K (.ref C) = some (.type "type") := by
  obtain ⟨q, N, bs, sn, sub, ab, col, dd, k0, k1, k2, k3, k5, e⟩ := c.x
  show (K.lookup C).map (·.cls) = _
  rw [e]
  rfl
theorem CF.hd (c : CF K nm newId bm C) : PySem.W.hasDictIn K C = true := by
  obtain ⟨q, N, bs, sn, sub, ab, col, dd, k0, k1, k2, k3, k5, e⟩ := c.x
  unfold PySem.W.hasDictIn PySem.W.clsIn
  rw [e]
  rfl
theorem CF.isc (c : CF K nm newId bm C) : (PySem.W.clsIn K C).isSome = true := by
  obtain ⟨q, N, bs, sn, sub, ab, col, dd, k0, k1, k2, k3, k5, e⟩ := c.x
  unfold PySem.W.clsIn
  rw [e]
  rfl
theorem CF.kit (c : CF K nm newId bm C) (c' : CF K nm' newId' bm' C') : PySem.W.kitOne K (.ref C) (.ref C') = some ((Value.ref C :: bm).contains (.ref C')) := by
  unfold PySem.W.kitOne
  by_cases h : C = C'
  · subst h
    have e : (Value.ref C == .ref C) = true := beq_self_eq_true _
    rw [if_pos e, List.contains_cons, e, Bool.true_or]
  · have e : ¬ (Value.ref C == .ref C') = true := fun z => by
      have := eq_of_beq z
      cases this
      exact h rfl
    have t : ((PySem.W.clsIn K C').isSome && PySem.W.typeIn K (.ref C') == some (.type "type")) = true := by
      rw [c'.isc, c'.typ] <;> rfl
    rw [if_neg e]
    show (if ((PySem.W.clsIn K C').isSome && PySem.W.typeIn K (.ref C') == some (.type "type")) = true then PySem.W.subIn K (.ref C) (.ref C') else none) = _
    rw [if_pos t]
    exact c.sub _
theorem CF.kitT (c : CF K nm newId bm C) {n : String} (h : PySem.W.kitMeta n = true) : PySem.W.kitOne K (.ref C) (.type n) = some ((Value.ref C :: bm).contains (.type n)) := by
  unfold PySem.W.kitOne
  have e : ¬ (Value.ref C == .type n) = true := fun z => by
    have := eq_of_beq z
    cases this
  rw [if_neg e]
  show (if PySem.W.kitMeta n = true then PySem.W.subIn K (.ref C) (.type n) else none) = _
  rw [if_pos h]
  exact c.sub _
theorem CF.name (c : CF K nm newId bm C) (c' : CF K nm' newId' bm' C) : nm = nm' := by
  obtain ⟨q, N, bs, sn, sub, ab, col, dd, k0, k1, k2, k3, k5, e⟩ := c.x
  obtain ⟨q', N', bs', sn', sub', ab', col', dd', k0', k1', k2', k3', k5', e'⟩ := c'.x
  rw [e] at e'
  have z := Option.some.inj e'
  injection z with z1 z2 z3 z4
  injection z3 with z5
  injection z5
theorem CF.oex (c : CF K nm "ValueError.__new__" bm C) (h : PySem.HandSPX.refsVE bm = true) (sa : PySem.W.findIn K (.ref C) "__setattr__" = some (some (.builtin "object.__setattr__"))) (kC : PySem.W.keepIn K (.ref C) = true) (hb : bm.contains (.type "BaseException") = true) : OexC K C := by
  obtain ⟨q, N, bs, sn, sub, ab, col, dd, k0, k1, k2, k3, k5, e⟩ := id c.x
  refine { cls := ⟨nm, q, N, bs, bm, sn, sub, ab, col, dd, k0, k1, k2, k3, k5, e, h⟩, sa := sa, exC := ?_, tyC := c.typ, kC := kC }
  rw [c.sub, List.contains_cons, hb, Bool.or_true]
theorem CF.exm (c : CF K nm newId bm C) (c' : CF K nm' newId' bm' C') (hb : bm'.contains (.type "BaseException") = true) {b : Bool} (e : (Value.ref C :: bm).contains (.ref C') = b) : PySem.W.exmOne K (.ref C) (.ref C') = some b := by
  refine PySem.W.exm_ref ?_ c'.hd c'.typ ((c.sub _).trans (congrArg some e))
  rw [c'.sub, List.contains_cons, hb, Bool.or_true]
theorem CF.xc (c : CF K nm newId bm C) {B initId : String} {bmB : List Value} {fI : Addr} (FB : ExcBaseFacts B newId initId bmB) (ok : BmOk B bm) (ps : ∀ self, refuseLoop self "__setattr__" bm = pure ()) (ob : bm.contains (.type "object") = true) (hb : bm.contains (.type "BaseException") = true)
    (sa : PySem.W.findIn K (.ref C) "__setattr__" = some (some (.builtin "object.__setattr__"))) (kC : PySem.W.keepIn K (.ref C) = true) (iC : PySem.W.findIn K (.ref C) "__init__" = some (some (.ref fI))) (tI : PySem.W.typeIn K (.ref fI) = some (.type "function"))
    (ga : PySem.W.findIn K (.ref C) "__getattribute__" = some (some (.builtin "BaseException.__getattribute__"))) (gg : PySem.W.findIn K (.ref C) "__getattr__" = some none) (ha : PySem.W.findIn K (.ref C) "__class__" = some (some (.builtin "object.__class__")))
    (hn : PySem.W.specialIn K (.builtin "object.__class__") "__get__" = some (some (.builtin "getset_descriptor.__get__"))) (ht : PySem.W.takesIn K (.builtin "object.__class__") = some true) : XC K C fI := by
  obtain ⟨q, N, bs, sn, sub, ab, col, dd, k0, k1, k2, k3, k5, e⟩ := id c.x
  refine { cls := ⟨B, newId, initId, bmB, nm, q, N, bs, bm, sn, sub, ab, col, dd, k0, k1, k2, k3, k5, FB, ok, ps, ob, e⟩, sa := sa, kC := kC, iC := iC, tI := tI, ga := ga, gg := gg, su := ?_, hd := c.hd, ha := ha, hn := hn, ht := ht, hm := ?_ }
  · rw [c.sub, List.contains_cons, hb, Bool.or_true]
  · rw [c.mro, List.contains_cons, ob, Bool.or_true]
end
theorem ve_ok : BmOk "ValueError" VE := ⟨by decide +kernel, by decide +kernel, by decide +kernel⟩
theorem ke_ok : BmOk "LookupError" KE := ⟨by decide +kernel, by decide +kernel, by decide +kernel⟩
theorem rve_ok (c : Addr) : BmOk "ValueError" (.ref c :: VE) := ⟨ve_ok.b', ve_ok.a', ve_ok.n'⟩
theorem ve_pass (self : Value) : refuseLoop self "__setattr__" VE = pure () := PySem.F.store_ValueError.passes self
theorem rve_pass (c : Addr) (self : Value) : refuseLoop self "__setattr__" (.ref c :: VE) = pure () := by
  rw [refuseLoop_ref]
  exact ve_pass self
theorem ke_pass (self : Value) : refuseLoop self "__setattr__" KE = pure () := by
  kernel_rfl
end Fk

set_option maxHeartbeats 4000000
/-! Operators of an own class: ==, !=, +, unary -. -/
namespace Fk
open PySem PySem.Spec PyProof.Rows L2
/-- nothing is let out where E0 is asked -/
def NoEx (CX : CXT) : Prop := ∀ outer H s u s', CX outer H s C8.E0 u s' → False
theorem noEx0 : NoEx C8.CX0 := fun _ _ _ _ _ h => h
theorem noExL {P : Program} {w : World} : NoEx (L2.CX P w) := fun outer H s u s' h => by
  obtain ⟨_, _, _, _, _, _, _, _, _, _, _, _, e⟩ := h
  exact e
/-- a method of an own class -/
structure OwnM (P : Program) (w : World) (K : PySem.W.Frag) (mg : Str → Option Value) (base : Heap) (CX : CXT) (k : Nat) (C : Addr) (m : Str) (sp : Sp) : Prop where
  ex : ∃ (f : Addr) (fd : FuncData) (ps : List Str), PySem.W.findIn K (.ref C) m = some (some (.ref f)) ∧ PySem.W.isFn K (.ref f) = true ∧ FnOk P w K mg base CX k f fd ps sp ∧ Binds K fd ps []
section
variable {X : Cx} {CX : CXT} {k : Nat} {C a dx : Addr} {sp : Sp} {fs : List (Str × V)} {y : V} {u tb : Value} {pins : List (Addr × Obj)} {σ : L2.St} {H : Hp} {s : Shared} {Q : VK}
/-- a def runs, somewhere below the body; it lets nothing out -/
theorem run_in {f : Addr} {fd : FuncData} {ps : List Str} {us : List Value} {vs : List V} {E' : Value → Shared → Prop} {A : Around} (F : FnOk X.prog X.w X.K X.mg X.base CX k f fd ps sp) (hr : Room k A) (hA : Env0 X.prog X.w X.K X.mg X.base A X.stack s H) (hb : Binds X.K fd ps []) (hx : NoEx CX)
    (I : Inv X pins σ H s) (r : Vals vs us) (h : sp vs H Q C8.E0) : wpAny (model X.prog X.w) A (call (.ref f) us) (EP X pins σ Q) E' s := by
  have hl : us.length = ps.length := by
    rw [← r.length]
    exact F.len _ _ _ _ h
  have b := hb s us I.kIn (by rw [List.append_nil]; exact hl)
  rw [List.append_nil] at b
  refine wpAny_call (codeAny_mono (F.run A X.stack s H ⟨us, []⟩ us vs Q C8.E0 hr hA b r h) fun r s' hq => ?_)
  cases r with
  | error e => exact (hx _ _ _ _ _ hq).elim
  | ok fl =>
    cases fl with
    | ret u => exact I.after hq
    | next => exact hq.elim
    | brk => exact hq.elim
    | cont => exact hq.elim
/-- x == y, x an own object -/
def rOwnEq (K : PySem.W.Frag) (C : Addr) (sp : Sp) : R2 := fun x y H Q => ∃ (a dx : Addr) (fs : List (Str × V)) (tb : Value), x = .ref a ∧ H a = some (.ins C dx fs) ∧ TyX K H y tb ∧ PySem.W.notFirst K C tb = true ∧ sp [x, y] H (fun v H' => ∃ b, v = .bl b ∧ Q (.bl b) H') C8.E0
theorem op_ownEq (M : OwnM X.prog X.w X.K X.mg X.base CX k C "__eq__" sp) (hr : Room k X.A) (hx : NoEx CX) : OpR X (compareOp .Eq) (rOwnEq X.K C sp) := by
  intro pins s σ H x y v u Q I rx ry h
  obtain ⟨a, dx, fs, tb, rfl, ha, ty, hn, q⟩ := h
  obtain ⟨f, fd, ps, hs, hf, F, hb⟩ := M.ex
  cases (show v = Value.ref a from rx)
  obtain ⟨mA, J, _⟩ := ins_get I.hok ha
  obtain ⟨od, J, _⟩ := J.look
  obtain ⟨m, hF⟩ := I.fr
  obtain ⟨P', Z, p, _⟩ := kit_of I ry ty
  show wpAny (model X.prog X.w) X.A (richCompare .Eq (.ref a) u) (EP X pins σ Q) X.xe s
  refine PySem.W.cmp_K (op := .Eq) hr.units0 hF I.ok.mod.kin J (Z.ty _ _ I.kIn p) hn hs hf (wpAny_mono (run_in F hr I.env0 hb hx I (show Vals [V.ref a, y] [Value.ref a, u] from .cons rfl (.cons ry .nil)) q) (fun v s' z => ?_) fun _ _ x => x)
  obtain ⟨x, H', I', rv, b, rfl, q'⟩ := z
  cases (show v = Value.bool b from rv)
  exact ⟨.bl b, H', I', rfl, q'⟩
/-- x != y by object.__ne__, which asks x's own == -/
def rOwnNe (K : PySem.W.Frag) (C : Addr) (sp : Sp) : R2 := fun x y H Q => ∃ (a dx : Addr) (fs : List (Str × V)) (tb : Value), x = .ref a ∧ H a = some (.ins C dx fs) ∧ TyX K H y tb ∧ PySem.W.notFirst K C tb = true ∧ sp [x, y] H (fun v H' => ∃ b, v = .bl b ∧ Q (.bl (!b)) H') C8.E0
theorem op_ownNe (M : OwnM X.prog X.w X.K X.mg X.base CX k C "__eq__" sp) (hr : Room (k + 1) X.A) (hx : NoEx CX) (hne : PySem.W.findIn X.K (.ref C) "__ne__" = some (some (.builtin "object.__ne__"))) (hob : PySem.W.mroIn X.K C (.type "object") = some true) :
    OpR X (compareOp .NotEq) (rOwnNe X.K C sp) := by
  intro pins s σ H x y v u Q I rx ry h
  obtain ⟨a, dx, fs, tb, rfl, ha, ty, hn, q⟩ := h
  obtain ⟨f, fd, ps, hs, hf, F, hb⟩ := M.ex
  cases (show v = Value.ref a from rx)
  obtain ⟨mA, J, _⟩ := ins_get I.hok ha
  obtain ⟨od, J, _⟩ := J.look
  obtain ⟨P', Z, p, _⟩ := kit_of I ry ty
  have hbT := Z.ty (model X.prog X.w) s.heap I.kIn p
  have X0 := I.kIn
  have one : wpAny (model X.prog X.w) X.A (tryCompare (.ref a) "__ne__" u) (fun r s' => ∃ v, r = some v ∧ EP X pins σ Q v s') X.xe s := by
    unfold tryCompare
    have sp : PySem.W.Looks (model X.prog X.w) s.heap (specialOf (.ref a) "__ne__") (some (.builtin "object.__ne__")) := J.type.andThen (PySem.W.looks_findIn X0 hne)
    have iv : PySem.W.Looks (model X.prog X.w) s.heap (isInstance (.ref a) (.type "object")) true := J.type.andThen (PySem.W.looks_mroIn X0 hob)
    refine wpAny_bind (NtL.csib (E := X.xe) sp (PySem.F.cmp_object.ne.bind _) ?_)
    refine wpAny_call (codeAny_call_builtin PySem.F.cmp_object.ne.plain PySem.F.cmpEntry_ne (PySem.W.check_slot PySem.F.cmpKind_ne PySem.F.cmpSplit_ne iv (PySem.F.cmpArgs_ne _ _) ?_))
    have hu : X.A.in1.units < cLine := hr.in1.units0
    unfold Builtin.«object.__ne__»
    repeat (first
      | with_reducible refine wpAny_cRoomFor hu ?_
      | (refine wpAny_bind (m := callSpecialIfBound? (.ref a) (Str.ofString "__eq__") [u]) (PySem.W.ifBound_K X0 J hs hf (wpAny_mono (run_in (E' := fun _ _ => False) F hr.in1 I.env0.in1 hb hx I (show Vals [V.ref a, y] [Value.ref a, u] from .cons rfl (.cons ry .nil)) q) (fun v s' z => ?_) fun _ _ x => x.elim)))
      | wp_step)
    obtain ⟨x, H', I', rv, b, rfl, q'⟩ := z
    cases (show v = Value.bool b from rv)
    show wpAny _ _ (truthy (.bool b) >>= _) _ _ _
    refine wpAny_bind (wpAny_truthy_bool ?_)
    exact wpAny_pure (wpAny_pure ⟨_, rfl, .bl (!b), H', I', rfl, q'⟩)
  show wpAny (model X.prog X.w) X.A (richCompare .NotEq (.ref a) u) (EP X pins σ Q) X.xe s
  unfold richCompare
  simp only [oneThing_ref]
  refine wpAny_holding (wpAny_bind (wpAny_cRoomFor hr.units0 ?_))
  refine wpAny_bind (J.type.here (wpAny_bind (hbT.here ?_)))
  split
  · rename_i z
    have e : PySem.W.subIn X.K tb (.ref C) = some false := by
      rcases Bool.or_eq_true_iff.mp hn with e | e
      · rw [beq_iff_eq.mp e] at z
        simp at z
      · exact beq_iff_eq.mp e
    refine wpAny_bind ((PySem.W.looks_subIn X0 e).here ?_)
    simp only [Bool.false_eq_true, if_false]
    refine wpAny_bind (wpAny_mono one (fun r s' z => ?_) fun _ _ e => e)
    obtain ⟨v, rfl, hq⟩ := z
    exact wpAny_pure hq
  · refine wpAny_bind (wpAny_pure ?_)
    simp only [Bool.false_eq_true, if_false]
    refine wpAny_bind (wpAny_mono one (fun r s' z => ?_) fun _ _ e => e)
    obtain ⟨v, rfl, hq⟩ := z
    exact wpAny_pure hq
/-- -x -/
def rOwnNeg (C : Addr) (sp : Sp) : V → Hp → VK → Prop := fun x H Q => ∃ (a dx : Addr) (fs : List (Str × V)), x = .ref a ∧ H a = some (.ins C dx fs) ∧ sp [x] H Q C8.E0
theorem un_ownNeg (M : OwnM X.prog X.w X.K X.mg X.base CX k C "__neg__" sp) (hr : Room k X.A) (hx : NoEx CX) : UnR X (unaryOp .USub) (rOwnNeg C sp) := by
  intro pins s σ H x v Q I rx h
  obtain ⟨a, dx, fs, rfl, ha, q⟩ := h
  obtain ⟨f, fd, ps, hs, hf, F, hb⟩ := M.ex
  cases (show v = Value.ref a from rx)
  obtain ⟨mA, J, _⟩ := ins_get I.hok ha
  obtain ⟨od, J, _⟩ := J.look
  obtain ⟨m, hF⟩ := I.fr
  exact PySem.W.ksp_neg hF I.ok.mod.kin J hs hf (run_in F hr I.env0 hb hx I (show Vals [V.ref a] [Value.ref a] from .cons rfl .nil) q)
end
end Fk
namespace PySem.W
open PySem PySem.Spec PyProof.Rows
section
variable {prog : Program} {w : World} {A : Around} {E : Value → Shared → Prop} {s : Shared} {K : Frag} {x C L f : Addr} {h₀ : Heap} {m : Str → Option Value} {ox : Obj} {od : Option Obj} {nm T : String}
theorem fk_binT {op : Operator} {b : Value} {fo ro rc : Option Value} {Q : Value → Shared → Prop} (F : Fr h₀ L s.heap m) (X₀ : K.In h₀) (I : InstAt s.heap x ox C od) (hb : Looks (model prog w) s.heap (typeOf b) (.type T)) (hc : selfFirst K C = true)
    (hs : findIn K (.ref C) (PySem.dunder op.info.2) = some (some (.ref f))) (hf : isFn K (.ref f) = true) (hr : findIn K (.ref C) (dunderR op.info.2) = some rc) (hp : rc = none ∨ ∃ g : Addr, rc = some (.ref g))
    (h1 : findIn K (.type T) (PySem.dunder op.info.2) = some fo) (h2 : findIn K (.type T) (dunderR op.info.2) = some ro) (hsub : subIn K (.type T) (.ref C) = some false)
    (h : wpAny (model prog w) A (call (.ref f) [.ref x, b]) (CmpBack Q) E s) : wpAny (model prog w) A (binaryOp op (.ref x) b) Q E s := by
  have X := X₀.keeps F.keep
  obtain ⟨cd, rest, hcd, hm⟩ := ksp_first hc
  rcases hi : op.info with ⟨sym, nm'⟩
  rw [hi] at hs hr h1 h2
  dsimp only at hs hr h1 h2
  have one := ksp_try X I hs hf h
  obtain ⟨hh, g, d, tt, os⟩ := s
  have L1 : Looks (model prog w) hh (typeOf (.ref x)) (.ref C) := I.type
  have L2 : Looks (model prog w) hh (typeOf b) (.type T) := hb
  have L3 : Looks (model prog w) hh (fillsNumberSlot (.ref C) nm') true := fills_K X hcd hm hs
  have L4 : Looks (model prog w) hh (fillsNumberSlot (.type T) nm') ((fo.isSome && !isSeqSlot fo) || (ro.isSome && !isSeqSlot ro)) := ksp_fillsT X h1 h2
  have L5 : Looks (model prog w) hh (isSubtype (.type T) (.ref C)) false := looks_subIn X hsub
  have L6 : Looks (model prog w) hh (numberSlotInPython (.ref C) nm') true := ksp_inPy X hs hr hp
  have L7 : Looks (model prog w) hh (numberSlotInPython (.type T) nm') false := Looks.of_pure rfl
  have L8 : Looks (model prog w) hh (typeLookup (.type T) (dunderR nm')) ro := looks_findIn X h2
  generalize ((fo.isSome && !isSeqSlot fo) || (ro.isSome && !isSeqSlot ro)) = right at L4
  have hne : (Value.ref C == Value.type T) = false := Bool.eq_false_iff.mpr fun q => by cases beq_iff_eq.mp q
  simp only [binaryOp, hi]
  refine wpAny_holding (wpAny_bind ?_)
  unfold binaryOp1
  refine wpAny_bind (L1.at (wpAny_bind (L2.at (wpAny_bind (L3.at ?_)))))
  simp only [hne, Bool.false_eq_true, if_false]
  cases right with
  | false =>
    ksp_lk
    refine wpAny_mono one (fun r s' hr' => ?_) fun _ _ e => e
    obtain ⟨v, rfl, hq⟩ := hr'
    ksp_lk
    exact hq
  | true =>
    ksp_lk
    refine wpAny_mono one (fun r s' hr' => ?_) fun _ _ e => e
    obtain ⟨v, rfl, hq⟩ := hr'
    ksp_lk
    exact hq
end
end PySem.W
namespace Fk
open PySem PySem.Spec PyProof.Rows L2
/-- what is asked of a class for its + -/
structure AddF (K : PySem.W.Frag) (C : Addr) : Prop where
  first : PySem.W.selfFirst K C = true
  noR : PySem.W.findIn K (.ref C) "__radd__" = some none
/-- what may stand on the right of an own + -/
inductive RightOf (K : PySem.W.Frag) (H : Hp) (C : Addr) : V → Prop where
  | ins {b dy : Addr} {gs : List (Str × V)} (h : H b = some (.ins C dy gs)) : RightOf K H C (.ref b)
  | ty {y : V} {T : String} {fo ro : Option Value} (h : TyX K H y (.type T)) (h1 : PySem.W.findIn K (.type T) "__add__" = some fo) (h2 : PySem.W.findIn K (.type T) "__radd__" = some ro) (hs : PySem.W.subIn K (.type T) (.ref C) = some false) : RightOf K H C y
/-- x + y by x's own +: what may be let out is E, at the slots; the answer is an object -/
def tOwnAdd (K : PySem.W.Frag) (C : Addr) (sp : Sp) (E : L2.St → XK) (ta tb : TE) : TE := fun σ H Q => ta σ H fun x H1 => tb σ H1 fun y H2 => ∃ (a dx : Addr) (fs : List (Str × V)), x = .ref a ∧ H2 a = some (.ins C dx fs) ∧ RightOf K H2 C y ∧
  sp [x, y] H2 (fun v H' => ∃ b, v = .ref b ∧ Q v H') (E σ)
theorem pe_ownAdd {X : Cx} {CX : CXT} {k : Nat} {C : Addr} {sp : Sp} {E : L2.St → XK} {a b : Expr} {ta tb : TE} {pos : Pos} (M : OwnM X.prog X.w X.K X.mg X.base CX k C "__add__" sp) (T : AddF X.K C) (hr : Room k X.A) (hx : ∀ σ, PassesAt CX X σ (E σ)) (ha : PE X a ta) (hb : PE X b tb) :
    PE X (.BinOp a .Add b pos) (tOwnAdd X.K C sp E ta tb) := by
  refine ⟨fun pins s σ H Q I h => ?_⟩
  refine wpAny_BinOp (binT ha hb I h fun v u s2 x y H2 I2 rx ry q => ?_)
  obtain ⟨a, dx, fs, rfl, ea, ri, q⟩ := q
  obtain ⟨f, fd, ps, hs, hf, F, hb⟩ := M.ex
  cases (show v = Value.ref a from rx)
  obtain ⟨mA, J, _⟩ := ins_get I2.hok ea
  obtain ⟨od, J, _⟩ := J.look
  obtain ⟨m, hF⟩ := I2.fr
  have go : wpAny (model X.prog X.w) X.A (call (.ref f) [.ref a, u]) (PySem.W.CmpBack (EP X pins σ Q)) X.xe s2 := by
    refine wpAny_mono (run_fnS F hr hb (hx σ) I2 (show Vals [V.ref a, y] [Value.ref a, u] from .cons rfl (.cons ry .nil)) q) (fun v s' z => ?_) fun _ _ e => e
    obtain ⟨x, H', I', rv, b, rfl, q'⟩ := z
    cases (show v = Value.ref b from rv)
    exact ⟨.ref b, H', I', rfl, q'⟩
  cases ri with
  | @ins b dy gs eb =>
    cases (show u = Value.ref b from ry)
    obtain ⟨mB, J', _⟩ := ins_get I2.hok eb
    obtain ⟨od', J', _⟩ := J'.look
    exact PySem.W.binop_K (op := .Add) hF I2.ok.mod.kin J J'.type T.first hs hf go
  | @ty _ T' fo ro ty h1 h2 hsb =>
    obtain ⟨P', Z, p, _⟩ := kit_of I2 ry ty
    exact PySem.W.fk_binT (op := .Add) hF I2.ok.mod.kin J (Z.ty _ _ I2.kIn p) T.first hs hf T.noR (.inl rfl) h1 h2 hsb go
end Fk

set_option maxHeartbeats 4000000
/-! len, in, [] of an own class; methods that may raise, in a try and out of it; classes made. -/
namespace Fk
open PySem PySem.Spec PyProof.Rows L2
section
variable {X : Cx} {CX : CXT} {k : Nat} {C : Addr} {sp : Sp}
/-- len(x) -/
theorem call_ownLen (M : OwnM X.prog X.w X.K X.mg X.base CX k C "__len__" sp) (hr : Room (k + 1) X.A) (hx : NoEx CX) :
    CallR X (.builtin "len") (fun xs H Q => ∃ (a dx : Addr) (fs : List (Str × V)), xs = [.ref a] ∧ H a = some (.ins C dx fs) ∧ sp xs H (fun v H' => ∃ n : Nat, v = .int n ∧ n ≤ 1000000 ∧ Q v H') C8.E0) := by
  intro pins s σ H xs us Q I r h
  obtain ⟨a, dx, fs, rfl, ha, q⟩ := h
  obtain ⟨u, rfl, ru⟩ := vals1 r
  cases (show u = Value.ref a from ru)
  obtain ⟨f, fd, ps, hs, hf, F, hb⟩ := M.ex
  obtain ⟨mA, J, _⟩ := ins_get I.hok ha
  obtain ⟨od, J, _⟩ := J.look
  obtain ⟨m, hF⟩ := I.fr
  refine PySem.W.len_K hF I.ok.mod.kin J hs hf (wpAny_mono (run_in F hr.in1 I.env0.in1 hb hx I (show Vals [V.ref a] [Value.ref a] from .cons rfl .nil) q) (fun v s' z => ?_) fun _ _ x => x)
  obtain ⟨x, H', I', rv, n, rfl, hn, q'⟩ := z
  obtain ⟨t, rfl⟩ := (show ∃ t, v = Value.int n t from rv)
  exact ⟨⟨by omega, by omega⟩, .int n, H', I'.tok _, ⟨_, rfl⟩, q'⟩
/-- y in x, y not in x -/
def rOwnIn (C : Addr) (sp : Sp) : R2 := fun y x H Q => ∃ (a dx : Addr) (fs : List (Str × V)), x = .ref a ∧ H a = some (.ins C dx fs) ∧ sp [x, y] H (fun v H' => ∃ b, v = .bl b ∧ Q (.bl b) H') C8.E0
def rOwnNotIn (C : Addr) (sp : Sp) : R2 := fun y x H Q => ∃ (a dx : Addr) (fs : List (Str × V)), x = .ref a ∧ H a = some (.ins C dx fs) ∧ sp [x, y] H (fun v H' => ∃ b, v = .bl b ∧ Q (.bl (!b)) H') C8.E0
theorem op_ownIn (M : OwnM X.prog X.w X.K X.mg X.base CX k C "__contains__" sp) (hr : Room k X.A) (hx : NoEx CX) : OpR X (compareOp .In) (rOwnIn C sp) := by
  intro pins s σ H y x u v Q I ry rx h
  obtain ⟨a, dx, fs, rfl, ha, q⟩ := h
  cases (show v = Value.ref a from rx)
  obtain ⟨f, fd, ps, hs, hf, F, hb⟩ := M.ex
  obtain ⟨mA, J, _⟩ := ins_get I.hok ha
  obtain ⟨od, J, _⟩ := J.look
  obtain ⟨m, hF⟩ := I.fr
  refine PySem.W.in_K hF I.ok.mod.kin J hs hf (wpAny_mono (run_in F hr I.env0 hb hx I (show Vals [V.ref a, y] [Value.ref a, u] from .cons rfl (.cons ry .nil)) q) (fun v s' z => ?_) fun _ _ x => x)
  obtain ⟨x, H', I', rv, b, rfl, q'⟩ := z
  cases (show v = Value.bool b from rv)
  exact wpAny_truthy_bool ⟨.bl b, H', I', rfl, q'⟩
theorem op_ownNotIn (M : OwnM X.prog X.w X.K X.mg X.base CX k C "__contains__" sp) (hr : Room k X.A) (hx : NoEx CX) : OpR X (compareOp .NotIn) (rOwnNotIn C sp) := by
  intro pins s σ H y x u v Q I ry rx h
  obtain ⟨a, dx, fs, rfl, ha, q⟩ := h
  cases (show v = Value.ref a from rx)
  obtain ⟨f, fd, ps, hs, hf, F, hb⟩ := M.ex
  obtain ⟨mA, J, _⟩ := ins_get I.hok ha
  obtain ⟨od, J, _⟩ := J.look
  obtain ⟨m, hF⟩ := I.fr
  refine PySem.W.notIn_K hF I.ok.mod.kin J hs hf (wpAny_mono (run_in F hr I.env0 hb hx I (show Vals [V.ref a, y] [Value.ref a, u] from .cons rfl (.cons ry .nil)) q) (fun v s' z => ?_) fun _ _ x => x)
  obtain ⟨x, H', I', rv, b, rfl, q'⟩ := z
  cases (show v = Value.bool b from rv)
  exact wpAny_truthy_bool ⟨.bl (!b), H', I', rfl, q'⟩
end
/-- a method of an own class with its defaults -/
structure MetX (P : Program) (w : World) (K : PySem.W.Frag) (mg : Str → Option Value) (base : Heap) (CX : CXT) (k : Nat) (C : Addr) (m : Str) (sp : Sp) (dvs : List V) : Prop where
  ex : ∃ (f : Addr) (fd : FuncData) (ps : List Str) (ds : List Value), Cls K C ∧ Meth K C m f ∧ FnOk P w K mg base CX k f fd ps sp ∧ Binds K fd ps ds ∧ Vals dvs ds
/-- a class that may be made -/
structure MakX (P : Program) (w : World) (K : PySem.W.Frag) (mg : Str → Option Value) (base : Heap) (CX : CXT) (k : Nat) (x : Str) (C : Addr) (sp : Sp) (dvs : List V) : Prop where
  ex : ∃ (f : Addr) (fd : FuncData) (ps : List Str) (ds : List Value), Mk K C f ∧ FnOk P w K mg base CX k f fd ps sp ∧ mg x = some (.ref C) ∧ Binds K fd ps ds ∧ Vals dvs ds
/-- a def that may raise -/
structure CalX (P : Program) (w : World) (K : PySem.W.Frag) (mg : Str → Option Value) (base : Heap) (CX : CXT) (k : Nat) (x : Str) (sp : Sp) (dvs : List V) : Prop where
  ex : ∃ (f : Addr) (fd : FuncData) (ps : List Str) (ds : List Value), FnOk P w K mg base CX k f fd ps sp ∧ mg x = some (.ref f) ∧ PySem.W.keepIn K (.ref f) = true ∧ Binds K fd ps ds ∧ Vals dvs ds
section
variable {X : Cx} {CX : CXT} {k j : Nat} {C : Addr} {sp : Sp} {dvs : List V} {m x : Str} {E : L2.St → XK} {o e : Expr} {es : List Expr} {ta : TE} {t : TA} {p pos apos : Pos}
theorem run_at {pins : List (Addr × Obj)} {σ : L2.St} {H : Hp} {s : Shared} {Q : VK} {f : Addr} {fd : FuncData} {ps : List Str} {us ds : List Value} {vs : List V} (F : FnOk X.prog X.w X.K X.mg X.base CX k f fd ps sp) (hr : Room k X.A) (hb : Binds X.K fd ps ds) (hd : Vals dvs ds) (hx : PassesAt CX X σ (E σ))
    (I : Inv X pins σ H s) (r : Vals vs us) (h : sp (vs ++ dvs) H Q (E σ)) : wpAny (model X.prog X.w) X.A (call (.ref f) us) (EP X pins σ Q) X.xe s := by
  have r2 : Vals (vs ++ dvs) (us ++ ds) := r.append hd
  have hl : (us ++ ds).length = ps.length := by
    rw [← r2.length]
    exact F.len _ _ _ _ h
  refine wpAny_call (codeAny_mono (F.run X.A X.stack s H ⟨us, []⟩ (us ++ ds) (vs ++ dvs) Q (E σ) hr I.env0 (hb s us I.kIn hl) r2 h) fun r s' hq => ?_)
  cases r with
  | error e => exact hx pins H s e s' I hq
  | ok fl =>
    cases fl with
    | ret u => exact I.after hq
    | next => exact hq.elim
    | brk => exact hq.elim
    | cont => exact hq.elim
/-- o.m(e, ..) -/
def tMx (C : Addr) (m : Str) (sp : Sp) (dvs : List V) (E : L2.St → XK) (ta : TE) (t : TA) : TE := fun σ H Q => ta σ H fun x H1 => ∃ (a dx : Addr) (fs : List (Str × V)), x = .ref a ∧ H1 a = some (.ins C dx fs) ∧ fs.lookup m = none ∧ t σ H1 fun vs H2 => sp (.ref a :: (vs ++ dvs)) H2 Q (E σ)
theorem pe_mx {pl : Sem Bool} (c : MetX X.prog X.w X.K X.mg X.base CX k C m sp dvs) (hr : Room j X.A) (hk : k ≤ j) (hx : ∀ σ, PassesAt CX X σ (E σ)) (he : PE X o ta) (ha : PA X (e :: es) t)
    (hst : starEach (e :: es) X.env = (false, eval e X.env) :: starEach es X.env := by rfl) (hpl : (backTo pos (starEach es X.env)).any (·.1) = false := by rfl)
    (ht : eval (.Call (.Attribute o m apos) (e :: es) [] pos) X.env = (do
      let ov ← eval o X.env
      standAt apos.atName
      let (f, first) ← holding [ov] (getMethod ov m pl)
      callWith pos f first (backTo pos (starEach (e :: es) X.env)) (backToKw pos (keywordEach [] X.env))) := by rfl) :
    PE X (.Call (.Attribute o m apos) (e :: es) [] pos) (tMx C m sp dvs E ta t) := by
  obtain ⟨f, fd, ps, ds, cl, hm, F, b, d⟩ := c.ex
  refine ⟨fun pins s σ H Q I h => ?_⟩
  refine PySem.W.methodCall_KW (pl := pl) (thn (he.run pins s σ H _ I h) fun u s1 ⟨x, H1, I1, rx, a, dx, fs, ex, ea, l, q⟩ => ?_) ht
  subst ex
  obtain rfl : u = Value.ref a := rx
  refine getmeth_ok I1 ea cl hm l ?_
  refine PySem.W.callWith_K (first := [.ref a]) (h₀ := X.base) I.ok.mod.kin hm.kp (thn (ha.run pos pins s1 σ H1 _ I1 q) fun us s2 ⟨vs, H2, I2, r, q2⟩ => ⟨I2.kIn, ?_⟩) hst hpl
  exact run_at (us := .ref a :: us) (vs := .ref a :: vs) F (hr.mono hk) b d (hx σ) I2 (.cons rfl r) q2
theorem pe_mx0 {pl : Sem Bool} (c : MetX X.prog X.w X.K X.mg X.base CX k C m sp dvs) (hr : Room j X.A) (hk : k ≤ j) (hx : ∀ σ, PassesAt CX X σ (E σ)) (he : PE X o ta)
    (ht : eval (.Call (.Attribute o m apos) [] [] pos) X.env = (do
      let ov ← eval o X.env
      standAt apos.atName
      let (f, first) ← holding [ov] (getMethod ov m pl)
      callWith pos f first (backTo pos (starEach [] X.env)) (backToKw pos (keywordEach [] X.env))) := by rfl) :
    PE X (.Call (.Attribute o m apos) [] [] pos) (tMx C m sp dvs E ta tNil) := by
  obtain ⟨f, fd, ps, ds, cl, hm, F, b, d⟩ := c.ex
  refine ⟨fun pins s σ H Q I h => ?_⟩
  refine PySem.W.methodCall_KW (pl := pl) (thn (he.run pins s σ H _ I h) fun u s1 ⟨x, H1, I1, rx, a, dx, fs, ex, ea, l, q⟩ => ?_) ht
  subst ex
  obtain rfl : u = Value.ref a := rx
  refine getmeth_ok I1 ea cl hm l ?_
  exact PySem.W.callWith_K0 (first := [.ref a]) I1.kIn hm.kp (run_at (us := [.ref a]) (vs := [.ref a]) F (hr.mono hk) b d (hx σ) I1 (.cons rfl .nil) q)
/-- a def by its name -/
def tCx (sp : Sp) (dvs : List V) (E : L2.St → XK) (t : TA) : TE := fun σ H Q => t σ H fun vs H1 => sp (vs ++ dvs) H1 Q (E σ)
theorem pe_cx (c : CalX X.prog X.w X.K X.mg X.base CX k x sp dvs) (hr : Room j X.A) (hk : k ≤ j) (hx : ∀ σ, PassesAt CX X σ (E σ)) (hg : Gl X x) (ha : PA X (e :: es) t)
    (hdb : (x == ("__debug__" : Str)) = false := by decide) (he : starEach (e :: es) X.env = (false, eval e X.env) :: starEach es X.env := by rfl) (hpl : (backTo pos (starEach es X.env)).any (·.1) = false := by rfl) :
    PE X (.Call (.Name x p) (e :: es) [] pos) (tCx sp dvs E t) := by
  obtain ⟨f, fd, ps, ds, F, hm, kp, b, d⟩ := c.ex
  refine ⟨fun pins s σ H Q I h => ?_⟩
  refine wpAny_Call_Name_kw (ld_glob I hg hm ?_ hdb)
  refine PySem.W.callWith_K (h₀ := X.base) I.ok.mod.kin kp (thn (ha.run pos pins s σ H _ I h) fun us s1 ⟨vs, H1, I1, r, q⟩ => ⟨I1.kIn, ?_⟩) he hpl
  exact run_at F (hr.mono hk) b d (hx σ) I1 r q
end
end Fk

set_option maxHeartbeats 4000000
/-! x != y of objects of one class without an own ==: whether they are two. -/
namespace Fk
open PySem PySem.Spec PyProof.Rows L2
structure PlainEq (K : PySem.W.Frag) (C : Addr) : Prop where
  ne : PySem.W.findIn K (.ref C) "__ne__" = some (some (.builtin "object.__ne__"))
  eq : PySem.W.findIn K (.ref C) "__eq__" = some (some (.builtin "object.__eq__"))
  ob : PySem.W.mroIn K C (.type "object") = some true
def rIdNe (C : Addr) : R2 := fun x y H Q => ∃ (a b dx dy : Addr) (fs gs : List (Str × V)), x = .ref a ∧ y = .ref b ∧ H a = some (.ins C dx fs) ∧ H b = some (.ins C dy gs) ∧ Q (.bl (!decide (a = b))) H
section
variable {X : Cx} {C : Addr}
theorem idEq {pins : List (Addr × Obj)} {σ : L2.St} {H : Hp} {s : Shared} {A : Around} {E : Value → Shared → Prop} {a b dx dy : Addr} {fs gs : List (Str × V)} {Q : Option Value → Shared → Prop} (T : PlainEq X.K C) (I : Inv X pins σ H s) (ha : H a = some (.ins C dx fs)) (hb : H b = some (.ins C dy gs))
    (h : Q (some (if a = b then .bool true else .notImplemented)) s) : wpAny (model X.prog X.w) A (callSpecialIfBound? (.ref a) "__eq__" [.ref b]) Q E s := by
  obtain ⟨mA, J, _⟩ := ins_get I.hok ha
  obtain ⟨od, J, _⟩ := J.look
  obtain ⟨mB, J', _⟩ := ins_get I.hok hb
  obtain ⟨od', J', _⟩ := J'.look
  have sp : PySem.W.Looks (model X.prog X.w) s.heap (specialOf (.ref a) "__eq__") (some (.builtin "object.__eq__")) := J.type.andThen (PySem.W.looks_findIn I.kIn T.eq)
  have iv : PySem.W.Looks (model X.prog X.w) s.heap (isInstance (.ref a) (.type "object")) true := J.type.andThen (PySem.W.looks_mroIn I.kIn T.ob)
  refine NtL.csib (E := E) sp (PySem.F.cmp_object.eq.bind _) ?_
  refine wpAny_call (codeAny_call_builtin PySem.F.cmp_object.eq.plain PySem.F.cmpEntry_eq (PySem.W.check_slot PySem.F.cmpKind_eq PySem.F.cmpSplit_eq iv (PySem.F.cmpArgs_eq _ _) ?_))
  by_cases e : a = b
  · subst e
    rw [if_pos rfl] at h
    exact objEq_entry_same h
  · rw [if_neg e] at h
    exact objEq_entry_other e J.at_ J'.at_ (by rw [J.cls]; intro z; cases z) h
theorem idNe {pins : List (Addr × Obj)} {σ : L2.St} {H : Hp} {s : Shared} {A : Around} {E : Value → Shared → Prop} {a b dx dy : Addr} {fs gs : List (Str × V)} {Q : Option Value → Shared → Prop} (T : PlainEq X.K C) (hu : A.units + 1 < cLine) (I : Inv X pins σ H s) (ha : H a = some (.ins C dx fs)) (hb : H b = some (.ins C dy gs))
    (h : Q (if a = b then some (.bool false) else none) s) : wpAny (model X.prog X.w) A (tryCompare (.ref a) "__ne__" (.ref b)) Q E s := by
  obtain ⟨mA, J, _⟩ := ins_get I.hok ha
  obtain ⟨od, J, _⟩ := J.look
  have sp : PySem.W.Looks (model X.prog X.w) s.heap (specialOf (.ref a) "__ne__") (some (.builtin "object.__ne__")) := J.type.andThen (PySem.W.looks_findIn I.kIn T.ne)
  have iv : PySem.W.Looks (model X.prog X.w) s.heap (isInstance (.ref a) (.type "object")) true := J.type.andThen (PySem.W.looks_mroIn I.kIn T.ob)
  have hu' : A.in1.units < cLine := hu
  unfold tryCompare
  refine wpAny_bind (NtL.csib (E := E) sp (PySem.F.cmp_object.ne.bind _) ?_)
  refine wpAny_call (codeAny_call_builtin PySem.F.cmp_object.ne.plain PySem.F.cmpEntry_ne (PySem.W.check_slot PySem.F.cmpKind_ne PySem.F.cmpSplit_ne iv (PySem.F.cmpArgs_ne _ _) ?_))
  unfold Builtin.«object.__ne__»
  repeat (first
    | with_reducible refine wpAny_cRoomFor hu' ?_
    | (refine wpAny_bind (m := callSpecialIfBound? (.ref a) (Str.ofString "__eq__") [.ref b]) (idEq T I ha hb ?_))
    | wp_step)
  by_cases e : a = b
  · rw [if_pos e] at h ⊢
    show wpAny _ _ (truthy (.bool true) >>= _) _ _ _
    refine wpAny_bind (wpAny_truthy_bool ?_)
    exact wpAny_pure (wpAny_pure h)
  · rw [if_neg e] at h ⊢
    exact wpAny_pure (wpAny_pure h)
theorem op_idNe (T : PlainEq X.K C) (hu : X.A.units + 1 < cLine) : OpR X (compareOp .NotEq) (rIdNe C) := by
  intro pins s σ H x y v u Q I rx ry h
  obtain ⟨a, b, dx, dy, fs, gs, rfl, rfl, ha, hb, q⟩ := h
  cases (show v = Value.ref a from rx)
  cases (show u = Value.ref b from ry)
  obtain ⟨mA, J, _⟩ := ins_get I.hok ha
  obtain ⟨od, J, _⟩ := J.look
  obtain ⟨mB, J', _⟩ := ins_get I.hok hb
  obtain ⟨od', J', _⟩ := J'.look
  show wpAny (model X.prog X.w) X.A (richCompare .NotEq (.ref a) (.ref b)) (EP X pins σ Q) X.xe s
  unfold richCompare
  simp only [oneThing_ref]
  refine wpAny_holding (wpAny_bind (wpAny_cRoomFor (by omega) ?_))
  refine wpAny_bind (J.type.here (wpAny_bind (J'.type.here ?_)))
  simp only [bne_self_eq_false, Bool.false_eq_true, if_false]
  refine wpAny_bind (wpAny_pure ?_)
  simp only [Bool.false_eq_true, if_false]
  refine wpAny_bind (idNe (E := X.xe) T hu I ha hb ?_)
  by_cases e : a = b
  · rw [if_pos e]
    exact wpAny_pure ⟨.bl false, H, I, rfl, by simpa [e] using q⟩
  · rw [if_neg e]
    simp only [Bool.not_false, if_true]
    refine wpAny_bind (idNe (E := X.xe) T hu I hb ha ?_)
    rw [if_neg (fun z => e z.symm)]
    refine wpAny_bind (m := isSame (.ref a) (.ref b)) (wpAny_isSame_ref_other e J.at_ J'.at_ (by rw [J.cls]; intro z; cases z) ?_)
    exact wpAny_pure ⟨.bl true, H, I, rfl, by simpa [e] using q⟩
end
end Fk

set_option maxHeartbeats 4000000
/-! dict(d); a displayed dict of ** alone. -/
namespace Fk
open PySem PySem.Spec PyProof.Rows L2
theorem call_dictC {X : Cx} : CallR X (.type "dict") (fun xs H Q => ∃ a kvs, xs = [.ref a] ∧ Rd H a (.dK kvs) ∧ ∀ p, H p = none → Q (.ref p) (upd H p (.dK kvs))) := by
  intro pins s σ H xs us Q I r h
  obtain ⟨a, kvs, rfl, e, q⟩ := h
  obtain ⟨u, rfl, ru⟩ := vals1 r
  cases (show u = Value.ref a from ru)
  exact d_copyOf I e fun p s' hp I' => ⟨.ref p, _, I', rfl, q p hp⟩
section
variable {prog : Program} {w : World} {K : Type} [DecidableEq K] {knd : KeyKind prog w K} {A : Around} {E : Value → Shared → Prop} {s : Shared}
theorem wpAny_dictPut {d : Addr} {kvs : List (K × Value)} {k : K} {key v : Value} {Q : Unit → Shared → Prop} (hkey : knd.is k key = true) (hm : s.heap.DictOf knd d kvs)
    (hQ : ∀ h', h'.DictOf knd d (stored kvs k v) → Heap.SameBut d s.heap h' → Q () { s with heap := h' }) (hsz : kvs.length ≤ sizeLine) :
    wpAny (model prog w) A (dictPut d (knd.hash k) key v) Q E s := by
  obtain ⟨o, es, ep, ho, hc, hd, hk, hp, hn⟩ := hm
  have hes : es.size ≤ sizeLine := by
    have e1 := hp.length
    have e2 : es.toList.length = es.size := by simp
    omega
  unfold dictPut
  try with_reducible refine wpAny_holding ?_
  refine wpAny_bind (wpAny_dictFind_of hkey ho hd hk ?_)
  have hidx : (es.findIdx? fun e => knd.is k e.key) = kvs.findIdx? fun kv => decide (kv.1 = k) := by
    rw [← hp.findIdx k]; obtain ⟨l⟩ := es; simp
  cases hi : es.findIdx? fun e => knd.is k e.key with
  | some i =>
    refine (wpAny_updateDict ho hd (hQ _ ⟨_, _, ep, Heap.get?_update_self _ ho (Obj.isFreed_of_dict (Obj.data_mapDict hd _)),
      hc.mapDict _, Obj.data_mapDict hd _, hk.modify _ _, ?_, ?_⟩ (Heap.SameBut.update ..)))
    · rw [stored, if_pos (any_of_findIdx_some (hidx ▸ hi))]
      have hl : (es.toList.findIdx? fun e => knd.is k e.key) = some i := by rw [← hi]; obtain ⟨l⟩ := es; simp
      have := hp.modify hn hl v
      obtain ⟨l⟩ := es
      simpa using this
    · rw [stored, if_pos (any_of_findIdx_some (hidx ▸ hi)), keys_map_store]; exact hn
  | none =>
    have hnot : k ∉ kvs.map (·.1) := not_mem_of_findIdx_none (hidx ▸ hi)
    have hany : ¬ (kvs.any fun kv => decide (kv.1 = k)) = true := by
      rw [List.any_eq_true]; rintro ⟨kv, hkv, he⟩
      exact hnot (List.mem_map.mpr ⟨kv, hkv, of_decide_eq_true he⟩)
    refine (wpAny_updateDictKeys (hz := hes) ho hd (hQ _ ⟨_, _, ep + 1, Heap.get?_update_self _ ho (Obj.isFreed_of_dict (Obj.data_mapDictKeys hd _)),
      hc.mapDictKeys _, Obj.data_mapDictKeys hd _, hk.push hkey _, ?_, ?_⟩ (Heap.SameBut.update ..)))
    · rw [stored, if_neg hany]
      have := hp.append hkey (knd.hash k) v
      obtain ⟨l⟩ := es
      simpa using this
    · rw [stored, if_neg hany, List.map_append, List.nodup_append]
      refine ⟨hn, by simp, ?_⟩
      intro a ha b hb
      simp only [List.map_cons, List.map_nil, List.mem_singleton] at hb
      subst hb
      exact fun e => hnot (e ▸ ha)
theorem dict_iter : typeLookup (.type "dict") "__iter__" = pure (some (.builtin "dict.__iter__")) := by rw [typeLookup_type, builtinLookup_eq_fast]; kernel_rfl
theorem wpAny_mergeMapping {d o : Addr} {kvs more : List (K × Value)} {Q : Unit → Shared → Prop} (hkr : ∀ (k : K) (a : Addr), knd.is k (.ref a) = false) (hdo : d ≠ o) (hoS : (o == sysModules) = false)
    (hd : s.heap.DictOf knd d kvs) (ho : s.heap.DictOf knd o more)
    (hQ : ∀ h', h'.DictOf knd d (merged kvs more) → h'.DictOf knd o more → Heap.SameBut d s.heap h' → Q () { s with heap := h' })
    (hsz : kvs.length + more.length ≤ sizeLine) :
    wpAny (model prog w) A (mergeMapping d (.ref o) false) Q E s := by
  obtain ⟨od, esd, epd, hod, hcd, hdd, hkd, hpd, hnd⟩ := id hd
  obtain ⟨oo, eso, epo, hoo, hco, hdo', hko, hpo, hno⟩ := id ho
  have hlen : more.length = eso.size := by rw [← hpo.length]; simp
  have loop : wpAny (model prog w) A (do
      let epoch ← dictEpoch o
      forIn (List.range eso.size) PUnit.unit fun i (_ : PUnit) => (do
          let l' ← dictEntries o
          match l'[i]? with
            | some e => do
              holding [e.key, e.val] (dictPut d e.hash e.key e.val)
              let ep' ← dictEpoch o
              if (ep' != epoch) = true then do
                  (unsupported "dict.changed-during-merge" : Sem PUnit)
                  pure (ForInStep.yield PUnit.unit)
                else pure (ForInStep.yield PUnit.unit)
            | _ => do
              (unsupported "dict.changed-during-merge" : Sem PUnit)
              pure (ForInStep.yield PUnit.unit) : Sem (ForInStep PUnit))
      pure ()) Q E s := by
    refine wpAny_bind (wpAny_dictEpoch hoo hdo' ?_)
    refine wpAny_bind ?_
    refine wpAny_forIn_list _
      (fun rest _ s' => ∃ h' i, s' = { s with heap := h' } ∧ rest = (List.range eso.size).drop i ∧ i ≤ eso.size ∧ h'.DictOf knd d (merged kvs (more.take i)) ∧ h'.get? o = some oo ∧ Heap.SameBut d s.heap h')
      _ ?_ ?_ _ _ ⟨s.heap, 0, rfl, rfl, Nat.zero_le _, by simpa [merged] using hd, hoo, Heap.SameBut.refl _ _⟩
    · rintro x rest b s' ⟨h', i, rfl, hr, hi, hd', hoo', hs'⟩
      have hlt : i < eso.size := by
        rcases Nat.lt_or_ge i eso.size with h | h
        · exact h
        · rw [List.drop_of_length_le (by rw [List.length_range]; exact h)] at hr; cases hr
      have hlt' : i < (List.range eso.size).length := by rw [List.length_range]; exact hlt
      rw [List.drop_eq_getElem_cons hlt', List.getElem_range] at hr
      injection hr with h1 hrest
      subst h1
      refine wpAny_bind (wpAny_dictEntries hoo' hdo' ?_)
      rw [Array.getElem?_eq_getElem hlt]
      obtain ⟨kv, hkv⟩ : ∃ kv, more[x]? = some kv := ⟨more[x]'(by rw [hlen]; exact hlt), List.getElem?_eq_getElem _⟩
      obtain ⟨k, v⟩ := kv
      obtain ⟨hkey, hval⟩ := hpo.get? (e := eso[x]) (by simp [hlt]) hkv
      obtain ⟨k', hkey', hhash⟩ := hko eso[x] (Array.getElem_mem hlt)
      obtain rfl : k' = k := knd.inj _ _ _ hkey' hkey
      show wpAny _ _ (holding [eso[x].key, eso[x].val] (dictPut d eso[x].hash eso[x].key eso[x].val) >>= _) _ _ _
      rw [hhash, hval]
      have hmx : (merged kvs (more.take x)).length ≤ sizeLine := by
        have e1 := merged_length_le kvs (more.take x)
        have e2 : (more.take x).length ≤ more.length := by rw [List.length_take]; omega
        omega
      refine wpAny_bind (wpAny_holding (wpAny_dictPut (hsz := hmx) hkey hd' fun h'' hd'' hs'' => ?_))
      have hoo'' : h''.get? o = some oo := (hs''.2 o (Ne.symm hdo)).trans hoo'
      refine wpAny_bind (wpAny_dictEpoch hoo'' hdo' ?_)
      rw [if_neg (by simp)]
      exact wpAny_pure ⟨h'', x + 1, rfl, hrest, hlt, by rw [merged_take_succ kvs more x (k', v) hkv]; exact hd'', hoo'', hs'.trans hs''⟩
    · rintro b s' ⟨h', i, rfl, hr, hi, hd', hoo', hs'⟩
      have hin : i = eso.size := by
        rcases Nat.lt_or_ge i eso.size with h | h
        · have hlt' : i < (List.range eso.size).length := by rw [List.length_range]; exact h
          rw [List.drop_eq_getElem_cons hlt'] at hr; exact nomatch hr
        · exact Nat.le_antisymm hi h
      refine wpAny_pure (hQ h' ?_ ⟨oo, eso, epo, hoo', hco, hdo', hko, hpo, hno⟩ hs')
      rw [hin, ← hlen, List.take_length] at hd'; exact hd'
  have loop2 : wpAny (model prog w) A (dictEntries o >>= fun l => (do
      let epoch ← dictEpoch o
      forIn (List.range l.size) PUnit.unit fun i (_ : PUnit) => (do
          let l' ← dictEntries o
          match l'[i]? with
            | some e => do
              holding [e.key, e.val] (dictPut d e.hash e.key e.val)
              let ep' ← dictEpoch o
              if (ep' != epoch) = true then do
                  (unsupported "dict.changed-during-merge" : Sem PUnit)
                  pure (ForInStep.yield PUnit.unit)
                else pure (ForInStep.yield PUnit.unit)
            | _ => do
              (unsupported "dict.changed-during-merge" : Sem PUnit)
              pure (ForInStep.yield PUnit.unit) : Sem (ForInStep PUnit))
      pure ())) Q E s := wpAny_bind (wpAny_dictEntries hoo hdo' loop)
  unfold mergeMapping
  refine wpAny_bind (m := isInstance (.ref o) (.type "dict")) (wpAny_isInstance ho.typeIs isSubtype_dict_dict ?_)
  simp only [if_true]
  refine wpAny_bind (m := specialOf (.ref o) "__iter__") (wpAny_specialOf ho.typeIs dict_iter ?_)
  rw [show ((some (Value.builtin "dict.__iter__") == some (Value.builtin "dict.__iter__")) = true) from beq_self_eq_true _]
  first | rw [if_neg (by rw [hoS]; exact Bool.false_ne_true)] | (refine wpAny_ite ?_; rw [if_neg (by rw [hoS]; exact Bool.false_ne_true)]) | (refine wpAny_pure ?_; rw [if_neg (by rw [hoS]; exact Bool.false_ne_true)])
  refine wpAny_bind (wpAny_dictEntries hod hdd ?_)
  split
  · refine wpAny_bind (wpAny_dictEntries hoo hdo' ?_)
    refine wpAny_bind ?_
    rw [← Array.forIn_toList]
    refine wpAny_forIn_list _ (fun rest _ s' => s' = s ∧ ∀ e ∈ rest, e ∈ eso.toList) _ ?_ ?_ _ _ ⟨rfl, fun e he => he⟩
    · rintro e rest b s' ⟨rfl, hr⟩
      obtain ⟨k, hk, _⟩ := hko e (Array.mem_toList_iff.mp (hr e List.mem_cons_self))
      have hrest : ∀ e' ∈ rest, e' ∈ eso.toList := fun e' he' => hr e' (List.mem_cons_of_mem _ he')
      cases hkey : e.key with
      | ref a =>
        rw [hkey, hkr] at hk
        cases hk
      | _ => exact wpAny_pure ⟨rfl, hrest⟩
    · rintro b s' ⟨rfl, _⟩
      exact loop2
  · exact loop2
end
end Fk

set_option maxHeartbeats 4000000
namespace Fk
open PySem PySem.Spec PyProof.Rows L2
section
variable {prog : Program} {w : World} {K : Type} [DecidableEq K] {knd : KeyKind prog w K} {A : Around} {E : Value → Shared → Prop} {s : Shared} {Q : Value → Shared → Prop}
theorem wp_stars {items : List (Option (Sem Value) × Sem Value)} (hkr : ∀ (k : K) (a : Addr), knd.is k (.ref a) = false) (hn : ∀ x ∈ items, x.1 = none) (hne : items ≠ []) (R : List (Option (Sem Value) × Sem Value) → Addr → Shared → Prop)
    (h0 : R items s.heap.objs.size { s with heap := s.heap.push { cls := .type "dict", data := .dict #[] } })
    (hs : ∀ x rest p s1, R (x :: rest) p s1 → wpAny (model prog w) A x.2 (fun m s2 => ∃ (a : Addr) (kvs more : List (K × Value)), m = .ref a ∧ p ≠ a ∧ (a == sysModules) = false ∧ s2.heap.DictOf knd p kvs ∧ s2.heap.DictOf knd a more ∧ kvs.length + more.length ≤ sizeLine ∧
      ∀ h', h'.DictOf knd p (merged kvs more) → h'.DictOf knd a more → Heap.SameBut p s2.heap h' → R rest p { s2 with heap := h' }) E s1)
    (hd : ∀ p s1, R [] p s1 → Q (.ref p) s1) : wpAny (model prog w) A (dictDisplay items) Q E s := by
  unfold dictDisplay
  dsimp only
  have turn : ∀ (x : Option (Sem Value) × Sem Value) (rest : List (Option (Sem Value) × Sem Value)) (p : Addr) (s1 : Shared) {Q' : ForInStep (Option Addr × List (Sem Value × Sem Value)) → Shared → Prop}, R (x :: rest) p s1 → (∀ s2, R rest p s2 → Q' (.yield (some p, [])) s2) →
      wpAny (model prog w) A (do
        let m ← holding [Value.ref p] x.2
        (((holding [Value.ref p, m] (mergeMapping p m false)).onRaise fun y => do
                    let _ ← holding [Value.ref p, m, y] (runValue (Code.builtin "proto.let_go" { }))
                    pure ()).tryCatch
                fun e => do
                let b ← isInstance e (Value.type "AttributeError")
                if b = true then do
                    rule "dict.display.not-a-mapping"
                    let n ← typeNameOf m
                    raiseErrorMade "TypeError"
                        (toString "'" ++ toString n ++ toString "' object is not a mapping")
                    throw e
                  else throw e).onRaise
            fun y => do
            let _ ← holding [Value.ref p, y] (runValue (Code.builtin "proto.let_go" { }))
            pure ()
        pure (ForInStep.yield (some p, ([] : List (Sem Value × Sem Value))))) Q' E s1 := by
    intro x rest p s1 Q' hr hq
    refine wpAny_bind (wpAny_holding (wpAny_mono (hs x rest p s1 hr) (fun m s2 q => ?_) fun _ _ e => e))
    obtain ⟨a, kvs, more, rfl, hpa, hoS, dp, da, hz, k⟩ := q
    refine wpAny_bind (wpAny_onRaise (wpAny_tryCatch (wpAny_onRaise (wpAny_holding (wpAny_mergeMapping hkr hpa hoS dp da (fun h' d1 d2 sb => ?_) hz)))))
    exact wpAny_pure (hq _ (k h' d1 d2 sb))
  refine wpAny_bind ?_
  refine wpAny_forIn_list _ (fun rest b s' => b.2 = [] ∧ (∀ x ∈ rest, x.1 = none) ∧ ((b.1 = none ∧ s' = s ∧ rest = items) ∨ ∃ p, b.1 = some p ∧ R rest p s')) _ ?_ ?_ _ _ ⟨rfl, hn, .inl ⟨rfl, rfl, rfl⟩⟩
  · rintro ⟨k, v⟩ rest ⟨main, run⟩ s' ⟨hb, hk, h⟩
    have hk0 : k = none := hk (k, v) List.mem_cons_self
    have hkr' : ∀ x ∈ rest, x.1 = none := fun x hx => hk x (List.mem_cons_of_mem _ hx)
    subst hk0
    dsimp only at hb h
    subst hb
    rcases h with ⟨rfl, rfl, rfl⟩ | ⟨p, rfl, hr⟩
    · refine wpAny_bind (wpAny_pure ?_)
      dsimp only
      refine wpAny_bind (wpAny_alloc ?_)
      exact turn (none, v) rest _ _ h0 fun s2 q => ⟨rfl, hkr', .inr ⟨_, rfl, q⟩⟩
    · refine wpAny_bind (wpAny_pure ?_)
      dsimp only
      refine wpAny_bind (wpAny_pure ?_)
      exact turn (none, v) rest p s' hr fun s2 q => ⟨rfl, hkr', .inr ⟨_, rfl, q⟩⟩
  · rintro ⟨main, run⟩ s' ⟨hb, _, h⟩
    dsimp only at hb h
    subst hb
    rcases h with ⟨_, _, e⟩ | ⟨p, rfl, hr⟩
    · exact (hne e.symm).elim
    · refine wpAny_bind (wpAny_pure ?_)
      exact wpAny_pure (hd p s' hr)
end
/-- the dict at p takes the dicts in turn -/
def goStars : List TE → Addr → TE
  | [], p => fun _ H Q => Q (.ref p) H
  | t :: ts, p => fun σ H Q => t σ H fun x H1 => ∃ (a : Addr) (kvs more : List (Key × V)), x = .ref a ∧ p ≠ a ∧ H1 p = some (.dK kvs) ∧ H1 a = some (.dK more) ∧ kvs.length + more.length ≤ sizeLine ∧ goStars ts p σ (upd H1 p (.dK (mergeK kvs more))) Q
def tStars (ts : List TE) : TE := fun σ H Q => ∀ p, H p = none → goStars ts p σ (upd H p (.dK [])) Q
theorem mix_noref {P : Program} {w : World} (k : Key) (a : Addr) : (mixKind P w).is k (.ref a) = false := by
  cases k <;> rfl
/-- {**e1, **e2, ..} -/
inductive StE (X : Cx) : List Expr → List TE → Prop where
  | nil : StE X [] []
  | cons {e : Expr} {es : List Expr} {t : TE} {ts : List TE} (h : PE X e t) (hs : StE X es ts) : StE X (e :: es) (t :: ts)
theorem pe_stars {X : Cx} {keys : List (Option Expr)} {values : List Expr} {pos : Pos} {ts : List TE} (h : StE X values ts) (hv : values ≠ []) (hk : keys = values.map fun _ => none) : PE X (.Dict keys values pos) (tStars ts) := by
  refine ⟨fun pins s σ H Q I q => ?_⟩
  have hn := I.hok.fresh (Nat.le_refl s.heap.objs.size)
  have I1 := I.laid (a := s.heap.objs.size) (o := .dK []) (h' := s.heap.push { cls := .type "dict", data := .dict #[] }) (t' := s.toks) (fun _ _ q => Heap.get?_push_of_some _ q) (Nat.le_refl _) (dk_empty s.heap I.big)
  rw [arm_eval_Dict]
  subst hk
  refine wpAny_bind (wpAny_standAt ?_)
  have hz : ∀ vs : List Expr, (evalEachOpt (vs.map fun _ => (none : Option Expr)) X.env).zip ((evalEach vs X.env).map fun v => do let x ← v; standAt pos; pure x) = vs.map fun e => ((none : Option (Sem Value)), (do let x ← eval e X.env; standAt pos; pure x : Sem Value)) := by
    intro vs
    induction vs with
    | nil => rfl
    | cons e r ih =>
      show ((none : Option (Sem Value)), (do let x ← eval e X.env; standAt pos; pure x : Sem Value)) :: _ = _
      rw [List.map_cons]
      congr 1
  rw [hz]
  refine wp_stars (knd := mixKind X.prog X.w) mix_noref (fun x hx => ?_) ?_ (fun rest p s' => ∃ es us H', rest = es.map (fun e => ((none : Option (Sem Value)), (do let x ← eval e X.env; standAt pos; pure x : Sem Value))) ∧ StE X es us ∧ Inv X pins σ H' s' ∧ goStars us p σ H' Q) ⟨values, ts, _, rfl, h, I1, q _ hn⟩ ?_ ?_
  · obtain ⟨e, _, rfl⟩ := List.mem_map.mp hx
    rfl
  · intro z
    exact hv (List.map_eq_nil_iff.mp z)
  · rintro x rest p s1 ⟨es, us, H', er, hs, I', g⟩
    cases hs with
    | nil => cases er
    | @cons e es t us he hs =>
      rw [List.map_cons] at er
      injection er with e1 e2
      subst e1
      subst e2
      refine wpAny_bind (wpAny_mono (he.run pins s1 σ H' _ I' g) (fun v s2 z => ?_) fun _ _ x => x)
      obtain ⟨y, H2, I2, ry, a, kvs, more, rfl, hpa, hp, ha, hz2, g2⟩ := z
      cases (show v = Value.ref a from ry)
      refine wpAny_bind (wpAny_standAt (wpAny_pure ?_))
      obtain ⟨z1, hd1, vs1, r1, d1⟩ := dk_of I2.hok hp
      obtain ⟨z2, hd2, vs2, r2, d2⟩ := dk_of I2.hok ha
      refine ⟨a, vs1, vs2, rfl, hpa, hd2, d1, d2, by rw [← r1.length, ← r2.length]; exact hz2, fun h' e1 e2 sb => ⟨es, us, _, rfl, hs, ?_, g2⟩⟩
      have he : ∃ q, h'.get? p = some q := let ⟨q, _, _, hq, _⟩ := e1; ⟨q, hq⟩
      refine d_write I2 (by rw [hp]; exact True.intro) sb he (dk_new ?_ hd1 (r2.merge r1) e1)
      have := length_mergeK more kvs
      omega
  · rintro p s1 ⟨es, us, H', er, hs, I', g⟩
    cases hs with
    | nil => exact ⟨.ref p, H', I', rfl, g⟩
    | cons => cases er
end Fk

set_option maxHeartbeats 4000000
/-! dicts of data: what they hold, == and != of them; repr. -/
namespace Fk
open PySem PySem.Spec PyProof.Rows L2
/-- a dict's entries are these data -/
def DD (K : PySem.W.Frag) (H : Hp) (kvs : List (Key × V)) (ds : List (Key × PyData)) : Prop := Paired (fun p q => p.1 = q.1 ∧ Dp K H p.2 q.2) kvs ds
def DatAt (K : PySem.W.Frag) (H : Hp) (a : Addr) (ds : List (Key × PyData)) : Prop := ∃ kvs, H a = some (.dK kvs) ∧ DD K H kvs ds
def valD (ds : List (Key × PyData)) (k : Key) : Option PyData := (ds.find? fun p => decide (p.1 = k)).map (·.2)
theorem valD_pos {p : Key × PyData} {r : List (Key × PyData)} {k : Key} (e : p.1 = k) : valD (p :: r) k = some p.2 := by simp [valD, List.find?_cons, e]
theorem valD_neg {p : Key × PyData} {r : List (Key × PyData)} {k : Key} (e : ¬ p.1 = k) : valD (p :: r) k = valD r k := by simp [valD, List.find?_cons, e]
def hitD (es : List (Key × PyData)) (p : Key × PyData) : Bool := match valD es p.1 with
  | none => false
  | some e => PyData.eqv p.2 e
def eqvDict (ds es : List (Key × PyData)) : Bool := decide (ds.length = es.length) && ds.all (hitD es)
def shapedAll (ds : List (Key × PyData)) : Prop := ∀ p ∈ ds, SeqAt.shaped p.2 = true
theorem DD.val {K : PySem.W.Frag} {H : Hp} {kvs : List (Key × V)} {ds : List (Key × PyData)} (h : DD K H kvs ds) (k : Key) : (valV kvs k = none ∧ valD ds k = none) ∨ ∃ v d, valV kvs k = some v ∧ valD ds k = some d ∧ Dp K H v d := by
  unfold DD at h
  induction h with
  | nil => exact .inl ⟨rfl, rfl⟩
  | @cons p q ps qs h t ih =>
    obtain ⟨h1, h2⟩ := h
    by_cases e : p.1 = k
    · exact .inr ⟨p.2, q.2, valV_pos e, valD_pos (h1 ▸ e), h2⟩
    · rw [valV_neg e, valD_neg (h1 ▸ e)]
      exact ih
theorem DD.len {K : PySem.W.Frag} {H : Hp} {kvs : List (Key × V)} {ds : List (Key × PyData)} (h : DD K H kvs ds) : kvs.length = ds.length := Paired.length h
mutual
theorem dp_same {K : PySem.W.Frag} {H H' : Hp} (f : Same H H') : ∀ {v : V} {d : PyData}, Dp K H v d → Dp K H' v d
  | _, _, .non => .non
  | _, _, .bl b => .bl b
  | _, _, .int i => .int i
  | _, _, .str x => .str x
  | _, _, .lst hs ha => .lst (by
      rcases hs with (h | ⟨o, h⟩) | h
      · exact .inl (.inl (f _ _ h))
      · exact .inl (.inr ⟨o, f _ _ h⟩)
      · exact .inr h) (dpAll_same f ha)
  | _, _, .tup hs ha => .tup (by
      rcases hs with (h | ⟨o, h⟩) | h
      · exact .inl (.inl (f _ _ h))
      · exact .inl (.inr ⟨o, f _ _ h⟩)
      · exact .inr h) (dpAll_same f ha)
theorem dpAll_same {K : PySem.W.Frag} {H H' : Hp} (f : Same H H') : ∀ {vs : List V} {ds : List PyData}, DpAll K H vs ds → DpAll K H' vs ds
  | _, _, .nil => .nil
  | _, _, .cons h t => .cons (dp_same f h) (dpAll_same f t)
end
theorem DD.same {K : PySem.W.Frag} {H H' : Hp} {kvs : List (Key × V)} {ds : List (Key × PyData)} (h : DD K H kvs ds) (f : Same H H') : DD K H' kvs ds := by
  unfold DD at h ⊢
  induction h with
  | nil => exact .nil
  | cons h t ih => exact .cons ⟨h.1, dp_same f h.2⟩ ih
theorem DatAt.same {K : PySem.W.Frag} {H H' : Hp} {a : Addr} {ds : List (Key × PyData)} (h : DatAt K H a ds) (f : Same H H') : DatAt K H' a ds := by
  obtain ⟨kvs, e, d⟩ := h
  exact ⟨kvs, f _ _ e, d.same f⟩
theorem room66 {k : Nat} {A : Around} (r : Room k A) : A.units + 66 < cLine := by
  have := r.un
  omega
section
variable {X : Cx}
theorem hits_data {pins : List (Addr × Obj)} {σ : L2.St} {H : Hp} {s : Shared} {A : Around} (I : Inv X pins σ H s) (hu : A.units + 64 < cLine) {ls : List (Key × V)} {es : List (Key × PyData)} {vb : List (Key × Value)} (rb : KV ls vb) (hb : DD X.K H ls es) (se : shapedAll es) {ks : List (Key × V)} {ds : List (Key × PyData)} {va : List (Key × Value)}
    (ra : KV ks va) (hd : DD X.K H ks ds) (sd : shapedAll ds) : PySem.W.KeqHits A s vb va (ds.all (hitD es)) := by
  unfold KV at ra
  unfold DD at hd
  induction ra generalizing ds with
  | nil =>
    cases hd
    exact .nil
  | @cons p q ps qs h t ih =>
    cases hd with
    | @cons _ d _ ds hd1 hds =>
      obtain ⟨h1, h2⟩ := h
      obtain ⟨e1, e2⟩ := hd1
      obtain ⟨key, v⟩ := q
      have h1' : p.1 = key := h1
      have tl := ih hds (fun x hx => sd x (List.mem_cons_of_mem _ hx))
      rw [List.all_cons]
      rcases hb.val key with ⟨n1, n2⟩ | ⟨y, e, v1, v2, dy⟩
      · have : hitD es d = false := by
          unfold hitD
          rw [← e1, h1', n2]
        rw [this, Bool.false_and]
        refine .miss ?_
        have rr : RelO none (valueAt vb key) := by rw [← n1]; exact rb.val key
        cases z : valueAt vb key with
        | none => rfl
        | some u =>
          rw [z] at rr
          cases rr
      · have : hitD es d = PyData.eqv d.2 e := by
          unfold hitD
          rw [← e1, h1', v2]
        rw [this]
        have rr : RelO (some y) (valueAt vb key) := by rw [← v1]; exact rb.val key
        obtain ⟨u, hy, ry⟩ := rr.some_of
        obtain ⟨as, r1⟩ := Dp.reads I d.2 p.2 v e2 h2
        obtain ⟨bs, r2⟩ := Dp.reads I e y u dy ry
        have s1 := sd d List.mem_cons_self
        have s2 : SeqAt.shaped e = true := by
          unfold valD at v2
          cases z : es.find? (fun p => decide (p.1 = key)) with
          | none => rw [z] at v2; cases v2
          | some w =>
            rw [z] at v2
            cases v2
            exact se _ (List.mem_of_find?_eq_some z)
        exact .hit hy (SeqAt.eqAt_reads d.2 e A s v u as bs r1 r2 (SeqAt.canLay_of_shaped s1) (SeqAt.canLay_of_shaped s2) (SeqAt.room_of_shaped s1 hu)) tl
/-- d == e of dicts of data -/
def rEqDD (K : PySem.W.Frag) : R2 := fun x y H Q => ∃ a b ds es, x = .ref a ∧ y = .ref b ∧ DatAt K H a ds ∧ DatAt K H b es ∧ shapedAll ds ∧ shapedAll es ∧ Q (.bl (eqvDict ds es)) H
def rNeDD (K : PySem.W.Frag) : R2 := fun x y H Q => ∃ a b ds es, x = .ref a ∧ y = .ref b ∧ DatAt K H a ds ∧ DatAt K H b es ∧ shapedAll ds ∧ shapedAll es ∧ Q (.bl (!eqvDict ds es)) H
theorem op_eqDD (hu : X.A.units + 66 < cLine) : OpR X (compareOp .Eq) (rEqDD X.K) := by
  intro pins s σ H x y v u Q I rx ry h
  obtain ⟨a, b, ds, es, rfl, rfl, ⟨ks, ea, da⟩, ⟨ls, eb, db⟩, sd, se, q⟩ := h
  obtain rfl : v = Value.ref a := rx
  obtain rfl : u = Value.ref b := ry
  obtain ⟨_, ya, va, ra, dda⟩ := (show ObjOk X.prog X.w H s.heap a (.dK ks) from I.hok a _ ea)
  obtain ⟨_, yb, vb, rb, ddb⟩ := (show ObjOk X.prog X.w H s.heap b (.dK ls) from I.hok b _ eb)
  have e : (va.length == vb.length && ds.all (hitD es)) = eqvDict ds es := by
    unfold eqvDict
    rw [← ra.length, ← rb.length, da.len, db.len]
    rfl
  refine PySem.W.keq_eq (knd := mixKind X.prog X.w) (r := ds.all (hitD es)) ya yb dda ddb (by omega) (fun _ => hits_data I ?_ rb db se ra da sd) ?_
  · show X.A.units + 1 + 64 < cLine
    omega
  · rw [e]
    exact ⟨.bl _, H, I, rfl, q⟩
theorem op_neDD (hu : X.A.units + 66 < cLine) : OpR X (compareOp .NotEq) (rNeDD X.K) := by
  intro pins s σ H x y v u Q I rx ry h
  obtain ⟨a, b, ds, es, rfl, rfl, ⟨ks, ea, da⟩, ⟨ls, eb, db⟩, sd, se, q⟩ := h
  obtain rfl : v = Value.ref a := rx
  obtain rfl : u = Value.ref b := ry
  obtain ⟨_, ya, va, ra, dda⟩ := (show ObjOk X.prog X.w H s.heap a (.dK ks) from I.hok a _ ea)
  obtain ⟨_, yb, vb, rb, ddb⟩ := (show ObjOk X.prog X.w H s.heap b (.dK ls) from I.hok b _ eb)
  have e : (va.length == vb.length && ds.all (hitD es)) = eqvDict ds es := by
    unfold eqvDict
    rw [← ra.length, ← rb.length, da.len, db.len]
    rfl
  refine PySem.W.keq_ne (knd := mixKind X.prog X.w) (r := ds.all (hitD es)) ya yb dda ddb (by omega) (fun _ => hits_data I ?_ rb db se ra da sd) ?_
  · show X.A.units + 1 + 64 < cLine
    omega
  · rw [e]
    exact ⟨.bl _, H, I, rfl, q⟩
end
end Fk

set_option maxHeartbeats 4000000
/-! Walks and comprehensions by an invariant, over lists, tuples, dicts; a raise within a locked walk; frames. -/
namespace Fk
open PySem PySem.Spec PyProof.Rows L2
/-! ### frames -/
/-- all that was tracked is as it was, but what stands at L -/
def FrL (L : List Addr) (H H' : Hp) : Prop := ∀ b o, b ∉ L → H b = some o → H' b = some o
theorem FrL.refl (L : List Addr) (H : Hp) : FrL L H H := fun _ _ _ h => h
theorem FrL.trans {L : List Addr} {H H1 H2 : Hp} (x : FrL L H H1) (y : FrL L H1 H2) : FrL L H H2 := fun b o n h => y b o n (x b o n h)
theorem FrL.mono {L M : List Addr} {H H' : Hp} (x : FrL L H H') (h : ∀ a ∈ L, a ∈ M) : FrL M H H' := fun b o n e => x b o (fun z => n (h b z)) e
theorem FrL.at {L : List Addr} {a : Addr} {H : Hp} {o : HO} (h : a ∈ L) : FrL L H (upd H a o) := fun b u n e => by
  have z : b ≠ a := fun z => n (by rw [z]; exact h)
  rw [upd_ne z]
  exact e
theorem FrL.same {L : List Addr} {H H' : Hp} (h : Same H H') : FrL L H H' := fun b o _ e => h b o e
theorem FrL.to {H H' : Hp} (h : FrL [] H H') : Same H H' := fun b o e => h b o (fun z => nomatch z) e
theorem FrL.of {a : Addr} {H H' : Hp} (h : Fr a H H') : FrL [a] H H' := fun b o n e => h b o (fun z => n (z ▸ List.mem_singleton_self a)) e
theorem FrL.new {L : List Addr} {p : Addr} {H : Hp} {o : HO} (h : H p = none) : FrL L H (upd H p o) := FrL.same (same_new h)
/-! ### what is yielded -/
theorem yields_keys {d : Addr} {o : Obj} {kvs : List (Key × V)} : Yields (Itk d o kvs) (kvs.map fun p => kV p.1) (fun H => H d = some (.frz o (.dK kvs))) where
  go := fun k H g h => ⟨g, by rw [List.length_map] at h; exact h⟩
  stop := fun H g => ⟨g, by rw [List.length_map]; exact Nat.le_refl _⟩
  yld := fun k H x H' _ g h => by
    obtain ⟨e, key, v, hk, hx⟩ := h
    refine ⟨e, ?_⟩
    rw [List.getElem?_map, hk, hx]
    rfl
theorem yields_tup {K : PySem.W.Frag} {a : Addr} {xs : List V} : Yields (Itt K a) xs (fun H => SqT K H a xs) where
  go := fun k H g h => ⟨xs, xs[k], g, List.getElem?_eq_getElem h⟩
  stop := fun H g => ⟨xs, g, Nat.le_refl _⟩
  yld := fun k H x H' _ g h => ⟨h.1, h.2 xs g⟩
/-! ### comprehensions -/
theorem lcG {J : It} {items : List V} {G : Hp → Prop} {H1 : Hp} {D : Addr} {σ : L2.St} {vs : List Nat} {g : TG} {tt : TT} {te : TE} {Q : Hp → Prop} (Y : Yields J items G) (I : Nat → List V → Hp → Prop)
    (hG : ∀ k acc H, I k acc H → H D = some (.lst acc) → G H) (h0 : I 0 [] (upd H1 D (.lst [])))
    (hs : ∀ k acc H x, I k acc H → H D = some (.lst acc) → items[k]? = some x → acc.length ≤ k → k < 1000000 → g x (wipe σ vs) H fun σ2 H2 => wipe σ2 vs = wipe σ vs ∧ tt σ2 H2 fun b H3 =>
      if b = true then te σ2 H3 fun y H4 => ∃ acc, H4 D = some (.lst acc) ∧ acc.length < sizeLine ∧ LcN I D (k + 1) (upd H4 D (.lst (acc ++ [y]))) else LcN I D (k + 1) H3)
    (hl : items.length ≤ 1000000) (hd : ∀ acc H, I items.length acc H → H D = some (.lst acc) → acc.length ≤ items.length → Q H) :
    ∃ W : Nat → Nat → Hp → Prop, (∃ m, W 0 m (upd H1 D (.lst []))) ∧ ∀ k m H, W k m H →
      (J.stop k H ∧ Q H) ∨ (J.go k H ∧ ∃ Nx : Hp → Prop, (∀ H', Nx H' → ∃ m', m' < m ∧ W (k + 1) m' H') ∧ ∀ x H', J.yld k H x H' → g x (wipe σ vs) H' fun σ2 H2 => wipe σ2 vs = wipe σ vs ∧ tt σ2 H2 fun b H3 =>
        if b = true then te σ2 H3 fun y H4 => ∃ acc, H4 D = some (.lst acc) ∧ acc.length < sizeLine ∧ Nx (upd H4 D (.lst (acc ++ [y]))) else Nx H3) := by
  refine ⟨fun k m H => m = items.length - k ∧ k ≤ items.length ∧ LcN I D k H, ⟨items.length, by omega, Nat.zero_le _, [], upd_same, Nat.zero_le _, h0⟩, ?_⟩
  rintro k m H ⟨rfl, hk, acc, hD, hacc, hI⟩
  by_cases hlt : k < items.length
  · refine .inr ⟨Y.go k H (hG _ _ _ hI hD) hlt, LcN I D (k + 1), fun H' q => ⟨items.length - (k + 1), by omega, rfl, hlt, q⟩, fun x H' y => ?_⟩
    obtain ⟨rfl, hx⟩ := Y.yld k H x H' hlt (hG _ _ _ hI hD) y
    exact hs k acc _ x hI hD hx hacc (by omega)
  · have e : k = items.length := by omega
    subst e
    exact .inl ⟨Y.stop H (hG _ _ _ hI hD), hd acc H hI hD hacc⟩
/-- behind k turns of a dict's comprehension -/
def DcN (I : Nat → List (Key × V) → Hp → Prop) (D : Addr) (k : Nat) (H : Hp) : Prop := ∃ kvs, H D = some (.dK kvs) ∧ kvs.length ≤ k ∧ I k kvs H
theorem dc_take {I : Nat → List (Key × V) → Hp → Prop} {D : Addr} {k : Nat} {H5 : Hp} {key : Key} {z : V} {kvs : List (Key × V)} (h : H5 D = some (.dK kvs)) (l : kvs.length ≤ k) (hk : k < 1000000) (q : I (k + 1) (putK kvs key z) (upd H5 D (.dK (putK kvs key z)))) :
    ∃ kvs k', (kV key) = kV k' ∧ H5 D = some (.dK kvs) ∧ kvs.length < sizeLine ∧ DcN I D (k + 1) (upd H5 D (.dK (putK kvs k' z))) :=
  ⟨kvs, key, rfl, h, small_lt (by omega), _, upd_same, by have := length_putK kvs key z; omega, q⟩
theorem dc_skip {I : Nat → List (Key × V) → Hp → Prop} {D : Addr} {k : Nat} {H5 : Hp} {kvs : List (Key × V)} (h : H5 D = some (.dK kvs)) (l : kvs.length ≤ k) (q : I (k + 1) kvs H5) : DcN I D (k + 1) H5 := ⟨kvs, h, by omega, q⟩
theorem dcG {J : It} {items : List V} {G : Hp → Prop} {H1 : Hp} {D : Addr} {σ : L2.St} {vs : List Nat} {g : TG} {tt : TT} {tk tv : TE} {Q : Hp → Prop} (Y : Yields J items G) (I : Nat → List (Key × V) → Hp → Prop)
    (hG : ∀ k kvs H, I k kvs H → H D = some (.dK kvs) → G H) (h0 : I 0 [] (upd H1 D (.dK [])))
    (hs : ∀ k kvs H x, I k kvs H → H D = some (.dK kvs) → items[k]? = some x → kvs.length ≤ k → k < 1000000 → g x (wipe σ vs) H fun σ2 H2 => wipe σ2 vs = wipe σ vs ∧ tt σ2 H2 fun b H3 =>
      if b = true then tk σ2 H3 fun y H4 => tv σ2 H4 fun z H5 => ∃ kvs key, y = kV key ∧ H5 D = some (.dK kvs) ∧ kvs.length < sizeLine ∧ DcN I D (k + 1) (upd H5 D (.dK (putK kvs key z))) else DcN I D (k + 1) H3)
    (hl : items.length ≤ 1000000) (hd : ∀ kvs H, I items.length kvs H → H D = some (.dK kvs) → kvs.length ≤ items.length → Q H) :
    ∃ W : Nat → Nat → Hp → Prop, (∃ m, W 0 m (upd H1 D (.dK []))) ∧ ∀ k m H, W k m H →
      (J.stop k H ∧ Q H) ∨ (J.go k H ∧ ∃ Nx : Hp → Prop, (∀ H', Nx H' → ∃ m', m' < m ∧ W (k + 1) m' H') ∧ ∀ x H', J.yld k H x H' → g x (wipe σ vs) H' fun σ2 H2 => wipe σ2 vs = wipe σ vs ∧ tt σ2 H2 fun b H3 =>
        if b = true then tk σ2 H3 fun y H4 => tv σ2 H4 fun z H5 => ∃ kvs key, y = kV key ∧ H5 D = some (.dK kvs) ∧ kvs.length < sizeLine ∧ Nx (upd H5 D (.dK (putK kvs key z))) else Nx H3) := by
  refine ⟨fun k m H => m = items.length - k ∧ k ≤ items.length ∧ DcN I D k H, ⟨items.length, by omega, Nat.zero_le _, [], upd_same, Nat.zero_le _, h0⟩, ?_⟩
  rintro k m H ⟨rfl, hk, kvs, hD, hacc, hI⟩
  by_cases hlt : k < items.length
  · refine .inr ⟨Y.go k H (hG _ _ _ hI hD) hlt, DcN I D (k + 1), fun H' q => ⟨items.length - (k + 1), by omega, rfl, hlt, q⟩, fun x H' y => ?_⟩
    obtain ⟨rfl, hx⟩ := Y.yld k H x H' hlt (hG _ _ _ hI hD) y
    exact hs k kvs _ x hI hD hx hacc (by omega)
  · have e : k = items.length := by omega
    subst e
    exact .inl ⟨Y.stop H (hG _ _ _ hI hD), hd kvs H hI hD hacc⟩
/-! ### walks -/
theorem forG {J : It} {items : List V} {G : Hp → Prop} {g : TG} {tb : TS} {D : Ends} {σ : L2.St} {H : Hp} (Y : Yields J items G) (Pv : Nat → L2.St → Hp → Prop) (h0 : Pv 0 σ H) (hG : ∀ i σ H, Pv i σ H → G H)
    (hs : ∀ i x σ H, items[i]? = some x → Pv i σ H → g x σ H fun σ2 H2 => tb { D with nx := Pv (i + 1), ct := Pv (i + 1), bk := D.nx } σ2 H2) (hd : ∀ σ H, Pv items.length σ H → D.nx σ H) :
    ∃ W : Nat → Nat → L2.St → Hp → Prop, (∃ m, W 0 m σ H) ∧ ∀ i m σ H, W i m σ H →
      (J.stop i H ∧ D.nx σ H) ∨ (J.go i H ∧ ∃ N : L2.St → Hp → Prop, (∀ σ' H', N σ' H' → ∃ m', m' < m ∧ W (i + 1) m' σ' H') ∧ ∀ x H', J.yld i H x H' → g x σ H' fun σ2 H2 => tb { D with nx := N, ct := N, bk := D.nx } σ2 H2) := by
  refine ⟨fun i m σ H => m = items.length - i ∧ i ≤ items.length ∧ Pv i σ H, ⟨items.length, by omega, Nat.zero_le _, h0⟩, ?_⟩
  rintro i m σ H ⟨rfl, hi, p⟩
  by_cases hlt : i < items.length
  · refine .inr ⟨Y.go i H (hG _ _ _ p) hlt, Pv (i + 1), fun σ' H' p' => ⟨items.length - (i + 1), by omega, rfl, hlt, p'⟩, fun x H' y => ?_⟩
    obtain ⟨rfl, hx⟩ := Y.yld i H x H' hlt (hG _ _ _ p) y
    exact hs i x σ _ hx p
  · have e : i = items.length := by omega
    subst e
    exact .inl ⟨Y.stop H (hG _ _ _ p), hd σ H p⟩
/-! ### a raise within a locked walk -/
/-- what is let out of a locked walk, told of the heap with the lock off -/
def wLock (X : Cx) (W : WX) : WX := fun cls dd σ H => ∃ (d : Addr) (od : Obj) (u : HO), H d = some (.frz od u) ∧ (∀ o' u', X.H_0 d ≠ some (.frz o' u')) ∧ W cls dd σ (upd H d u)
theorem takes_lock {X : Cx} {W : WX} (tk : Takes X W) : Takes X (wLock X W) := by
  rintro v s' ⟨a, B, sI, pins, σ, H, cls, dd, e, I, nb, up, sky, na, os, ag, d, od, u, hd, hn, w⟩
  refine tk v s' ⟨a, B, sI, pins, σ, upd H d u, cls, dd, e, I.unlock hd hn, nb, up, sky, ?_, os, ag, w⟩
  rw [upd_ne (fun z => by rw [z, hd] at na; cases na)]
  exact na
end Fk

set_option maxHeartbeats 4000000
/-! A dict's comprehension that is given a name; tables with texts as keys; texts in order. -/
namespace Fk
open PySem PySem.Spec PyProof.Rows L2
section
variable {X : Cx}
theorem sw_trueD {kx vx : Expr} {gs : List Comprehension} {scope : Scope} {pos py : Pos} {y : Str} {l : Nat} {env : Env} (hk : env.scope.kind = .function) (hy : env.scope.names.lookup y = some .local) (hl : (py.line == pos.line) = true)
    (ha : (scope.names.any fun (n, k) => n == y && (k == .local || k == .cell)) = false) : swapsWith (.DictComp kx vx gs scope pos) (some (.Name y py)) l env = pure true := by
  have ky : env.kindOf y = some .local := hy
  have hb : env.blockKind = .function := by unfold Env.blockKind; rw [hk]; rfl
  unfold swapsWith
  simp only [hb, ky, ha, Expr.pos, hl]
  rfl
/-- name = {k: v for ..} on one line, the name a local -/
theorem ps_setDc {i : Nat} {y : Str} {py : Pos} {kx vx tg iter : Expr} {ifs : List Expr} {scope : Scope} {own : List (Str × Nat)} {pos spos : Pos} {wi : TI} {g : TG} {tt : TT} {tk tv : TE} (hc : X.calm = true) (hN : X.N.Nodup) (hy : X.N[i]? = some y) (hyl : X.env.scope.names.lookup y = some .local)
    (hsw : swapsWith (.DictComp kx vx [⟨tg, iter, ifs, 0⟩] scope pos) (some (.Name y py)) spos.line X.env = pure true) (hi : PI X tg iter wi) (ok : BlkOk X.N X.env.scope scope own)
    (hg : ∀ (s : Shared) (H : Hp) (C : Addr) (cl : List (Str × Addr)) (fp : List Addr), PG (X.blk s H scope (compEnvC scope cl C X.env) fp) tg g) (ht : ∀ (s : Shared) (H : Hp) (C : Addr) (cl : List (Str × Addr)) (fp : List Addr), PTs (X.blk s H scope (compEnvC scope cl C X.env) fp) ifs tt)
    (hk : ∀ (s : Shared) (H : Hp) (C : Addr) (cl : List (Str × Addr)) (fp : List Addr), PE (X.blk s H scope (compEnvC scope cl C X.env) fp) kx tk)
    (he : ∀ (s : Shared) (H : Hp) (C : Addr) (cl : List (Str × Addr)) (fp : List Addr), PE (X.blk s H scope (compEnvC scope cl C X.env) fp) vx tv) (hs : ∀ x, foldedSetIterable iter X.env x = pure x := by intro _; rfl) :
    PS X (.Assign [.Name y py] (.DictComp kx vx [⟨tg, iter, ifs, 0⟩] scope pos) spos) (tAsg (tDc wi g tt tk tv (own.map (·.2))) (gName i)) := by
  refine ⟨fun pins s σ H D I h => ?_⟩
  rw [exec_Assign_Name_used _ _ _ _ hsw]
  refine wpAny_bind (wpAny_standAt (wpAny_bind ?_))
  show wpAny _ X.A (do let _ ← comprehension (.DictComp kx vx [⟨tg, iter, ifs, 0⟩] scope pos) scope X.env (firstIterPos [⟨tg, iter, ifs, 0⟩] pos) newDict false (eval iter X.env) (some (assign (.Name y py) X.env))) _ _ s
  have h : tDc wi g tt tk tv (own.map (·.2)) σ H (fun x H1 => gName i x σ H1 D.nx) := h
  refine wpAny_bind (thn (dc_core (Qf := fun _ s' => SP X pins D .next s') hc hN I hi ok hg ht hk he hs h fun L C s' m H' I' q hn f => ?_) fun _ s' hq => wpAny_pure (wpAny_pure hq))
  show wpAny _ _ (assign (.Name y py) X.env (.ref L)) _ _ _
  refine wpAny_assign_Name (store_ok2 (v := V.ref L) I' hN hy (.inl hyl) rfl (fun s2 I2 ⟨a, sb, ha⟩ => ?_) (.inr hyl))
  obtain ⟨f0, f1, f2, f3, f4, f5⟩ := f
  have haC : C ≠ a := by
    rcases ha with z | z
    · rw [z]; exact f1
    · exact fun e => f4 y a z e.symm
  refine ⟨m, hn.sameBut sb haC, fun h3 sb3 => ?_⟩
  exact ⟨_, H', I2.turned (t' := s2.toks) (fun b o hb e => (sb3.2 b hb).trans e) f0 f1 f3 f4 f5, q⟩
end
/-! ### tables with texts as keys -/
abbrev Tab := List (Str × V)
def kT (t : Tab) : List (Key × V) := t.map fun p => (.inr p.1, p.2)
theorem valV_kT (t : Tab) (x : Str) : valV (kT t) (.inr x) = valV t x := by
  induction t with
  | nil => rfl
  | cons p r ih =>
    show valV ((.inr p.1, p.2) :: kT r) (.inr x) = _
    by_cases h : p.1 = x
    · rw [valV_pos (show (Sum.inr p.1 : Key) = .inr x by rw [h]), valV_pos h]
    · rw [valV_neg (fun e => h (Sum.inr.inj e)), valV_neg h, ih]
theorem any_kT (t : Tab) (x : Str) : ((kT t).any fun kv => decide (kv.1 = .inr x)) = t.any fun kv => decide (kv.1 = x) := by
  rw [valV_any, valV_any, valV_kT]
theorem putK_kT (t : Tab) (x : Str) (v : V) : putK (kT t) (.inr x) v = kT (putK t x v) := by
  unfold putK
  rw [any_kT]
  split
  · unfold kT
    rw [List.map_map, List.map_map]
    refine List.map_congr_left fun p _ => ?_
    show (if (Sum.inr p.1 : Key) = .inr x then _ else _) = _
    by_cases h : p.1 = x
    · rw [if_pos (by rw [h])]
      show _ = ((Sum.inr (if p.1 = x then (p.1, v) else p).1, (if p.1 = x then (p.1, v) else p).2) : Key × V)
      rw [if_pos h]
    · rw [if_neg (fun e => h (Sum.inr.inj e))]
      show _ = ((Sum.inr (if p.1 = x then (p.1, v) else p).1, (if p.1 = x then (p.1, v) else p).2) : Key × V)
      rw [if_neg h]
  · unfold kT
    rw [List.map_append]
    rfl
theorem dropK_kT (t : Tab) (x : Str) : dropK (kT t) (.inr x) = kT (dropK t x) := by
  unfold dropK kT
  rw [List.filter_map]
  congr 1
  refine List.filter_congr fun p _ => ?_
  show decide ((Sum.inr p.1 : Key) ≠ .inr x) = decide (p.1 ≠ x)
  exact decide_eq_decide.mpr ⟨fun n e => n (by rw [e]), fun n e => n (Sum.inr.inj e)⟩
theorem keys_kT (t : Tab) : (kT t).map (·.1) = (t.map (·.1)).map Sum.inr := by
  unfold kT
  rw [List.map_map, List.map_map]
  rfl
theorem kV_kT (t : Tab) : ((kT t).map fun p => kV p.1) = (t.map (·.1)).map V.str := by
  unfold kT
  rw [List.map_map, List.map_map]
  rfl
theorem len_kT (t : Tab) : (kT t).length = t.length := List.length_map ..
/-- what a[x] is -/
theorem dget_kT {H : Hp} {a : Addr} {t : Tab} (h : Rd H a (.dK (kT t))) (x : Str) : DGet H a (.str x) (valV t x) := .inl ⟨kT t, .inr x, h, rfl, (valV_kT t x).symm⟩
theorem valV_drop {κ : Type} [DecidableEq κ] (t : List (κ × V)) (x y : κ) : valV (dropK t x) y = if y = x then none else valV t y := by
  induction t with
  | nil => split <;> rfl
  | cons p r ih =>
    by_cases h : p.1 = x
    · rw [dropK_pos h, ih]
      by_cases e : y = x
      · rw [if_pos e, if_pos e]
      · rw [if_neg e, if_neg e, valV_neg (fun z => e (by rw [← z, h]))]
    · rw [dropK_neg h]
      by_cases e : p.1 = y
      · rw [valV_pos e, valV_pos e, if_neg (fun z => h (by rw [e, z]))]
      · rw [valV_neg e, valV_neg e, ih]
/-- no key twice -/
def Nd (t : Tab) : Prop := (t.map (·.1)).Nodup
theorem nd_put {t : Tab} (h : Nd t) (x : Str) (v : V) : Nd (putK t x v) := by
  cases e : valV t x with
  | none => exact nd_putK v h e
  | some u =>
    unfold Nd putK
    rw [if_pos (by rw [valV_any, e]; rfl), List.map_map]
    have : ((fun p : Str × V => p.1) ∘ fun kv : Str × V => if kv.1 = x then (kv.1, v) else kv) = fun p => p.1 := by
      funext p
      show (if p.1 = x then (p.1, v) else p).1 = p.1
      split <;> rfl
    rw [this]
    exact h
theorem nd_drop {t : Tab} (h : Nd t) (x : Str) : Nd (dropK t x) := nd_dropK h
theorem mem_val {t : Tab} {x : Str} : x ∈ t.map (·.1) ↔ (valV t x).isSome = true := by
  rw [← valV_any, List.any_eq_true]
  constructor
  · intro m
    obtain ⟨p, hp, e⟩ := List.mem_map.mp m
    exact ⟨p, hp, decide_eq_true e⟩
  · rintro ⟨p, hp, e⟩
    exact List.mem_map.mpr ⟨p, hp, of_decide_eq_true e⟩
/-- tables with the same keys -/
theorem keys_perm {t u : Tab} (ht : Nd t) (hu : Nd u) (h : ∀ x, (valV t x).isSome = (valV u x).isSome) : (t.map (·.1)).Perm (u.map (·.1)) :=
  (List.perm_ext_iff_of_nodup ht hu).mpr fun x => by rw [mem_val, mem_val, h]
/-! ### texts in order -/
def leS (a b : Str) : Prop := ¬ b.cps.toList < a.cps.toList
theorem leS_trans {a b c : Str} (h : leS a b) (k : leS b c) : leS a c := by
  unfold leS at *
  intro z
  exact h (List.lt_of_le_of_lt (List.not_lt.mp k) z)
theorem str_ext {a b : Str} (h : a.cps.toList = b.cps.toList) : a = b := by
  cases a; cases b
  congr 1
  exact Array.toList_inj.mp h
theorem leS_anti {a b : Str} (h : leS a b) (k : leS b a) : a = b := str_ext (List.le_antisymm (List.not_lt.mp h) (List.not_lt.mp k))
theorem rising_pw : ∀ (l : List Str) (p : Str), risingS p l = true → (p :: l).Pairwise leS
  | [], p, _ => List.pairwise_singleton _ _
  | x :: r, p, h => by
    have h : (!ltCps x.cps.toList p.cps.toList && risingS x r) = true := h
    obtain ⟨h1, h2⟩ := Bool.and_eq_true_iff.mp h
    have ih := rising_pw r x h2
    have px : leS p x := fun z => by
      rw [ltCps_eq, decide_eq_true z] at h1
      exact absurd h1 (by decide)
    refine List.pairwise_cons.mpr ⟨fun y hy => ?_, ih⟩
    rcases List.mem_cons.mp hy with e | hy
    · rw [e]
      exact px
    · exact leS_trans px ((List.pairwise_cons.mp ih).1 y hy)
theorem sorted_pw {l : List Str} (h : sortedS l = true) : l.Pairwise leS := by
  cases l with
  | nil => exact List.Pairwise.nil
  | cons x r => exact rising_pw r x h
theorem pw_uniq : ∀ {l m : List Str}, l.Pairwise leS → m.Pairwise leS → l.Perm m → l = m
  | [], m, _, _, p => (List.nil_perm.mp p).symm ▸ rfl
  | a :: r, [], _, _, p => absurd (List.perm_nil.mp p) (by simp)
  | a :: r, b :: s, h, k, p => by
    obtain ⟨h1, h2⟩ := List.pairwise_cons.mp h
    obtain ⟨k1, k2⟩ := List.pairwise_cons.mp k
    have e : a = b := by
      rcases List.mem_cons.mp (p.mem_iff.mp List.mem_cons_self) with z | z
      · exact z
      · rcases List.mem_cons.mp (p.mem_iff.mpr (List.mem_cons_self (a := b))) with y | y
        · exact y.symm
        · exact leS_anti (h1 b y) (k1 a z)
    subst e
    rw [pw_uniq h2 k2 ((List.perm_cons a).mp p)]
theorem sort_uniq {l m : List Str} (h : sortedS l = true) (k : sortedS m = true) (p : l.Perm m) : l = m := pw_uniq (sorted_pw h) (sorted_pw k) p
end Fk

set_option maxHeartbeats 4000000
/-! Statements that are never come to; methods with a keyword; methods that may raise. -/
namespace Fk
open PySem PySem.Spec PyProof.Rows L2
section
variable {X : Cx}
/-- what is never come to -/
theorem ps_never {st : Stmt} : PS X st (fun _ _ _ => False) := ⟨fun _ _ _ _ _ _ h => h.elim⟩
theorem pe_never {e : Expr} : PE X e (fun _ _ _ => False) := ⟨fun _ _ _ _ _ _ h => h.elim⟩
variable {k j : Nat} {C : Addr} {m : Str} {sp : Sp} {E : L2.St → XK} {o e : Expr} {es : List Expr} {kws : List Keyword} {ta : TE} {t tk : TA} {pos apos : Pos} {ks : List Str} {gV : List V → List V → List V}
/-- a method with these keywords -/
structure MetK (P : Program) (w : World) (K : PySem.W.Frag) (mg : Str → Option Value) (base : Heap) (k : Nat) (C : Addr) (m : Str) (sp : Sp) (ks : List Str) (gV : List V → List V → List V) : Prop where
  ex : ∃ (f : Addr) (fd : FuncData) (ps : List Str) (g : List Value → List Value → List Value), Cls K C ∧ Meth K C m f ∧ FnOk P w K mg base C8.CX0 k f fd ps sp ∧ KBinds K fd ps ks g gV
def tMeK (C : Addr) (m : Str) (sp : Sp) (gV : List V → List V → List V) (ta : TE) (t tk : TA) : TE := fun σ H Q => ta σ H fun x H1 => ∃ (a dx : Addr) (fs : List (Str × V)), x = .ref a ∧ H1 a = some (.ins C dx fs) ∧ fs.lookup m = none ∧
  t σ H1 fun vs H2 => tk σ H2 fun zs H3 => sp (gV (x :: vs) zs) H3 Q C8.E0
/-- o.m(e, .., k = v, ..) -/
theorem pe_mtK {pl : Sem Bool} (c : MetK X.prog X.w X.K X.mg X.base k C m sp ks gV) (hr : Room j X.A) (hk : k ≤ j) (he : PE X o ta) (ha : PA X (e :: es) t) (hkw : PK X kws tk)
    (hall : (backToKw pos (keywordEach kws X.env)).all (·.1.isSome) = true := by rfl) (hks : (backToKw pos (keywordEach kws X.env)).filterMap (·.1) = ks := by rfl)
    (hst : starEach (e :: es) X.env = (false, eval e X.env) :: starEach es X.env := by rfl) (hpl : ((backTo pos (starEach (e :: es) X.env)).any (·.1) || (backToKw pos (keywordEach kws X.env)).any (·.1.isNone)) = false := by rfl)
    (ht : eval (.Call (.Attribute o m apos) (e :: es) kws pos) X.env = (do
      let ov ← eval o X.env
      standAt apos.atName
      let (f, first) ← holding [ov] (getMethod ov m pl)
      callWith pos f first (backTo pos (starEach (e :: es) X.env)) (backToKw pos (keywordEach kws X.env))) := by rfl) :
    PE X (.Call (.Attribute o m apos) (e :: es) kws pos) (tMeK C m sp gV ta t tk) := by
  obtain ⟨f, fd, ps, g, cl, hm, F, b⟩ := c.ex
  refine ⟨fun pins s σ H Q I h => ?_⟩
  refine PySem.W.methodCall_KW (pl := pl) (thn (he.run pins s σ H _ I h) fun u s1 ⟨x, H1, I1, rx, a, dx, fs, ex, ea, l, q⟩ => ?_) ht
  subst ex
  obtain rfl : u = Value.ref a := rx
  refine getmeth_ok I1 ea cl hm l ?_
  refine PySem.W.callWith_KW (first := [.ref a]) (h₀ := X.base) I.ok.mod.kin hm.kp hall (thn (ha.run pos pins s1 σ H1 _ I1 q) fun us s2 ⟨vs, H2, I2, r, q2⟩ => ?_) hpl hst
  refine thn (hkw.run pos pins s2 σ H2 _ I2 q2) fun ws s3 ⟨zs, H3, I3, rz, q3⟩ => ⟨I3.kIn, ?_⟩
  rw [hks]
  exact run_fnk F (hr.mono hk) b C8.pass0 I3 (show Vals (.ref a :: vs) (.ref a :: us) from .cons rfl r) rz q3
end
section
variable {P : Program} {w : World} {K : PySem.W.Frag} {mg : Str → Option Value} {base : Heap}
/-- a method of the text as it stands behind the top, with no defaults -/
structure MDef (K : PySem.W.Frag) (C : Addr) (m qual : Str) (st : Stmt) : Prop where
  ex : ∃ (f : Addr) (fd : FuncData), C8.Fun K m qual st f fd ∧ Meth K C m f ∧ fd.defaults = .none
theorem met_of {m qual : Str} {C : Addr} {st : Stmt} {N ps : List Str} {k : Nat} {sp : Sp} (c : Cls K C) (D : MDef K C m qual st) (S : FnScope N ps (C8.fnScope st))
    (hb : ∀ (kV doc pm : Value) (an : Option Addr) (cdv ct : Value) (us : List Value), us.length = ps.length → bindArgs (PySem.W.fnOf m qual (C8.fnArgs st) (C8.fnBody st) (C8.fnScope st) .none kV doc pm an cdv ct) ⟨us, []⟩ = pure (ps.zip us))
    (len : ∀ vs H Q E, sp vs H Q E → vs.length = ps.length)
    (hbody : ∀ (f : Addr) (cdv : Value) (A : Around) (outer : List Env) (s : Shared) (H : Hp) (vs : List V) (Q : VK) (E : XK), Room k (A.deeper (envOfC qual (C8.fnScope st) s.heap.objs.size f cdv)) → sp vs H Q E →
      ∃ t, PSs (cxOf C8.CX0 P w K mg base N qual (C8.fnScope st) f cdv A outer s H E).nox (C8.fnBody st) t ∧ t { nx := fun _ H' => Q .non H', rt := Q } (start N vs) H) : C8.Met P w K mg base (k + 1) C m sp [] := by
  obtain ⟨f, fd, F, M, df⟩ := D.ex
  exact C8.met0 c M F (F.binds df hb) S len (hbody f)
/-- a method that may let errors out -/
theorem metX_of {m qual : Str} {C : Addr} {st : Stmt} {N ps : List Str} {k : Nat} {sp : Sp} (c : Cls K C) (D : MDef K C m qual st) (S : FnScope N ps (C8.fnScope st))
    (hb : ∀ (kV doc pm : Value) (an : Option Addr) (cdv ct : Value) (us : List Value), us.length = ps.length → bindArgs (PySem.W.fnOf m qual (C8.fnArgs st) (C8.fnBody st) (C8.fnScope st) .none kV doc pm an cdv ct) ⟨us, []⟩ = pure (ps.zip us))
    (len : ∀ vs H Q E, sp vs H Q E → vs.length = ps.length)
    (hbody : ∀ (f : Addr) (cdv : Value) (A : Around) (outer : List Env) (s : Shared) (H : Hp) (vs : List V) (Q : VK) (E : XK), Room k (A.deeper (envOfC qual (C8.fnScope st) s.heap.objs.size f cdv)) → sp vs H Q E →
      ∃ t, PSs (cxOf (L2.CX P w) P w K mg base N qual (C8.fnScope st) f cdv A outer s H E) (C8.fnBody st) t ∧ t { nx := fun _ H' => Q .non H', rt := Q } (start N vs) H) : MetX P w K mg base (L2.CX P w) (k + 1) C m sp [] := by
  obtain ⟨f, fd, F, M, df⟩ := D.ex
  obtain ⟨oc, od, dV, kV, doc, pm, an, cdv, ct, osl, rfl, lk, hcd⟩ := F.ex
  exact ⟨f, _, ps, [], c, M, fn_of lk hcd S len fun A outer s H vs Q E hr hsp => hbody f cdv A outer s H vs Q E hr hsp, F.binds df hb, .nil⟩
end
end Fk

set_option maxHeartbeats 4000000
/-! A comprehension with two fors that changes nothing; the prefixes of paths. -/
namespace Fk
open PySem PySem.Spec PyProof.Rows L2
theorem same_frl {D : Addr} {H1 H H' : Hp} (h : H1 D = none) (s : Same H1 H) (f : FrL [D] H H') : Same H1 H' := fun b o e => f b o (fun z => by
  rw [List.mem_singleton.mp z, h] at e
  cases e) (s b o e)
theorem lc2_pure {α β : Type} {J : It} {us : List α} {g : α → V} {h : β → V} {G : Hp → Prop} {H1 : Hp} {D : Addr} {σ : L2.St} {vs : List Nat} {i j : Nat} {wi1 : TI} {te : TE} {Q : Hp → Prop} (Y : Yields J (us.map g) G) (fs : α → List β) (f : α → β → V) (hD1 : H1 D = none) (hG : ∀ H, Same H1 H → G H)
    (e1 : ∀ x, wipe ((wipe σ vs).set i (some x)) vs = wipe σ vs)
    (e2 : ∀ x y, wipe ((wipe ((wipe σ vs).set i (some x)) [j]).set j (some y)) [j] = wipe ((wipe σ vs).set i (some x)) [j])
    (hw : ∀ H u, Same H1 H → H D ≠ none → u ∈ us → ∀ (R : It → Hp → Prop), (∀ J1 G1 H3, Yields J1 ((fs u).map h) G1 → Same H H3 → (∀ H', FrL [D] H3 H' → G1 H') → R J1 H3) → wi1 ((wipe σ vs).set i (some (g u))) H R)
    (he : ∀ H u w, Same H1 H → u ∈ us → w ∈ fs u → ∀ (R : VK), (∀ H3, Same H H3 → R (f u w) H3) → te ((wipe ((wipe σ vs).set i (some (g u))) [j]).set j (some (h w))) H R)
    (hl : (us.flatMap fs).length ≤ 1000000) (hd : ∀ H, Same H1 H → H D = some (.lst (us.flatMap fun u => (fs u).map (f u))) → Q H) :
    ∃ W : Nat → Nat → Hp → Prop, (∃ m, W 0 m (upd H1 D (.lst []))) ∧ ∀ k m H, W k m H →
      (J.stop k H ∧ Q H) ∨ (J.go k H ∧ ∃ Nx : Hp → Prop, (∀ H', Nx H' → ∃ m', m' < m ∧ W (k + 1) m' H') ∧ ∀ x H', J.yld k H x H' → gName i x (wipe σ vs) H' fun σ2 H2 => wipe σ2 vs = wipe σ vs ∧ tYes σ2 H2 fun b H3 =>
        if b = true then wi1 σ2 H3 fun J1 H4 => ∃ W1 : Nat → Nat → Hp → Prop, (∃ m, W1 0 m H4) ∧ ∀ k2 m2 H, W1 k2 m2 H →
          (J1.stop k2 H ∧ Nx H) ∨ (J1.go k2 H ∧ ∃ Nx1 : Hp → Prop, (∀ H', Nx1 H' → ∃ k', k' < m2 ∧ W1 (k2 + 1) k' H') ∧ ∀ x H', J1.yld k2 H x H' → gName j x (wipe σ2 [j]) H' fun σ3 H5 => wipe σ3 [j] = wipe σ2 [j] ∧ tYes σ3 H5 fun b H6 =>
            if b = true then te σ3 H6 fun y H7 => ∃ acc, H7 D = some (.lst acc) ∧ acc.length < sizeLine ∧ Nx1 (upd H7 D (.lst (acc ++ [y]))) else Nx1 H6)
        else Nx H3) := by
  refine ⟨fun k m H => m = us.length - k ∧ k ≤ us.length ∧ Same H1 H ∧ H D = some (.lst ((us.take k).flatMap fun u => (fs u).map (f u))), ⟨us.length, by omega, Nat.zero_le _, same_new hD1, upd_same⟩, ?_⟩
  rintro k m H ⟨rfl, hk, sm, hD⟩
  by_cases hlt : k < us.length
  · refine .inr ⟨Y.go k H (hG _ sm) (by rw [List.length_map]; exact hlt), fun H' => Same H1 H' ∧ H' D = some (.lst ((us.take (k + 1)).flatMap fun u => (fs u).map (f u))), fun H' q => ⟨us.length - (k + 1), by omega, rfl, hlt, q⟩, fun x H' y => ?_⟩
    obtain ⟨rfl, hx⟩ := Y.yld k H x H' (by rw [List.length_map]; exact hlt) (hG _ sm) y
    rw [List.getElem?_map, List.getElem?_eq_getElem hlt] at hx
    obtain rfl := Option.some.inj hx
    have hu : us[k] ∈ us := List.getElem_mem hlt
    refine ⟨e1 _, ?_⟩
    dsimp only [tYes]
    first | rw [if_pos (rfl : true = true)] | skip
    refine hw _ us[k] sm (by rw [hD]; exact fun z => nomatch z) hu _ fun J1 G1 H3 Y1 s3 hG1 => ?_
    have et : us.take (k + 1) = us.take k ++ [us[k]] := by rw [List.take_add_one, List.getElem?_eq_getElem hlt]; rfl
    have total : ((us.take k).flatMap fun u => (fs u).map (f u)).length + (fs us[k]).length ≤ 1000000 := by
      have e : us.flatMap fs = ((us.take (k + 1)) ++ us.drop (k + 1)).flatMap fs := by rw [List.take_append_drop]
      rw [e, List.flatMap_append, et, List.flatMap_append, List.length_append, List.length_append] at hl
      have e2 : ∀ l : List α, (l.flatMap fun u => (fs u).map (f u)).length = (l.flatMap fs).length := fun l => by
        induction l with
        | nil => rfl
        | cons a r ih => rw [List.flatMap_cons, List.flatMap_cons, List.length_append, List.length_append, ih, List.length_map]
      rw [e2]
      have : ([us[k]].flatMap fs).length = (fs us[k]).length := by simp
      omega
    refine ⟨fun k2 m2 H => m2 = (fs us[k]).length - k2 ∧ k2 ≤ (fs us[k]).length ∧ FrL [D] H3 H ∧ H D = some (.lst (((us.take k).flatMap fun u => (fs u).map (f u)) ++ ((fs us[k]).take k2).map (f us[k]))),
      ⟨(fs us[k]).length, by omega, Nat.zero_le _, FrL.refl _ _, by rw [List.take_zero, List.map_nil, List.append_nil]; exact s3 _ _ hD⟩, ?_⟩
    rintro k2 m2 H5 ⟨rfl, hk2, f5, hD5⟩
    by_cases hlt2 : k2 < (fs us[k]).length
    · refine .inr ⟨Y1.go k2 H5 (hG1 _ f5) (by rw [List.length_map]; exact hlt2), _, fun H' q => ⟨(fs us[k]).length - (k2 + 1), by omega, rfl, hlt2, q⟩, fun x H' y => ?_⟩
      obtain ⟨rfl, hx⟩ := Y1.yld k2 H5 x H' (by rw [List.length_map]; exact hlt2) (hG1 _ f5) y
      rw [List.getElem?_map, List.getElem?_eq_getElem hlt2] at hx
      obtain rfl := Option.some.inj hx
      refine ⟨e2 _ _, ?_⟩
      first | rw [if_pos (rfl : true = true)] | skip
      have s5 : Same H1 _ := same_frl hD1 (sm.trans s3) f5
      refine he _ us[k] (fs us[k])[k2] s5 hu (List.getElem_mem hlt2) _ fun H6 s6 => ?_
      refine ⟨_, s6 _ _ hD5, small_lt (by rw [List.length_append, List.length_map, List.length_take]; omega), FrL.trans (f5.trans (FrL.same s6)) (FrL.at (List.mem_singleton_self D)), ?_⟩
      rw [upd_same, List.take_add_one, List.getElem?_eq_getElem hlt2, List.append_assoc, List.map_append]
      rfl
    · have e : k2 = (fs us[k]).length := by omega
      subst e
      refine .inl ⟨by have := Y1.stop H5 (hG1 _ f5); rw [List.length_map] at this; exact this, same_frl hD1 (sm.trans s3) f5, ?_⟩
      rw [hD5, et, List.flatMap_append, List.take_length]
      simp
  · have e : k = us.length := by omega
    subst e
    refine .inl ⟨by have := Y.stop H (hG _ sm); rw [List.length_map] at this; exact this, hd _ sm ?_⟩
    rw [hD, List.take_length]
/-! ### prefixes -/
def prefixesF (x : Str) : List Str := (List.range ((segs x).length - 1)).map fun k => Txt.join "/" ((segs x).take (k + 1))
def haveF (ks : List Str) : Bool := ks.any fun x => (prefixesF x).any fun y => decide (y ∈ ks)
theorem have_perm {ks ls : List Str} (h : ks.Perm ls) : haveF ks = haveF ls := by
  have e : ∀ a b : List Str, a.Perm b → haveF a = true → haveF b = true := fun a b p z => by
    obtain ⟨x, hx, z⟩ := List.any_eq_true.mp z
    obtain ⟨y, hy, z⟩ := List.any_eq_true.mp z
    exact List.any_eq_true.mpr ⟨x, p.mem_iff.mp hx, List.any_eq_true.mpr ⟨y, hy, decide_eq_true (p.mem_iff.mp (of_decide_eq_true z))⟩⟩
  cases c : haveF ls with
  | true => exact e ls ks h.symm c
  | false => exact Bool.eq_false_iff.mpr fun z => by rw [e ks ls h z] at c; cases c
theorem pre_len (x : Str) (h : x.length ≤ 100000) : (prefixesF x).length ≤ 100000 := by
  unfold prefixesF
  rw [List.length_map, List.length_range]
  have := (segs_len x h).1
  omega
theorem any_flat {α β : Type} (us : List α) (fs : α → List β) (f : α → β → Bool) : (us.flatMap fun u => (fs u).map (f u)).any id = us.any fun u => (fs u).any (f u) := by
  induction us with
  | nil => rfl
  | cons a r ih => rw [List.flatMap_cons, List.any_append, ih, List.any_cons, List.any_map]; rfl
end Fk
namespace Fk
open PySem PySem.Spec PyProof.Rows L2
theorem segs_lens (x : Str) : (segs x).length ≤ x.length + 1 ∧ ∀ y ∈ segs x, y.length ≤ x.length := by
  have e := TL.split_spl x "/" (by decide +kernel) (TL.kind_ok (by decide +kernel))
  have e2 : ∀ l k acc, (TL.spl (TL.tl "/") k acc l).length ≤ l.length + 1 ∧ ∀ y ∈ TL.spl (TL.tl "/") k acc l, y.length ≤ acc.length + l.length := by
    intro l
    induction l with
    | nil => intro k acc; rw [TL.spl_nil]; exact ⟨Nat.le_refl _, fun y hy => by rw [List.mem_singleton.mp hy]; simp⟩
    | cons c r ih =>
      intro k acc
      cases k with
      | zero =>
        unfold TL.spl
        split
        · obtain ⟨i1, i2⟩ := ih ((TL.tl "/").length - 1) []
          refine ⟨by simp only [List.length_cons]; omega, fun y hy => ?_⟩
          rcases List.mem_cons.mp hy with rfl | hy
          · simp only [List.length_cons]; omega
          · have := i2 y hy
            simp only [List.length_cons, List.length_nil] at this ⊢
            omega
        · obtain ⟨i1, i2⟩ := ih 0 (acc ++ [c])
          refine ⟨by simp only [List.length_cons]; omega, fun y hy => ?_⟩
          have := i2 y hy
          simp only [List.length_cons, List.length_append, List.length_nil] at this ⊢
          omega
      | succ k =>
        obtain ⟨i1, i2⟩ := ih k acc
        unfold TL.spl
        refine ⟨by simp only [List.length_cons]; omega, fun y hy => ?_⟩
        have := i2 y hy
        simp only [List.length_cons] at this ⊢
        omega
  obtain ⟨i1, i2⟩ := e2 (TL.tl x) 0 []
  rw [← e] at i1 i2
  rw [List.length_map, ← TL.len_tl] at i1
  refine ⟨?_, fun y hy => ?_⟩
  · show (Txt.split x "/").length ≤ _
    omega
  · have := i2 (TL.tl y) (List.mem_map_of_mem hy)
    rw [← TL.len_tl, ← TL.len_tl] at this
    simp at this
    omega
theorem sum_most (n : Nat) : ∀ ps : List Str, (∀ p ∈ ps, p.length ≤ n) → (ps.map (·.length)).sum ≤ ps.length * n := by
  intro ps h
  induction ps with
  | nil => exact Nat.zero_le _
  | cons p r ih =>
    rw [List.map_cons, List.sum_cons, List.length_cons, Nat.succ_mul]
    have := ih fun q hq => h q (List.mem_cons_of_mem _ hq)
    have := h p List.mem_cons_self
    omega
theorem cut_front {α : Type} (l : List α) (g : α → V) (k : Nat) : cutV (l.map g) none (some (1 + (k : Int))) = (l.take (k + 1)).map g := by
  have e : (1 + (k : Int)) = ((k + 1 : Nat) : Int) := by omega
  unfold cutV
  rw [e, HT.sIx_none, HT.sIx_nat, List.drop_zero, Nat.sub_zero, List.map_take]
  rcases Nat.le_total (k + 1) (l.map g).length with h | h
  · rw [Nat.min_eq_left h]
  · rw [Nat.min_eq_right h, List.take_length, List.take_of_length_le h]
/-! ### rules whose reading names the written part, within a comprehension -/
section
variable {X : Cx} {K : PySem.W.Frag} {o e : Expr} {to te : TE} {f : Str}
theorem slK_list (h : X.K = K) : SlR X (rSlL K) := h ▸ sl_list
theorem ixK_list (h : X.K = K) : IxR X (rIxL K) := h ▸ ix_list
theorem ixK_tup (h : X.K = K) : IxR X (rIxT K) := h ▸ ix_tup
theorem pi_listK {tg : Expr} (h : X.K = K) (he : PE X e te) : PI X tg e (iList K te) := h ▸ pi_list he
theorem pi_tupK {tg : Expr} (h : X.K = K) (he : PE X e te) : PI X tg e (iTup K te) := h ▸ pi_tup he
theorem pg_tupK {es : List Expr} {k : Nat} {t : TGs} {n : Nat} {pos : Pos} (h : X.K = K) (hc : X.calm = true) (hp : PGs X es t)
    (hn : (assignEach es X.env).length = n := by rfl) (hst : (assignEach es X.env).findIdx? (·.1) = none := by rfl) : PG X (.Tuple es k pos) (gTup K n t) := h ▸ pg_tup hc hp hn hst
theorem pe_fldK {pos : Pos} (h : X.K = K) (he : PE X e te) (hb : attributeBase e f X.env (eval e X.env) = eval e X.env) : PE X (.Attribute e f pos) (tFld K te f) := h ▸ pe_fld he hb
def rJoin (K : PySem.W.Frag) : V → List V → Hp → VK → Prop := fun x xs H Q => ∃ a p, ∃ ys : List Str, x = .str a ∧ xs = [.ref p] ∧ (SqL K H p (ys.map V.str) ∨ SqT K H p (ys.map V.str)) ∧
  (ys.map (·.length)).sum + ys.length * a.length ≤ 16777216 ∧ Q (.str (Txt.join a ys)) H
theorem pe_joinK {apos pos : Pos} (h : X.K = K) (ho : PE X o to) (he : PE X e te) (hs : starEach [e] X.env = [(false, eval e X.env)] := by rfl) (hbase : attributeBase o "join" X.env (eval o X.env) = eval o X.env := by rfl) (hline : (apos.endLine == pos.line) = true := by rfl) :
    PE X (.Call (.Attribute o "join" apos) [e] [] pos) (tM1 (rJoin K) to te) := by
  subst h
  exact pe_join ho he hs hbase hline
end
end Fk

set_option maxHeartbeats 4000000
/-! Lists and dicts that comprehensions make of tuples; tuples of tuples. -/
namespace Fk
open PySem PySem.Spec PyProof.Rows L2
/-- at these addresses stand tuples of these things -/
def Tups (H : Hp) (as : List Addr) (ls : List (List V)) : Prop := as.length = ls.length ∧ ∀ (i : Nat) (a : Addr) (l : List V), as[i]? = some a → ls[i]? = some l → H a = some (.tup l)
def TupsAt (H : Hp) (p : Addr) (ls : List (List V)) : Prop := ∃ as : List Addr, H p = some (.tup (as.map V.ref)) ∧ Tups H as ls
/-- tuples stay -/
def TupKeep (H H' : Hp) : Prop := ∀ b xs, H b = some (.tup xs) → H' b = some (.tup xs)
theorem TupKeep.of {H H' : Hp} (s : Same H H') : TupKeep H H' := fun b xs e => s b _ e
theorem TupKeep.refl (H : Hp) : TupKeep H H := fun _ _ e => e
theorem TupKeep.trans {H H1 H2 : Hp} (a : TupKeep H H1) (b : TupKeep H1 H2) : TupKeep H H2 := fun c xs e => b c xs (a c xs e)
theorem TupKeep.at {a : Addr} {H : Hp} {o : HO} (n : ∀ xs, H a ≠ some (.tup xs)) : TupKeep H (upd H a o) := fun b xs e => by
  have z : b ≠ a := fun z => n xs (by rw [← z]; exact e)
  rw [upd_ne z]
  exact e
theorem Tups.keep {H H' : Hp} {as : List Addr} {ls : List (List V)} (t : Tups H as ls) (k : TupKeep H H') : Tups H' as ls := ⟨t.1, fun i a l h1 h2 => k _ _ (t.2 i a l h1 h2)⟩
theorem TupsAt.keep {H H' : Hp} {p : Addr} {ls : List (List V)} (t : TupsAt H p ls) (k : TupKeep H H') : TupsAt H' p ls := by
  obtain ⟨as, h, t⟩ := t
  exact ⟨as, k _ _ h, t.keep k⟩
theorem Tups.nil {H : Hp} : Tups H [] [] := ⟨rfl, fun i a l h => by simp at h⟩
theorem Tups.snoc {H : Hp} {as : List Addr} {ls : List (List V)} {a : Addr} {l : List V} (t : Tups H as ls) (h : H a = some (.tup l)) : Tups H (as ++ [a]) (ls ++ [l]) := by
  obtain ⟨e, t⟩ := t
  refine ⟨by rw [List.length_append, List.length_append, e]; rfl, fun i b m h1 h2 => ?_⟩
  by_cases hi : i < as.length
  · rw [List.getElem?_append_left hi] at h1
    rw [List.getElem?_append_left (by omega)] at h2
    exact t i b m h1 h2
  · rw [List.getElem?_append_right (by omega)] at h1
    rw [List.getElem?_append_right (by omega)] at h2
    have i1 := (List.getElem?_eq_some_iff.mp h1).1
    have e0 : i - as.length = 0 := by
      rw [List.length_singleton] at i1
      omega
    rw [e0] at h1
    rw [← e, e0] at h2
    rw [← Option.some.inj h1, ← Option.some.inj h2]
    exact h
theorem Tups.get {H : Hp} {as : List Addr} {ls : List (List V)} (t : Tups H as ls) {u : Addr × List V} (h : u ∈ as.zip ls) : H u.1 = some (.tup u.2) := by
  obtain ⟨i, hi⟩ := List.mem_iff_getElem?.mp h
  rw [List.getElem?_zip_eq_some] at hi
  exact t.2 i _ _ hi.1 hi.2
theorem zip_fst {as : List Addr} {ls : List (List V)} (e : as.length = ls.length) : (as.zip ls).map (fun u => V.ref u.1) = as.map V.ref := by
  have : (fun u : Addr × List V => V.ref u.1) = V.ref ∘ Prod.fst := rfl
  rw [this, ← List.map_map, List.map_fst_zip (by omega)]
theorem zip_snd {as : List Addr} {ls : List (List V)} (e : as.length = ls.length) : (as.zip ls).map (·.2) = ls := List.map_snd_zip (by omega)
/-- a tuple of the written part -/
def KTup (K : PySem.W.Frag) (a : Addr) (xs : List V) : Prop := ∃ (o : Obj) (its : Array Value) (n : Nat), K.lookup a = some o ∧ o.cls = .type "tuple" ∧ o.data = .seq its n ∧ its.size ≤ sizeLine ∧ Vals xs its.toList
/-- a tuple, tracked or of the written part -/
def TupK (K : PySem.W.Frag) (H : Hp) (a : Addr) (xs : List V) : Prop := H a = some (.tup xs) ∨
  ∃ (o : Obj) (its : Array Value) (n : Nat), K.lookup a = some o ∧ o.cls = .type "tuple" ∧ o.data = .seq its n ∧ its.size ≤ sizeLine ∧ Vals xs its.toList
theorem TupK.sq {K : PySem.W.Frag} {H : Hp} {a : Addr} {xs : List V} (h : TupK K H a xs) : SqT K H a xs := h.imp (fun e => .inl e) id
theorem TupK.keep {K : PySem.W.Frag} {H H' : Hp} {a : Addr} {xs : List V} (h : TupK K H a xs) (k : TupKeep H H') : TupK K H' a xs := h.imp (fun e => k _ _ e) id
def TupsK (K : PySem.W.Frag) (H : Hp) (p : Addr) (ls : List (List V)) : Prop := ∃ as : List Addr, TupK K H p (as.map V.ref) ∧ Tups H as ls
theorem TupsK.of {K : PySem.W.Frag} {H : Hp} {p : Addr} {ls : List (List V)} (h : TupsAt H p ls) : TupsK K H p ls := let ⟨as, a, b⟩ := h; ⟨as, .inl a, b⟩
theorem TupsK.keep {K : PySem.W.Frag} {H H' : Hp} {p : Addr} {ls : List (List V)} (h : TupsK K H p ls) (k : TupKeep H H') : TupsK K H' p ls := let ⟨as, a, b⟩ := h; ⟨as, a.keep k, b.keep k⟩
section
variable {α : Type} {J : It} {us : List α} {val : α → V} {G : Hp → Prop} {H1 : Hp} {D : Addr} {σ : L2.St} {vs : List Nat} {g : TG} {tt : TT} {te tk tv : TE} {Q : Hp → Prop}
/-- a list of new tuples -/
theorem lc_new (Y : Yields J (us.map val) G) (f : α → List V) (p : α → Bool) (σf : α → L2.St) (hD1 : H1 D = none) (hG : ∀ H, Same H1 H → G H) (hw : ∀ u ∈ us, wipe (σf u) vs = wipe σ vs)
    (hg : ∀ H u, Same H1 H → u ∈ us → ∀ (R : L2.St → Hp → Prop), R (σf u) H → g (val u) (wipe σ vs) H R)
    (ht : ∀ H u, Same H1 H → u ∈ us → ∀ (R : Bool → Hp → Prop), (∀ H3, Same H H3 → R (p u) H3) → tt (σf u) H R)
    (he : ∀ H u, Same H1 H → u ∈ us → p u = true → ∀ (R : VK), (∀ a H3, Same H H3 → H3 a = some (.tup (f u)) → R (.ref a) H3) → te (σf u) H R)
    (hl : us.length ≤ 1000000) (hd : ∀ as H, Same H1 H → H D = some (.lst (as.map V.ref)) → Tups H as ((us.filter p).map f) → Q H) :
    ∃ W : Nat → Nat → Hp → Prop, (∃ m, W 0 m (upd H1 D (.lst []))) ∧ ∀ k m H, W k m H →
      (J.stop k H ∧ Q H) ∨ (J.go k H ∧ ∃ Nx : Hp → Prop, (∀ H', Nx H' → ∃ m', m' < m ∧ W (k + 1) m' H') ∧ ∀ x H', J.yld k H x H' → g x (wipe σ vs) H' fun σ2 H2 => wipe σ2 vs = wipe σ vs ∧ tt σ2 H2 fun b H3 =>
        if b = true then te σ2 H3 fun y H4 => ∃ acc, H4 D = some (.lst acc) ∧ acc.length < sizeLine ∧ Nx (upd H4 D (.lst (acc ++ [y]))) else Nx H3) := by
  refine lcG Y (fun k acc H => Same H1 H ∧ ∃ as : List Addr, acc = as.map V.ref ∧ Tups H as (((us.take k).filter p).map f)) (fun k acc H h _ => hG H h.1) ⟨same_new hD1, [], rfl, by simpa using Tups.nil⟩ (fun k acc H x hI hD hx hacc hk => ?_) (by rw [List.length_map]; exact hl) (fun acc H hI hD _ => ?_)
  · obtain ⟨sm, as, ea, tp⟩ := hI
    rw [List.getElem?_map] at hx
    cases hu : us[k]? with
    | none => rw [hu] at hx; cases hx
    | some u =>
      rw [hu] at hx
      cases hx
      have hm : u ∈ us := List.mem_of_getElem? hu
      have et : us.take (k + 1) = us.take k ++ [u] := by
        rw [List.take_add_one, hu]
        rfl
      refine hg H u sm hm _ ⟨hw u hm, ?_⟩
      refine ht H u sm hm _ (fun H3 s3 => ?_)
      by_cases hp : p u = true
      · rw [if_pos hp]
        refine he H3 u (sm.trans s3) hm hp _ (fun a H4 s4 h4 => ?_)
        have hD4 := s4 _ _ (s3 _ _ hD)
        have kp : TupKeep H4 (upd H4 D (.lst (acc ++ [V.ref a]))) := TupKeep.at fun xs z => by rw [hD4] at z; cases z
        refine lc_take hD4 hacc hk ⟨same_mut ((sm.trans s3).trans s4) hD1, as ++ [a], by rw [ea, List.map_append]; rfl, ?_⟩
        rw [et, List.filter_append, List.map_append, List.filter_cons, hp]
        exact ((tp.keep (TupKeep.of (s3.trans s4))).snoc h4).keep kp
      · rw [if_neg hp]
        refine lc_skip (s3 _ _ hD) hacc ⟨sm.trans s3, as, ea, ?_⟩
        rw [et, List.filter_append, List.map_append, List.filter_cons, if_neg hp]
        simpa using tp.keep (TupKeep.of s3)
  · obtain ⟨sm, as, ea, tp⟩ := hI
    rw [List.length_map, List.take_length] at tp
    rw [ea] at hD
    exact hd as H sm hD tp
/-- a dict with texts as its keys -/
theorem dc_tab (Y : Yields J (us.map val) G) (kf : α → Str) (vf : α → V) (p : α → Bool) (σf : α → L2.St) (hD1 : H1 D = none) (hG : ∀ H, Same H1 H → G H) (hw : ∀ u ∈ us, wipe (σf u) vs = wipe σ vs)
    (hg : ∀ H u, Same H1 H → u ∈ us → ∀ (R : L2.St → Hp → Prop), R (σf u) H → g (val u) (wipe σ vs) H R)
    (ht : ∀ H u, Same H1 H → u ∈ us → ∀ (R : Bool → Hp → Prop), (∀ H3, Same H H3 → R (p u) H3) → tt (σf u) H R)
    (hk : ∀ H u, Same H1 H → u ∈ us → p u = true → ∀ (R : VK), (∀ H3, Same H H3 → R (.str (kf u)) H3) → tk (σf u) H R)
    (hv : ∀ H u, Same H1 H → u ∈ us → p u = true → ∀ (R : VK), (∀ H3, Same H H3 → R (vf u) H3) → tv (σf u) H R)
    (hl : us.length ≤ 1000000) (nd : ((us.filter p).map kf).Nodup) (hd : ∀ H, Same H1 H → H D = some (.dK (kT ((us.filter p).map fun u => (kf u, vf u)))) → Q H) :
    ∃ W : Nat → Nat → Hp → Prop, (∃ m, W 0 m (upd H1 D (.dK []))) ∧ ∀ k m H, W k m H →
      (J.stop k H ∧ Q H) ∨ (J.go k H ∧ ∃ Nx : Hp → Prop, (∀ H', Nx H' → ∃ m', m' < m ∧ W (k + 1) m' H') ∧ ∀ x H', J.yld k H x H' → g x (wipe σ vs) H' fun σ2 H2 => wipe σ2 vs = wipe σ vs ∧ tt σ2 H2 fun b H3 =>
        if b = true then tk σ2 H3 fun y H4 => tv σ2 H4 fun z H5 => ∃ kvs key, y = kV key ∧ H5 D = some (.dK kvs) ∧ kvs.length < sizeLine ∧ Nx (upd H5 D (.dK (putK kvs key z))) else Nx H3) := by
  refine dcG Y (fun k kvs H => Same H1 H ∧ kvs = kT (((us.take k).filter p).map fun u => (kf u, vf u))) (fun k acc H h _ => hG H h.1) ⟨same_new hD1, rfl⟩ (fun k kvs H x hI hD hx hacc hk' => ?_) (by rw [List.length_map]; exact hl) (fun acc H hI hD _ => ?_)
  · obtain ⟨sm, ea⟩ := hI
    rw [List.getElem?_map] at hx
    cases hu : us[k]? with
    | none => rw [hu] at hx; cases hx
    | some u =>
      rw [hu] at hx
      cases hx
      have hm : u ∈ us := List.mem_of_getElem? hu
      have et : us.take (k + 1) = us.take k ++ [u] := by
        rw [List.take_add_one, hu]
        rfl
      refine hg H u sm hm _ ⟨hw u hm, ?_⟩
      refine ht H u sm hm _ (fun H3 s3 => ?_)
      by_cases hp : p u = true
      · rw [if_pos hp]
        refine hk H3 u (sm.trans s3) hm hp _ (fun H4 s4 => ?_)
        refine hv H4 u ((sm.trans s3).trans s4) hm hp _ (fun H5 s5 => ?_)
        have new : valV (((us.take k).filter p).map fun u => (kf u, vf u)) (kf u) = none := by
          cases c : valV (((us.take k).filter p).map fun u => (kf u, vf u)) (kf u) with
          | none => rfl
          | some z =>
            have m := valV_in c
            rw [List.map_map] at m
            have e : us.filter p = (us.take k).filter p ++ (u :: (us.drop (k + 1)).filter p) := by
              conv => lhs; rw [← List.take_append_drop (k + 1) us, et, List.filter_append, List.filter_append, List.filter_cons, hp]
              simp
            rw [e, List.map_append] at nd
            have := (List.nodup_append.mp nd).2.2 (kf u) m (kf u) List.mem_cons_self
            exact absurd rfl this
        refine dc_take (key := .inr (kf u)) (s5 _ _ (s4 _ _ (s3 _ _ hD))) hacc hk' ⟨same_mut (((sm.trans s3).trans s4).trans s5) hD1, ?_⟩
        rw [ea, putK_kT, putK_new _ new, et, List.filter_append, List.map_append, List.filter_cons, hp]
        rfl
      · rw [if_neg hp]
        refine dc_skip (s3 _ _ hD) hacc ⟨sm.trans s3, ?_⟩
        rw [et, List.filter_append, List.map_append, List.filter_cons, if_neg hp]
        simp [ea]
  · obtain ⟨sm, ea⟩ := hI
    rw [List.length_map, List.take_length] at ea
    rw [ea] at hD
    exact hd H sm hD
end
theorem val_keys (f : Str → V) (z : Str) : ∀ ys : List Str, valV (ys.map fun x => (x, f x)) z = if z ∈ ys then some (f z) else none
  | [] => rfl
  | y :: r => by
    show valV ((y, f y) :: r.map fun x => (x, f x)) z = _
    by_cases h : y = z
    · rw [valV_pos h, if_pos (by rw [h]; exact List.mem_cons_self), h]
    · rw [valV_neg h, val_keys f z r]
      by_cases m : z ∈ r
      · rw [if_pos m, if_pos (List.mem_cons_of_mem _ m)]
      · rw [if_neg m, if_neg (fun k => (List.mem_cons.mp k).elim (fun e => h e.symm) m)]
/-- the rows of a table in order -/
def SortOf (t u : Tab) : Prop := sortedS (u.map (·.1)) = true ∧ (u.map (·.1)).Perm (t.map (·.1)) ∧ ∀ x, valV u x = valV t x
theorem sortOf_keys {t : Tab} {ys : List Str} (hp : ys.Perm (t.map (·.1))) (hs : sortedS ys = true) : SortOf t (ys.map fun x => (x, (valV t x).getD .non)) := by
  have e : (ys.map fun x => (x, (valV t x).getD .non)).map (·.1) = ys := by
    rw [List.map_map]
    exact List.map_id' ys
  refine ⟨by rw [e]; exact hs, by rw [e]; exact hp, fun z => ?_⟩
  rw [val_keys (fun x => (valV t x).getD .non)]
  cases c : valV t z with
  | none => rw [if_neg (fun m => by have := mem_val.mp (hp.mem_iff.mp m); rw [c] at this; cases this)]
  | some v => rw [if_pos (hp.mem_iff.mpr (mem_val.mpr (by rw [c]; rfl)))]; rfl
theorem SortOf.nd {t u : Tab} (h : SortOf t u) (n : Nd t) : Nd u := h.2.1.nodup_iff.mpr n
theorem SortOf.len {t u : Tab} (h : SortOf t u) : u.length = t.length := by
  have := h.2.1.length_eq
  rw [List.length_map, List.length_map] at this
  exact this
def rowL (e : Str × V) : List V := [.str e.1, e.2]
/-! ### moves -/
def moveL (m : Str × V × V) : List V := [.str m.1, m.2.1, m.2.2]
def newsT (ms : List (Str × V × V)) : Tab := ms.map fun m => (m.1, m.2.2)
def notNon : V → Bool
  | .non => false
  | _ => true
def keptT (t n : Tab) : Tab := t.filter fun p => (valV n p.1).isNone
def madeT (n : Tab) : Tab := n.filter fun p => notNon p.2
def afterT (t : Tab) (ms : List (Str × V × V)) : Tab := keptT t (newsT ms) ++ madeT (newsT ms)
theorem zip_ms {α : Type} {as : List Addr} {ms : List α} (e : as.length = ms.length) : (as.zip ms).map (fun u => V.ref u.1) = as.map V.ref := by
  have : (fun u : Addr × α => V.ref u.1) = V.ref ∘ Prod.fst := rfl
  rw [this, ← List.map_map, List.map_fst_zip (by omega)]
theorem tups_get {α : Type} {H : Hp} {as : List Addr} {ms : List α} {f : α → List V} (tp : Tups H as (ms.map f)) {u : Addr × α} (h : u ∈ as.zip ms) : H u.1 = some (.tup (f u.2)) := by
  obtain ⟨i, hi⟩ := List.mem_iff_getElem?.mp h
  rw [List.getElem?_zip_eq_some] at hi
  refine tp.2 i _ _ hi.1 ?_
  rw [List.getElem?_map, hi.2]
  rfl
theorem ne_of_none' {H : Hp} {D a : Addr} {o : HO} (h : H D = none) (k : H a = some o) : D ≠ a := (ne_of_none k h).symm
theorem same_unlock {H H2 : Hp} {d : Addr} {od : Obj} {u : HO} (s : Same (upd H d (.frz od u)) H2) (h : H d = some u) : Same H (upd H2 d u) := fun b o e => by
  by_cases hb : b = d
  · rw [hb, upd_same, ← h, ← hb, e]
  · rw [upd_ne hb]
    exact s _ _ (by rw [upd_ne hb]; exact e)
theorem lock_ne {H : Hp} {d D : Addr} {o : HO} (h : upd H d o D = none) : D ≠ d := fun z => by
  rw [z, upd_same] at h
  cases h
theorem lock_free {H : Hp} {d D : Addr} {o : HO} (h : upd H d o D = none) : H D = none := by
  have n := lock_ne h
  rw [upd_ne n] at h
  exact h
/-- a walk over a locked table -/
theorem yields_tab {d : Addr} {o : Obj} {t : Tab} : Yields (Itk d o (kT t)) (t.map fun e => V.str e.1) (fun H => H d = some (.frz o (.dK (kT t)))) := by
  have : (t.map fun e => V.str e.1) = (kT t).map fun p => kV p.1 := by
    unfold kT
    rw [List.map_map]
    rfl
  rw [this]
  exact yields_keys
theorem yields_zip {α : Type} {K : PySem.W.Frag} {a : Addr} {as : List Addr} {ms : List α} (e : as.length = ms.length) : Yields (Itt K a) ((as.zip ms).map fun u => V.ref u.1) (fun H => SqT K H a (as.map V.ref)) := by
  rw [zip_ms e]
  exact yields_tup
theorem nd_filter {t : Tab} (h : Nd t) (p : Str × V → Bool) : Nd (t.filter p) := List.Nodup.sublist ((List.filter_sublist).map _) h
theorem nd_news {ms : List (Str × V × V)} (h : (ms.map (·.1)).Nodup) : Nd (newsT ms) := by
  unfold Nd newsT
  rw [List.map_map]
  exact h
theorem nd_after {t : Tab} {ms : List (Str × V × V)} (h : Nd t) (k : (ms.map (·.1)).Nodup) : Nd (afterT t ms) := by
  unfold Nd afterT
  rw [List.map_append]
  refine List.nodup_append.mpr ⟨nd_filter h _, nd_filter (nd_news k) _, fun x hx y hy e => ?_⟩
  obtain ⟨p, hp, rfl⟩ := List.mem_map.mp hx
  obtain ⟨q, hq, rfl⟩ := List.mem_map.mp hy
  have h1 := (List.mem_filter.mp hp).2
  have h2 := val_nodup (nd_news k) q (List.mem_filter.mp hq).1
  rw [e, h2] at h1
  cases h1
theorem len_after {t : Tab} {ms : List (Str × V × V)} : (afterT t ms).length ≤ t.length + ms.length := by
  unfold afterT
  rw [List.length_append]
  have h1 := List.length_filter_le (fun p : Str × V => (valV (newsT ms) p.1).isNone) t
  have h2 := List.length_filter_le (fun p : Str × V => notNon p.2) (newsT ms)
  have h3 : (newsT ms).length = ms.length := List.length_map ..
  unfold keptT madeT
  omega
theorem val_app {t u : Tab} (x : Str) : valV (t ++ u) x = (valV t x).or (valV u x) := by
  induction t with
  | nil => rfl
  | cons p r ih =>
    by_cases h : p.1 = x
    · rw [List.cons_append, valV_pos h, valV_pos h]
      rfl
    · rw [List.cons_append, valV_neg h, valV_neg h, ih]
theorem merge_kT : ∀ {t u : Tab}, Nd (t ++ u) → mergeK (kT t) (kT u) = kT (t ++ u)
  | t, [], _ => by rw [List.append_nil]; rfl
  | t, p :: r, h => by
    have e : t ++ p :: r = (t ++ [p]) ++ r := by rw [List.append_assoc]; rfl
    have new : valV t p.1 = none := by
      cases c : valV t p.1 with
      | none => rfl
      | some v =>
        have h : ((t ++ p :: r).map (·.1)).Nodup := h
        rw [List.map_append] at h
        exact absurd rfl ((List.nodup_append.mp h).2.2 _ (valV_in c) p.1 List.mem_cons_self)
    show mergeK (putK (kT t) (.inr p.1) p.2) (kT r) = _
    rw [putK_kT, putK_new _ new, e]
    rw [e] at h
    exact merge_kT h
/-- what a table holds behind moves -/
theorem val_filter {t : Tab} (h : Nd t) (p : Str × V → Bool) (x : Str) : valV (t.filter p) x = (valV t x).bind fun v => if p (x, v) = true then some v else none := by
  induction t with
  | nil => rfl
  | cons q r ih =>
    obtain ⟨h1, h2⟩ := List.nodup_cons.mp (show ((q :: r).map (·.1)).Nodup from h)
    have ih := ih h2
    have nr : q.1 = x → valV r x = none := fun e => by
      cases c : valV r x with
      | none => rfl
      | some v => exact absurd (show q.1 ∈ r.map (·.1) by rw [e]; exact valV_in c) h1
    rw [List.filter_cons]
    by_cases e : q.1 = x
    · rw [valV_pos e]
      have eq : q = (x, q.2) := by rw [← e]
      by_cases hp : p q = true
      · rw [if_pos hp, valV_pos e]
        show some q.2 = if p (x, q.2) = true then some q.2 else none
        rw [← eq, if_pos hp]
      · rw [if_neg hp, ih, nr e]
        show none = if p (x, q.2) = true then some q.2 else none
        rw [← eq, if_neg hp]
    · rw [valV_neg e]
      by_cases hp : p q = true
      · rw [if_pos hp, valV_neg e, ih]
      · rw [if_neg hp, ih]
theorem val_after {t : Tab} {ms : List (Str × V × V)} (h : Nd t) (k : (ms.map (·.1)).Nodup) (x : Str) : valV (afterT t ms) x = match valV (newsT ms) x with
    | none => valV t x
    | some v => if notNon v = true then some v else none := by
  unfold afterT keptT madeT
  rw [val_app, val_filter h, val_filter (nd_news k)]
  cases c : valV (newsT ms) x with
  | none =>
    cases d : valV t x with
    | none => rfl
    | some v => simp [c]
  | some v =>
    cases d : valV t x with
    | none => simp
    | some w => simp [c]
/-! ### logs -/
/-- the table tells the logs: tuples of entries -/
def LogsOk (H : Hp) (t : Tab) (L : Str → List (List V)) : Prop := ∀ x, (valV t x = none ∧ L x = []) ∨ ∃ p, (L x ≠ [] ∧ valV t x = some (.ref p)) ∧ TupsAt H p (L x)
def logPut (L : Str → List (List V)) (x : Str) (e : List V) : Str → List (List V) := fun y => if y = x then L y ++ [e] else L y
def logMoves (L : Str → List (List V)) (note : List V) (ms : List (Str × V × V)) : Str → List (List V) := ms.foldl (fun L m => logPut L m.1 ([m.2.1, m.2.2] ++ note)) L
theorem LogsOk.keep {H H' : Hp} {t : Tab} {L : Str → List (List V)} (h : LogsOk H t L) (k : TupKeep H H') : LogsOk H' t L := fun x => (h x).imp id fun ⟨p, a, b⟩ => ⟨p, a, b.keep k⟩
theorem LogsOk.of {H : Hp} {t u : Tab} {L : Str → List (List V)} (h : LogsOk H t L) (e : ∀ x, valV u x = valV t x) : LogsOk H u L := fun x => by
  rw [e]
  exact h x
theorem LogsOk.put {H : Hp} {t : Tab} {L : Str → List (List V)} (h : LogsOk H t L) {x : Str} {p : Addr} {e : List V} (tp : TupsAt H p (L x ++ [e])) : LogsOk H (putK t x (.ref p)) (logPut L x e) := fun y => by
  unfold logPut
  rw [valV_put]
  by_cases c : y = x
  · rw [if_pos c, if_pos c, c]
    exact .inr ⟨p, ⟨List.append_ne_nil_of_right_ne_nil _ (fun z => nomatch z), rfl⟩, tp⟩
  · rw [if_neg c, if_neg c]
    exact h y
theorem len_put (t : Tab) (x : Str) (v : V) : (putK t x v).length ≤ t.length + 1 := length_putK t x v
theorem logMoves_take {L : Str → List (List V)} {note : List V} {ms : List (Str × V × V)} {i : Nat} {m : Str × V × V} (h : ms[i]? = some m) : logMoves L note (ms.take (i + 1)) = logPut (logMoves L note (ms.take i)) m.1 ([m.2.1, m.2.2] ++ note) := by
  unfold logMoves
  rw [List.take_add_one, h, List.foldl_append]
  rfl
theorem catA {K : PySem.W.Frag} {H : Hp} {a b : Addr} {xs ys : List V} {Q : VK} (ha : SqT K H a xs) (hb : H b = some (.tup ys)) (ny : ys ≠ []) (hz : xs.length + ys.length ≤ 1000000) (q : ∀ p H', Same H H' → H' p = some (.tup (xs ++ ys)) → Q (.ref p) H') : rCatA K (.ref a) (.ref b) H Q :=
  ⟨a, b, xs, ys, rfl, rfl, ha, SqT.of hb, small_line hz, fun e => q b H (Same.refl H) (by rw [e]; exact hb), fun _ e => absurd e ny, fun _ _ p hp => q p _ (same_new hp) upd_same⟩
/-- an entry is put behind the log of a name -/
theorem log_step {K : PySem.W.Frag} {H : Hp} {D2 nt : Addr} {lt : Tab} {L : Str → List (List V)} {x : Str} {v1 v2 n1 n2 n3 : V} {tk t1 t2 td tn : TE} {D : Ends} {σ : L2.St} (hD : H D2 = some (.dK (kT lt))) (lk : LogsOk H lt L) (hnt : H nt = some (.tup [n1, n2, n3]))
    (b : (L x).length ≤ 100000) (hl : lt.length ≤ 1000) (ek : ∀ H' Q, Q (.str x) H' → tk σ H' Q) (e1 : ∀ H' Q, Q v1 H' → t1 σ H' Q) (e2 : ∀ H' Q, Q v2 H' → t2 σ H' Q) (ed : ∀ H' Q, Q (.ref D2) H' → td σ H' Q) (en : ∀ H' Q, Q (.ref nt) H' → tn σ H' Q)
    (q : ∀ H' p, FrL [D2] H H' → TupKeep H H' → H' D2 = some (.dK (kT (putK lt x (.ref p)))) → LogsOk H' (putK lt x (.ref p)) (logPut L x ([v1, v2] ++ [n1, n2, n3])) → D.nx σ H') :
    sDPut td tk (tOp (rCatA K) (tDGet2 td tk (tTup tNil)) (tTup (tCons (tOp (rCatA K) (tTup (tCons t1 (tCons t2 tNil))) tn) tNil))) D σ H := by
  refine ed _ _ ⟨D2, rfl, .inl ⟨_, .inl hD⟩, ek _ _ ⟨Nat.zero_le _, fun pe hpe => ⟨valV lt x, ?_, ?_⟩⟩⟩
  · exact dget_kT (.inl (by rw [upd_ne (ne_of_none hD hpe)]; exact hD)) x
  · have s0 : Same H (upd H pe (.tup [])) := same_new hpe
    have p0 : (upd H pe (.tup [])) pe = some (.tup []) := upd_same
    generalize upd H pe (.tup []) = H0 at s0 p0
    obtain ⟨a, as, ea, ha, ta⟩ : ∃ (a : Addr) (as : List Addr), (valV lt x).getD (.ref pe) = .ref a ∧ H0 a = some (.tup (as.map V.ref)) ∧ Tups H0 as (L x) := by
      rcases lk x with ⟨e, l⟩ | ⟨p, ⟨_, e⟩, as, h, t⟩
      · exact ⟨pe, [], by rw [e]; rfl, p0, by rw [l]; exact Tups.nil⟩
      · exact ⟨p, as, by rw [e]; rfl, s0 _ _ h, t.keep (TupKeep.of s0)⟩
    rw [ea]
    have la : as.length ≤ 100000 := by rw [ta.1]; exact b
    refine e1 _ _ (e2 _ _ ⟨(by show 2 ≤ sizeLine; decide), fun p2 hp2 => en _ _ ?_⟩)
    refine catA (SqT.of upd_same) ((same_new hp2) _ _ (s0 _ _ hnt)) (fun z => nomatch z) (by show 2 + 3 ≤ _; decide) fun p3 H3 s3 h3 => ?_
    refine ⟨(by show 1 ≤ sizeLine; decide), fun p4 hp4 => ?_⟩
    have s04 : Same H0 (upd H3 p4 (.tup [V.ref p3])) := ((same_new hp2).trans s3).trans (same_new hp4)
    have h3' : (upd H3 p4 (.tup [V.ref p3])) p3 = some (.tup ([v1, v2] ++ [n1, n2, n3])) := (same_new hp4) _ _ h3
    have h4' : (upd H3 p4 (.tup [V.ref p3])) p4 = some (.tup [V.ref p3]) := upd_same
    generalize upd H3 p4 (.tup [V.ref p3]) = H4 at s04 h3' h4'
    refine catA (SqT.of (s04 _ _ ha)) h4' (fun z => nomatch z) (by rw [List.length_map]; show _ + 1 ≤ _; omega) fun p5 H5 s5 h5 => ?_
    have s05 := (s0.trans s04).trans s5
    have hD5 := s05 _ _ hD
    refine ed _ _ (ek _ _ ⟨D2, _, rfl, .inl ⟨kT lt, .inr x, hD5, rfl, small_lt (by rw [len_kT]; omega), rfl⟩, ?_⟩)
    rw [putK_kT]
    have kp : TupKeep H5 (upd H5 D2 (.dK (kT (putK lt x (.ref p5))))) := TupKeep.at fun xs z => by rw [hD5] at z; cases z
    have kp2 : TupKeep H (upd H5 D2 (.dK (kT (putK lt x (.ref p5))))) := (TupKeep.of s05).trans kp
    refine q _ p5 ((FrL.same s05).trans (FrL.at (List.mem_singleton_self D2))) kp2 upd_same ?_
    refine (lk.keep kp2).put ⟨as ++ [p3], ?_, ?_⟩
    · refine kp _ _ ?_
      rw [h5, List.map_append]
      rfl
    · exact ((ta.keep (TupKeep.of (s04.trans s5))).snoc (s5 _ _ h3')).keep kp
theorem logMoves_len (L : Str → List (List V)) (note : List V) (x : Str) : ∀ ms : List (Str × V × V), (logMoves L note ms x).length ≤ (L x).length + ms.length := by
  intro ms
  induction ms generalizing L with
  | nil => exact Nat.le_refl _
  | cons m r ih =>
    have := ih (logPut L m.1 ([m.2.1, m.2.2] ++ note))
    have e : (logPut L m.1 ([m.2.1, m.2.2] ++ note) x).length ≤ (L x).length + 1 := by
      unfold logPut
      split
      · rw [List.length_append]
        exact Nat.le_refl _
      · omega
    show (logMoves (logPut L m.1 ([m.2.1, m.2.2] ++ note)) note r x).length ≤ _
    rw [List.length_cons]
    omega
theorem dp_head {K : PySem.W.Frag} {H : Hp} {p : Addr} {a b : Str} (h : TupK K H p [.str a, .str b]) : Dp K H (.ref p) (.tuple [.str a, .str b]) := .tup h.sq (.cons (.str a) (.cons (.str b) .nil))
theorem shaped_head {a b : Str} (ha : OkS a) (hb : OkS b) : SeqAt.shaped (.tuple [.str a, .str b]) = true := by
  simp [SeqAt.shaped, PyData.canLay0, PyData.canLayAll0, strOk_of ha, strOk_of hb, PyData.depth, PyData.depthAll]
theorem eqv_head (a b c d : Str) : PyData.eqv (.tuple [.str a, .str b]) (.tuple [.str c, .str d]) = decide ((c, d) = (a, b)) := by
  simp only [PyData.eqv, PyData.eqvAll]
  rw [Bool.eq_iff_iff]
  simp only [Bool.and_eq_true, beq_iff_eq, decide_eq_true_eq, Prod.mk.injEq, and_true]
  exact ⟨fun ⟨x, y⟩ => ⟨x.symm, y.symm⟩, fun ⟨x, y⟩ => ⟨x.symm, y.symm⟩⟩
def flatN : V → Prop
  | .non => True
  | .str _ => True
  | _ => False
theorem scal_flat {x y : V} (hx : flatN x) (hy : flatN y) : scal x y = true := by
  cases x <;> cases y <;> first | rfl | exact hx.elim | exact hy.elim
def ledF (t : Tab) (x n : Str) : V := if x = "id" then .str n else (valV t n).getD .non
theorem flat_val {t : Tab} (h : ∀ e ∈ t, flatN e.2) (x : Str) : flatN ((valV t x).getD .non) := by
  induction t with
  | nil => exact True.intro
  | cons p r ih =>
    by_cases e : p.1 = x
    · rw [valV_pos e]
      exact h p List.mem_cons_self
    · rw [valV_neg e]
      exact ih fun q hq => h q (List.mem_cons_of_mem _ hq)
theorem flat_led {t : Tab} (h : ∀ e ∈ t, flatN e.2) (x n : Str) : flatN (ledF t x n) := by
  unfold ledF
  split
  · exact True.intro
  · exact flat_val h n
theorem flat_after {t : Tab} {ms : List (Str × V × V)} (h : ∀ e ∈ t, flatN e.2) (k : ∀ m ∈ ms, flatN m.2.2) : ∀ e ∈ afterT t ms, flatN e.2 := fun e he => by
  rcases List.mem_append.mp he with he | he
  · exact h e (List.mem_filter.mp he).1
  · obtain ⟨m, hm, rfl⟩ := List.mem_map.mp (List.mem_filter.mp he).1
    exact k m hm
end Fk

set_option maxHeartbeats 4000000
/-! What stands where references and edits are. -/
namespace Fk
open PySem PySem.Spec PyProof.Rows L2
/-- the fields of references -/
def rf (lk tb hd lg : Addr) : List (Str × V) := [("_locks", .ref lk), ("_table", .ref tb), ("_head", .ref hd), ("_logs", .ref lg)]
/-- the fields of an edit -/
def ef (R nt cl : Addr) (nh : V) (b : Bool) : List (Str × V) := [("_refs", .ref R), ("_note", .ref nt), ("_calls", .ref cl), ("_new_head", nh), ("closed", .bl b)]
/-- the calls of an edit: names, what they shall have, what they had -/
def CallsAt (H : Hp) (cl : Addr) (cs : List (Str × V × V)) : Prop := ∃ zs : List (Addr × (Str × V × V)), zs.map (·.2) = cs ∧ H cl = some (.dK (kT (zs.map fun z => (z.2.1, .ref z.1)))) ∧ ∀ z ∈ zs, H z.1 = some (.tup [z.2.2.1, z.2.2.2])
/-- the locks: those of closed edits and those of the edit at E -/
def LocksAt (H : Hp) (CE lk E : Addr) (n : Nat) : Prop := ∃ kt : Tab, H lk = some (.dK (kT kt)) ∧ Nd kt ∧ kt.length ≤ 64 ∧ (kt.filter fun p => decide (p.2 = .ref E)).length ≤ n ∧ ∀ p ∈ kt, p.2 = .ref E ∨ ∃ e dx fs, p.2 = .ref e ∧ H e = some (.ins CE dx fs) ∧ fs.lookup ("closed" : Str) = some (.bl true)
theorem mem_putK {t : Tab} {x : Str} {v : V} {p : Str × V} (h : p ∈ putK t x v) : p ∈ t ∨ p.2 = v := by
  unfold putK at h
  split at h
  · obtain ⟨q, hq, e⟩ := List.mem_map.mp h
    by_cases c : q.1 = x
    · rw [if_pos c] at e
      exact .inr (by rw [← e])
    · rw [if_neg c] at e
      exact .inl (by rw [← e]; exact hq)
  · rcases List.mem_append.mp h with h | h
    · exact .inl h
    · exact .inr (by rw [List.mem_singleton.mp h])
theorem LocksAt.keep {H H' : Hp} {CE lk E : Addr} {n : Nat} (h : LocksAt H CE lk E n) (e : ∀ o, H lk = some o → H' lk = some o) (k : ∀ a dx fs, H a = some (.ins CE dx fs) → fs.lookup ("closed" : Str) = some (.bl true) → H' a = some (.ins CE dx fs)) : LocksAt H' CE lk E n := by
  obtain ⟨kt, a, b, c, c', d⟩ := h
  exact ⟨kt, e _ a, b, c, c', fun p hp => (d p hp).imp id fun ⟨x, dx, fs, h1, h2, h3⟩ => ⟨x, dx, fs, h1, k _ _ _ h2 h3, h3⟩⟩
theorem LocksAt.same {H H' : Hp} {CE lk E : Addr} {n : Nat} (h : LocksAt H CE lk E n) (s : Same H H') : LocksAt H' CE lk E n := h.keep (fun o e => s _ _ e) fun _ _ _ e _ => s _ _ e
theorem FrL.out {L : List Addr} {H H' : Hp} (f : FrL L H H') {b : Addr} {o : HO} (e : H b = some o) (n : ∀ a ∈ L, b ≠ a) : H' b = some o := f b o (fun z => n b z rfl) e
theorem not1 {a b : Addr} (h : b ≠ a) : ∀ c ∈ [a], b ≠ c := fun c hc => by rw [List.mem_singleton.mp hc]; exact h
theorem not2 {a c b : Addr} (h : b ≠ a) (k : b ≠ c) : ∀ d ∈ [a, c], b ≠ d := fun d hd => by
  rcases List.mem_cons.mp hd with e | hd
  · rw [e]; exact h
  · rw [List.mem_singleton.mp hd]; exact k
theorem at_ne {H : Hp} {a b : Addr} {o u : HO} (h : H a = some o) (k : H b = some u) (n : o ≠ u) : a ≠ b := fun z => by
  rw [z, k] at h
  exact n (Option.some.inj h).symm
/-- what an edit has behind a call -/
def callPut (cs : List (Str × V × V)) (x : Str) (v o : V) : List (Str × V × V) := cs.filter (fun c => decide (c.1 ≠ x)) ++ [(x, v, o)]
theorem CallsAt.keep {H H' : Hp} {cl : Addr} {cs : List (Str × V × V)} (h : CallsAt H cl cs) (k : TupKeep H H') (e : ∀ o, H cl = some o → H' cl = some o) : CallsAt H' cl cs := by
  obtain ⟨zs, a, b, c⟩ := h
  exact ⟨zs, a, e _ b, fun z hz => k _ _ (c z hz)⟩
theorem calls_drop (zs : List (Addr × (Str × V × V))) (x : Str) : dropK (zs.map fun z => (z.2.1, V.ref z.1)) x = (zs.filter fun z => decide (z.2.1 ≠ x)).map fun z => (z.2.1, V.ref z.1) := by
  unfold dropK
  rw [List.filter_map]
  rfl
theorem calls_put {H : Hp} {cl p : Addr} {zs : List (Addr × (Str × V × V))} {x : Str} {v o : V} (hc : H cl = some (.dK (kT (putK (dropK (zs.map fun z => (z.2.1, V.ref z.1)) x) x (.ref p))))) (hz : ∀ z ∈ zs, H z.1 = some (.tup [z.2.2.1, z.2.2.2])) (hp : H p = some (.tup [v, o])) :
    CallsAt H cl (callPut (zs.map (·.2)) x v o) := by
  refine ⟨zs.filter (fun z => decide (z.2.1 ≠ x)) ++ [(p, x, v, o)], ?_, ?_, fun z h => ?_⟩
  · unfold callPut
    rw [List.map_append, List.filter_map]
    rfl
  · rw [hc, calls_drop, putK_new]
    · rw [List.map_append]
      rfl
    · rw [← calls_drop, valV_drop, if_pos rfl]
  · rcases List.mem_append.mp h with h | h
    · exact hz z (List.mem_filter.mp h).1
    · rw [List.mem_singleton.mp h]
      exact hp
/-! ### errors that are raised -/
def spErr (K : PySem.W.Frag) (f : Str) : Sp := fun vs H Q _ => ∃ (a C fI : Addr) (y : V), vs = [.ref a, y] ∧ XC K C fI ∧ PySem.W.findIn K (.ref C) f = some none ∧ H a = some (exo a C none) ∧
  ∀ dx, H dx = none → dx ≠ a → Q .non (upd (upd H dx (exd dx [(f, y)])) a (exo a C (some dx)))
/-- what is asked of an error's class to be raised -/
structure OexW (K : PySem.W.Frag) (C : Addr) : Prop where
  exC : PySem.W.subIn K (.ref C) (.type "BaseException") = some true
  tyC : PySem.W.typeIn K (.ref C) = some (.type "type")
instance {K : PySem.W.Frag} {C : Addr} : Coe (OexC K C) (OexW K C) := ⟨fun h => ⟨h.exC, h.tyC⟩⟩
structure ErrC (K : PySem.W.Frag) (mg : Str → Option Value) (nm f : Str) (C fI : Addr) : Prop where
  mgc : mg nm = some (.ref C)
  ox : OexW K C
  xc : XC K C fI
  nf : PySem.W.findIn K (.ref C) f = some none
  ini : ∃ fd, (∀ (P : Program) (w : World) (base : Heap), FnOk P w K mg base C8.CX0 1 fI fd ["self", f] (spErr K f)) ∧ Binds K fd ["self", f] []
section
variable {X : Cx} {nm f : Str} {C fI : Addr} {e : Expr} {es : List Expr} {t : TA} {p pos : Pos}
theorem rs_of (T : ErrC X.K X.mg nm f C fI) (hr : Room 2 X.A) (hg : Gl X nm) (ha : PA X (e :: es) t) (hdb : (nm == ("__debug__" : Str)) = false := by decide)
    (he : starEach (e :: es) X.env = (false, eval e X.env) :: starEach es X.env := by rfl) (hpl : (backTo pos (starEach es X.env)).any (·.1) = false := by rfl) :
    PMk X (.Call (.Name nm p) (e :: es) [] pos) (tMkO C (spErr X.K f) [] t) := by
  obtain ⟨fd, FI, bI⟩ := T.ini
  have F1 := FI X.prog X.w X.base
  intro pn s σ H Q I h
  obtain ⟨B, newId, initId, bmB, cn, cq, N, bs, bm, sn, sub, ab, col, dd, k0, k1, k2, k3, k5, FB, ok, _, _, hC⟩ := T.xc.cls
  refine wpAny_Call_Name_kw (ld_glob I hg T.mgc ?_ hdb)
  refine PySem.W.callWith_K (h₀ := X.base) I.ok.mod.kin T.xc.kC (thn (ha.run pos pn s σ H _ I h) fun us sA ⟨vs, HA, IA, rA, zA, qA⟩ => ⟨IA.kIn, ?_⟩) he hpl
  show wpAny _ _ (call (.ref C) us) _ _ _
  obtain ⟨hp, g, dr, tk, os⟩ := sA
  have szE : hp.objs.size ≤ hp.objs.size + 1 := Nat.le_succ _
  have qE := qA (hp.objs.size + 1) (IA.hok.fresh szE)
  rw [List.append_nil] at qE
  have stays : ∀ b o, hp.get? b = some o → ((hp.push (PySem.W.kdv_tup us)).push (PySem.HandSPX.excO C hp.objs.size)).get? b = some o := fun b o z => Heap.get?_push_of_some _ (Heap.get?_push_of_some _ z)
  have atE : ((hp.push (PySem.W.kdv_tup us)).push (PySem.HandSPX.excO C hp.objs.size)).get? (hp.objs.size + 1) = some (PySem.HandSPX.excO C hp.objs.size) := by heap_get
  have IB : Inv X pn σ (upd HA (hp.objs.size + 1) (exo (hp.objs.size + 1) C none)) ⟨(hp.push (PySem.W.kdv_tup us)).push (PySem.HandSPX.excO C hp.objs.size), g, dr, tk, os⟩ :=
    IA.laid (t' := tk) (a := hp.objs.size + 1) (o := exo (hp.objs.size + 1) C none) (h' := (hp.push (PySem.W.kdv_tup us)).push (PySem.HandSPX.excO C hp.objs.size)) stays szE (exo_ok atE)
  have rB : Vals (V.ref (hp.objs.size + 1) :: vs) (Value.ref (hp.objs.size + 1) :: us) := .cons rfl rA
  have lB : (Value.ref (hp.objs.size + 1) :: us ++ []).length = [("self" : Str), f].length := by
    rw [List.append_nil, ← F1.len _ _ _ _ qE]
    exact rB.length.symm
  have usz : us.length ≤ sizeLine := by
    rw [← Paired.length rA, sizeLine_eq]; omega
  have bB := bI _ (Value.ref (hp.objs.size + 1) :: us) IB.kIn lB
  rw [List.append_nil] at bB
  refine wpAny_call (xcall FB ok (IA.kIn _ _ hC) (PySem.W.looks_findIn IA.kIn T.xc.iC) (fun self => PySem.W.bind_fn IA.kIn self T.xc.tI) usz
    (codeAny_mono (F1.run _ X.stack _ _ ⟨Value.ref (hp.objs.size + 1) :: us, []⟩ (Value.ref (hp.objs.size + 1) :: us) _ _ (fun _ _ _ => False) (hr.make C us []) (IB.env0.make C us []) bB rB qE) fun r s' z => ?_))
  rcases r with er | (_ | _ | _ | u)
  · exact absurd z id
  · exact z.elim
  · exact z.elim
  · exact z.elim
  · obtain ⟨v, HB, osB, bareB, unB, okB, rvB, ev, d, fs, ea, ed, nd, qB⟩ := z
    subst ev
    obtain ⟨hB, gB, dB, tB, osC⟩ := s'
    exact ⟨rvB, mk_end (raises_own T.ox.exC T.ox.tyC) IA szE stays unB okB osB bareB ea ed nd qB⟩
end
/-- an error made to be raised -/
theorem do_raise {K : PySem.W.Frag} {mg : Str → Option Value} {nm f : Str} {C fI : Addr} (T : ErrC K mg nm f C fI) {Hc : Hp} {y : V} {Q : XK} (q : ∀ d H', Same Hc H' → Hc d = none → H' d = some (.xd [(f, y)]) → Q (.ref C) (some d) H') :
    ∀ a, Hc a = none → spErr K f (.ref a :: ([y] ++ [])) (upd Hc a (exo a C none)) (fun v H2 => v = .non ∧ ∃ (d : Addr) (fs : List (Str × V)), H2 a = some (exo a C (some d)) ∧ H2 d = some (exd d fs) ∧ Hc d = none ∧ Q (.ref C) (some d) (upd (del H2 a) d (.xd fs))) (fun _ _ _ => False) := by
  intro a na
  refine ⟨a, C, fI, y, rfl, T.xc, T.nf, upd_same, fun dx nd ne => ⟨rfl, dx, [(f, y)], upd_same, by rw [upd_ne ne]; exact upd_same, ?_, ?_⟩⟩
  · rw [upd_ne ne] at nd
    exact nd
  · have nd' : Hc dx = none := by rw [upd_ne ne] at nd; exact nd
    refine q dx _ (fun b o e => ?_) nd' upd_same
    have n1 : b ≠ a := ne_of_none e na
    have n2 : b ≠ dx := ne_of_none e nd'
    rw [upd_ne n2]
    unfold del
    rw [if_neg n1, upd_ne n1, upd_ne n2, upd_ne n1]
    exact e
/-! ### what an edit moves -/
def bad (t : Tab) (c : Str × V × V) : Bool := !decide (c.2.2 = .str "") && !decide (c.2.2 = (valV t c.1).getD .non)
def staleF (t : Tab) (cs : List (Str × V × V)) : Option Str := (cs.find? (bad t)).map (·.1)
def newT (cs : List (Str × V × V)) : Tab := cs.map fun c => (c.1, c.2.1)
def rowsF (t : Tab) (cs : List (Str × V × V)) (ys : List Str) : List (Str × V × V) := ys.map fun x => (x, (valV t x).getD .non, (valV (newT cs) x).getD .non)
def movesF (t : Tab) (cs : List (Str × V × V)) (ys : List Str) : List (Str × V × V) := (rowsF t cs ys).filter fun m => !decide (m.2.1 = m.2.2)
theorem stale_at {t : Tab} {cs : List (Str × V × V)} {i : Nat} {c : Str × V × V} (h : cs[i]? = some c) (g : ∀ d ∈ cs.take i, bad t d = false) (b : bad t c = true) : staleF t cs = some c.1 := by
  have e : cs = cs.take i ++ c :: cs.drop (i + 1) := by
    have hi := (List.getElem?_eq_some_iff.mp h)
    obtain ⟨hi, hc⟩ := hi
    rw [← hc, List.getElem_cons_drop, List.take_append_drop]
  unfold staleF
  rw [e, List.find?_append]
  have n : (cs.take i).find? (bad t) = none := List.find?_eq_none.mpr fun d hd z => by rw [g d hd] at z; cases z
  rw [n, List.find?_cons, b]
  rfl
theorem stale_none {t : Tab} {cs : List (Str × V × V)} (g : ∀ d ∈ cs, bad t d = false) : staleF t cs = none := by
  unfold staleF
  rw [List.find?_eq_none.mpr fun d hd z => by rw [g d hd] at z; cases z]
  rfl
theorem movesF_nd {t : Tab} {cs : List (Str × V × V)} {ys : List Str} (h : ys.Nodup) : ((movesF t cs ys).map (·.1)).Nodup := by
  refine List.Nodup.sublist ((List.filter_sublist).map _) ?_
  unfold rowsF
  rw [List.map_map]
  have : ((fun x : Str × V × V => x.1) ∘ fun x : Str => (x, (valV t x).getD V.non, (valV (newT cs) x).getD V.non)) = id := rfl
  rw [this, List.map_id]
  exact h
theorem movesF_len (t : Tab) (cs : List (Str × V × V)) (ys : List Str) : (movesF t cs ys).length ≤ ys.length := by
  have := List.length_filter_le (fun m : Str × V × V => !decide (m.2.1 = m.2.2)) (rowsF t cs ys)
  unfold rowsF at this
  rw [List.length_map] at this
  exact this
theorem flat_new {cs : List (Str × V × V)} (h : ∀ c ∈ cs, flatN c.2.1) : ∀ e ∈ newT cs, flatN e.2 := fun e he => by
  obtain ⟨c, hc, rfl⟩ := List.mem_map.mp he
  exact h c hc
theorem flat_moves {t : Tab} {cs : List (Str × V × V)} {ys : List Str} (ht : ∀ e ∈ t, flatN e.2) (h : ∀ c ∈ cs, flatN c.2.1) : ∀ m ∈ rowsF t cs ys, flatN m.2.1 ∧ flatN m.2.2 := fun m hm => by
  obtain ⟨x, _, rfl⟩ := List.mem_map.mp hm
  exact ⟨flat_val ht x, flat_val (flat_new h) x⟩
theorem have_after {t u : Tab} {ms : List (Str × V × V)} (nt : Nd t) (so : SortOf t u) (nm : (ms.map (·.1)).Nodup) : haveF ((afterT u ms).map (·.1)) = haveF ((afterT t ms).map (·.1)) :=
  have_perm (keys_perm (nd_after (so.nd nt) nm) (nd_after nt nm) fun x => by rw [val_after (so.nd nt) nm, val_after nt nm, so.2.2])
theorem yields_zipL {α : Type} {K : PySem.W.Frag} {a : Addr} {as : List Addr} {ms : List α} (e : as.length = ms.length) : Yields (Itl K a) ((as.zip ms).map fun u => V.ref u.1) (fun H => SqL K H a (as.map V.ref)) := by
  rw [zip_ms e]
  exact yields_list
end Fk

set_option maxHeartbeats 4000000
/-! x[y] of an own class. -/
namespace Fk
open PySem PySem.Spec PyProof.Rows L2
section
variable {P : Program} {w : World} {K : PySem.W.Frag} {mg : Str → Option Value} {base : Heap} {k : Nat} {C : Addr} {m : Str} {sp : Sp}
theorem ownM_of (M : C8.Met P w K mg base k C m sp []) : OwnM P w K mg base C8.CX0 k C m sp := by
  obtain ⟨f, fd, ps, ds, _, hm, F, b, d⟩ := M.ex
  cases d
  exact ⟨f, fd, ps, hm.at_, hm.fn, F, b⟩
/-- .. whose def is known as a def -/
structure GetM (P : Program) (w : World) (K : PySem.W.Frag) (mg : Str → Option Value) (base : Heap) (k : Nat) (C : Addr) (sp : Sp) : Prop where
  ex : ∃ (f : Addr) (fd : FuncData) (ps : List Str), PySem.W.findIn K (.ref C) "__getitem__" = some (some (.ref f)) ∧ PySem.W.isFn K (.ref f) = true ∧ PySem.W.fnIn K f = true ∧ FnOk P w K mg base C8.CX0 k f fd ps sp ∧ Binds K fd ps []
theorem getM_of {qual : Str} {st : Stmt} {N ps : List Str} (D : MDef K C "__getitem__" qual st) (S : FnScope N ps (C8.fnScope st))
    (hb : ∀ (kV doc pm : Value) (an : Option Addr) (cdv ct : Value) (us : List Value), us.length = ps.length → bindArgs (PySem.W.fnOf "__getitem__" qual (C8.fnArgs st) (C8.fnBody st) (C8.fnScope st) .none kV doc pm an cdv ct) ⟨us, []⟩ = pure (ps.zip us))
    (len : ∀ vs H Q E, sp vs H Q E → vs.length = ps.length)
    (hbody : ∀ (f : Addr) (cdv : Value) (A : Around) (outer : List Env) (s : Shared) (H : Hp) (vs : List V) (Q : VK) (E : XK), Room k (A.deeper (envOfC qual (C8.fnScope st) s.heap.objs.size f cdv)) → sp vs H Q E →
      ∃ t, PSs (cxOf C8.CX0 P w K mg base N qual (C8.fnScope st) f cdv A outer s H E).nox (C8.fnBody st) t ∧ t { nx := fun _ H' => Q .non H', rt := Q } (start N vs) H) : GetM P w K mg base (k + 1) C sp := by
  obtain ⟨f, fd, F, M, df⟩ := D.ex
  have G := C8.fn0 (P := P) (w := w) (mg := mg) (base := base) F S len (hbody f)
  have b := F.binds df hb
  obtain ⟨oc, od, dV, kV, doc, pm, an, cdv, ct, osl, rfl, lk, hcd⟩ := F.ex
  refine ⟨f, _, ps, M.at_, M.fn, ?_, G, b⟩
  unfold PySem.W.fnIn
  rw [lk]
end
section
variable {X : Cx} {k : Nat} {C : Addr} {sp : Sp} {o i : Expr} {td ty : TE} {pos : Pos}
def tOwnGet (C : Addr) (sp : Sp) (td ty : TE) : TE := fun σ H Q => td σ H fun x H1 => ty σ H1 fun y H2 => ∃ (a dx : Addr) (fs : List (Str × V)), x = .ref a ∧ H2 a = some (.ins C dx fs) ∧ sp [x, y] H2 Q C8.E0
theorem pe_ownGet (M : GetM X.prog X.w X.K X.mg X.base k C sp) (hr : Room (k + 1) X.A) (ho : PE X o td) (hi : PE X i ty)
    (hsl : ∀ x iv, subscripted i true (.ref x) iv = runValue (.builtin "lifetime.subscript" ⟨[.ref x, iv], []⟩) := by intro _ _; with_unfolding_all rfl) : PE X (.Subscript o i pos) (tOwnGet C sp td ty) := by
  refine ⟨fun pins s σ H Q I h => ?_⟩
  refine Subscript_ (thn (ho.run pins s σ H _ I h) fun v s1 ⟨x, H1, I1, rx, q1⟩ => thn (hi.run pins s1 σ H1 _ I1 q1) fun u s2 ⟨y, H2, I2, ry, a, dx, fs, ex, ha, q⟩ => ?_)
  subst ex
  obtain rfl : v = Value.ref a := rx
  obtain ⟨f, fd, ps, hs, hf, hfi, F, hb⟩ := M.ex
  obtain ⟨mA, J, _⟩ := ins_get I2.hok ha
  obtain ⟨od, J, _⟩ := J.look
  obtain ⟨m, hF⟩ := I2.fr
  exact PySem.W.sub_K hF I2.ok.mod.kin J hs hfi hf (run_in F hr.in1 I2.env0.in1 hb noEx0 I2 (show Vals [V.ref a, y] [Value.ref a, u] from .cons rfl (.cons ry .nil)) q) (hsl _ _)
end
end Fk

set_option maxHeartbeats 4000000
/-! xs[::-1] of a list, t[::-1] of a tuple. -/
namespace Fk
open PySem PySem.Spec PyProof.Rows L2 HT
theorem back_places (n : Nat) : Builtin.Slice.sliceAdjust none none (-1) (n : Int) = ((n : Int) - 1, -1) ∧ Builtin.Slice.slicePlaces ((n : Int) - 1) (-1) (-1) = n := by
  constructor
  · first | rfl | simp [Builtin.Slice.sliceAdjust]
  · unfold Builtin.Slice.slicePlaces
    rw [if_neg (by decide)]
    by_cases h : (n : Int) - 1 > -1
    · rw [if_pos h, show (- -1 : Int) = 1 by decide, Int.ediv_one]
      omega
    · rw [if_neg h]
      omega
theorem sliceApplied_back {prog : Program} {w : World} {A : Around} {E : Value → Shared → Prop} {s : Shared} {sl : Addr} {vk : Value} {n : Nat} {Q : Int × Int × Nat → Shared → Prop} (hs : s.heap.IsSliceOf sl .none .none vk) (pk : IsPart vk (some (-1)))
    (h : Q ((n : Int) - 1, -1, n) s) : wpAny (model prog w) A (Builtin.Slice.sliceApplied (.ref sl) (pure (n : Int))) Q E s := by
  obtain ⟨os, hos, hcs, hds⟩ := id hs
  unfold Builtin.Slice.sliceApplied Builtin.Slice.sliceFields
  refine wpAny_bind (wpAny_bind (wpAny_field hos hds (x := .none) rfl (wpAny_bind (wpAny_field hos hds (x := .none) rfl (wpAny_bind (wpAny_field hos hds (x := vk) rfl (wpAny_pure ?_)))))))
  refine wpAny_bind (slicePart_ pk ?_)
  show wpAny _ _ (if ((-1 : Int) == 0) = true then _ else _) _ _ s
  rw [if_neg (by decide)]
  refine wpAny_bind (slicePart_ .none (wpAny_bind (slicePart_ .none (wpAny_bind (wpAny_pure ?_)))))
  show wpAny _ _ (match Builtin.Slice.sliceAdjust none none (-1) (n : Int) with | (lo, hi) => pure (lo, (-1 : Int), Builtin.Slice.slicePlaces lo hi (-1))) _ _ s
  rw [(back_places n).1]
  show wpAny _ _ (pure ((n : Int) - 1, (-1 : Int), Builtin.Slice.slicePlaces ((n : Int) - 1) (-1) (-1))) _ _ s
  rw [(back_places n).2]
  exact wpAny_pure h
theorem fm_congr {α β : Type} {f g : α → Option β} : ∀ {l : List α}, (∀ x ∈ l, f x = g x) → l.filterMap f = l.filterMap g
  | [], _ => rfl
  | a :: r, h => by
    rw [List.filterMap_cons, List.filterMap_cons, h a List.mem_cons_self, fm_congr fun x hx => h x (List.mem_cons_of_mem _ hx)]
theorem pick_back (items : Array Value) : ((List.range items.size).filterMap fun (k : Nat) => items[((items.size : Int) - 1 + (k : Int) * (-1)).toNat]?) = items.toList.reverse := by
  have e : ((List.range items.size).filterMap fun (k : Nat) => items[((items.size : Int) - 1 + (k : Int) * (-1)).toNat]?) = ((List.range items.size).map fun k => items.size - 1 - k).filterMap (items[·]?) := by
    rw [List.filterMap_map]
    refine fm_congr fun k hk => ?_
    have := List.mem_range.mp hk
    show _ = items[items.size - 1 - k]?
    congr 1
    omega
  rw [e, PySem.W.krv_range, List.filterMap_reverse, PySem.W.krv_all]
theorem getItem_tuple_back {prog : Program} {w : World} {A : Around} {E : Value → Shared → Prop} {s : Shared} {t sl : Addr} {items : Array Value} {vk : Value} {Q : Value → Shared → Prop} (ht : IsTup s.heap t items) (hs : s.heap.IsSliceOf sl .none .none vk) (pk : IsPart vk (some (-1)))
    (h : Q (.ref s.heap.objs.size) { s with heap := s.heap.push { cls := .type "tuple", data := .seq items.toList.reverse.toArray } }) (hsz : items.size ≤ sizeLine) : wpAny (model prog w) A (getItem (.ref t) (.ref sl)) Q E s := by
  have htake : sizeOk (.seq items.toList.reverse.toArray) := by
    show items.toList.reverse.toArray.size ≤ sizeLine
    rw [List.size_toArray, List.length_reverse, Array.length_toList]
    exact hsz
  obtain ⟨os, hos, hcs, hds⟩ := id hs
  have hTs : s.TypeIs (.ref sl) "slice" := ⟨os, hos, hcs⟩
  unfold getItem
  try with_reducible refine wpAny_holding ?_
  first | refine wpAny_bind (wpAny_pure ?_) | skip
  refine wpAny_bind (wpAny_sequenceKey ht.typeIs (by decide) ?_)
  refine wpAny_bind (wpAny_callSpecial?_slot (name := Str.ofString "__getitem__") ht.typeIs PyProof.Rows.slot_tuple_getitem
    (wpAny_call_entry PyProof.Rows.slot_tuple_getitem ht.typeIs entry_tuple_getitem ?_ (args_tuple_getitem _ _)))
  show wpAny _ _ (Builtin.Tuple.tupleItemsOf (.ref t) >>= _) _ _ s
  refine wpAny_bind (tupleItemsOf_ ht ?_)
  refine wpAny_bind (wpAny_typeOf hTs ?_)
  rw [if_pos (by decide)]
  refine wpAny_bind (sliceApplied_back hs pk ?_)
  have hno : ¬ ((((items.size : Int) - 1) == 0 && (-1 : Int) == 1 && items.size == items.size) = true) := by
    rw [show ((-1 : Int) == 1) = false from by decide, Bool.and_false, Bool.false_and]
    exact Bool.false_ne_true
  show wpAny _ _ (if (((items.size : Int) - 1) == 0 && (-1 : Int) == 1 && items.size == items.size) = true then _ else _) _ _ s
  rw [if_neg hno, pick_back]
  first
    | exact wpAny_bind (m := Builtin.Tuple.tupleExact _) (wpAny_newObj_type (wpAny_pure ⟨_, rfl, wpAny_pure h⟩) htake)
    | exact wpAny_bind (m := Builtin.Tuple.tupleExact _) (wpAny_newObj_type (wpAny_bind (wpAny_pure (wpAny_pure ⟨_, rfl, wpAny_pure h⟩))) htake)
    | exact wpAny_bind (wpAny_bind (m := Builtin.Tuple.tupleExact _) (wpAny_newObj_type (wpAny_pure (wpAny_pure ⟨_, rfl, wpAny_pure h⟩)) htake))
    | exact wpAny_bind (wpAny_bind (m := Builtin.Tuple.tupleExact _) (wpAny_newObj_type (wpAny_pure ⟨_, rfl, wpAny_pure h⟩) htake))
def rBack (K : PySem.W.Frag) : V → Hp → VK → Prop := fun x H Q => (∃ a xs, x = .ref a ∧ SqL K H a xs ∧ ∀ p, H p = none → Q (.ref p) (upd H p (.lst xs.reverse))) ∨ ∃ a xs, x = .ref a ∧ SqT K H a xs ∧ ∀ p, H p = none → Q (.ref p) (upd H p (.tup xs.reverse))
def tBack (K : PySem.W.Frag) (te ts : TE) : TE := fun σ H Q => te σ H fun x H1 => ts σ H1 fun y H2 => y = .int (-1) ∧ rBack K x H2 Q
theorem vals_rev {xs : List V} {us : List Value} (r : Vals xs us) : Vals xs.reverse us.reverse := by
  induction r with
  | nil => exact .nil
  | cons h t ih =>
    rw [List.reverse_cons, List.reverse_cons]
    exact ih.append (.cons h .nil)
/-- e[::-1] -/
theorem pe_back {X : Cx} {e st : Expr} {te ts : TE} {p2 pos : Pos} (he : PE X e te) (hst : PE X st ts) (hp : evalPart (some st) X.env = eval st X.env := by rfl)
    (hsub : ∀ x sl : Addr, ∃ ops, subscripted (.Slice none none (some st) p2) false (.ref x) (.ref sl) = operate ops (getItem (.ref x) (.ref sl)) := by intro x sl; exact ⟨_, by with_unfolding_all rfl⟩) : PE X (.Subscript e (.Slice none none (some st) p2) pos) (tBack X.K te ts) := by
  refine ⟨fun pins s σ H Q I h => ?_⟩
  refine Subscript_ (thn (he.run pins s σ H _ I h) fun v s1 ⟨x, H1, I1, r1, q1⟩ => ?_)
  refine wpAny_Slice ?_
  rw [evalPart_none]
  refine wpAny_pure (wpAny_pure ?_)
  rw [hp]
  refine thn (hst.run pins s1 σ H1 _ I1 q1) fun vk s3 ⟨y, H3, I3, pk, ey, q3⟩ => ?_
  subst ey
  obtain ⟨tk, rfl⟩ := (show ∃ t, vk = Value.int (-1) t from pk)
  have pk' : IsPart (.int (-1) tk) (some (-1)) := .int _ _
  have I4 : Inv X pins σ H3 { s3 with heap := s3.heap.push { cls := .type "slice", data := .fields #[.none, .none, .int (-1) tk] } } := I3.kept (t' := s3.toks) fun b ob q => Heap.get?_push_of_some _ q
  have hs : Heap.IsSliceOf (s3.heap.push { cls := .type "slice", data := .fields #[.none, .none, .int (-1) tk] }) s3.heap.objs.size .none .none (.int (-1) tk) := Heap.IsSliceOf.new ..
  generalize hS : ({ s3 with heap := s3.heap.push { cls := .type "slice", data := .fields #[.none, .none, .int (-1) tk] } } : Shared) = S at I4
  have hs' : S.heap.IsSliceOf s3.heap.objs.size .none .none (.int (-1) tk) := by rw [← hS]; exact hs
  show wpAny (model X.prog X.w) X.A (subscriptTail e (.Slice none none (some st) p2) v (.ref s3.heap.objs.size)) (EP X pins σ Q) X.xe S
  rcases q3 with ⟨a, xs, rfl, hx, q⟩ | ⟨a, xs, rfl, hx, q⟩
  · cases (show v = Value.ref a from r1)
    obtain ⟨its, r, hl, hz⟩ := I4.list hx
    have hlen : its.toArray.size = xs.length := by rw [List.size_toArray]; exact r.length.symm
    obtain ⟨ops, eo⟩ := hsub a s3.heap.objs.size
    refine tail_any (T := "list") (ops := ops) hl.isList.typeIs slot_list_getitem.lookup ?_ eo
    refine wpAny_getItem_list_slice hl.isList hs' .none .none pk' (by decide) ?_ (by rw [hlen]; exact hz)
    rw [PySem.W.krv_pick]
    refine ⟨.ref S.heap.objs.size, _, I4.laid (t' := S.toks) (o := .lst xs.reverse) (fun b ob q => Heap.get?_push_of_some _ q) (Nat.le_refl _) ?_, rfl, q _ (I4.hok.fresh (Nat.le_refl _))⟩
    exact ⟨by rw [List.length_reverse]; exact hz, _, 0, (vals_rev r), Heap.get?_push_size _ rfl⟩
  · cases (show v = Value.ref a from r1)
    obtain ⟨its, r, ht, hz⟩ := I4.tuple hx
    have hlen : its.toArray.size = xs.length := by rw [List.size_toArray]; exact r.length.symm
    obtain ⟨ops, eo⟩ := hsub a s3.heap.objs.size
    refine tail_any (T := "tuple") (ops := ops) ht.typeIs PyProof.Rows.slot_tuple_getitem.lookup ?_ eo
    refine getItem_tuple_back ht hs' pk' ?_ (by rw [hlen]; exact hz)
    refine ⟨.ref S.heap.objs.size, _, I4.laid (t' := S.toks) (o := .tup xs.reverse) (fun b ob q => Heap.get?_push_of_some _ q) (Nat.le_refl _) ?_, rfl, q _ (I4.hok.fresh (Nat.le_refl _))⟩
    exact ⟨by rw [List.length_reverse]; exact hz, _, (vals_rev r), IsTup.new _ _⟩
end Fk

set_option maxHeartbeats 4000000
/-! What calls make of a table, one by one and by moves. -/
namespace Fk
open PySem PySem.Spec PyProof.Rows L2
def stepT (u : Tab) (c : Str × V × V) : Tab := if notNon c.2.1 = true then putK (dropK u c.1) c.1 c.2.1 else dropK u c.1
def lawT (t : Tab) (cs : List (Str × V × V)) : Tab := cs.foldl stepT t
theorem nd_step {t : Tab} (h : Nd t) (c : Str × V × V) : Nd (stepT t c) := by
  unfold stepT
  split
  · exact nd_put (nd_drop h c.1) _ _
  · exact nd_drop h c.1
theorem nd_lawT {t : Tab} (h : Nd t) : ∀ cs, Nd (lawT t cs) := fun cs => by
  unfold lawT
  induction cs generalizing t with
  | nil => exact h
  | cons c r ih => exact ih (nd_step h c)
theorem len_step (t : Tab) (c : Str × V × V) : (stepT t c).length ≤ t.length + 1 := by
  unfold stepT
  have h := dropK_le t c.1
  split
  · have := len_put (dropK t c.1) c.1 c.2.1
    omega
  · omega
theorem len_lawT (t : Tab) (cs : List (Str × V × V)) : (lawT t cs).length ≤ t.length + cs.length := by
  unfold lawT
  induction cs generalizing t with
  | nil => exact Nat.le_refl _
  | cons c r ih =>
    have := ih (stepT t c)
    have := len_step t c
    rw [List.foldl_cons, List.length_cons]
    omega
theorem val_step (t : Tab) (c : Str × V × V) (x : Str) : valV (stepT t c) x = if x = c.1 then (if notNon c.2.1 = true then some c.2.1 else none) else valV t x := by
  unfold stepT
  by_cases h : notNon c.2.1 = true
  · rw [if_pos h, valV_put, valV_drop]
    by_cases e : x = c.1
    · rw [if_pos e, if_pos e, if_pos h]
    · rw [if_neg e, if_neg e, if_neg e]
  · rw [if_neg h, valV_drop]
    by_cases e : x = c.1
    · rw [if_pos e, if_pos e, if_neg h]
    · rw [if_neg e, if_neg e]
theorem val_lawT (x : Str) : ∀ (cs : List (Str × V × V)) (t : Tab), (cs.map (·.1)).Nodup → valV (lawT t cs) x = match valV (newT cs) x with
    | none => valV t x
    | some v => if notNon v = true then some v else none
  | [], t, _ => rfl
  | c :: r, t, h => by
    obtain ⟨h1, h2⟩ := List.nodup_cons.mp (show (c.1 :: r.map (·.1)).Nodup from h)
    show valV (lawT (stepT t c) r) x = match valV ((c.1, c.2.1) :: newT r) x with
      | none => valV t x
      | some v => if notNon v = true then some v else none
    rw [val_lawT x r (stepT t c) h2]
    by_cases e : c.1 = x
    · have n : valV (newT r) x = none := by
        cases q : valV (newT r) x with
        | none => rfl
        | some v =>
          have m := valV_in q
          unfold newT at m
          rw [List.map_map] at m
          exact absurd (show c.1 ∈ r.map (·.1) by rw [e]; exact m) h1
      rw [n, valV_pos e]
      show valV (stepT t c) x = if notNon c.2.1 = true then some c.2.1 else none
      rw [val_step, if_pos e.symm]
    · rw [valV_neg e]
      cases q : valV (newT r) x with
      | none =>
        show valV (stepT t c) x = valV t x
        rw [val_step, if_neg (fun z => e z.symm)]
      | some v => rfl
theorem news_moves (t : Tab) (cs : List (Str × V × V)) {ys : List Str} (h : ys.Nodup) (x : Str) : valV (newsT (movesF t cs ys)) x = if x ∈ ys ∧ ¬ (valV t x).getD .non = (valV (newT cs) x).getD .non then some ((valV (newT cs) x).getD .non) else none := by
  have e : newsT (movesF t cs ys) = (ys.map fun x => (x, (valV (newT cs) x).getD .non)).filter fun p => !decide ((valV t p.1).getD .non = p.2) := by
    unfold newsT movesF rowsF
    rw [List.filter_map, List.filter_map, List.map_map]
    rfl
  have nd : Nd (ys.map fun x => (x, (valV (newT cs) x).getD .non)) := by
    unfold Nd
    rw [List.map_map]
    have : ((fun x : Str × V => x.1) ∘ fun x : Str => (x, (valV (newT cs) x).getD V.non)) = id := rfl
    rw [this, List.map_id]
    exact h
  rw [e, val_filter nd, val_keys (fun x => (valV (newT cs) x).getD .non)]
  by_cases m : x ∈ ys
  · rw [if_pos m]
    by_cases d : (valV t x).getD .non = (valV (newT cs) x).getD .non
    · rw [if_neg (fun z => z.2 d)]
      simp [d]
    · rw [if_pos ⟨m, d⟩]
      simp [d]
  · rw [if_neg m, if_neg (fun z => m z.1)]
    rfl
theorem notNon_some {v : V} (h : notNon v = true) : v ≠ .non := fun z => by rw [z] at h; cases h
theorem nn_of {v : V} (h : ¬ notNon v = true) : v = .non := by
  cases v <;> first | rfl | exact absurd rfl h
/-- moves and calls make the same -/
theorem after_law {t : Tab} {cs : List (Str × V × V)} {ys : List Str} (nt : Nd t) (vs : ∀ e ∈ t, notNon e.2 = true) (nc : (cs.map (·.1)).Nodup) (hp : ys.Perm (cs.map (·.1))) (x : Str) : valV (afterT t (movesF t cs ys)) x = valV (lawT t cs) x := by
  have ny : ys.Nodup := hp.nodup_iff.mpr nc
  rw [val_after nt (movesF_nd ny), news_moves t cs ny, val_lawT x cs t nc]
  have mk : x ∈ ys ↔ (valV (newT cs) x).isSome = true := by
    rw [hp.mem_iff, ← mem_val]
    unfold newT
    rw [List.map_map]
    rfl
  cases q : valV (newT cs) x with
  | none =>
    have nx : ¬ x ∈ ys := fun z => by have := mk.mp z; rw [q] at this; cases this
    rw [if_neg (fun z => nx z.1)]
  | some v =>
    have yx : x ∈ ys := mk.mpr (by rw [q]; rfl)
    by_cases d : (valV t x).getD .non = v
    · rw [if_neg (fun z => z.2 d)]
      show valV t x = if notNon v = true then some v else none
      cases c : valV t x with
      | none =>
        rw [c] at d
        rw [← d]
        rfl
      | some w =>
        rw [c] at d
        have d : w = v := d
        obtain ⟨p, hp2, ep⟩ := List.mem_map.mp (valV_in c)
        have v1 := val_nodup nt p hp2
        rw [ep, c] at v1
        have := vs p hp2
        rw [← Option.some.inj v1, d] at this
        rw [if_pos this, d]
    · rw [if_pos ⟨yx, d⟩]
      rfl
/-- moves, name by name -/
theorem movesF_snoc (t : Tab) (cs : List (Str × V × V)) (ys : List Str) (y : Str) : movesF t cs (ys ++ [y]) = movesF t cs ys ++ (if (valV t y).getD .non = (valV (newT cs) y).getD .non then [] else [(y, (valV t y).getD .non, (valV (newT cs) y).getD .non)]) := by
  unfold movesF rowsF
  rw [List.map_append, List.filter_append]
  congr 1
  by_cases d : (valV t y).getD .non = (valV (newT cs) y).getD .non
  · rw [if_pos d]
    simp [d]
  · rw [if_neg d]
    simp [d]
theorem logMoves_app (L : Str → List (List V)) (note : List V) (ms : List (Str × V × V)) (m : Str × V × V) : logMoves L note (ms ++ [m]) = logPut (logMoves L note ms) m.1 ([m.2.1, m.2.2] ++ note) := by
  unfold logMoves
  rw [List.foldl_append]
  rfl
/-- lists stay -/
def LstKeep (H H' : Hp) : Prop := ∀ b xs, H b = some (.lst xs) → H' b = some (.lst xs)
theorem LstKeep.of {H H' : Hp} (s : Same H H') : LstKeep H H' := fun b xs e => s b _ e
theorem LstKeep.trans {H H1 H2 : Hp} (a : LstKeep H H1) (b : LstKeep H1 H2) : LstKeep H H2 := fun c xs e => b c xs (a c xs e)
theorem LstKeep.at {a : Addr} {H : Hp} {o : HO} (n : ∀ xs, H a ≠ some (.lst xs)) : LstKeep H (upd H a o) := fun b xs e => by
  have z : b ≠ a := fun z => n xs (by rw [← z]; exact e)
  rw [upd_ne z]
  exact e
/-! ### the model -/
def modelT (mt mh ml : Addr) : Tab := [("table", .ref mt), ("head", .ref mh), ("logs", .ref ml)]
/-- the model's logs: lists of entries -/
def LogsL (H : Hp) (t : Tab) (L : Str → List (List V)) : Prop := ∀ x, (valV t x = none ∧ L x = []) ∨ ∃ (p : Addr) (as : List Addr), valV t x = some (.ref p) ∧ H p = some (.lst (as.map V.ref)) ∧ Tups H as (L x)
def ModAt (K : PySem.W.Frag) (H : Hp) (m mt mh ml : Addr) (t lt : Tab) (x n : Str) : Prop := H m = some (.dK (kT (modelT mt mh ml))) ∧ H mt = some (.dK (kT t)) ∧ TupK K H mh [.str x, .str n] ∧ H ml = some (.dK (kT lt))
theorem mod_get {H : Hp} {m mt mh ml : Addr} (h : H m = some (.dK (kT (modelT mt mh ml)))) : DGet H m (.str "table") (some (.ref mt)) ∧ DGet H m (.str "head") (some (.ref mh)) ∧ DGet H m (.str "logs") (some (.ref ml)) := ⟨dget_kT (.inl h) "table", dget_kT (.inl h) "head", dget_kT (.inl h) "logs"⟩
theorem ModAt.same {K : PySem.W.Frag} {H H' : Hp} {m mt mh ml : Addr} {t lt : Tab} {x n : Str} (h : ModAt K H m mt mh ml t lt x n) (s : Same H H') : ModAt K H' m mt mh ml t lt x n := ⟨s _ _ h.1, s _ _ h.2.1, h.2.2.1.keep (TupKeep.of s), s _ _ h.2.2.2⟩
theorem LogsL.same {H H' : Hp} {t : Tab} {L : Str → List (List V)} (h : LogsL H t L) (s : Same H H') : LogsL H' t L := fun x => (h x).imp id fun ⟨p, as, a, b, c⟩ => ⟨p, as, a, s _ _ b, c.keep (TupKeep.of s)⟩
theorem LogsL.keep {H H' : Hp} {t : Tab} {L : Str → List (List V)} (h : LogsL H t L) (k : TupKeep H H') (l : LstKeep H H') : LogsL H' t L := fun x => (h x).imp id fun ⟨p, as, a, b, c⟩ => ⟨p, as, a, l _ _ b, c.keep k⟩
theorem LogsL.put {H : Hp} {t : Tab} {L : Str → List (List V)} (h : LogsL H t L) {x : Str} {p : Addr} {e : List V} {as : List Addr} (hp : H p = some (.lst (as.map V.ref))) (tp : Tups H as (L x ++ [e])) : LogsL H (putK t x (.ref p)) (logPut L x e) := fun y => by
  unfold logPut
  rw [valV_put]
  by_cases c : y = x
  · rw [if_pos c, if_pos c, c]
    exact .inr ⟨p, as, rfl, hp, tp⟩
  · rw [if_neg c, if_neg c]
    exact h y
theorem log_stepL {H : Hp} {ml en : Addr} {lt : Tab} {L : Str → List (List V)} {x : Str} {ent : List V} {tk td te : TE} {D : Ends} {σ : L2.St} (hD : H ml = some (.dK (kT lt))) (ll : LogsL H lt L) (he : H en = some (.tup ent))
    (b : (L x).length ≤ 100000) (hl : lt.length ≤ 1000) (ek : ∀ H' Q, Q (.str x) H' → tk σ H' Q) (ed : ∀ H' Q, Same H H' → Q (.ref ml) H' → td σ H' Q) (ee : ∀ H' Q, Q (.ref en) H' → te σ H' Q)
    (q : ∀ H' p, FrL [ml] H H' → TupKeep H H' → LstKeep H H' → H' ml = some (.dK (kT (putK lt x (.ref p)))) → LogsL H' (putK lt x (.ref p)) (logPut L x ent) → D.nx σ H') :
    sDPut td tk (tOp rCat (tDGet2 td tk (tLst tNil)) (tLst (tCons te tNil))) D σ H := by
  refine ed _ _ (Same.refl H) ⟨ml, rfl, .inl ⟨_, .inl hD⟩, ek _ _ ⟨Nat.zero_le _, fun pe hpe => ⟨valV lt x, ?_, ?_⟩⟩⟩
  · exact dget_kT (.inl (by rw [upd_ne (ne_of_none hD hpe)]; exact hD)) x
  · have s0 : Same H (upd H pe (.lst [])) := same_new hpe
    have p0 : (upd H pe (.lst [])) pe = some (.lst []) := upd_same
    generalize upd H pe (.lst []) = H0 at s0 p0
    obtain ⟨a, as, ea, ha, ta⟩ : ∃ (a : Addr) (as : List Addr), (valV lt x).getD (.ref pe) = .ref a ∧ H0 a = some (.lst (as.map V.ref)) ∧ Tups H0 as (L x) := by
      rcases ll x with ⟨e, l⟩ | ⟨p, as, e, h, t⟩
      · exact ⟨pe, [], by rw [e]; rfl, p0, by rw [l]; exact Tups.nil⟩
      · exact ⟨p, as, by rw [e]; rfl, s0 _ _ h, t.keep (TupKeep.of s0)⟩
    rw [ea]
    have la : as.length ≤ 100000 := by rw [ta.1]; exact b
    refine ee _ _ ⟨(by show 1 ≤ sizeLine; decide), fun p2 hp2 => ⟨a, p2, _, _, rfl, rfl, (same_new hp2) _ _ ha, upd_same, small_line (by rw [List.length_map]; show _ + 1 ≤ _; omega), fun p3 hp3 => ?_⟩⟩
    have s03 : Same H0 (upd (upd H0 p2 (.lst [V.ref en])) p3 (.lst (as.map V.ref ++ [V.ref en]))) := (same_new hp2).trans (same_new hp3)
    have h3 : (upd (upd H0 p2 (.lst [V.ref en])) p3 (.lst (as.map V.ref ++ [V.ref en]))) p3 = some (.lst ((as ++ [en]).map V.ref)) := by
      rw [upd_same, List.map_append]
      rfl
    generalize upd (upd H0 p2 (.lst [V.ref en])) p3 (.lst (as.map V.ref ++ [V.ref en])) = H5 at s03 h3
    have s05 := s0.trans s03
    have hD5 := s05 _ _ hD
    refine ed _ _ s05 (ek _ _ ⟨ml, _, rfl, .inl ⟨kT lt, .inr x, hD5, rfl, small_lt (by rw [len_kT]; omega), rfl⟩, ?_⟩)
    rw [putK_kT]
    have kp : TupKeep H5 (upd H5 ml (.dK (kT (putK lt x (.ref p3))))) := TupKeep.at fun xs z => by rw [hD5] at z; cases z
    have kl : LstKeep H5 (upd H5 ml (.dK (kT (putK lt x (.ref p3))))) := LstKeep.at fun xs z => by rw [hD5] at z; cases z
    have kp2 := (TupKeep.of s05).trans kp
    have kl2 := (LstKeep.of s05).trans kl
    refine q _ p3 ((FrL.same s05).trans (FrL.at (List.mem_singleton_self ml))) kp2 kl2 upd_same ?_
    exact (ll.keep kp2 kl2).put (kl _ _ h3) (((ta.keep (TupKeep.of s03)).snoc (s05 _ _ he)).keep kp)
def callL (c : Str × V × V) : List V := [.str c.1, c.2.1, c.2.2]
/-- the law's own list of the calls -/
def CallsL (H : Hp) (lc : Addr) (cs : List (Str × V × V)) : Prop := ∃ as : List Addr, H lc = some (.lst (as.map V.ref)) ∧ Tups H as (cs.map callL)
theorem ok_prefixes {x : Str} (h : OkS x) : ∀ y ∈ prefixesF x, OkS y := fun y hy => by
  obtain ⟨k, _, rfl⟩ := List.mem_map.mp hy
  exact ok_join ok_slash fun p hp => segs_ok x h p (List.mem_of_mem_take hp)
theorem have_any {ks : List Str} (h : haveF ks = false) : ∀ x ∈ ks, ((prefixesF x).any fun y => decide (y ∈ ks)) = false := fun x hx => by
  unfold haveF at h
  exact Bool.eq_false_iff.mpr fun z => by
    rw [List.any_eq_true.mpr ⟨x, hx, z⟩] at h
    cases h
theorem law_new_at {t : Tab} {cs : List (Str × V × V)} {y : Str} (nc : (cs.map (·.1)).Nodup) (h : y ∈ cs.map (·.1)) : (valV (lawT t cs) y).getD .non = (valV (newT cs) y).getD .non := by
  rw [val_lawT y cs t nc]
  have m : (valV (newT cs) y).isSome = true := by
    rw [← mem_val]
    unfold newT
    rw [List.map_map]
    exact h
  cases c : valV (newT cs) y with
  | none => rw [c] at m; cases m
  | some v =>
    show (if notNon v = true then some v else none).getD .non = v
    by_cases d : notNon v = true
    · rw [if_pos d]
      rfl
    · rw [if_neg d, nn_of d]
      rfl
theorem mem_keys_put {t : Tab} {x y : Str} {v : V} (h : y ∈ (putK t x v).map (·.1)) : y ∈ t.map (·.1) ∨ y = x := by
  have := mem_val.mp h
  rw [valV_put] at this
  by_cases c : y = x
  · exact .inr c
  · rw [if_neg c] at this
    exact .inl (mem_val.mpr this)
theorem flat_lawT {t : Tab} {cs : List (Str × V × V)} (ht : ∀ e ∈ t, flatN e.2) (hc : ∀ c ∈ cs, flatN c.2.1) : ∀ e ∈ lawT t cs, flatN e.2 := by
  unfold lawT
  induction cs generalizing t with
  | nil => exact ht
  | cons c r ih =>
    refine ih (fun e he => ?_) fun d hd => hc d (List.mem_cons_of_mem _ hd)
    unfold stepT at he
    have dr : ∀ e ∈ dropK t c.1, flatN e.2 := fun e he => ht e (dropK_mem he)
    split at he
    · rcases mem_putK he with h | h
      · exact dr e h
      · rw [h]
        exact hc c List.mem_cons_self
    · exact dr e he
end Fk

set_option maxHeartbeats 4000000
/-! A try with several except clauses, of which any may have a name. -/
namespace Fk
open PySem PySem.Spec PyProof.Rows L2
/-- a clause with a name: slot i is the error's within the suite, and nothing's behind it -/
def asTS (i : Nat) (ts : Addr → Value → Option Addr → TS) : Addr → Value → Option Addr → TS := fun a cls d D σ H =>
  ts a cls d { nx := fun σ' H' => D.nx (σ'.set i none) H', rt := D.rt, bk := fun σ' H' => D.bk (σ'.set i none) H', ct := fun σ' H' => D.ct (σ'.set i none) H' } (σ.set i (some (.ref a))) H
inductive HdA (X : Cx) : List ExceptHandler → List (Value × (Addr → Value → Option Addr → TS)) → Prop
  | nil : HdA X [] []
  | cons {x : Str} {c : Value} {ts : Addr → Value → Option Addr → TS} {b₀ : Stmt} {suite : List Stmt} {np pos' : Pos} {hds : List ExceptHandler} {l : List (Value × (Addr → Value → Option Addr → TS))} (hc : Names X x c)
      (hsu : ∀ (a : Addr) (oe : Obj) (cls : Value) (d : Option Addr) (pn : List (Addr × Obj)), Zc cls d oe → (∃ vs, oe.data = .fields vs) → PSs (X.suite a ((a, oe) :: pn)) (b₀ :: suite) (ts a cls d)) (r : HdA X hds l) :
      HdA X (.ExceptHandler (some (.Name x np)) none (b₀ :: suite) pos' :: hds) ((c, ts) :: l)
  | as {x n : Str} {i : Nat} {c : Value} {ts : Addr → Value → Option Addr → TS} {b₀ : Stmt} {suite : List Stmt} {np pos' : Pos} {hds : List ExceptHandler} {l : List (Value × (Addr → Value → Option Addr → TS))} (hN : X.N.Nodup) (hi : X.N[i]? = some n) (hln : X.env.kindOf n = some .local) (hc : Names X x c)
      (hsu : ∀ (a : Addr) (oe : Obj) (cls : Value) (d : Option Addr) (pn : List (Addr × Obj)), Zc cls d oe → (∃ vs, oe.data = .fields vs) → PSs (X.suite a ((a, oe) :: pn)) (b₀ :: suite) (ts a cls d)) (r : HdA X hds l) :
      HdA X (.ExceptHandler (some (.Name x np)) (some n) (b₀ :: suite) pos' :: hds) ((c, asTS i ts) :: l)
section
variable {X : Cx} {body : List Stmt} {h₀ : ExceptHandler} {hds : List ExceptHandler} {l : List (Value × (Addr → Value → Option Addr → TS))} {pos : Pos} {tb : WX → TS} {Wout : WX}
theorem ps_tryA (hs : X.stack = X.env :: X.outer) (hf : X.env.frame = some X.env.locals) (tk : Takes X Wout)
    (hb : ∀ (W : WX) (pn : List (Addr × Obj)) (xe : Value → Shared → Prop), Takes (X.tr pn xe) W → PassesOwn (model X.prog X.w) X.A X.env xe → PSs (X.tr pn xe) body (tb W))
    (hh : HdA X (h₀ :: hds) l) : PS X (.Try body (h₀ :: hds) [] [] pos) (fun D σ H => tb (wMany X.K Wout D l) D σ H) := by
  refine ⟨fun pins s σ H D I h => ?_⟩
  have ok := I.ok
  have hfr : X.A.frames = some (X.env :: X.outer) := by rw [ok.frames, hs]
  refine wpAny_Try_except ?_
  refine wpAny_mono ((hb (wMany X.K Wout D l) (X.pn ++ pins) (fun e s₁ => wpAny (model X.prog X.w) X.A (noteFrame e X.env) (fun _ s₂ => wpAny (model X.prog X.w) X.A (setFlight e none) (fun _ s₃ =>
    wpAny (model X.prog X.w) X.A (handleBy e X.env (h₀ :: hds)) (SP X pins D) X.xe s₃) X.xe s₂) X.xe s₁) (fun u s' xx => ?_) PassesOwn.looking).run [] s σ H D (I.toTry _) h) (fun f s1 hsp => ?_) (fun e s1 he => he)
  · obtain ⟨a, B, sI, pins', σ', H', cls, d, rfl, J', nb, up, sky, na, os, ag, w⟩ := xx
    have J : Inv X pins σ' H' sI := J'.ofTry ok
    have sky' : Sky B (X.env :: X.outer) a (Zc cls d) X.env.locals s'.heap := by rw [← hs]; exact sky
    show wpAny (model X.prog X.w) X.A (noteFrame (.ref a) X.env) _ _ _
    refine Sky.land Zc.steady hfr hf sky' fun h3 fl3 up3 => ?_
    have J3 : Inv X pins σ' H' { s' with heap := h3 } := J.landed nb fl3.1 (up.trans up3) os ag
    obtain ⟨oe3, vs3, he3, hz3, hd3⟩ := fl3.there
    have notFr : ∀ {h : Heap} {o : Obj} {vs : Array Value}, h.FunFrames B (X.env :: X.outer) → h.get? a = some o → o.data = .fields vs → a ∉ frs (X.env :: X.outer) := fun {h o vs} ff e dd hm => by
      obtain ⟨_, o', e', hnf⟩ := ff.mem hm
      rw [e] at e'; cases e'
      exact hnf _ dd
    have nfr := notFr fl3.2.2.1 he3 hd3
    have nL : a ≠ X.env.locals := fun z => nfr (List.mem_filterMap.mpr ⟨X.env, List.mem_cons_self, by rw [hf, z]⟩)
    have nF : a ∉ X.fs := fun hm => by
      obtain ⟨e, he, q⟩ := List.mem_filterMap.mp hm
      exact nfr (List.mem_filterMap.mpr ⟨e, List.mem_cons_of_mem _ he, q⟩)
    have S3 := J3.suite he3 hd3 na nL nF
    have go : ∀ {hds' : List ExceptHandler} {l' : List (Value × (Addr → Value → Option Addr → TS))}, HdA X hds' l' → wMany X.K Wout D l' cls d σ' H' →
        wpAny (model X.prog X.w) X.A (handleBy (.ref a) X.env hds') (SP X pins D) X.xe { s' with heap := h3 } := by
      intro hds' l' hk
      induction hk with
      | nil =>
        intro w
        refine wpAny_handleBy_nil ?_
        obtain ⟨k1, k2, k3, oe, vs, T, oT, ts', he, hz, hd, h1, hr⟩ := id fl3
        unfold PySem.passOn
        refine wpAny_bind (wpAny_field he hd h1 ?_)
        rw [if_neg (show ¬ ((Value.ref T == Value.none) = true) from by simp)]
        have fin : wpAny (model X.prog X.w) X.A (setFlight (.ref a) X.env.frame) (fun _ s4 => wpAny (model X.prog X.w) X.A (throw (.ref a) : Sem Flow) (SP X pins D) X.xe s4) X.xe { s' with heap := h3 } := by
          rw [hf]
          refine HandSPX.setFlight_upZ fl3 fun h4 hh4 up4 => wpAny_throw (tk _ _ ?_)
          exact ⟨a, B, sI, pins, σ', H', cls, d, rfl, J, nb, (up.trans up3).trans up4, .inr (.inr (by rw [hs]; exact hh4)), na, os, ag, w⟩
        first
          | exact wpAny_bind (wpAny_pure (wpAny_bind fin))
          | exact wpAny_bind fin
      | @cons x c ts b₀ suite np pos' hds2 l2 hc hsu r ih =>
        intro w
        obtain ⟨b, hb1, hyes, hno⟩ := w
        refine wpAny_handleBy_cons (codeAny_handlers_test ?_) (by intro q; cases q)
        have LT : PySem.W.Looks (model X.prog X.w) h3 (typeOf (.ref a)) cls := fun A Q E s k q => wpAny_typeOf_ref (k _ _ he3) (by rw [hz3.1]; exact q)
        have LM := PySem.W.exm_one (M := model X.prog X.w) (J3.kIn) LT hb1
        have test : ∀ {Q : Value → Shared → Prop} {E : Value → Shared → Prop}, Q c { s' with heap := h3 } → wpAny (model X.prog X.w) (X.A.mark (some (.ref a))) (eval (.Name x np) X.env) Q E { s' with heap := h3 } := fun {Q E} q => by
          obtain ⟨hg, hdbg, hm | ⟨hm, hv, hnn⟩⟩ := hc
          · exact ld_glob (X := X.suite a ((a, oe3) :: (X.pn ++ pins))) S3 hg hm q hdbg
          · exact ld_blt (X := X.suite a ((a, oe3) :: (X.pn ++ pins))) S3 hg hm hv q hnn hdbg
        refine test (LM.here ?_)
        cases b with
        | true =>
          refine codeAny_handlers_suite ?_
          refine HandSPX.lands_againZ fl3 fun h4 fl4 up4 => ?_
          have J4 : Inv X pins σ' H' { s' with heap := h4 } := J.landed nb fl4.1 ((up.trans up3).trans up4) os ag
          obtain ⟨oe4, vs4, he4, hz4, hd4⟩ := fl4.there
          have S4 := J4.suite he4 hd4 na nL nF
          refine wpAny_mono ((hsu a oe4 cls d (X.pn ++ pins) hz4 ⟨_, hd4⟩).run [] _ _ H' _ S4 (hyes rfl a na)) (fun f s6 hsp => ?_) (fun _ _ z => False.elim z)
          cases f with
          | next =>
            obtain ⟨σ6, H6, S6, q6⟩ := hsp
            exact ⟨_, _, S6.unsuite ok, q6⟩
          | brk =>
            obtain ⟨σ6, H6, S6, q6⟩ := hsp
            exact ⟨_, _, S6.unsuite ok, q6⟩
          | cont =>
            obtain ⟨σ6, H6, S6, q6⟩ := hsp
            exact ⟨_, _, S6.unsuite ok, q6⟩
          | ret u =>
            obtain ⟨v6, σ6, H6, S6, r6, q6⟩ := hsp
            exact ⟨_, _, _, S6.unsuite ok, r6, q6⟩
        | false =>
          show wpAny _ X.A (handleBy (.ref a) X.env hds2) _ _ _
          exact ih (hno rfl)
      | @as x n i c ts b₀ suite np pos' hds2 l2 hN hi hln hc hsu r ih =>
        intro w
        have hloc : Loc X.env.scope n := .inl hln
        obtain ⟨b, hb1, hyes, hno⟩ := w
        refine wpAny_handleBy_cons (codeAny_handlers_test ?_) (by intro q; cases q)
        have LT : PySem.W.Looks (model X.prog X.w) h3 (typeOf (.ref a)) cls := fun A Q E s k q => wpAny_typeOf_ref (k _ _ he3) (by rw [hz3.1]; exact q)
        have LM := PySem.W.exm_one (M := model X.prog X.w) (J3.kIn) LT hb1
        have test : ∀ {Q : Value → Shared → Prop} {E : Value → Shared → Prop}, Q c { s' with heap := h3 } → wpAny (model X.prog X.w) (X.A.mark (some (.ref a))) (eval (.Name x np) X.env) Q E { s' with heap := h3 } := fun {Q E} q => by
          obtain ⟨hg, hdbg, hm | ⟨hm, hv, hnn⟩⟩ := hc
          · exact ld_glob (X := X.suite a ((a, oe3) :: (X.pn ++ pins))) S3 hg hm q hdbg
          · exact ld_blt (X := X.suite a ((a, oe3) :: (X.pn ++ pins))) S3 hg hm hv q hnn hdbg
        refine test (LM.here ?_)
        cases b with
        | true =>
          refine codeAny_handlers_suite_as ?_
          refine HandSPX.lands_againZ fl3 fun h4 fl4 up4 => ?_
          have J4 : Inv X pins σ' H' { s' with heap := h4 } := J.landed nb fl4.1 ((up.trans up3).trans up4) os ag
          obtain ⟨oe4, vs4, he4, hz4, hd4⟩ := fl4.there
          have S4 := J4.suite he4 hd4 na nL nF
          refine store_ok (X := X.suite a ((a, oe4) :: (X.pn ++ pins))) (v := .ref a) S4 hN hi hloc rfl (fun s5 S5 => ?_) (.inr hln)
          refine wpAny_mono ((hsu a oe4 cls d (X.pn ++ pins) hz4 ⟨_, hd4⟩).run [] s5 _ H' _ S5 (hyes rfl a na)) (fun f s6 hsp => ?_) (fun _ _ z => False.elim z)
          have end_ : ∀ {σ6 : L2.St} {H6 : Hp} {Q : Shared → Prop}, Inv (X.suite a ((a, oe4) :: (X.pn ++ pins))) [] σ6 H6 s6 → (∀ s7, Inv X pins (σ6.set i none) H6 s7 → Q s7) →
              wpAny (model X.prog X.w) X.A (do bindName X.env n .none; unbindBehindTheSuite X.env n pos') (fun _ s7 => Q s7) X.xe s6 := fun {σ6 H6 Q} S6 hq => gone_ok (S6.unsuite ok) hN hi hln hq
          cases f with
          | next =>
            obtain ⟨σ6, H6, S6, q6⟩ := hsp
            exact end_ S6 fun s7 J7 => ⟨_, _, J7, q6⟩
          | brk =>
            obtain ⟨σ6, H6, S6, q6⟩ := hsp
            exact end_ S6 fun s7 J7 => ⟨_, _, J7, q6⟩
          | cont =>
            obtain ⟨σ6, H6, S6, q6⟩ := hsp
            exact end_ S6 fun s7 J7 => ⟨_, _, J7, q6⟩
          | ret u =>
            obtain ⟨v6, σ6, H6, S6, r6, q6⟩ := hsp
            exact end_ S6 fun s7 J7 => ⟨_, _, _, J7, r6, q6⟩
        | false =>
          show wpAny _ X.A (handleBy (.ref a) X.env hds2) _ _ _
          exact ih (hno rfl)
    exact go hh w
  · cases f with
    | next =>
      obtain ⟨σ', H', J', q⟩ := hsp
      exact wpAny_execs_nil ⟨σ', H', J'.ofTry ok, q⟩
    | brk =>
      obtain ⟨σ', H', J', q⟩ := hsp
      exact ⟨σ', H', J'.ofTry ok, q⟩
    | cont =>
      obtain ⟨σ', H', J', q⟩ := hsp
      exact ⟨σ', H', J'.ofTry ok, q⟩
    | ret u =>
      obtain ⟨v, σ', H', J', r, q⟩ := hsp
      exact ⟨v, σ', H', J'.ofTry ok, r, q⟩
end
end Fk

set_option maxHeartbeats 4000000
/-! Frames one after the other; logs that stay; references and a model that agree, moved to another heap. -/
namespace Fk
open PySem PySem.Spec PyProof.Rows L2
theorem FrL.then {L M : List Addr} {H H1 H2 : Hp} (f : FrL L H H1) (g : FrL M H1 H2) (h : ∀ b ∈ M, b ∈ L ∨ H b = none) : FrL L H H2 := fun b o n e =>
  g b o (fun hm => (h b hm).elim n (fun z => by rw [e] at z; cases z)) (f b o n e)
theorem FrL.then1 {L : List Addr} {a : Addr} {H H1 H2 : Hp} (f : FrL L H H1) (g : FrL [a] H1 H2) (h : a ∈ L ∨ H a = none) : FrL L H H2 := f.then g fun b hb => by rw [List.mem_singleton.mp hb]; exact h
theorem FrL.free {L : List Addr} {H H1 : Hp} (f : FrL L H H1) {b : Addr} (n : b ∉ L) (e : H1 b = none) : H b = none := by
  cases c : H b with
  | none => rfl
  | some o => rw [f b o n c] at e; cases e
theorem val_mem {t : Tab} {x : Str} {v : V} (h : valV t x = some v) : (x, v) ∈ t := by
  unfold valV at h
  cases c : t.find? fun kv => decide (kv.1 = x) with
  | none => rw [c] at h; cases h
  | some p =>
    rw [c] at h
    have m := List.mem_of_find?_eq_some c
    have e : p.1 = x := by have := List.find?_some (p := fun kv : Str × V => decide (kv.1 = x)) c; exact of_decide_eq_true this
    obtain ⟨a, b⟩ := p
    cases h
    cases e
    exact m
theorem Tups.cons {H : Hp} {a : Addr} {as : List Addr} {l : List V} {ls : List (List V)} (h : H a = some (.tup l)) (t : Tups H as ls) : Tups H (a :: as) (l :: ls) := by
  refine ⟨by rw [List.length_cons, List.length_cons, t.1], fun i b m h1 h2 => ?_⟩
  cases i with
  | zero => cases h1; cases h2; exact h
  | succ j => exact t.2 j b m h1 h2
theorem Tups.head {H : Hp} {a : Addr} {as : List Addr} {l : List V} {ls : List (List V)} (t : Tups H (a :: as) (l :: ls)) : H a = some (.tup l) := t.2 0 a l rfl rfl
theorem Tups.tail {H : Hp} {a : Addr} {as : List Addr} {l : List V} {ls : List (List V)} (t : Tups H (a :: as) (l :: ls)) : Tups H as ls := ⟨by have := t.1; rw [List.length_cons, List.length_cons] at this; omega, fun i b m h1 h2 => t.2 (i + 1) b m h1 h2⟩
theorem tups_filter {α : Type} {H : Hp} (f : α → List V) (p : α → Bool) : ∀ (cs : List α) (as : List Addr), Tups H as (cs.map f) → ∃ bs : List Addr, ((as.zip cs).filter fun z => p z.2).map (fun z => V.ref z.1) = bs.map V.ref ∧ Tups H bs ((cs.filter p).map f)
  | [], as, _ => ⟨[], by rw [List.zip_nil_right]; rfl, Tups.nil⟩
  | c :: cs, [], t => absurd t.1 (by simp)
  | c :: cs, a :: as, t => by
    obtain ⟨bs, e, tb⟩ := tups_filter f p cs as t.tail
    rw [List.zip_cons_cons, List.filter_cons, List.filter_cons]
    by_cases h : p c = true
    · refine ⟨a :: bs, ?_, ?_⟩
      · rw [if_pos h, List.map_cons, List.map_cons, e]
      · rw [if_pos h, List.map_cons]
        exact Tups.cons t.head tb
    · refine ⟨bs, ?_, ?_⟩
      · rw [if_neg h, e]
      · rw [if_neg h]
        exact tb
theorem int_refs {x y z : Int} {as : List Addr} : ([V.int x, .int y, .int z] : List V) ≠ as.map V.ref := fun h => by
  cases as with
  | nil => cases h
  | cons b r => injection h with h _; cases h
theorem LogsL.out {H H' : Hp} {t : Tab} {L : Str → List (List V)} {M : List Addr} (h : LogsL H t L) (k : TupKeep H H') (f : FrL M H H') (n : ∀ b ∈ M, ∀ as : List Addr, H b ≠ some (.lst (as.map V.ref))) : LogsL H' t L := fun x =>
  (h x).imp id fun ⟨p, as, a, b, c⟩ => ⟨p, as, a, f p _ (fun hm => n p hm as b) b, c.keep k⟩
theorem CallsL.out {H H' : Hp} {lc : Addr} {cs : List (Str × V × V)} {M : List Addr} (h : CallsL H lc cs) (k : TupKeep H H') (f : FrL M H H') (n : lc ∉ M) : CallsL H' lc cs := by
  obtain ⟨as, a, b⟩ := h
  exact ⟨as, f lc _ n a, b.keep k⟩
theorem CallsL.same {H H' : Hp} {lc : Addr} {cs : List (Str × V × V)} (h : CallsL H lc cs) (s : Same H H') : CallsL H' lc cs := by
  obtain ⟨as, a, b⟩ := h
  exact ⟨as, s _ _ a, b.keep (TupKeep.of s)⟩
theorem callPut_nd {cs : List (Str × V × V)} {x : Str} {v o : V} (h : (cs.map (·.1)).Nodup) : ((callPut cs x v o).map (·.1)).Nodup := by
  unfold callPut
  rw [List.map_append, List.nodup_append]
  refine ⟨List.Nodup.sublist ((List.filter_sublist).map _) h, by simp, fun a ha b hb => ?_⟩
  obtain ⟨c, hc, rfl⟩ := List.mem_map.mp ha
  have := of_decide_eq_true (List.mem_filter.mp hc).2
  simp at hb
  rw [hb]
  exact this
theorem callPut_len (cs : List (Str × V × V)) (x : Str) (v o : V) : (callPut cs x v o).length ≤ cs.length + 1 := by
  unfold callPut
  rw [List.length_append]
  have := List.length_filter_le (fun c : Str × V × V => decide (c.1 ≠ x)) cs
  show _ + 1 ≤ _
  omega
theorem mem_callPut {cs : List (Str × V × V)} {x : Str} {v o : V} {c : Str × V × V} (h : c ∈ callPut cs x v o) : c ∈ cs ∨ c = (x, v, o) := by
  rcases List.mem_append.mp h with h | h
  · exact .inl (List.mem_filter.mp h).1
  · exact .inr (List.mem_singleton.mp h)
end Fk

set_option maxHeartbeats 4000000
/-! A comprehension over zip of two tuples. -/
namespace Fk
open PySem PySem.Spec PyProof.Rows L2 RZ
theorem lc_zipT {K : PySem.W.Frag} {a b D : Addr} {xs ys : List V} {σ : L2.St} {vs : List Nat} {g : TG} {tt : TT} {te : TE} {Q : Hp → Prop} {H1 : Hp} {n : Nat} (f : Nat → V) (hD1 : H1 D = none) (ha : ∀ H, Same H1 H → SqT K H a xs) (hb : ∀ H, Same H1 H → SqT K H b ys)
    (hx : n ≤ xs.length) (hy : n ≤ ys.length) (hn : xs.length ≤ n ∨ ys.length ≤ n) (hl : n ≤ 1000000)
    (hs : ∀ i x y T H, i < n → xs[i]? = some x → ys[i]? = some y → Same H1 H → H T = some (.tup [x, y]) → ∀ (N : VK) (M : Hp → Prop), (∀ H3, Same H H3 → N (f i) H3) →
      g (.ref T) (wipe σ vs) H fun σ2 H2 => wipe σ2 vs = wipe σ vs ∧ tt σ2 H2 fun bb H3 => if bb = true then te σ2 H3 N else M H3)
    (hd : ∀ H, Same H1 H → H D = some (.lst ((List.range n).map f)) → Q H) :
    ∃ W : Nat → Nat → Hp → Prop, (∃ m, W 0 m (upd H1 D (.lst []))) ∧ ∀ k m H, W k m H →
      ((ItzT K a b).stop k H ∧ Q H) ∨ ((ItzT K a b).go k H ∧ ∃ Nx : Hp → Prop, (∀ H', Nx H' → ∃ m', m' < m ∧ W (k + 1) m' H') ∧ ∀ x H', (ItzT K a b).yld k H x H' → g x (wipe σ vs) H' fun σ2 H2 => wipe σ2 vs = wipe σ vs ∧ tt σ2 H2 fun bb H3 =>
        if bb = true then te σ2 H3 fun y H4 => ∃ acc, H4 D = some (.lst acc) ∧ acc.length < sizeLine ∧ Nx (upd H4 D (.lst (acc ++ [y]))) else Nx H3) := by
  refine ⟨fun k m H => m = n - k ∧ k ≤ n ∧ Same H1 H ∧ H D = some (.lst ((List.range k).map f)), ⟨n, by omega, Nat.zero_le _, same_new hD1, upd_same⟩, ?_⟩
  rintro k m H ⟨rfl, hk, s1, hD⟩
  by_cases hlt : k < n
  · have lx : k < xs.length := by omega
    have ly : k < ys.length := by omega
    refine .inr ⟨⟨xs, ys, xs[k], ys[k], ha H s1, hb H s1, List.getElem?_eq_getElem lx, List.getElem?_eq_getElem ly⟩, fun H' => Same H1 H' ∧ H' D = some (.lst ((List.range (k + 1)).map f)), fun H' q => ⟨n - (k + 1), by omega, rfl, hlt, q⟩, fun x H' y => ?_⟩
    obtain ⟨T, u, v, rfl, hT, rfl, gx, gy⟩ := y
    have s2 := same_new (o := .tup [u, v]) hT
    refine hs k u v T _ hlt (gx xs (ha H s1)) (gy ys (hb H s1)) (s1.trans s2) upd_same _ _ fun H3 s3 => ⟨_, s3 _ _ (s2 _ _ hD), small_lt (by rw [List.length_map, List.length_range]; omega), fun c o e => ?_, ?_⟩
    · rw [upd_ne (ne_of_none e hD1)]
      exact s3 _ _ (s2 _ _ (s1 _ _ e))
    · rw [upd_same, List.range_succ, List.map_append]
      rfl
  · have e : k = n := by omega
    subst e
    exact .inl ⟨⟨xs, ys, ha H s1, hb H s1, hn⟩, hd H s1 hD⟩
theorem lc_gen {α : Type} {J : It} {us : List α} {val : α → V} {G : Hp → Prop} {H1 : Hp} {D : Addr} {σ : L2.St} {vs : List Nat} {g : TG} {tt : TT} {te : TE} {Q : Hp → Prop} (Y : Yields J (us.map val) G) (f : α → V) (p : α → Bool) (σf : α → L2.St) (hD1 : H1 D = none) (hG : ∀ H, Same H1 H → G H) (hw : ∀ u ∈ us, wipe (σf u) vs = wipe σ vs)
    (hg : ∀ H u, Same H1 H → u ∈ us → ∀ (R : L2.St → Hp → Prop), R (σf u) H → g (val u) (wipe σ vs) H R)
    (ht : ∀ H u, Same H1 H → u ∈ us → ∀ (R : Bool → Hp → Prop), (∀ H3, Same H H3 → R (p u) H3) → tt (σf u) H R)
    (he : ∀ H u, Same H1 H → u ∈ us → p u = true → ∀ (R : VK), (∀ H3, Same H H3 → R (f u) H3) → te (σf u) H R)
    (hl : us.length ≤ 1000000) (hd : ∀ H, Same H1 H → H D = some (.lst ((us.filter p).map f)) → Q H) :
    ∃ W : Nat → Nat → Hp → Prop, (∃ m, W 0 m (upd H1 D (.lst []))) ∧ ∀ k m H, W k m H →
      (J.stop k H ∧ Q H) ∨ (J.go k H ∧ ∃ Nx : Hp → Prop, (∀ H', Nx H' → ∃ m', m' < m ∧ W (k + 1) m' H') ∧ ∀ x H', J.yld k H x H' → g x (wipe σ vs) H' fun σ2 H2 => wipe σ2 vs = wipe σ vs ∧ tt σ2 H2 fun b H3 =>
        if b = true then te σ2 H3 fun y H4 => ∃ acc, H4 D = some (.lst acc) ∧ acc.length < sizeLine ∧ Nx (upd H4 D (.lst (acc ++ [y]))) else Nx H3) := by
  refine lcG Y (fun k acc H => Same H1 H ∧ acc = ((us.take k).filter p).map f) (fun k acc H h _ => hG H h.1) ⟨same_new hD1, rfl⟩ (fun k acc H x hI hD hx hacc hk => ?_) (by rw [List.length_map]; exact hl) (fun acc H hI hD _ => ?_)
  · obtain ⟨sm, ea⟩ := hI
    rw [List.getElem?_map] at hx
    cases hu : us[k]? with
    | none => rw [hu] at hx; cases hx
    | some u =>
      rw [hu] at hx
      cases hx
      have hm : u ∈ us := List.mem_of_getElem? hu
      have et : us.take (k + 1) = us.take k ++ [u] := by
        rw [List.take_add_one, hu]
        rfl
      refine hg H u sm hm _ ⟨hw u hm, ?_⟩
      refine ht H u sm hm _ (fun H3 s3 => ?_)
      by_cases hp : p u = true
      · rw [if_pos hp]
        refine he H3 u (sm.trans s3) hm hp _ (fun H4 s4 => ?_)
        refine lc_take (s4 _ _ (s3 _ _ hD)) hacc hk ⟨same_mut ((sm.trans s3).trans s4) hD1, ?_⟩
        rw [et, List.filter_append, List.map_append, List.filter_cons, hp, ea]
        rfl
      · rw [if_neg hp]
        refine lc_skip (s3 _ _ hD) hacc ⟨sm.trans s3, ?_⟩
        rw [et, List.filter_append, List.map_append, List.filter_cons, if_neg hp, ea]
        simp
  · obtain ⟨sm, ea⟩ := hI
    rw [List.length_map, List.take_length] at ea
    exact hd H sm (by rw [hD, ea])
def rLenQ (K : PySem.W.Frag) : List V → Hp → VK → Prop := fun xs H Q => ∃ p ys, xs = [.ref p] ∧ (SqL K H p ys ∨ SqT K H p ys) ∧ Q (.int ys.length) H
theorem ciK {X : Cx} {K : PySem.W.Frag} (h : X.K = K) : CallR X (.builtin "isinstance") (rIsi K) := h ▸ call_isi
theorem clK {X : Cx} {K : PySem.W.Frag} (h : X.K = K) : CallR X (.builtin "len") (rLenQ K) := h ▸ call_len_seq
end Fk

/-! truth of a thing within a comprehension, K given -/
namespace Fk
open PySem PySem.Spec PyProof.Rows L2
def tTruK (K : PySem.W.Frag) (ta : TE) : TT := fun σ H Q => ta σ H fun x H' => ∃ k, TruV K x H' k ∧ Q k H'
theorem ptK_truth {X : Cx} {K : PySem.W.Frag} {a : Expr} {ta : TE} (h : X.K = K) (ha : PE X a ta) (he : ∀ whole, isTrue a X.env whole = (do let v ← whole; standAt a.pos; holding [v] (truthy v))) : PT X a (tTruK K ta) := h ▸ pt_truth ha he
end Fk

set_option maxHeartbeats 4000000
/-! list(text); classes and defs called with keywords; properties. -/
namespace Fk
open PySem PySem.Spec PyProof.Rows L2
section
variable {X : Cx}
/-- list(x), x a text -/
def rListS : List V → Hp → VK → Prop := fun xs H Q => ∃ x : Str, xs = [.str x] ∧ x.length ≤ sizeLine ∧ ∀ q, H q = none → Q (.ref q) (upd H q (.lst ((TL.tl x).map sgn)))
theorem call_listS (hc : X.calm = true) : CallR X (.type "list") rListS := by
  intro pins s σ H xs us Q I r h
  obtain ⟨x, e, hz, q⟩ := h
  subst e
  obtain ⟨u, eu, rx⟩ := vals1 r
  subst eu
  obtain ⟨t, rfl⟩ := rx
  refine PySem.call_list_str (I.ok.hd hc) x t (fun h' tk acc' c' hk hS hacc => ?_) hz
  refine ⟨.ref s.heap.objs.size, upd H s.heap.objs.size (.lst ((TL.tl x).map sgn)), I.laid hk (Nat.le_refl _) (show ObjOk X.prog X.w _ _ _ (.lst ((TL.tl x).map sgn)) from ⟨?_, acc'.toList, c', ?_, ?_⟩), rfl, q _ (I.hok.fresh (Nat.le_refl _))⟩
  · rw [List.length_map, ← TL.len_tl]; exact hz
  · have el : acc'.toList.length = acc'.size := by simp
    refine vals_of_at (by rw [List.length_map, el, hacc.1, ← TL.len_tl]; rfl) fun j x' w h1 h2 => ?_
    obtain ⟨c, u, hcx, rfl⟩ := hacc.2 j w (by rw [← Array.getElem?_toList]; exact h2)
    rw [List.getElem?_map, show (TL.tl x)[j]? = some c from by rw [← hcx]; exact Array.getElem?_toList] at h1
    cases h1
    exact ⟨u, rfl⟩
  · rw [Array.toArray_toList]; exact hS
end
/-! ### classes and defs called with keywords -/
def IniK (K : PySem.W.Frag) (C : Addr) (qual : Str) (st : Stmt) (ps : List Str) (n : Nat) (ks : List Str) (gV : List V → List V → List V) : Prop := ∃ (f : Addr) (fd : FuncData) (g : List Value → List Value → List Value), Mk K C f ∧ C8.Fun K "__init__" qual st f fd ∧ KBn K fd ps n ks g gV
structure MakK (P : Program) (w : World) (K : PySem.W.Frag) (mg : Str → Option Value) (base : Heap) (k : Nat) (x : Str) (C : Addr) (sp : Sp) (n : Nat) (ks : List Str) (gV : List V → List V → List V) : Prop where
  ex : ∃ (f : Addr) (fd : FuncData) (ps : List Str) (g : List Value → List Value → List Value), Mk K C f ∧ FnOk P w K mg base C8.CX0 k f fd ps sp ∧ mg x = some (.ref C) ∧ KBn K fd ps n ks g gV
def DefK (K : PySem.W.Frag) (mg : Str → Option Value) (x : Str) (st : Stmt) (ps : List Str) (n : Nat) (ks : List Str) (gV : List V → List V → List V) : Prop := ∃ (f : Addr) (fd : FuncData) (g : List Value → List Value → List Value), C8.Fun K x x st f fd ∧ mg x = some (.ref f) ∧ PySem.W.keepIn K (.ref f) = true ∧ KBn K fd ps n ks g gV
structure CalK (P : Program) (w : World) (K : PySem.W.Frag) (mg : Str → Option Value) (base : Heap) (k : Nat) (x : Str) (sp : Sp) (n : Nat) (ks : List Str) (gV : List V → List V → List V) : Prop where
  ex : ∃ (f : Addr) (fd : FuncData) (ps : List Str) (g : List Value → List Value → List Value), FnOk P w K mg base C8.CX0 k f fd ps sp ∧ mg x = some (.ref f) ∧ PySem.W.keepIn K (.ref f) = true ∧ KBn K fd ps n ks g gV
section
variable {P : Program} {w : World} {K : PySem.W.Frag} {mg : Str → Option Value} {base : Heap}
theorem makK {x qual : Str} {C : Addr} {st : Stmt} {ps ks : List Str} {n k : Nat} {sp : Sp} {gV : List V → List V → List V} (I : IniK K C qual st ps n ks gV) (hm : mg x = some (.ref C)) (F : ∀ f fd, C8.Fun K "__init__" qual st f fd → FnOk P w K mg base C8.CX0 k f fd ps sp) : MakK P w K mg base k x C sp n ks gV := by
  obtain ⟨f, fd, g, M, U, b⟩ := I
  exact ⟨f, fd, ps, g, M, F f fd U, hm, b⟩
theorem calK {x : Str} {st : Stmt} {ps ks : List Str} {n k : Nat} {sp : Sp} {gV : List V → List V → List V} (I : DefK K mg x st ps n ks gV) (F : ∀ f fd, C8.Fun K x x st f fd → FnOk P w K mg base C8.CX0 k f fd ps sp) : CalK P w K mg base k x sp n ks gV := by
  obtain ⟨f, fd, g, U, hm, hk, b⟩ := I
  exact ⟨f, fd, ps, g, F f fd U, hm, hk, b⟩
/-- a property of a class, by its getter -/
structure PDef (K : PySem.W.Frag) (C : Addr) (f qual : Str) (st : Stmt) : Prop where
  ex : ∃ (p g : Addr) (fd : FuncData), PropOf K C f p g ∧ C8.Fun K f qual st g fd ∧ fd.defaults = .none
structure Prp (P : Program) (w : World) (K : PySem.W.Frag) (mg : Str → Option Value) (base : Heap) (k : Nat) (C : Addr) (f : Str) (sp : Sp) : Prop where
  ex : ∃ (p g : Addr) (fd : FuncData) (ps : List Str), Cls K C ∧ PropOf K C f p g ∧ FnOk P w K mg base C8.CX0 k g fd ps sp ∧ Binds K fd ps []
theorem prp_of {f qual : Str} {C : Addr} {st : Stmt} {N ps : List Str} {k : Nat} {sp : Sp} (c : Cls K C) (D : PDef K C f qual st) (S : FnScope N ps (C8.fnScope st))
    (hb : ∀ (kV doc pm : Value) (an : Option Addr) (cdv ct : Value) (us : List Value), us.length = ps.length → bindArgs (PySem.W.fnOf f qual (C8.fnArgs st) (C8.fnBody st) (C8.fnScope st) .none kV doc pm an cdv ct) ⟨us, []⟩ = pure (ps.zip us))
    (len : ∀ vs H Q E, sp vs H Q E → vs.length = ps.length)
    (hbody : ∀ (f : Addr) (cdv : Value) (A : Around) (outer : List Env) (s : Shared) (H : Hp) (vs : List V) (Q : VK) (E : XK), Room k (A.deeper (envOfC qual (C8.fnScope st) s.heap.objs.size f cdv)) → sp vs H Q E →
      ∃ t, PSs (cxOf C8.CX0 P w K mg base N qual (C8.fnScope st) f cdv A outer s H E).nox (C8.fnBody st) t ∧ t { nx := fun _ H' => Q .non H', rt := Q } (start N vs) H) : Prp P w K mg base (k + 1) C f sp := by
  obtain ⟨p, g, fd, hp, F, df⟩ := D.ex
  exact ⟨p, g, fd, ps, c, hp, C8.fn0 F S len (hbody g), F.binds df hb⟩
end
section
variable {X : Cx} {k j n : Nat} {C : Addr} {x f : Str} {sp : Sp} {p pos : Pos} {e : Expr} {es : List Expr} {kws : List Keyword} {ks : List Str} {t tk : TA} {ta : TE} {gV : List V → List V → List V}
/-- C(e, .., k = v, ..) -/
theorem pe_mkK (c : MakK X.prog X.w X.K X.mg X.base k x C sp (n + 1) ks gV) (hr : Room j X.A) (hk : k + 1 ≤ j) (hg : Gl X x) (ha : PA X (e :: es) t) (hkw : PK X kws tk)
    (hall : (backToKw pos (keywordEach kws X.env)).all (·.1.isSome) = true := by rfl) (hks : (backToKw pos (keywordEach kws X.env)).filterMap (·.1) = ks := by rfl) (hdb : (x == ("__debug__" : Str)) = false := by decide)
    (he : starEach (e :: es) X.env = (false, eval e X.env) :: starEach es X.env := by rfl) (hpl : ((backTo pos (starEach (e :: es) X.env)).any (·.1) || (backToKw pos (keywordEach kws X.env)).any (·.1.isNone)) = false := by rfl) :
    PE X (.Call (.Name x p) (e :: es) kws pos) (tMakeK C n ks.length sp gV C8.E0 t tk) := by
  obtain ⟨f, fd, ps, g, M, F, hm, b⟩ := c.ex
  exact pe_makeK M F (hr.mono hk) hg hm b C8.pass0 ha hkw hall hks hdb he hpl
/-- C(k = v, ..) -/
theorem pe_mkK0 (c : MakK X.prog X.w X.K X.mg X.base k x C sp 1 ks gV) (hr : Room j X.A) (hk : k + 1 ≤ j) (hg : Gl X x) (hkw : PK X kws tk)
    (hall : (backToKw pos (keywordEach kws X.env)).all (·.1.isSome) = true := by rfl) (hks : (backToKw pos (keywordEach kws X.env)).filterMap (·.1) = ks := by rfl) (hdb : (x == ("__debug__" : Str)) = false := by decide)
    (hpl : ((backTo pos (starEach [] X.env)).any (·.1) || (backToKw pos (keywordEach kws X.env)).any (·.1.isNone)) = false := by rfl) :
    PE X (.Call (.Name x p) [] kws pos) (tMakeK C 0 ks.length sp gV C8.E0 tNil tk) := by
  obtain ⟨f, fd, ps, g, M, F, hm, b⟩ := c.ex
  exact pe_makeK0 M F (hr.mono hk) hg hm b C8.pass0 hkw hall hks hdb hpl
/-- x(e, .., k = v, ..) -/
theorem pe_cK (c : CalK X.prog X.w X.K X.mg X.base k x sp n ks gV) (hr : Room j X.A) (hk : k ≤ j) (hg : Gl X x) (ha : PA X (e :: es) t) (hkw : PK X kws tk)
    (hall : (backToKw pos (keywordEach kws X.env)).all (·.1.isSome) = true := by rfl) (hks : (backToKw pos (keywordEach kws X.env)).filterMap (·.1) = ks := by rfl) (hdb : (x == ("__debug__" : Str)) = false := by decide)
    (he : starEach (e :: es) X.env = (false, eval e X.env) :: starEach es X.env := by rfl) (hpl : ((backTo pos (starEach (e :: es) X.env)).any (·.1) || (backToKw pos (keywordEach kws X.env)).any (·.1.isNone)) = false := by rfl) :
    PE X (.Call (.Name x p) (e :: es) kws pos) (tCallN n ks.length sp gV C8.E0 t tk) := by
  obtain ⟨f, fd, ps, g, F, hm, hkp, b⟩ := c.ex
  exact pe_callN F (hr.mono hk) hg hm hkp b C8.pass0 ha hkw hall hks hdb he hpl
/-- e.f, a property -/
theorem pe_pr (c : Prp X.prog X.w X.K X.mg X.base k C f sp) (hr : Room j X.A) (hk : k + 1 ≤ j) (he : PE X e ta) (hab : attributeBase e f X.env (eval e X.env) = eval e X.env := by rfl) : PE X (.Attribute e f pos) (tProp C sp [] C8.E0 ta) := by
  obtain ⟨p, g, fd, ps, cl, hp, F, b⟩ := c.ex
  exact pe_prop he cl hp F (hr.mono hk) b .nil C8.pass0 hab
/-- e, locked behind its making: a thing of its own that is walked -/
def tLocked (te : TE) : TE := fun σ H Q => te σ H fun x H1 => ∃ d u, x = .ref d ∧ H1 d = some u ∧ Mut (some u) ∧ ∀ od, Q x (upd H1 d (.frz od u))
theorem pe_locked (he : PE X e ta) : PE X e (tLocked ta) := by
  refine ⟨fun pins s σ H Q I h => thn (he.run pins s σ H _ I h) fun v s1 ⟨x, H1, I1, r, d, u, ex, hd, mu, q⟩ => ?_⟩
  obtain ⟨od, I2⟩ := I1.lock hd mu
  exact ⟨x, _, I2, r, q od⟩
end
end Fk

set_option maxHeartbeats 4000000
/-! A try with except clauses, of which any may have a name, and an else. -/
namespace Fk
open PySem PySem.Spec PyProof.Rows L2
section
variable {X : Cx} {body : List Stmt} {h₀ : ExceptHandler} {hds : List ExceptHandler} {l : List (Value × (Addr → Value → Option Addr → TS))} {pos : Pos} {tb : WX → TS} {Wout : WX}
theorem ps_tryAE {orelse : List Stmt} {u : TS} (ho : PSs X orelse u) (hs : X.stack = X.env :: X.outer) (hf : X.env.frame = some X.env.locals) (tk : Takes X Wout)
    (hb : ∀ (W : WX) (pn : List (Addr × Obj)) (xe : Value → Shared → Prop), Takes (X.tr pn xe) W → PassesOwn (model X.prog X.w) X.A X.env xe → PSs (X.tr pn xe) body (tb W))
    (hh : HdA X (h₀ :: hds) l) : PS X (.Try body (h₀ :: hds) orelse [] pos) (fun D σ H => tb (wMany X.K Wout D l) { D with nx := u D } σ H) := by
  refine ⟨fun pins s σ H D I h => ?_⟩
  have ok := I.ok
  have hfr : X.A.frames = some (X.env :: X.outer) := by rw [ok.frames, hs]
  refine wpAny_Try_except ?_
  refine wpAny_mono ((hb (wMany X.K Wout D l) (X.pn ++ pins) (fun e s₁ => wpAny (model X.prog X.w) X.A (noteFrame e X.env) (fun _ s₂ => wpAny (model X.prog X.w) X.A (setFlight e none) (fun _ s₃ =>
    wpAny (model X.prog X.w) X.A (handleBy e X.env (h₀ :: hds)) (SP X pins D) X.xe s₃) X.xe s₂) X.xe s₁) (fun u s' xx => ?_) PassesOwn.looking).run [] s σ H { D with nx := u D } (I.toTry _) h) (fun f s1 hsp => ?_) (fun e s1 he => he)
  · obtain ⟨a, B, sI, pins', σ', H', cls, d, rfl, J', nb, up, sky, na, os, ag, w⟩ := xx
    have J : Inv X pins σ' H' sI := J'.ofTry ok
    have sky' : Sky B (X.env :: X.outer) a (Zc cls d) X.env.locals s'.heap := by rw [← hs]; exact sky
    show wpAny (model X.prog X.w) X.A (noteFrame (.ref a) X.env) _ _ _
    refine Sky.land Zc.steady hfr hf sky' fun h3 fl3 up3 => ?_
    have J3 : Inv X pins σ' H' { s' with heap := h3 } := J.landed nb fl3.1 (up.trans up3) os ag
    obtain ⟨oe3, vs3, he3, hz3, hd3⟩ := fl3.there
    have notFr : ∀ {h : Heap} {o : Obj} {vs : Array Value}, h.FunFrames B (X.env :: X.outer) → h.get? a = some o → o.data = .fields vs → a ∉ frs (X.env :: X.outer) := fun {h o vs} ff e dd hm => by
      obtain ⟨_, o', e', hnf⟩ := ff.mem hm
      rw [e] at e'; cases e'
      exact hnf _ dd
    have nfr := notFr fl3.2.2.1 he3 hd3
    have nL : a ≠ X.env.locals := fun z => nfr (List.mem_filterMap.mpr ⟨X.env, List.mem_cons_self, by rw [hf, z]⟩)
    have nF : a ∉ X.fs := fun hm => by
      obtain ⟨e, he, q⟩ := List.mem_filterMap.mp hm
      exact nfr (List.mem_filterMap.mpr ⟨e, List.mem_cons_of_mem _ he, q⟩)
    have S3 := J3.suite he3 hd3 na nL nF
    have go : ∀ {hds' : List ExceptHandler} {l' : List (Value × (Addr → Value → Option Addr → TS))}, HdA X hds' l' → wMany X.K Wout D l' cls d σ' H' →
        wpAny (model X.prog X.w) X.A (handleBy (.ref a) X.env hds') (SP X pins D) X.xe { s' with heap := h3 } := by
      intro hds' l' hk
      induction hk with
      | nil =>
        intro w
        refine wpAny_handleBy_nil ?_
        obtain ⟨k1, k2, k3, oe, vs, T, oT, ts', he, hz, hd, h1, hr⟩ := id fl3
        unfold PySem.passOn
        refine wpAny_bind (wpAny_field he hd h1 ?_)
        rw [if_neg (show ¬ ((Value.ref T == Value.none) = true) from by simp)]
        have fin : wpAny (model X.prog X.w) X.A (setFlight (.ref a) X.env.frame) (fun _ s4 => wpAny (model X.prog X.w) X.A (throw (.ref a) : Sem Flow) (SP X pins D) X.xe s4) X.xe { s' with heap := h3 } := by
          rw [hf]
          refine HandSPX.setFlight_upZ fl3 fun h4 hh4 up4 => wpAny_throw (tk _ _ ?_)
          exact ⟨a, B, sI, pins, σ', H', cls, d, rfl, J, nb, (up.trans up3).trans up4, .inr (.inr (by rw [hs]; exact hh4)), na, os, ag, w⟩
        first
          | exact wpAny_bind (wpAny_pure (wpAny_bind fin))
          | exact wpAny_bind fin
      | @cons x c ts b₀ suite np pos' hds2 l2 hc hsu r ih =>
        intro w
        obtain ⟨b, hb1, hyes, hno⟩ := w
        refine wpAny_handleBy_cons (codeAny_handlers_test ?_) (by intro q; cases q)
        have LT : PySem.W.Looks (model X.prog X.w) h3 (typeOf (.ref a)) cls := fun A Q E s k q => wpAny_typeOf_ref (k _ _ he3) (by rw [hz3.1]; exact q)
        have LM := PySem.W.exm_one (M := model X.prog X.w) (J3.kIn) LT hb1
        have test : ∀ {Q : Value → Shared → Prop} {E : Value → Shared → Prop}, Q c { s' with heap := h3 } → wpAny (model X.prog X.w) (X.A.mark (some (.ref a))) (eval (.Name x np) X.env) Q E { s' with heap := h3 } := fun {Q E} q => by
          obtain ⟨hg, hdbg, hm | ⟨hm, hv, hnn⟩⟩ := hc
          · exact ld_glob (X := X.suite a ((a, oe3) :: (X.pn ++ pins))) S3 hg hm q hdbg
          · exact ld_blt (X := X.suite a ((a, oe3) :: (X.pn ++ pins))) S3 hg hm hv q hnn hdbg
        refine test (LM.here ?_)
        cases b with
        | true =>
          refine codeAny_handlers_suite ?_
          refine HandSPX.lands_againZ fl3 fun h4 fl4 up4 => ?_
          have J4 : Inv X pins σ' H' { s' with heap := h4 } := J.landed nb fl4.1 ((up.trans up3).trans up4) os ag
          obtain ⟨oe4, vs4, he4, hz4, hd4⟩ := fl4.there
          have S4 := J4.suite he4 hd4 na nL nF
          refine wpAny_mono ((hsu a oe4 cls d (X.pn ++ pins) hz4 ⟨_, hd4⟩).run [] _ _ H' _ S4 (hyes rfl a na)) (fun f s6 hsp => ?_) (fun _ _ z => False.elim z)
          cases f with
          | next =>
            obtain ⟨σ6, H6, S6, q6⟩ := hsp
            exact ⟨_, _, S6.unsuite ok, q6⟩
          | brk =>
            obtain ⟨σ6, H6, S6, q6⟩ := hsp
            exact ⟨_, _, S6.unsuite ok, q6⟩
          | cont =>
            obtain ⟨σ6, H6, S6, q6⟩ := hsp
            exact ⟨_, _, S6.unsuite ok, q6⟩
          | ret u =>
            obtain ⟨v6, σ6, H6, S6, r6, q6⟩ := hsp
            exact ⟨_, _, _, S6.unsuite ok, r6, q6⟩
        | false =>
          show wpAny _ X.A (handleBy (.ref a) X.env hds2) _ _ _
          exact ih (hno rfl)
      | @as x n i c ts b₀ suite np pos' hds2 l2 hN hi hln hc hsu r ih =>
        intro w
        have hloc : Loc X.env.scope n := .inl hln
        obtain ⟨b, hb1, hyes, hno⟩ := w
        refine wpAny_handleBy_cons (codeAny_handlers_test ?_) (by intro q; cases q)
        have LT : PySem.W.Looks (model X.prog X.w) h3 (typeOf (.ref a)) cls := fun A Q E s k q => wpAny_typeOf_ref (k _ _ he3) (by rw [hz3.1]; exact q)
        have LM := PySem.W.exm_one (M := model X.prog X.w) (J3.kIn) LT hb1
        have test : ∀ {Q : Value → Shared → Prop} {E : Value → Shared → Prop}, Q c { s' with heap := h3 } → wpAny (model X.prog X.w) (X.A.mark (some (.ref a))) (eval (.Name x np) X.env) Q E { s' with heap := h3 } := fun {Q E} q => by
          obtain ⟨hg, hdbg, hm | ⟨hm, hv, hnn⟩⟩ := hc
          · exact ld_glob (X := X.suite a ((a, oe3) :: (X.pn ++ pins))) S3 hg hm q hdbg
          · exact ld_blt (X := X.suite a ((a, oe3) :: (X.pn ++ pins))) S3 hg hm hv q hnn hdbg
        refine test (LM.here ?_)
        cases b with
        | true =>
          refine codeAny_handlers_suite_as ?_
          refine HandSPX.lands_againZ fl3 fun h4 fl4 up4 => ?_
          have J4 : Inv X pins σ' H' { s' with heap := h4 } := J.landed nb fl4.1 ((up.trans up3).trans up4) os ag
          obtain ⟨oe4, vs4, he4, hz4, hd4⟩ := fl4.there
          have S4 := J4.suite he4 hd4 na nL nF
          refine store_ok (X := X.suite a ((a, oe4) :: (X.pn ++ pins))) (v := .ref a) S4 hN hi hloc rfl (fun s5 S5 => ?_) (.inr hln)
          refine wpAny_mono ((hsu a oe4 cls d (X.pn ++ pins) hz4 ⟨_, hd4⟩).run [] s5 _ H' _ S5 (hyes rfl a na)) (fun f s6 hsp => ?_) (fun _ _ z => False.elim z)
          have end_ : ∀ {σ6 : L2.St} {H6 : Hp} {Q : Shared → Prop}, Inv (X.suite a ((a, oe4) :: (X.pn ++ pins))) [] σ6 H6 s6 → (∀ s7, Inv X pins (σ6.set i none) H6 s7 → Q s7) →
              wpAny (model X.prog X.w) X.A (do bindName X.env n .none; unbindBehindTheSuite X.env n pos') (fun _ s7 => Q s7) X.xe s6 := fun {σ6 H6 Q} S6 hq => gone_ok (S6.unsuite ok) hN hi hln hq
          cases f with
          | next =>
            obtain ⟨σ6, H6, S6, q6⟩ := hsp
            exact end_ S6 fun s7 J7 => ⟨_, _, J7, q6⟩
          | brk =>
            obtain ⟨σ6, H6, S6, q6⟩ := hsp
            exact end_ S6 fun s7 J7 => ⟨_, _, J7, q6⟩
          | cont =>
            obtain ⟨σ6, H6, S6, q6⟩ := hsp
            exact end_ S6 fun s7 J7 => ⟨_, _, J7, q6⟩
          | ret u =>
            obtain ⟨v6, σ6, H6, S6, r6, q6⟩ := hsp
            exact end_ S6 fun s7 J7 => ⟨_, _, _, J7, r6, q6⟩
        | false =>
          show wpAny _ X.A (handleBy (.ref a) X.env hds2) _ _ _
          exact ih (hno rfl)
    exact go hh w
  · cases f with
    | next =>
      obtain ⟨σ', H', J', q⟩ := hsp
      exact ho.run pins s1 σ' H' D (J'.ofTry ok) q
    | brk =>
      obtain ⟨σ', H', J', q⟩ := hsp
      exact ⟨σ', H', J'.ofTry ok, q⟩
    | cont =>
      obtain ⟨σ', H', J', q⟩ := hsp
      exact ⟨σ', H', J'.ofTry ok, q⟩
    | ret u =>
      obtain ⟨v, σ', H', J', r, q⟩ := hsp
      exact ⟨v, σ', H', J'.ofTry ok, r, q⟩
end
end Fk

set_option maxHeartbeats 4000000
/-! What a table holds, as a map; puts, drops, merges, sorted copies; tables as data. -/
namespace Fk
open PySem PySem.Spec PyProof.Rows L2
theorem perm_of_sub {α : Type} [DecidableEq α] : ∀ {l m : List α}, l.Nodup → (∀ x ∈ l, x ∈ m) → m.length ≤ l.length → l.Perm m
  | [], m, _, _, h => by
    rw [List.eq_nil_of_length_eq_zero (Nat.le_zero.mp h)]
  | a :: l, m, n, s, h => by
    obtain ⟨n1, n2⟩ := List.nodup_cons.mp n
    have ha : a ∈ m := s a List.mem_cons_self
    have ih : l.Perm (m.erase a) := perm_of_sub n2 (fun x hx => (List.mem_erase_of_ne (fun e => n1 (by rw [← e]; exact hx))).mpr (s x (List.mem_cons_of_mem _ hx))) (by
      rw [List.length_erase_of_mem ha]
      rw [List.length_cons] at h
      omega)
    exact (ih.cons a).trans (List.perm_cons_erase ha).symm
abbrev Mp (α : Type) := Str → Option α
def putM {α : Type} (f : Mp α) (x : Str) (r : α) : Mp α := fun y => if y = x then some r else f y
def dropM {α : Type} (f : Mp α) (x : Str) : Mp α := fun y => if y = x then none else f y
def orM {α : Type} (f g : Mp α) : Mp α := fun y => (g y).or (f y)
def Holds {α : Type} (R : V → α → Prop) (t : Tab) (f : Mp α) : Prop := ∀ x, (valV t x = none ∧ f x = none) ∨ ∃ v r, valV t x = some v ∧ f x = some r ∧ R v r
section
variable {α : Type} {R R' : V → α → Prop} {t u : Tab} {f g : Mp α} {x : Str} {v : V} {r : α}
theorem Holds.nil : Holds R [] (fun _ => none) := fun _ => .inl ⟨rfl, rfl⟩
theorem Holds.imp (h : Holds R t f) (k : ∀ v r, R v r → R' v r) : Holds R' t f := fun x => (h x).imp id fun ⟨v, r, a, b, c⟩ => ⟨v, r, a, b, k _ _ c⟩
theorem val_putK (t : Tab) (x y : Str) (v : V) : valV (putK t x v) y = if y = x then some v else valV t y := valV_put t x y v
theorem Holds.put (h : Holds R t f) (k : R v r) : Holds R (putK t x v) (putM f x r) := fun y => by
  rw [val_putK]
  unfold putM
  by_cases e : y = x
  · rw [if_pos e, if_pos e]
    exact .inr ⟨v, r, rfl, rfl, k⟩
  · rw [if_neg e, if_neg e]
    exact h y
theorem Holds.drop (h : Holds R t f) : Holds R (dropK t x) (dropM f x) := fun y => by
  rw [valV_drop]
  unfold dropM
  by_cases e : y = x
  · rw [if_pos e, if_pos e]
    exact .inl ⟨rfl, rfl⟩
  · rw [if_neg e, if_neg e]
    exact h y
theorem Holds.isSome (h : Holds R t f) (x : Str) : (valV t x).isSome = (f x).isSome := by
  rcases h x with ⟨a, b⟩ | ⟨v, r, a, b, _⟩ <;> rw [a, b] <;> rfl
theorem Holds.mem (h : Holds R t f) : x ∈ t.map (·.1) ↔ (f x).isSome = true := by rw [mem_val, h.isSome]
theorem Holds.at (h : Holds R t f) (e : f x = some r) : ∃ v, valV t x = some v ∧ R v r := by
  rcases h x with ⟨_, b⟩ | ⟨v, r', a, b, c⟩
  · rw [e] at b; cases b
  · rw [e] at b
    cases b
    exact ⟨v, a, c⟩
theorem Holds.at' (h : Holds R t f) (e : valV t x = some v) : ∃ r, f x = some r ∧ R v r := by
  rcases h x with ⟨a, _⟩ | ⟨v', r, a, b, c⟩
  · rw [e] at a; cases a
  · rw [e] at a
    cases a
    exact ⟨r, b, c⟩
theorem Holds.nil_iff (h : Holds R t f) : t = [] ↔ ∀ x, f x = none := by
  constructor
  · intro e x
    rcases h x with ⟨_, b⟩ | ⟨v, r, a, _, _⟩
    · exact b
    · rw [e] at a; cases a
  · intro e
    cases t with
    | nil => rfl
    | cons p l =>
      rcases h p.1 with ⟨a, _⟩ | ⟨v, r, _, b, _⟩
      · rw [show p = (p.1, p.2) from rfl, valV_pos rfl] at a; cases a
      · rw [e] at b; cases b
/-- picked by keys -/
theorem Holds.sel (h : Holds R t f) {ys : List Str} {g : Mp α} (hg : ∀ x, g x = if x ∈ ys then f x else none) (hs : ∀ y ∈ ys, y ∈ t.map (·.1)) : Holds R (ys.map fun y => (y, (valV t y).getD .non)) g := fun x => by
  rw [val_keys, hg]
  by_cases e : x ∈ ys
  · rw [if_pos e, if_pos e]
    rcases h x with ⟨a, b⟩ | ⟨v, r, a, b, c⟩
    · have := mem_val.mp (hs x e)
      rw [a] at this
      cases this
    · rw [a]
      exact .inr ⟨v, r, rfl, b, c⟩
  · rw [if_neg e, if_neg e]
    exact .inl ⟨rfl, rfl⟩
/-- all of it, in another order -/
theorem Holds.perm (h : Holds R t f) {ys : List Str} (hp : ys.Perm (t.map (·.1))) : Holds R (ys.map fun y => (y, (valV t y).getD .non)) f := by
  refine h.sel (fun x => ?_) fun y hy => hp.mem_iff.mp hy
  by_cases e : x ∈ ys
  · rw [if_pos e]
  · rw [if_neg e]
    cases q : f x with
    | none => rfl
    | some r => exact absurd (hp.mem_iff.mpr (h.mem.mpr (by rw [q]; rfl))) e
/-- made anew by keys -/
theorem holds_by {ys : List Str} {vf : Str → V} {g : Mp α} (hg : ∀ y ∈ ys, ∃ r, g y = some r ∧ R (vf y) r) (hn : ∀ y, y ∉ ys → g y = none) : Holds R (ys.map fun y => (y, vf y)) g := fun x => by
  rw [val_keys]
  by_cases e : x ∈ ys
  · rw [if_pos e]
    obtain ⟨r, a, b⟩ := hg x e
    exact .inr ⟨_, r, rfl, a, b⟩
  · rw [if_neg e]
    exact .inl ⟨rfl, hn x e⟩
theorem nd_by {ys : List Str} (h : ys.Nodup) (vf : Str → V) : Nd (ys.map fun y => (y, vf y)) := by
  unfold Nd
  rw [List.map_map]
  have : ((fun p : Str × V => p.1) ∘ fun y => (y, vf y)) = id := rfl
  rw [this, List.map_id]
  exact h
/-- one table taken into another -/
theorem merge_any (t u : Tab) : ∃ m : Tab, mergeK (kT t) (kT u) = kT m ∧ (Nd t → Nd m) ∧ m.length ≤ t.length + u.length ∧ ∀ x, Nd u → valV m x = (valV u x).or (valV t x) := by
  induction u generalizing t with
  | nil => exact ⟨t, rfl, id, Nat.le_refl _, fun x _ => rfl⟩
  | cons p l ih =>
    obtain ⟨m, e, n, len, vl⟩ := ih (putK t p.1 p.2)
    refine ⟨m, ?_, fun h => n (nd_put h _ _), ?_, fun x hu => ?_⟩
    · show mergeK (putK (kT t) (.inr p.1) p.2) (kT l) = _
      rw [putK_kT, e]
    · have := length_putK t p.1 p.2
      rw [List.length_cons]
      omega
    · obtain ⟨h1, h2⟩ := List.nodup_cons.mp (show ((p :: l).map (·.1)).Nodup from hu)
      rw [vl x h2, val_putK]
      by_cases e : p.1 = x
      · have nl : valV l x = none := by
          cases c : valV l x with
          | none => rfl
          | some w => exact absurd (show p.1 ∈ l.map (·.1) by rw [e]; exact valV_in c) h1
        rw [nl, if_pos e.symm, show p = (p.1, p.2) from rfl, valV_pos e]
        rfl
      · rw [if_neg (fun z => e z.symm), valV_neg e]
theorem Holds.merge (h : Holds R t f) (k : Holds R u g) (nt : Nd t) (nu : Nd u) : ∃ m : Tab, mergeK (kT t) (kT u) = kT m ∧ Nd m ∧ m.length ≤ t.length + u.length ∧ Holds R m (orM f g) := by
  obtain ⟨m, e, n, len, vl⟩ := merge_any t u
  refine ⟨m, e, n nt, len, fun x => ?_⟩
  rw [vl x nu]
  unfold orM
  rcases k x with ⟨a, b⟩ | ⟨v, r, a, b, c⟩
  · rw [a, b]
    exact h x
  · rw [a, b]
    exact .inr ⟨v, r, rfl, rfl, c⟩
/-! ### as data -/
def dataM (dat : α → PyData) (t : Tab) (f : Mp α) : List (Key × PyData) := (t.map (·.1)).map fun y => ((.inr y : Key), ((f y).map dat).getD .none)
theorem Holds.dd {K : PySem.W.Frag} {H : Hp} {dat : α → PyData} (hd : ∀ v r, R v r → Dp K H v (dat r)) (nt : Nd t) (h : Holds R t f) : DD K H (kT t) (dataM dat t f) := by
  have key : ∀ l : Tab, (∀ p ∈ l, ∃ r, f p.1 = some r ∧ R p.2 r) → DD K H (kT l) (dataM dat l f) := by
    intro l
    induction l with
    | nil => intro _; exact .nil
    | cons p l ih =>
      intro hl
      obtain ⟨r, a, b⟩ := hl p List.mem_cons_self
      refine .cons ⟨rfl, ?_⟩ (ih fun q hq => hl q (List.mem_cons_of_mem _ hq))
      show Dp K H p.2 (((f p.1).map dat).getD .none)
      rw [a]
      exact hd _ _ b
  refine key t fun p hp => ?_
  have e : valV t p.1 = some p.2 := by
    clear key h
    induction t with
    | nil => cases hp
    | cons q l ih =>
      obtain ⟨h1, h2⟩ := List.nodup_cons.mp (show ((q :: l).map (·.1)).Nodup from nt)
      rcases List.mem_cons.mp hp with z | z
      · rw [z, show q = (q.1, q.2) from rfl, valV_pos rfl]
      · rw [valV_neg (fun e => h1 (by dsimp only; rw [e]; exact List.mem_map.mpr ⟨p, z, rfl⟩))]
        exact ih h2 z
  exact h.at' e
theorem valD_data (dat : α → PyData) (t : Tab) (f : Mp α) (x : Str) : valD (dataM dat t f) (.inr x) = if x ∈ t.map (·.1) then some (((f x).map dat).getD .none) else none := by
  unfold dataM
  generalize t.map (·.1) = ys
  induction ys with
  | nil => rfl
  | cons y l ih =>
    rw [List.map_cons]
    by_cases e : y = x
    · rw [valD_pos (by rw [e]), if_pos (by rw [e]; exact List.mem_cons_self), e]
    · rw [valD_neg (fun z => e (Sum.inr.inj z)), ih]
      by_cases m : x ∈ l
      · rw [if_pos m, if_pos (List.mem_cons_of_mem _ m)]
      · rw [if_neg m, if_neg (fun z => (List.mem_cons.mp z).elim (fun q => e q.symm) m)]
theorem eqv_data {dat : α → PyData} (inj : ∀ a b, PyData.eqv (dat a) (dat b) = true ↔ a = b) (h : Holds R t f) (k : Holds R u g) (nt : Nd t) (nu : Nd u) : eqvDict (dataM dat t f) (dataM dat u g) = true ↔ f = g := by
  have lt : (dataM dat t f).length = t.length := by unfold dataM; rw [List.length_map, List.length_map]
  have lu : (dataM dat u g).length = u.length := by unfold dataM; rw [List.length_map, List.length_map]
  unfold eqvDict
  rw [Bool.and_eq_true, decide_eq_true_eq, lt, lu, List.all_eq_true]
  constructor
  · rintro ⟨hl, ha⟩
    have sub : ∀ x r, f x = some r → g x = some r := fun x r e => by
      have m : x ∈ t.map (·.1) := h.mem.mpr (by rw [e]; rfl)
      have q := ha ((.inr x : Key), dat r) (by
        unfold dataM
        exact List.mem_map.mpr ⟨x, m, by rw [e]; rfl⟩)
      unfold hitD at q
      rw [valD_data] at q
      by_cases m2 : x ∈ u.map (·.1)
      · rw [if_pos m2] at q
        have z := k.mem.mp m2
        cases y : g x with
        | none => rw [y] at z; cases z
        | some r' =>
          rw [y] at q
          rw [(inj r r').mp q]
      · rw [if_neg m2] at q
        cases q
    have ks : (t.map (·.1)).Perm (u.map (·.1)) := by
      have s1 : ∀ x ∈ t.map (·.1), x ∈ u.map (·.1) := fun x hx => by
        have z := h.mem.mp hx
        cases y : f x with
        | none => rw [y] at z; cases z
        | some r => exact k.mem.mpr (by rw [sub x r y]; rfl)
      exact perm_of_sub nt s1 (by rw [List.length_map, List.length_map]; omega)
    funext x
    cases y : f x with
    | some r => exact (sub x r y).symm
    | none =>
      cases z : g x with
      | none => rfl
      | some r =>
        have := h.mem.mp (ks.mem_iff.mpr (k.mem.mpr (by rw [z]; rfl)))
        rw [y] at this
        cases this
  · intro e
    subst e
    have ks : (t.map (·.1)).Perm (u.map (·.1)) := (List.perm_ext_iff_of_nodup nt nu).mpr fun x => by rw [h.mem, k.mem]
    refine ⟨by have := ks.length_eq; rwa [List.length_map, List.length_map] at this, fun p hp => ?_⟩
    unfold dataM at hp
    obtain ⟨x, hx, rfl⟩ := List.mem_map.mp hp
    unfold hitD
    rw [valD_data, if_pos (ks.mem_iff.mp hx)]
    have z := h.mem.mp hx
    cases y : f x with
    | none => rw [y] at z; cases z
    | some r => exact (inj r r).mpr rfl
end
/-! ### tables made with values that are new -/
theorem paired_keys {α : Type} {kf : α → Str} {R : V → α → Prop} : ∀ {tab : Tab} {us : List α}, Paired (fun e u => e.1 = kf u ∧ R e.2 u) tab us → tab.map (·.1) = us.map kf
  | _, _, .nil => rfl
  | _, _, .cons h r => by rw [List.map_cons, List.map_cons, h.1, paired_keys r]
theorem paired_snoc {α : Type} {R : Str × V → α → Prop} {e : Str × V} {u : α} (h : R e u) : ∀ {tab : Tab} {us : List α}, Paired R tab us → Paired R (tab ++ [e]) (us ++ [u])
  | _, _, .nil => .cons h .nil
  | _, _, .cons a r => .cons a (paired_snoc h r)
theorem holds_paired {α β : Type} {kf : α → Str} {rf : α → β} {R : V → β → Prop} {g : Mp β} : ∀ {tab : Tab} {us : List α}, Paired (fun e u => e.1 = kf u ∧ R e.2 (rf u)) tab us → (us.map kf).Nodup → (∀ u ∈ us, g (kf u) = some (rf u)) → (∀ x, x ∉ us.map kf → g x = none) → Holds R tab g
  | _, _, .nil, _, _, hn => fun x => .inl ⟨rfl, hn x (by simp)⟩
  | _, _, .cons (a := e) (b := u) (l₂ := us) ⟨h1, h2⟩ r, nd, hg, hn => fun x => by
    obtain ⟨n1, n2⟩ := List.nodup_cons.mp (show (kf u :: us.map kf).Nodup from nd)
    by_cases c : e.1 = x
    · refine .inr ⟨e.2, rf u, valV_pos c, ?_, h2⟩
      rw [← c, h1]
      exact hg u List.mem_cons_self
    · rw [valV_neg c]
      have ih := holds_paired (g := fun y => if y = kf u then none else g y) r n2 (fun w hw => by
        rw [if_neg (fun z => n1 (by rw [← z]; exact List.mem_map.mpr ⟨w, hw, rfl⟩))]
        exact hg w (List.mem_cons_of_mem _ hw)) (fun y hy => by
          by_cases z : y = kf u
          · rw [if_pos z]
          · rw [if_neg z]
            exact hn y fun q => (List.mem_cons.mp q).elim z hy) x
      dsimp only at ih
      rw [if_neg (fun z => c (by rw [h1, z]))] at ih
      exact ih
section
variable {α β : Type} {J : It} {us : List α} {val : α → V} {G : Hp → Prop} {H1 : Hp} {D : Addr} {σ : L2.St} {vs : List Nat} {g : TG} {tt : TT} {tk tv : TE} {Q : Hp → Prop}
theorem dc_hold (Y : Yields J (us.map val) G) (kf : α → Str) (R : Hp → V → β → Prop) (rf : α → β) (p : α → Bool) (σf : α → L2.St) (hD1 : H1 D = none) (hG : ∀ H, Same H1 H → G H) (hw : ∀ u ∈ us, wipe (σf u) vs = wipe σ vs)
    (hg : ∀ H u, Same H1 H → u ∈ us → ∀ (S : L2.St → Hp → Prop), S (σf u) H → g (val u) (wipe σ vs) H S)
    (ht : ∀ H u, Same H1 H → u ∈ us → ∀ (S : Bool → Hp → Prop), (∀ H3, Same H H3 → S (p u) H3) → tt (σf u) H S)
    (hk : ∀ H u, Same H1 H → u ∈ us → p u = true → ∀ (S : VK), (∀ H3, Same H H3 → S (.str (kf u)) H3) → tk (σf u) H S)
    (mono : ∀ H H' v r, TupKeep H H' → R H v r → R H' v r)
    (hv : ∀ H u, Same H1 H → u ∈ us → p u = true → ∀ (S : VK), (∀ v H3, Same H H3 → R H3 v (rf u) → S v H3) → tv (σf u) H S)
    (hl : us.length ≤ 1000000) (nd : (us.map kf).Nodup) (hd : ∀ H tab, Same H1 H → H D = some (.dK (kT tab)) → Paired (fun e u => e.1 = kf u ∧ R H e.2 (rf u)) tab (us.filter p) → Q H) :
    ∃ W : Nat → Nat → Hp → Prop, (∃ m, W 0 m (upd H1 D (.dK []))) ∧ ∀ k m H, W k m H →
      (J.stop k H ∧ Q H) ∨ (J.go k H ∧ ∃ Nx : Hp → Prop, (∀ H', Nx H' → ∃ m', m' < m ∧ W (k + 1) m' H') ∧ ∀ x H', J.yld k H x H' → g x (wipe σ vs) H' fun σ2 H2 => wipe σ2 vs = wipe σ vs ∧ tt σ2 H2 fun b H3 =>
        if b = true then tk σ2 H3 fun y H4 => tv σ2 H4 fun z H5 => ∃ kvs key, y = kV key ∧ H5 D = some (.dK kvs) ∧ kvs.length < sizeLine ∧ Nx (upd H5 D (.dK (putK kvs key z))) else Nx H3) := by
  refine dcG Y (fun k kvs H => Same H1 H ∧ ∃ tab, kvs = kT tab ∧ Paired (fun e u => e.1 = kf u ∧ R H e.2 (rf u)) tab ((us.take k).filter p)) (fun k acc H h _ => hG H h.1) ⟨same_new hD1, [], rfl, .nil⟩ (fun k kvs H x hI hD hx hacc hk' => ?_) (by rw [List.length_map]; exact hl) (fun acc H hI hD _ => ?_)
  · obtain ⟨sm, tab, ea, pr⟩ := hI
    rw [List.getElem?_map] at hx
    cases hu : us[k]? with
    | none => rw [hu] at hx; cases hx
    | some u =>
      rw [hu] at hx
      cases hx
      have hm : u ∈ us := List.mem_of_getElem? hu
      have et : us.take (k + 1) = us.take k ++ [u] := by
        rw [List.take_add_one, hu]
        rfl
      refine hg H u sm hm _ ⟨hw u hm, ht H u sm hm _ fun H3 s3 => ?_⟩
      by_cases hp : p u = true
      · rw [if_pos hp]
        refine hk H3 u (sm.trans s3) hm hp _ fun H4 s4 => hv H4 u ((sm.trans s3).trans s4) hm hp _ fun v H5 s5 rv => ?_
        have s35 := (s3.trans s4).trans s5
        have new : valV tab (kf u) = none := by
          cases c : valV tab (kf u) with
          | none => rfl
          | some z =>
            have m := valV_in c
            rw [paired_keys (R := fun v u => R H v (rf u)) pr] at m
            obtain ⟨w, hw', ew⟩ := List.mem_map.mp m
            have e : us = us.take k ++ (u :: us.drop (k + 1)) := by
              conv => lhs; rw [← List.take_append_drop (k + 1) us, et, List.append_assoc]
              rfl
            rw [e, List.map_append] at nd
            exact absurd ew ((List.nodup_append.mp nd).2.2 (kf w) (List.mem_map.mpr ⟨w, (List.mem_filter.mp hw').1, rfl⟩) (kf u) List.mem_cons_self)
        refine dc_take (key := .inr (kf u)) (s35 _ _ hD) hacc hk' ⟨same_mut (sm.trans s35) hD1, tab ++ [(kf u, v)], ?_, ?_⟩
        · rw [ea, putK_kT, putK_new _ new]
        · have k1 : TupKeep H5 (upd H5 D (.dK (putK kvs (.inr (kf u)) v))) := TupKeep.at fun xs z => by rw [s35 _ _ hD] at z; cases z
          have k2 : TupKeep H (upd H5 D (.dK (putK kvs (.inr (kf u)) v))) := (TupKeep.of s35).trans k1
          rw [et, List.filter_append, List.filter_cons, hp]
          exact paired_snoc (R := fun e u => e.1 = kf u ∧ R _ e.2 (rf u)) ⟨rfl, mono _ _ _ _ k1 rv⟩ (Paired.mapP pr fun e w ⟨a, b⟩ => ⟨a, mono _ _ _ _ k2 b⟩)
      · rw [if_neg hp]
        refine dc_skip (s3 _ _ hD) hacc ⟨sm.trans s3, tab, ea, ?_⟩
        rw [et, List.filter_append, List.filter_cons, if_neg hp]
        simp only [List.filter_nil, List.append_nil]
        exact Paired.mapP pr fun e w ⟨a, b⟩ => ⟨a, mono _ _ _ _ (TupKeep.of s3) b⟩
  · obtain ⟨sm, tab, ea, pr⟩ := hI
    rw [List.length_map, List.take_length] at pr
    rw [ea] at hD
    exact hd H tab sm hD pr
end
section
variable {α β : Type} {J : It} {us : List α} {G : Hp → Prop} {H1 : Hp} {D : Addr} {σ : L2.St} {vs : List Nat} {g : TG} {tt : TT} {tk tv : TE} {Q : Hp → Prop}
/-- .. over things that are new at each turn -/
theorem dc_holdS (hgo : ∀ k H, G H → k < us.length → J.go k H) (hstop : ∀ H, G H → J.stop us.length H) (kf : α → Str) (R : Hp → V → β → Prop) (rf : α → β) (p : α → Bool) (σf : α → L2.St) (hD1 : H1 D = none) (hG : ∀ H, Same H1 H → G H) (hw : ∀ u ∈ us, wipe (σf u) vs = wipe σ vs)
    (hg : ∀ k H u x H', Same H1 H → us[k]? = some u → J.yld k H x H' → Same H H' ∧ ∀ (S : L2.St → Hp → Prop), S (σf u) H' → g x (wipe σ vs) H' S)
    (ht : ∀ H u, Same H1 H → u ∈ us → ∀ (S : Bool → Hp → Prop), (∀ H3, Same H H3 → S (p u) H3) → tt (σf u) H S)
    (hk : ∀ H u, Same H1 H → u ∈ us → p u = true → ∀ (S : VK), (∀ H3, Same H H3 → S (.str (kf u)) H3) → tk (σf u) H S)
    (mono : ∀ H H' v r, TupKeep H H' → R H v r → R H' v r)
    (hv : ∀ H u, Same H1 H → u ∈ us → p u = true → ∀ (S : VK), (∀ v H3, Same H H3 → R H3 v (rf u) → S v H3) → tv (σf u) H S)
    (hl : us.length ≤ 1000000) (nd : (us.map kf).Nodup) (hd : ∀ H tab, Same H1 H → H D = some (.dK (kT tab)) → Paired (fun e u => e.1 = kf u ∧ R H e.2 (rf u)) tab (us.filter p) → Q H) :
    ∃ W : Nat → Nat → Hp → Prop, (∃ m, W 0 m (upd H1 D (.dK []))) ∧ ∀ k m H, W k m H →
      (J.stop k H ∧ Q H) ∨ (J.go k H ∧ ∃ Nx : Hp → Prop, (∀ H', Nx H' → ∃ m', m' < m ∧ W (k + 1) m' H') ∧ ∀ x H', J.yld k H x H' → g x (wipe σ vs) H' fun σ2 H2 => wipe σ2 vs = wipe σ vs ∧ tt σ2 H2 fun b H3 =>
        if b = true then tk σ2 H3 fun y H4 => tv σ2 H4 fun z H5 => ∃ kvs key, y = kV key ∧ H5 D = some (.dK kvs) ∧ kvs.length < sizeLine ∧ Nx (upd H5 D (.dK (putK kvs key z))) else Nx H3) := by
  let In : Nat → Hp → Prop := fun k H => Same H1 H ∧ ∃ tab, H D = some (.dK (kT tab)) ∧ tab.length ≤ k ∧ Paired (fun e u => e.1 = kf u ∧ R H e.2 (rf u)) tab ((us.take k).filter p)
  refine ⟨fun k m H => m = us.length - k ∧ k ≤ us.length ∧ In k H, ⟨us.length, rfl, Nat.zero_le _, same_new hD1, [], upd_same, Nat.zero_le _, .nil⟩, ?_⟩
  rintro k m H ⟨rfl, hk', sm, tab, hD, ltab, pr⟩
  by_cases hlt : k < us.length
  · refine .inr ⟨hgo k H (hG _ sm) hlt, In (k + 1), fun H' q => ⟨us.length - (k + 1), by omega, rfl, hlt, q⟩, fun x H' y => ?_⟩
    obtain ⟨u, hu⟩ : ∃ u, us[k]? = some u := ⟨us[k], List.getElem?_eq_getElem hlt⟩
    have hm : u ∈ us := List.mem_of_getElem? hu
    have et : us.take (k + 1) = us.take k ++ [u] := by
      rw [List.take_add_one, hu]
      rfl
    obtain ⟨s0, gg⟩ := hg k H u x H' sm hu y
    refine gg _ ⟨hw u hm, ht H' u (sm.trans s0) hm _ fun H3 s3 => ?_⟩
    have s03 := s0.trans s3
    by_cases hp : p u = true
    · rw [if_pos hp]
      refine hk H3 u (sm.trans s03) hm hp _ fun H4 s4 => hv H4 u ((sm.trans s03).trans s4) hm hp _ fun v H5 s5 rv => ?_
      have s35 := (s03.trans s4).trans s5
      have new : valV tab (kf u) = none := by
        cases c : valV tab (kf u) with
        | none => rfl
        | some z =>
          have m := valV_in c
          rw [paired_keys (R := fun v u => R H v (rf u)) pr] at m
          obtain ⟨w, hw', ew⟩ := List.mem_map.mp m
          have e : us = us.take k ++ (u :: us.drop (k + 1)) := by
            conv => lhs; rw [← List.take_append_drop (k + 1) us, et, List.append_assoc]
            rfl
          rw [e, List.map_append] at nd
          exact absurd ew ((List.nodup_append.mp nd).2.2 (kf w) (List.mem_map.mpr ⟨w, (List.mem_filter.mp hw').1, rfl⟩) (kf u) List.mem_cons_self)
      have k1 : TupKeep H5 (upd H5 D (.dK (putK (kT tab) (.inr (kf u)) v))) := TupKeep.at fun xs z => by rw [s35 _ _ hD] at z; cases z
      have k2 : TupKeep H (upd H5 D (.dK (putK (kT tab) (.inr (kf u)) v))) := (TupKeep.of s35).trans k1
      refine ⟨kT tab, .inr (kf u), rfl, s35 _ _ hD, small_lt (by rw [len_kT]; omega), same_mut (sm.trans s35) hD1, tab ++ [(kf u, v)], ?_, by rw [List.length_append]; show _ + 1 ≤ _; omega, ?_⟩
      · rw [upd_same, putK_kT, putK_new _ new]
      · rw [et, List.filter_append, List.filter_cons, hp]
        exact paired_snoc (R := fun e u => e.1 = kf u ∧ R _ e.2 (rf u)) ⟨rfl, mono _ _ _ _ k1 rv⟩ (Paired.mapP pr fun e w ⟨a, b⟩ => ⟨a, mono _ _ _ _ k2 b⟩)
    · rw [if_neg hp]
      refine ⟨sm.trans s03, tab, s03 _ _ hD, by omega, ?_⟩
      rw [et, List.filter_append, List.filter_cons, if_neg hp]
      simp only [List.filter_nil, List.append_nil]
      exact Paired.mapP pr fun e w ⟨a, b⟩ => ⟨a, mono _ _ _ _ (TupKeep.of s03) b⟩
  · have e : k = us.length := by omega
    subst e
    rw [List.take_length] at pr
    exact .inl ⟨hstop H (hG _ sm), hd H tab sm hD pr⟩
end
end Fk

set_option maxHeartbeats 4000000
/-! Values of files and rows of changes: what they are, where they stand. -/
namespace Fk
open PySem PySem.Spec PyProof.Rows L2
/-- a file's value, or that there is none -/
abbrev Fv := Option (Str × Str)
abbrev Rw := Fv × Fv
def fvD : Fv → PyData
  | none => .none
  | some p => .tuple [.str p.1, .str p.2]
def rwD (r : Rw) : PyData := .tuple [fvD r.1, fvD r.2]
def FKS : List Str := ["file", "exec"]
section
variable {K : PySem.W.Frag} {H H' : Hp}
def FvV (K : PySem.W.Frag) (H : Hp) (v : V) : Fv → Prop
  | none => v = .non
  | some p => ∃ q, v = .ref q ∧ TupK K H q [.str p.1, .str p.2]
def RwV (K : PySem.W.Frag) (H : Hp) (v : V) (r : Rw) : Prop := ∃ q v1 v2, v = .ref q ∧ TupK K H q [v1, v2] ∧ FvV K H v1 r.1 ∧ FvV K H v2 r.2
theorem FvV.keep {v : V} {f : Fv} (h : FvV K H v f) (k : TupKeep H H') : FvV K H' v f := by
  cases f with
  | none => exact h
  | some p =>
    obtain ⟨q, e, t⟩ := h
    exact ⟨q, e, t.keep k⟩
theorem RwV.keep {v : V} {r : Rw} (h : RwV K H v r) (k : TupKeep H H') : RwV K H' v r := by
  obtain ⟨q, v1, v2, e, t, a, b⟩ := h
  exact ⟨q, v1, v2, e, t.keep k, a.keep k, b.keep k⟩
theorem FvV.dp {v : V} {f : Fv} (h : FvV K H v f) : Dp K H v (fvD f) := by
  cases f with
  | none =>
    obtain rfl : v = .non := h
    exact .non
  | some p =>
    obtain ⟨q, rfl, t⟩ := h
    exact dp_head t
theorem RwV.dp {v : V} {r : Rw} (h : RwV K H v r) : Dp K H v (rwD r) := by
  obtain ⟨q, v1, v2, rfl, t, a, b⟩ := h
  exact .tup t.sq (.cons a.dp (.cons b.dp .nil))
def GoodF (f : Fv) : Prop := ∀ p, f = some p → p.1 ∈ FKS ∧ isIdF p.2 = true
def GoodR (r : Rw) : Prop := GoodF r.1 ∧ GoodF r.2
theorem ok_fks : ∀ x ∈ FKS, OkS x := by
  intro x hx
  simp only [FKS, List.mem_cons, List.not_mem_nil, or_false] at hx
  rcases hx with rfl | rfl <;> exact ok_by (by decide +kernel)
theorem ok_idF {x : Str} (h : isIdF x = true) : OkS x ∧ x.length = 16 := by
  unfold isIdF at h
  obtain ⟨h1, h2⟩ := Bool.and_eq_true_iff.mp h
  refine ⟨fun u hu => ?_, of_decide_eq_true h1⟩
  unfold hasOnly at h2
  have := List.all_eq_true.mp h2 u hu
  exact ok_hex u (of_decide_eq_true this)
theorem lay_fv {f : Fv} (h : GoodF f) : PyData.canLay0 (fvD f) = true := by
  cases f with
  | none => rfl
  | some p =>
    obtain ⟨h1, h2⟩ := h p rfl
    show PyData.canLayAll0 ([p.1, p.2].map PyData.str) = true
    exact lay_strs _ fun y hy => by
      simp only [List.mem_cons, List.not_mem_nil, or_false] at hy
      rcases hy with rfl | rfl
      · exact ok_fks _ h1
      · exact (ok_idF h2).1
theorem depth_fv (f : Fv) : PyData.depth (fvD f) ≤ 1 := by
  cases f with
  | none => exact Nat.zero_le _
  | some p => exact Nat.le_refl _
end
theorem shaped_fv {f : Fv} (h : GoodF f) : SeqAt.shaped (fvD f) = true := by
  unfold SeqAt.shaped
  rw [lay_fv h, Bool.true_and]
  exact decide_eq_true (Nat.le_trans (depth_fv f) (by decide))
theorem shaped_rw {r : Rw} (h : GoodR r) : SeqAt.shaped (rwD r) = true := by
  unfold SeqAt.shaped rwD
  have d1 := depth_fv r.1
  have d2 := depth_fv r.2
  have c : PyData.canLay0 (.tuple [fvD r.1, fvD r.2]) = true := by
    simp only [PyData.canLay0, PyData.canLayAll0, lay_fv h.1, lay_fv h.2, Bool.and_self]
  rw [c, Bool.true_and]
  refine decide_eq_true ?_
  show PyData.depthAll [fvD r.1, fvD r.2] + 1 ≤ 64
  simp only [PyData.depthAll]
  omega
theorem eqv_fv (a b : Fv) : PyData.eqv (fvD a) (fvD b) = decide (a = b) := by
  cases a with
  | none => cases b <;> rfl
  | some p =>
    cases b with
    | none => rfl
    | some q =>
      show PyData.eqv (.tuple [.str p.1, .str p.2]) (.tuple [.str q.1, .str q.2]) = _
      rw [eqv_head]
      refine decide_eq_decide.mpr ⟨fun h => ?_, fun h => ?_⟩
      · rw [show p = (p.1, p.2) from rfl, show q = (q.1, q.2) from rfl, h]
      · cases h
        rfl
theorem eqv_rw (a b : Rw) : PyData.eqv (rwD a) (rwD b) = decide (a = b) := by
  show PyData.eqvAll [fvD a.1, fvD a.2] [fvD b.1, fvD b.2] = _
  simp only [PyData.eqvAll, eqv_fv, Bool.and_true]
  rw [Bool.eq_iff_iff, Bool.and_eq_true, decide_eq_true_eq, decide_eq_true_eq, decide_eq_true_eq]
  exact ⟨fun ⟨x, y⟩ => Prod.ext x y, fun e => by rw [e]; exact ⟨rfl, rfl⟩⟩
/-- a path that may stand in files and changes -/
def PathOk (x : Str) : Prop := isPathF x = true ∧ x.length ≤ 1000 ∧ OkS x
/-- rows by paths, each as it should be -/
structure RowsOk (n : Nat) (t : Tab) (m : Mp Rw) : Prop where
  nd : Nd t
  len : t.length ≤ n
  path : ∀ x ∈ t.map (·.1), PathOk x
  good : ∀ x r, m x = some r → GoodR r
/-- a dict of rows at e -/
def RowsAt (K : PySem.W.Frag) (H : Hp) (e : Addr) (n : Nat) (m : Mp Rw) : Prop := ∃ t, H e = some (.dK (kT t)) ∧ Holds (RwV K H) t m ∧ RowsOk n t m
/-- a change at a, its dict at d, the rows in order -/
def ChAt (K : PySem.W.Frag) (C : Addr) (H : Hp) (a dx d : Addr) (n : Nat) (m : Mp Rw) : Prop := H a = some (.ins C dx [("_rows", .ref d)]) ∧ ∃ t, H d = some (.dK (kT t)) ∧ Holds (RwV K H) t m ∧ RowsOk n t m ∧ sortedS (t.map (·.1)) = true
section
variable {K : PySem.W.Frag} {H H' : Hp} {n : Nat} {m : Mp Rw} {C e a dx d : Addr}
theorem RowsAt.same (h : RowsAt K H e n m) (s : Same H H') : RowsAt K H' e n m := by
  obtain ⟨t, h1, h2, h3⟩ := h
  exact ⟨t, s _ _ h1, h2.imp fun _ _ x => x.keep (TupKeep.of s), h3⟩
theorem ChAt.same (h : ChAt K C H a dx d n m) (s : Same H H') : ChAt K C H' a dx d n m := by
  obtain ⟨h0, t, h1, h2, h3⟩ := h
  exact ⟨s _ _ h0, t, s _ _ h1, h2.imp fun _ _ x => x.keep (TupKeep.of s), h3⟩
theorem RowsOk.mono {t : Tab} {n' : Nat} (h : RowsOk n t m) (l : n ≤ n') : RowsOk n' t m := ⟨h.nd, Nat.le_trans h.len l, h.path, h.good⟩
theorem RowsOk.shaped {t : Tab} (h : RowsOk n t m) (hh : Holds (RwV K H) t m) : shapedAll (dataM rwD t m) := fun p hp => by
  unfold dataM at hp
  obtain ⟨x, hx, rfl⟩ := List.mem_map.mp hp
  have z := hh.mem.mp hx
  cases y : m x with
  | none => rw [y] at z; cases z
  | some r => exact shaped_rw (h.good x r y)
theorem rows_eq {b : Addr} {t u : Tab} {n' : Nat} {f g : Mp Rw} {Q : VK} {c : Bool} (ha : H a = some (.dK (kT t))) (hb : H b = some (.dK (kT u))) (h : Holds (RwV K H) t f) (k : Holds (RwV K H) u g) (ho : RowsOk n t f) (ko : RowsOk n' u g) (hc : c = true ↔ f = g) (q : Q (.bl c) H) : rEqDD K (.ref a) (.ref b) H Q := by
  refine ⟨a, b, dataM rwD t f, dataM rwD u g, rfl, rfl, ⟨_, ha, h.dd (fun _ _ x => x.dp) ho.nd⟩, ⟨_, hb, k.dd (fun _ _ x => x.dp) ko.nd⟩, ho.shaped h, ko.shaped k, ?_⟩
  have e : eqvDict (dataM rwD t f) (dataM rwD u g) = c := by
    rw [Bool.eq_iff_iff, eqv_data (fun a b => by rw [eqv_rw, decide_eq_true_eq]) h k ho.nd ko.nd, hc]
  rw [e]
  exact q
end
/-! ### == and != of values -/
def rEqFv (K : PySem.W.Frag) : R2 := fun x y H Q => ∃ f g, FvV K H x f ∧ FvV K H y g ∧ GoodF f ∧ GoodF g ∧ Q (.bl (decide (f = g))) H
def rNeFv (K : PySem.W.Frag) : R2 := fun x y H Q => ∃ f g, FvV K H x f ∧ FvV K H y g ∧ GoodF f ∧ GoodF g ∧ Q (.bl (!decide (f = g))) H
theorem op_eqFv {X : Cx} {K : PySem.W.Frag} (e : X.K = K) (hu : X.A.units + 64 < cLine) : OpR X (compareOp .Eq) (rEqFv K) := fun pn s σ H x y v u Q I rx ry h => by
  subst e
  obtain ⟨f, g, a, b, gf, gg, q⟩ := h
  exact op_eqD hu pn s σ H x y v u Q I rx ry ⟨_, _, a.dp, b.dp, shaped_fv gf, shaped_fv gg, by rw [eqv_fv]; exact q⟩
theorem op_neFv {X : Cx} {K : PySem.W.Frag} (e : X.K = K) (hu : X.A.units + 64 < cLine) : OpR X (compareOp .NotEq) (rNeFv K) := fun pn s σ H x y v u Q I rx ry h => by
  subst e
  obtain ⟨f, g, a, b, gf, gg, q⟩ := h
  exact op_neD hu pn s σ H x y v u Q I rx ry ⟨_, _, a.dp, b.dp, shaped_fv gf, shaped_fv gg, by rw [eqv_fv]; exact q⟩
end Fk

set_option maxHeartbeats 4000000
/-! a def that makes lambdas (its code object known); a lambda handed to a def, by the def's name; the end with the tables of such defs. -/
namespace Fk
open PySem PySem.Spec PyProof.Rows L2 LamX
section
variable {P : Program} {w : World} {K : PySem.W.Frag} {mg : Str → Option Value} {base : Heap}
/-- a def of the module, its code object known -/
def IsDefC (K : PySem.W.Frag) (mg : Str → Option Value) (x : Str) (st : Stmt) (c : Addr) : Prop := ∃ f fd, C8.Def K mg x st f fd ∧ fd.defaults = .none ∧ fd.code = .ref c
theorem cal_ofC {x : Str} {st : Stmt} {N ps : List Str} {k : Nat} {sp : Sp} {c : Addr} (D : IsDefC K mg x st c) (S : FnScope N ps (C8.fnScope st))
    (hb : ∀ (kV doc pm : Value) (an : Option Addr) (cdv ct : Value) (us : List Value), us.length = ps.length → bindArgs (PySem.W.fnOf x x (C8.fnArgs st) (C8.fnBody st) (C8.fnScope st) .none kV doc pm an cdv ct) ⟨us, []⟩ = pure (ps.zip us))
    (len : ∀ vs H Q E, sp vs H Q E → vs.length = ps.length)
    (hbody : ∀ (f : Addr) (A : Around) (outer : List Env) (s : Shared) (H : Hp) (vs : List V) (Q : VK) (E : XK), Room k (A.deeper (envOfC x (C8.fnScope st) s.heap.objs.size f (.ref c))) → sp vs H Q E →
      ∃ t, PSs (cxOf C8.CX0 P w K mg base N x (C8.fnScope st) f (.ref c) A outer s H E).nox (C8.fnBody st) t ∧ t { nx := fun _ H' => Q .non H', rt := Q } (start N vs) H) : C8.Cal P w K mg base (k + 1) x sp [] := by
  obtain ⟨f, fd, D, df, dc⟩ := D
  obtain ⟨oc, od, dV, kV, doc, pm, an, cdv, ct, osl, rfl, lk, hcd⟩ := D.fn.ex
  have e : dV = .none := df
  subst e
  have e2 : cdv = .ref c := dc
  subst e2
  exact ⟨f, _, ps, [], fn_of lk hcd S len fun A outer s H vs Q E hr hsp => by
    obtain ⟨t, h, q⟩ := hbody f A outer s H vs Q E hr hsp
    exact ⟨t, h.nox, q⟩, D.mgf, D.kp, .all (hb kV doc pm an (.ref c) ct), .nil⟩
end
/-- what the lambda's body lets out, its caller is told of -/
theorem takes_lam {X : Cx} {A : Around} {outer : List Env} {s : Shared} {H : Hp} {E : XK} {scope : Scope} {f c' : Addr} : Takes (lamCx X A outer s H E scope f c') (fun cls d _ H' => E cls d H') :=
  takes_of rfl rfl rfl rfl
/-- where an error is let out, the names are as many as ever -/
theorem takes_len {X : Cx} {W : WX} (tk : Takes X W) : Takes X (fun cls d σ H => σ.length = X.N.length → W cls d σ H) := fun u s' ⟨a, B, sI, pins, σ, H, cls, d, e, I, nb, up, sky, na, os, ag, w⟩ =>
  tk u s' ⟨a, B, sI, pins, σ, H, cls, d, e, I, nb, up, sky, na, os, ag, w I.len⟩
section
variable {X : Cx}
/-- x(lambda: body), x a def of one parameter a -/
theorem pe_lamC {T : List (Addr × Str)} {TT : (XK → Hp → VK → Prop) → Hp → VK → Prop} {x a : Str} {st : Stmt} {c P : Addr} {k j : Nat} {Ng : List Str}
    {params : Arguments} {body : Expr} {scope : Scope} {t : XK → TE} {p lpos pos : Pos} (D : IsDef X.K X.mg x st) (Sg : FnScope Ng [a] (C8.fnScope st))
    (hb : ∀ (kV doc pm : Value) (an : Option Addr) (cdv ct : Value) (us : List Value), us.length = 1 → bindArgs (PySem.W.fnOf x x (C8.fnArgs st) (C8.fnBody st) (C8.fnScope st) .none kV doc pm an cdv ct) ⟨us, []⟩ = pure ([a].zip us))
    (hg : Gl X x) (hNg : Ng[0]? = some a) (hva : Vis (C8.fnScope st) a)
    (hG : ∀ (g : Addr) (cdg : Value), GivesTo X Ng x (C8.fnScope st) g cdg (C8.fnBody st) a (X.env.qual ++ "<lambda>") TT)
    (TB : TabB X.base X.mg c P) (hcode : X.env.code = .ref c) (hmT : (P, X.env.qual ++ "<lambda>") ∈ T) (hu : ∀ p ∈ T, p.1 = P → p.2 = X.env.qual ++ "<lambda>") (hr : Room j X.A) (hk : k + 2 ≤ j) (L : LamS X.env.scope scope) (hdef : defaultsOf params X.env = ([], []))
    (hbind : ∀ (q : Str) (cl : List (Str × Addr)) (pm cv ctv : Value), bindArgs (PySem.W.kla_fn "<lambda>" q params body scope cl pm cv ctv) ⟨[], []⟩ = pure [])
    (hbody : ∀ (A : Around) (outer : List Env) (s : Shared) (H : Hp) (E : XK) (f c' : Addr), Room k (A.deeper (lamEnv X scope s.heap.objs.size f c')) → PE (lamCx X A outer s H E scope f c') body (t E))
    (hdb : (x == ("__debug__" : Str)) = false := by decide) (hd : (a == ("__debug__" : Str)) = false := by decide) (hcd : (a == ("__classdict__" : Str)) = false := by decide) :
    PE X (.Call (.Name x p) [.Lambda params body scope lpos] [] pos) (tLam T TT t) := by
  obtain ⟨f, fd, D, df⟩ := D
  obtain ⟨oc, od, dV, kV, doc, pm, an, cdv, ct, osl, rfl, lk, hcg⟩ := D.fn.ex
  have e : dV = .none := df
  subst e
  exact pe_lamcall hg D.mgf D.kp lk hcg (.all (hb kV doc pm an cdv ct)) Sg hNg hva (hG f cdv) TB hcode hmT hu (hr.mono hk) L hdef hbind hbody hdb hd hcd
end
/-! ### the end -/
/-- the def y, its code object and its table -/
def TabD (mg : Str → Option Value) (h : Heap) (y : Str) (c P : Addr) : Prop := ∃ (a : Addr) (o : Obj) (fd : FuncData), mg y = some (.ref a) ∧ h.get? a = some o ∧ o.data = .func fd ∧ fd.code = .ref c ∧ PySem.W.CodeHd h c P ∧ h.get? P = some { cls := .none, data := .fields #[] }
theorem TabD.code {K : PySem.W.Frag} {mg : Str → Option Value} {h : Heap} {y : Str} {c P f : Addr} {fd : FuncData} {oc : Value} {od : Option Addr} {osl : Array (Option Value)} (t : TabD mg h y c P) (X : K.In h) (hm : mg y = some (.ref f)) (lk : K.lookup f = some ⟨oc, od, .func fd, osl⟩) : fd.code = .ref c := by
  obtain ⟨a, o, fd', h1, h2, h3, h4, _⟩ := t
  rw [hm] at h1
  cases h1
  have e := X _ _ lk
  rw [h2] at e
  cases e
  cases h3
  exact h4
theorem walk_ofTabs {l : PySem.W.OpenLaw} {n k : Nat} {q : Program} {loose : List Str} {XP : (Str → Option Value) → Heap → Prop} {YP : World → Heap → Prop} {d : DefRec} {K : Params → PySem.W.Frag} {CX : World → CXT} {x : Str} {ys : List Str}
    (hn : l.most = some n) (hn2 : n ≤ sizeLine) (hdf : d.params.defaults = []) (hr : Room k callerA) (hrec : ∀ y ∈ ys, ((recsOf q).any fun e => e.name == y) = true) (hY : ∀ (w : World) (h : Heap), YP w h → (K w.params).In h)
    (F : ∀ (w : World) (mg : Str → Option Value) (fa : Addr) (h : Heap), YP w h → (K w.params).In h → h.Ns mainGlobals mg → mg d.name = some (.ref fa) → (∀ y ∈ ys, ∃ c P, TabD mg h y c P) → LawAtS l w (K w.params) (CX w) k n x mg fa h)
    (hCX : ∀ (w : World) (H : Hp) (s : Shared) (e : Value) (s' : Shared), CX w [] H s (fun _ _ _ => False) e s' → False) :
    PySem.W.WalkO q loose XP YP l.row.toRowW d [] (fun f vs => PySem.call f vs) := by
  refine Att.attach_callB hn hdf fun w s₀ s₁ mg mb fa o pm cd doc a vs ns G Y ho hd hcd hmg hobj hints hlen hbits hg => ?_
  have KX := hY w _ Y
  have tabs : ∀ y ∈ ys, ∃ c P, TabD mg s₁.heap y c P := fun y hy => by
    obtain ⟨dL, hm, hn1⟩ := List.any_eq_true.mp (hrec y hy)
    have hn2 : dL.name = y := beq_iff_eq.mp hn1
    obtain ⟨a', o', fd', c', P', h1, h2, h3, h4, h5, h6⟩ := G.T.tab dL hm
    rw [hn2] at h1
    exact ⟨c', P', a', o', fd', h1, h2, h3, h4, PySem.W.CodeHd.of h5 h6, h6.2⟩
  obtain ⟨fd, cs, sp, hT, nT, C, hb, hsp, hF⟩ := F w mg fa _ Y KX G.T.g hmg tabs
  exact law_callTs KX G.T.g G.T.b G.T.builtins G.T.nolimit hg hT nT C G.T.bmain hobj hints (Nat.le_trans hlen hn2) hr hF hb (fun H hH hS => hsp H a ns hlen hbits hH hS) fun H e s' => hCX w H s₁ e s'
end Fk

set_option maxHeartbeats 4000000
/-! The law's own call at the top, where nothing is being shown: so repr of containers can be had in the law's def. -/
namespace Fk
open PySem PySem.Spec PyProof.Rows L2 LamX
/-- a def's promise to the topmost caller alone -/
structure TopOk (P : Program) (w : World) (K : PySem.W.Frag) (mg : Str → Option Value) (base : Heap) (CX : CXT) (f : Addr) (fd : FuncData) (ps : List Str) (sp : Sp) : Prop where
  len : ∀ vs H Q E, sp vs H Q E → vs.length = ps.length
  run : ∀ (s : Shared) (H : Hp) (args : Args) (us : List Value) (vs : List V) (Q : VK) (E : XK), Env0 P w K mg base callerA [] s H → BindsTo s fd args (ps.zip us) → Vals vs us → sp vs H Q E → codeAny (model P w) callerA (.call (.ref f) args) (CR CX [] P w H s Q E) s
section
variable {P : Program} {w : World} {K : PySem.W.Frag} {mg : Str → Option Value} {base : Heap}
theorem top_of {CX : CXT} {k : Nat} {x qual : Str} {st : Stmt} {f : Addr} {fd : FuncData} {N ps : List Str} {sp : Sp} {cd : Value} (F : C8.Fun K x qual st f fd) (hc : fd.code = cd) (S : FnScope N ps (C8.fnScope st)) (hr : Room (k + 1) callerA)
    (len : ∀ vs H Q E, sp vs H Q E → vs.length = ps.length)
    (hbody : ∀ (A : Around) (outer : List Env) (s : Shared) (H : Hp) (vs : List V) (Q : VK) (E : XK), (A.deeper (envOfC qual (C8.fnScope st) s.heap.objs.size f cd)).guards = some [] → Room k (A.deeper (envOfC qual (C8.fnScope st) s.heap.objs.size f cd)) → sp vs H Q E →
      ∃ t, PSs (cxOf CX P w K mg base N qual (C8.fnScope st) f cd A outer s H E).nox (C8.fnBody st) t ∧ t { nx := fun _ H' => Q .non H', rt := Q } (start N vs) H) : TopOk P w K mg base CX f fd ps sp := by
  obtain ⟨oc, od, dV, kV, doc, pm, an, cdv, ct, osl, rfl, lk, hcd⟩ := F.ex
  have e2 : cdv = cd := hc
  subst e2
  refine ⟨len, fun s H args us vs Q E e0 hb rv hsp => ?_⟩
  have KX := e0.mod.kin.keeps fun b o e => (e0.bs b o e).1
  have names : ∀ y ∈ ps.zip us, (C8.fnScope st).names.lookup y.1 = some .local ∨ ((C8.fnScope st).names.lookup y.1 = some .cell ∧ ((cellsFrom (s.heap.objs.size + 1) (C8.fnScope st).names []).lookup y.1).isSome = true) := fun y hy =>
    (S.par y.1 (List.of_mem_zip hy).1).imp id fun q => ⟨q, PySem.W.cellsFrom_some _ _ _ (.inl q)⟩
  refine codeAny_call_function hr.depth (KX _ _ lk) rfl S.co S.gen rfl (PySem.W.codeRec_of KX hcd) (hb _ _ _ _ (wpAny_newFunctionEnv_cells S.kind names fun env he s1 xc => ?_))
  subst he
  refine ⟨(e0.mod.nolimit.keeps fun b o e => (e0.bs b o e).1).keeps xc.toInCall.keep, codeAny_func ?_⟩
  obtain ⟨t, ht, hq⟩ := hbody callerA [] s H vs Q E rfl (hr.deeper _) hsp
  have I := inv_start (CX := CX) (E := E) S hr.hd e0 (len _ _ _ _ hsp) rv xc
  refine wpAny_mono (ht.nox.run [] s1 (start N vs) H _ I hq) (fun fl s' z => ?_) fun _ _ z => z
  have out : ∀ {σ' : L2.St} {H' : Hp} {v : V} {u : Value}, Inv (cxOf CX P w K mg base N qual (C8.fnScope st) f cdv callerA [] s H E) [] σ' H' s' → RelV v u → Q v H' → CE [] P w H s Q u s' := fun {σ' H' v u} J r q => ⟨v, H', J.os, J.bare, J.base, J.hok, r, q⟩
  rcases fl with _ | _ | _ | u
  · obtain ⟨σ', H', J, q⟩ := z
    exact out (v := V.non) (u := Value.none) J rfl q
  · obtain ⟨_, _, _, q⟩ := z
    exact absurd q id
  · obtain ⟨_, _, _, q⟩ := z
    exact absurd q id
  · obtain ⟨v, σ', H', J, r, q⟩ := z
    exact out J r q
end
section
variable {P : Program} {w : World} {K : PySem.W.Frag} {mg mb : Str → Option Value} {cs : List (Addr × Addr)} {a : Addr} {vs : List Value} {ns : List Int} {s : Shared}
open Classical in
/-- what is followed at the start: the tables, and the script unless it is written in the text -/
noncomputable def topH (K : PySem.W.Frag) (cs : List (Addr × Addr)) (a : Addr) (vs : List Value) (ns : List Int) : Hp := fun b =>
  if b ∈ cs.map (·.2) then some (.tbl #[]) else if b = a ∧ K.lookup a = none then some (.frz { cls := .type "list", data := .seq vs.toArray } (.lst (ns.map V.int))) else none
theorem topH_tab {p : Addr × Addr} (hp : p ∈ cs) : topH K cs a vs ns p.2 = some (.tbl #[]) := if_pos (List.mem_map.mpr ⟨p, hp, rfl⟩)
theorem topH_not {b : Addr} {u : HO} (e : topH K cs a vs ns b = some u) : (b ∈ cs.map (·.2) ∧ u = .tbl #[]) ∨ (b = a ∧ K.lookup a = none ∧ u = .frz { cls := .type "list", data := .seq vs.toArray } (.lst (ns.map V.int))) := by
  unfold topH at e
  split at e
  · exact .inl ⟨by assumption, (Option.some.inj e).symm⟩
  · split at e
    · rename_i h
      exact .inr ⟨h.1, h.2, (Option.some.inj e).symm⟩
    · cases e
theorem top_env (KX : K.In s.heap) (hns : s.heap.Ns mainGlobals mg) (hb : s.heap.Ns builtinsNs mb) (hbb : ∀ x : Str, x ≠ "__name__" → mb x = bootBuiltins x) (hlim : s.heap.NoLimit) (hg : s.gens = #[])
    (hT : ∀ p ∈ cs, s.heap.get? p.2 = some { cls := .none, data := .fields #[] }) (nT : ∀ p ∈ cs, K.lookup p.2 = none) (C : ∀ p ∈ cs, PySem.W.CodeHd s.heap p.1 p.2)
    (hbm : ∃ (bm : Addr) (ob : Obj), mg "__builtins__" = some (.ref bm) ∧ bm ≠ builtinsNs ∧ s.heap.get? bm = some ob ∧ ob.cls = .type "module" ∧ ob.dict = some builtinsNs ∧ ob.data = .plain)
    (ha : s.heap.get? a = some { cls := .type "list", data := .seq vs.toArray }) (hi : IntsAre vs ns) (hl : ns.length ≤ sizeLine) :
    SqL K (topH K cs a vs ns) a (ns.map V.int) ∧ (∀ p ∈ cs, TabB (hidT s.heap (topH K cs a vs ns)) mg p.1 p.2) ∧ Env0 P w K mg (hidT s.heap (topH K cs a vs ns)) callerA [] s (topH K cs a vs ns) := by
  have rv := vals_ints hi
  have tabAt : ∀ {b : Addr}, b ∈ cs.map (·.2) → s.heap.get? b = some { cls := .none, data := .fields #[] } := fun {b} q => by
    obtain ⟨p, hp, e⟩ := List.mem_map.mp q
    exact e ▸ hT p hp
  have aT : a ∉ cs.map (·.2) := fun z => by
    have q := (tabAt z).symm.trans ha
    cases q
  -- an object that is neither a list nor an empty table is not followed
  have free : ∀ {b : Addr} {o : Obj}, s.heap.get? b = some o → (∀ us n, o.data ≠ .seq us n) → o.data ≠ .fields #[] → topH K cs a vs ns b = none := fun {b o} e h1 h2 => by
    cases q : topH K cs a vs ns b with
    | none => rfl
    | some u =>
      rcases topH_not q with ⟨m, _⟩ | ⟨rfl, _, _⟩
      · cases (tabAt m).symm.trans e
        exact absurd rfl h2
      · cases ha.symm.trans e
        exact absurd rfl (h1 _ _)
  have seen : ∀ {b : Addr} {o : Obj}, s.heap.get? b = some o → (∀ us n, o.data ≠ .seq us n) → o.data ≠ .fields #[] → (hidT s.heap (topH K cs a vs ns)).get? b = some o := fun e h1 h2 => hidT_get e (free e h1 h2)
  have nsOk : ∀ {b : Addr} {m : Str → Option Value}, s.heap.Ns b m → (hidT s.heap (topH K cs a vs ns)).Ns b m := fun ⟨o, es, ep, e, d, r⟩ => ⟨o, es, ep, seen e (fun us n z => by rw [d] at z; cases z) (fun z => by rw [d] at z; cases z), d, r⟩
  have kin : K.In (hidT s.heap (topH K cs a vs ns)) := fun b o e => hidT_get (KX b o e) (by
    cases q : topH K cs a vs ns b with
    | none => rfl
    | some u =>
      rcases topH_not q with ⟨m, _⟩ | ⟨rfl, n, _⟩
      · obtain ⟨p, hp, ep⟩ := List.mem_map.mp m
        rw [← ep, nT p hp] at e
        cases e
      · rw [n] at e
        cases e)
  have hok : HOk P w (topH K cs a vs ns) s.heap := fun b u z => by
    rcases topH_not z with ⟨m, rfl⟩ | ⟨rfl, _, rfl⟩
    · exact tabAt m
    · exact ⟨ha, by rw [List.length_map]; exact hl, vs, _, rv, ha⟩
  refine ⟨?_, fun p hp => ?_, ⟨rfl, ⟨kin, nsOk hns, ⟨mb, nsOk hb, hbb⟩, let ⟨mc, h1, h2⟩ := hlim; ⟨mc, nsOk h1, h2⟩⟩, fun b o e => of_hidT e, Nat.le_of_eq (hidT_size _ _), trivial, fun b q => absurd (show b ∈ ([] : List Addr) from q) (by simp), hok, .of_eq hg⟩⟩
  · cases hk : K.lookup a with
    | none => exact .inl (.inr ⟨_, by unfold topH; rw [if_neg aT, if_pos ⟨rfl, hk⟩]⟩)
    | some o =>
      cases (KX a o hk).symm.trans ha
      exact .inr ⟨_, vs.toArray, _, hk, rfl, rfl, rfl, by rw [List.size_toArray, hi.length]; exact hl, by simpa using rv⟩
  · refine ⟨?_, ?_, fun z => ?_⟩
    · obtain ⟨o, us, fi, tf, fl, tg, inF, tx, tt, e1, r1, r2, r3, r⟩ := C p hp
      exact ⟨o, us, fi, tf, fl, tg, inF, tx, tt, seen e1 (fun vs n z => by rw [r2] at z; cases z) (fun z => by rw [r2] at z; cases z; simp at r3), r1, r2, r3, r⟩
    · obtain ⟨bm, ob, b1, b2, b3, b4, b5, b6⟩ := hbm
      refine ⟨bm, ob, b1, b2, fun q => ?_, fun q => ?_, seen b3 (fun vs n z => by rw [b6] at z; cases z) (fun z => by rw [b6] at z; cases z), b4, b5, b6⟩
      · obtain ⟨o, es, ep, e, hd, _⟩ := hns
        rw [← q, b3] at e
        cases e
        rw [b6] at hd
        cases hd
      · rw [q, hT p hp] at b3
        cases b3
        cases b6
    · obtain ⟨o, es, ep, e, hd, _⟩ := hns
      rw [z, hT p hp] at e
      cases e
      cases hd
theorem top_old {H' : Hp} {s' : Shared} (hT : ∀ p ∈ cs, s.heap.get? p.2 = some { cls := .none, data := .fields #[] }) (C : ∀ p ∈ cs, PySem.W.CodeHd s.heap p.1 p.2) (hok : HOk P w (topH K cs a vs ns) s.heap) (un : Un (frs []) [] (topH K cs a vs ns) H' s.heap s'.heap) (hok' : HOk P w H' s'.heap) : OldK s.heap s'.heap := by
  have grown : ∀ b ∈ cs.map (·.2), ∃ p ∈ cs, p.2 = b ∧ ∃ more : Array Value, s'.heap.get? b = some { cls := .none, data := .fields more } := fun b hb => by
    obtain ⟨p, hp, rfl⟩ := List.mem_map.mp hb
    obtain ⟨more, z⟩ := un.tbls p.2 #[] (topH_tab hp)
    exact ⟨p, hp, rfl, _, hok' _ _ z⟩
  have stays : ∀ {b : Addr} {o : Obj}, b ∉ cs.map (·.2) → s.heap.get? b = some o → s'.heap.get? b = some o := fun {b o} nb e => by
    cases q : topH K cs a vs ns b with
    | none => exact un.keep b o e q (fun z => absurd (show b ∈ ([] : List Addr) from z) (by simp)) (by simp)
    | some u =>
      rcases topH_not q with ⟨m, _⟩ | ⟨_, _, rfl⟩
      · exact absurd m nb
      · have e1 := (hok b _ q).1
        rw [e] at e1
        cases e1
        exact (hok' b _ (un.frzs b _ _ q)).1
  refine ⟨fun b o e => ?_, fun b o e => ?_⟩
  · by_cases hb : b ∈ cs.map (·.2)
    · obtain ⟨p, hp, rfl, more, z⟩ := grown b hb
      cases (hT p hp).symm.trans e
      exact .inr (.inl ⟨((C p hp).tab (hT p hp)).isCodeTable, rfl, #[], more, rfl, by rw [Array.empty_append]; exact z⟩)
    · exact .inl (stays hb e)
  · by_cases hb : b ∈ cs.map (·.2)
    · obtain ⟨p, hp, rfl, more, z⟩ := grown b hb
      exact ⟨_, z⟩
    · exact ⟨o, stays hb e⟩
end
/-- what is known of the law's promise to the topmost caller at the head's heap -/
def LawTop (l : PySem.W.OpenLaw) (w : World) (K : PySem.W.Frag) (CX : CXT) (n : Nat) (x : Str) (mg : Str → Option Value) (fa : Addr) (h : Heap) : Prop :=
  ∃ (fd : FuncData) (cs : List (Addr × Addr)) (sp : Sp), (∀ p ∈ cs, h.get? p.2 = some { cls := .none, data := .fields #[] }) ∧ (∀ p ∈ cs, K.lookup p.2 = none) ∧ (∀ p ∈ cs, PySem.W.CodeHd h p.1 p.2) ∧ (∀ (s : Shared) (u : Value), BindsTo s fd ⟨[u], []⟩ [(x, u)]) ∧
    (∀ (H : Hp) (a : Addr) (ns : List Int), ns.length ≤ n → (∀ z ∈ ns, Builtin.Int.intBits z ≤ 1048576) → (∀ p ∈ cs, H p.2 = some (.tbl #[])) → SqL K H a (ns.map V.int) → sp [.ref a] H (fun v _ => v = .bl true) fun _ _ _ => False) ∧
    ∀ base : Heap, K.In base → base.Ns mainGlobals mg → (∀ p ∈ cs, TabB base mg p.1 p.2) → TopOk l.prog w K mg base CX fa fd [x] sp
theorem walk_ofTop {l : PySem.W.OpenLaw} {n : Nat} {q : Program} {loose : List Str} {XP : (Str → Option Value) → Heap → Prop} {YP : World → Heap → Prop} {d : DefRec} {K : Params → PySem.W.Frag} {CX : World → CXT} {x : Str} {ys : List Str}
    (hn : l.most = some n) (hn2 : n ≤ sizeLine) (hdf : d.params.defaults = []) (hrec : ∀ y ∈ ys, ((recsOf q).any fun e => e.name == y) = true) (hY : ∀ (w : World) (h : Heap), YP w h → (K w.params).In h)
    (F : ∀ (w : World) (mg : Str → Option Value) (fa : Addr) (h : Heap), YP w h → (K w.params).In h → h.Ns mainGlobals mg → mg d.name = some (.ref fa) → (∀ y ∈ ys, ∃ c P, TabD mg h y c P) → LawTop l w (K w.params) (CX w) n x mg fa h)
    (hCX : ∀ (w : World) (H : Hp) (s : Shared) (e : Value) (s' : Shared), CX w [] H s (fun _ _ _ => False) e s' → False) :
    PySem.W.WalkO q loose XP YP l.row.toRowW d [] (fun f vs => PySem.call f vs) := by
  refine Att.attach_callB hn hdf fun w s₀ s₁ mg mb fa o pm cd doc a vs ns G Y ho hd hcd hmg hobj hints hlen hbits hg => ?_
  have KX := hY w _ Y
  have tabs : ∀ y ∈ ys, ∃ c P, TabD mg s₁.heap y c P := fun y hy => by
    obtain ⟨dL, hm, hn1⟩ := List.any_eq_true.mp (hrec y hy)
    have hn2 : dL.name = y := beq_iff_eq.mp hn1
    obtain ⟨a', o', fd', c', P', h1, h2, h3, h4, h5, h6⟩ := G.T.tab dL hm
    rw [hn2] at h1
    exact ⟨c', P', a', o', fd', h1, h2, h3, h4, PySem.W.CodeHd.of h5 h6, h6.2⟩
  obtain ⟨fd, cs, sp, hT, nT, C, hb, hsp, hF⟩ := F w mg fa _ Y KX G.T.g hmg tabs
  obtain ⟨hS, TB, e0⟩ := top_env (P := l.prog) (w := w) KX G.T.g G.T.b G.T.builtins G.T.nolimit hg hT nT C G.T.bmain hobj hints (Nat.le_trans hlen hn2)
  refine codeAny_mono ((hF _ e0.mod.kin e0.mod.glob TB).run s₁ _ ⟨[.ref a], []⟩ [.ref a] [.ref a] _ _ e0 (hb s₁ (.ref a)) (.cons rfl .nil) (hsp _ a ns hlen hbits (fun p hp => topH_tab hp) hS)) fun r s' z => ?_
  rcases r with er | (_ | _ | _ | u)
  · exact (hCX w _ s₁ er s' z).elim
  · exact absurd z id
  · exact absurd z id
  · exact absurd z id
  · obtain ⟨v, H', os, bare, un, hok', rv, q⟩ := z
    have q' : v = .bl true := q
    subst q'
    obtain rfl : u = Value.bool true := rv
    exact ⟨rfl, top_old hT C e0.hok un hok', os, bare⟩
end Fk

set_option maxHeartbeats 4000000
/-! repr of tuples, lists and dicts of data, where nothing is being shown. -/
namespace Fk
open PySem PySem.Spec PyProof.Rows L2
def keyD : Key → PyData
  | .inl i => .int i
  | .inr x => .str x
mutual
/-- a value is this datum, dicts too -/
inductive Dq (K : PySem.W.Frag) (H : Hp) : V → PyData → Prop
  | non : Dq K H .non .none
  | bl (b : Bool) : Dq K H (.bl b) (.bool b)
  | int (i : Int) : Dq K H (.int i) (.int i)
  | str (x : Str) : Dq K H (.str x) (.str x)
  | tup {a : Addr} {xs : List V} {ds : List PyData} : SqT K H a xs → DqAll K H xs ds → Dq K H (.ref a) (.tuple ds)
  | lst {a : Addr} {xs : List V} {ds : List PyData} : SqL K H a xs → a ≠ sysModules → DqAll K H xs ds → Dq K H (.ref a) (.list ds)
  | dic {a : Addr} {ks : List (Key × V)} {ds : List PyData} : H a = some (.dK ks) → DqAll K H (ks.map (·.2)) ds → Dq K H (.ref a) (.dict ((ks.map fun p => keyD p.1).zip ds))
inductive DqAll (K : PySem.W.Frag) (H : Hp) : List V → List PyData → Prop
  | nil : DqAll K H [] []
  | cons {v : V} {vs : List V} {d : PyData} {ds : List PyData} : Dq K H v d → DqAll K H vs ds → DqAll K H (v :: vs) (d :: ds)
end
theorem DqAll.length {K : PySem.W.Frag} {H : Hp} : ∀ {vs : List V} {ds : List PyData}, DqAll K H vs ds → vs.length = ds.length
  | [], _, h => by cases h; rfl
  | _ :: _, _, h => by
    cases h with
    | cons _ t => exact congrArg (· + 1) t.length
theorem readsAll_keys {prog : Program} {w : World} {h : Heap} : ∀ {ks : List (Key × V)} {vs : List (Key × Value)} {es : List DictEntry}, KV ks vs → Pairs (mixKind prog w) es vs → ReadsAll h (es.map (·.key)) (ks.map fun p => keyD p.1) [] ∧ es.map (·.val) = vs.map (·.2)
  | _, _, _, .nil, p => by
    cases p
    exact ⟨.nil, rfl⟩
  | _, _, _, .cons h1 t, p => by
    cases p with
    | cons k v r =>
      obtain ⟨i1, i2⟩ := readsAll_keys (h := h) t r
      refine ⟨?_, ?_⟩
      · refine ReadsAll.cons (as := []) (bs := []) ?_ i1
        rcases keyIs_shape (show keyIs _ _ = true from k) with ⟨i, tk, e1, e2⟩ | ⟨x, tk, e1, e2⟩
        · dsimp only
          rw [e2, h1.1, e1]
          exact .int i tk
        · dsimp only
          rw [e2, h1.1, e1]
          exact .str x tk
      · rw [List.map_cons, List.map_cons, i2, v]
section
variable {X : Cx} {pins : List (Addr × Obj)} {σ : L2.St} {H : Hp} {s : Shared}
theorem kv_vals : ∀ {ks : List (Key × V)} {vs : List (Key × Value)}, KV ks vs → Vals (ks.map (·.2)) (vs.map (·.2))
  | _, _, .nil => .nil
  | _, _, .cons h t => .cons h.2 (kv_vals t)
theorem Dq.reads (I : Inv X pins σ H s) {v : V} {d : PyData} (h : Dq X.K H v d) : ∀ u, RelV v u → ∃ as, Reads s.heap u d as ∧ sysModules ∉ as := by
  refine Dq.rec (K := X.K) (H := H) (motive_1 := fun v d _ => ∀ u, RelV v u → ∃ as, Reads s.heap u d as ∧ sysModules ∉ as) (motive_2 := fun vs ds _ => ∀ us, Vals vs us → ∃ as, ReadsAll s.heap us ds as ∧ sysModules ∉ as) ?_ ?_ ?_ ?_ ?_ ?_ ?_ ?_ ?_ h
  · intro u r
    obtain rfl : u = Value.none := r
    exact ⟨[], .none, by simp⟩
  · intro b u r
    obtain rfl : u = Value.bool b := r
    exact ⟨[], .bool b, by simp⟩
  · intro i u r
    obtain ⟨t, rfl⟩ := (show ∃ t, u = Value.int i t from r)
    exact ⟨[], .int i t, by simp⟩
  · intro x u r
    obtain ⟨t, rfl⟩ := (show ∃ t, u = Value.str x t from r)
    exact ⟨[], .str x t, by simp⟩
  · intro a xs ds hq _ ih u r
    obtain rfl : u = Value.ref a := r
    obtain ⟨us, rv, ⟨o, e, c, n, dd⟩, _⟩ := I.tuple hq
    obtain ⟨as, r1, n1⟩ := ih us rv
    exact ⟨as, .tuple e c dd (by simpa using r1), n1⟩
  · intro a xs ds hq ne _ ih u r
    obtain rfl : u = Value.ref a := r
    obtain ⟨us, rv, ⟨o, n, e, c, _, dd⟩, _⟩ := I.list hq
    obtain ⟨as, r1, n1⟩ := ih us rv
    exact ⟨a :: as, .list e c dd (by simpa using r1), fun z => by
      rcases List.mem_cons.mp z with z | z
      · exact ne z.symm
      · exact n1 z⟩
  · intro a ks ds hq hd ih u r
    obtain rfl : u = Value.ref a := r
    obtain ⟨_, ns, vs, kv, o, es, ep, e, x, dd, _, pr, _⟩ := (show ObjOk X.prog X.w H s.heap a (.dK ks) from I.hok a _ hq)
    obtain ⟨rk, ev⟩ := readsAll_keys (h := s.heap) kv pr
    obtain ⟨bs, r1, n1⟩ := ih _ (kv_vals kv)
    have ll : (ks.map fun p => keyD p.1).length = ds.length := by
      rw [← hd.length, List.length_map, List.length_map]
    refine ⟨a :: [] ++ bs, .dict e x.1 dd ?_ ?_, fun z => ?_⟩
    · rw [List.map_fst_zip (Nat.le_of_eq ll)]
      exact rk
    · rw [List.map_snd_zip (Nat.le_of_eq ll.symm), ev]
      exact r1
    · rcases List.mem_append.mp z with z | z
      · rw [List.mem_singleton.mp z] at ns
        simp at ns
      · exact n1 z
  · intro us r
    cases r
    exact ⟨[], .nil, by simp⟩
  · intro v vs d ds _ _ i1 i2 us r
    cases r with
    | cons ra rb =>
      obtain ⟨as, r1, n1⟩ := i1 _ ra
      obtain ⟨bs, r2, n2⟩ := i2 _ rb
      exact ⟨as ++ bs, .cons r1 r2, fun z => (List.mem_append.mp z).elim n1 n2⟩
end
/-- repr of a container -/
def rRep (K : PySem.W.Frag) : List V → Hp → VK → Prop := fun xs H Q => ∃ (a : Addr) (d : PyData), xs = [.ref a] ∧ Dq K H (.ref a) d ∧ d.showable = true ∧ d.depth ≤ 60 ∧ d.shown.length ≤ sizeLine ∧ Q (.str d.shown) H
theorem call_rep {X : Cx} (hg : X.A.guards = some []) (hu : X.A.units + 64 < cLine) : CallR X (.builtin "repr") (rRep X.K) := by
  intro pins s σ H xs us Q I r h
  obtain ⟨a, d, rfl, hd, hs, hdep, hsz, q⟩ := h
  obtain ⟨u, rfl, ru⟩ := vals1 r
  obtain rfl : u = Value.ref a := ru
  obtain ⟨as, r1, n1⟩ := hd.reads I _ rfl
  exact PySem.repr_of_reads' r1 hs (fun _ => n1) hg (by omega) (fun _ _ e => e) (fun h' u tk hk => ⟨.str d.shown, H, I.kept (t' := tk) hk, ⟨u, rfl⟩, q⟩) hsz
end Fk

set_option maxHeartbeats 4000000
/-! Lists of pairs (key, value) with values that are new; a dict of them; tables as lists of pairs. -/
namespace Fk
open PySem PySem.Spec PyProof.Rows L2
theorem paired_snoc' {α β : Type} {R : α → β → Prop} {e : α} {u : β} (h : R e u) : ∀ {l : List α} {us : List β}, Paired R l us → Paired R (l ++ [e]) (us ++ [u])
  | _, _, .nil => .cons h .nil
  | _, _, .cons a r => .cons a (paired_snoc' h r)
section
variable {α β : Type} {J : It} {us : List α} {val : α → V} {G : Hp → Prop} {H1 : Hp} {D : Addr} {σ : L2.St} {vs : List Nat} {g : TG} {tt : TT} {te : TE} {Q : Hp → Prop}
/-- a list of new pairs -/
theorem lc_pairs (Y : Yields J (us.map val) G) (kf : α → Str) (R : Hp → V → β → Prop) (rf : α → β) (p : α → Bool) (σf : α → L2.St) (hD1 : H1 D = none) (hG : ∀ H, Same H1 H → G H) (hw : ∀ u ∈ us, wipe (σf u) vs = wipe σ vs)
    (hg : ∀ H u, Same H1 H → u ∈ us → ∀ (S : L2.St → Hp → Prop), S (σf u) H → g (val u) (wipe σ vs) H S)
    (ht : ∀ H u, Same H1 H → u ∈ us → ∀ (S : Bool → Hp → Prop), (∀ H3, Same H H3 → S (p u) H3) → tt (σf u) H S)
    (mono : ∀ H H' v r, TupKeep H H' → R H v r → R H' v r)
    (he : ∀ H u, Same H1 H → u ∈ us → p u = true → ∀ (S : VK), (∀ a v H3, Same H H3 → H3 a = some (.tup [.str (kf u), v]) → R H3 v (rf u) → S (.ref a) H3) → te (σf u) H S)
    (hl : us.length ≤ 1000000) (hd : ∀ as H, Same H1 H → H D = some (.lst (as.map V.ref)) → Paired (fun (a : Addr) u => ∃ v, H a = some (.tup [.str (kf u), v]) ∧ R H v (rf u)) as (us.filter p) → Q H) :
    ∃ W : Nat → Nat → Hp → Prop, (∃ m, W 0 m (upd H1 D (.lst []))) ∧ ∀ k m H, W k m H →
      (J.stop k H ∧ Q H) ∨ (J.go k H ∧ ∃ Nx : Hp → Prop, (∀ H', Nx H' → ∃ m', m' < m ∧ W (k + 1) m' H') ∧ ∀ x H', J.yld k H x H' → g x (wipe σ vs) H' fun σ2 H2 => wipe σ2 vs = wipe σ vs ∧ tt σ2 H2 fun b H3 =>
        if b = true then te σ2 H3 fun y H4 => ∃ acc, H4 D = some (.lst acc) ∧ acc.length < sizeLine ∧ Nx (upd H4 D (.lst (acc ++ [y]))) else Nx H3) := by
  refine lcG Y (fun k acc H => Same H1 H ∧ ∃ as : List Addr, acc = as.map V.ref ∧ Paired (fun (a : Addr) u => ∃ v, H a = some (.tup [.str (kf u), v]) ∧ R H v (rf u)) as ((us.take k).filter p)) (fun k acc H h _ => hG H h.1) ⟨same_new hD1, [], rfl, .nil⟩ (fun k acc H x hI hD hx hacc hk => ?_) (by rw [List.length_map]; exact hl) (fun acc H hI hD _ => ?_)
  · obtain ⟨sm, as, ea, pr⟩ := hI
    rw [List.getElem?_map] at hx
    cases hu : us[k]? with
    | none => rw [hu] at hx; cases hx
    | some u =>
      rw [hu] at hx
      cases hx
      have hm : u ∈ us := List.mem_of_getElem? hu
      have et : us.take (k + 1) = us.take k ++ [u] := by
        rw [List.take_add_one, hu]
        rfl
      refine hg H u sm hm _ ⟨hw u hm, ht H u sm hm _ fun H3 s3 => ?_⟩
      by_cases hp : p u = true
      · rw [if_pos hp]
        refine he H3 u (sm.trans s3) hm hp _ fun a v H4 s4 h4 rv => ?_
        have hD4 := s4 _ _ (s3 _ _ hD)
        have kp : TupKeep H4 (upd H4 D (.lst (acc ++ [V.ref a]))) := TupKeep.at fun xs z => by rw [hD4] at z; cases z
        have k2 := (TupKeep.of (s3.trans s4)).trans kp
        refine lc_take hD4 hacc hk ⟨same_mut ((sm.trans s3).trans s4) hD1, as ++ [a], by rw [ea, List.map_append]; rfl, ?_⟩
        rw [et, List.filter_append, List.filter_cons, hp]
        exact paired_snoc' ⟨v, kp _ _ h4, mono _ _ _ _ kp rv⟩ (Paired.mapP pr fun e w ⟨z, a, b⟩ => ⟨z, k2 _ _ a, mono _ _ _ _ k2 b⟩)
      · rw [if_neg hp]
        refine lc_skip (s3 _ _ hD) hacc ⟨sm.trans s3, as, ea, ?_⟩
        rw [et, List.filter_append, List.filter_cons, if_neg hp]
        simp only [List.filter_nil, List.append_nil]
        exact Paired.mapP pr fun e w ⟨z, a, b⟩ => ⟨z, TupKeep.of s3 _ _ a, mono _ _ _ _ (TupKeep.of s3) b⟩
  · obtain ⟨sm, as, ea, pr⟩ := hI
    rw [List.length_map, List.take_length] at pr
    rw [ea] at hD
    exact hd as H sm hD pr
end
theorem mergeK_nd (t u : Tab) (nd : Nd u) (dis : ∀ x ∈ u.map (·.1), x ∉ t.map (·.1)) : mergeK (kT t) (kT u) = kT (t ++ u) := by
  induction u generalizing t with
  | nil => rw [List.append_nil]; rfl
  | cons p l ih =>
    obtain ⟨h1, h2⟩ := List.nodup_cons.mp (show ((p :: l).map (·.1)).Nodup from nd)
    have new : valV t p.1 = none := by
      cases c : valV t p.1 with
      | none => rfl
      | some w => exact absurd (valV_in c) (dis p.1 (by rw [List.map_cons]; exact List.mem_cons_self))
    show mergeK (putK (kT t) (.inr p.1) p.2) (kT l) = _
    rw [putK_kT, putK_new _ new, ih (t ++ [(p.1, p.2)]) h2 (fun x hx z => ?_), List.append_assoc]
    · rfl
    · rw [List.map_append] at z
      rcases List.mem_append.mp z with z | z
      · exact dis x (by rw [List.map_cons]; exact List.mem_cons_of_mem _ hx) z
      · rw [List.map_cons, List.map_nil] at z
        rw [List.mem_singleton.mp z] at hx
        exact h1 hx
/-- the dict of a list of pairs, as a table -/
theorem pairs_tab {α β : Type} {K : PySem.W.Frag} {H : Hp} {kf : α → Str} {R : V → β → Prop} {rf : α → β} : ∀ {as : List Addr} {us : List α}, Paired (fun (a : Addr) u => ∃ v, H a = some (.tup [.str (kf u), v]) ∧ R v (rf u)) as us →
    ∃ tab : Tab, Paired (fun p kv => SqT K H p [kV kv.1, kv.2]) as (kT tab) ∧ Paired (fun e u => e.1 = kf u ∧ R e.2 (rf u)) tab us
  | _, _, .nil => ⟨[], .nil, .nil⟩
  | _, _, .cons (b := u) ⟨v, h1, h2⟩ r => by
    obtain ⟨tab, p1, p2⟩ := pairs_tab r
    exact ⟨(kf u, v) :: tab, .cons (.inl (.inl h1)) p1, .cons ⟨rfl, h2⟩ p2⟩
/-! ### tables as lists of pairs -/
def pairsD {α : Type} (dat : α → PyData) (ys : List Str) (f : Mp α) : PyData := .list (ys.map fun y => .tuple [.str y, ((f y).map dat).getD .none])
theorem eqvAll_refl : ∀ {ds : List PyData}, (∀ d ∈ ds, PyData.eqv d d = true) → PyData.eqvAll ds ds = true
  | [], _ => rfl
  | d :: r, h => by
    simp only [PyData.eqvAll, h d List.mem_cons_self, eqvAll_refl fun z hz => h z (List.mem_cons_of_mem _ hz), Bool.and_self]
theorem eqv_pairs {α : Type} {dat : α → PyData} (inj : ∀ a, PyData.eqv (dat a) (dat a) = true) (ys : List Str) (f : Mp α) : PyData.eqv (pairsD dat ys f) (pairsD dat ys f) = true := by
  unfold pairsD
  simp only [PyData.eqv]
  refine eqvAll_refl fun d hd => ?_
  obtain ⟨y, _, rfl⟩ := List.mem_map.mp hd
  have e : PyData.eqv (((f y).map dat).getD .none) (((f y).map dat).getD .none) = true := by
    cases f y with
    | none => rfl
    | some r => exact inj r
  simp only [PyData.eqv, PyData.eqvAll, e, beq_self_eq_true, Bool.and_self]
theorem layAll_of : ∀ {ds : List PyData}, (∀ d ∈ ds, PyData.canLay0 d = true) → PyData.canLayAll0 ds = true
  | [], _ => rfl
  | d :: r, h => by simp only [PyData.canLayAll0, h d List.mem_cons_self, layAll_of fun z hz => h z (List.mem_cons_of_mem _ hz), Bool.and_self]
theorem depthAll_le {n : Nat} : ∀ {ds : List PyData}, (∀ d ∈ ds, PyData.depth d ≤ n) → PyData.depthAll ds ≤ n
  | [], _ => by simp [PyData.depthAll]
  | d :: r, h => by
    simp only [PyData.depthAll]
    exact Nat.max_le.mpr ⟨h d List.mem_cons_self, depthAll_le fun z hz => h z (List.mem_cons_of_mem _ hz)⟩
theorem depth_rw (r : Rw) : PyData.depth (rwD r) ≤ 2 := by
  have d1 := depth_fv r.1
  have d2 := depth_fv r.2
  show PyData.depthAll [fvD r.1, fvD r.2] + 1 ≤ 2
  simp only [PyData.depthAll]
  omega
theorem lay_rw {r : Rw} (h : GoodR r) : PyData.canLay0 (rwD r) = true := by
  unfold rwD
  simp only [PyData.canLay0, PyData.canLayAll0, lay_fv h.1, lay_fv h.2, Bool.and_self]
theorem shaped_pairs {ys : List Str} {f : Mp Rw} (hk : ∀ y ∈ ys, OkS y) (hg : ∀ x r, f x = some r → GoodR r) : SeqAt.shaped (pairsD rwD ys f) = true := by
  unfold SeqAt.shaped pairsD
  have one : ∀ y ∈ ys, PyData.canLay0 (.tuple [.str y, ((f y).map rwD).getD .none]) = true ∧ PyData.depth (.tuple [.str y, ((f y).map rwD).getD .none]) ≤ 3 := fun y hy => by
    cases e : f y with
    | none =>
      refine ⟨?_, ?_⟩
      · show PyData.canLay0 (.tuple [.str y, .none]) = true
        simp only [PyData.canLay0, PyData.canLayAll0, strOk_of (hk y hy), Bool.and_self]
      · show PyData.depthAll [.str y, .none] + 1 ≤ 3
        simp [PyData.depthAll, PyData.depth]
    | some r =>
      refine ⟨?_, ?_⟩
      · show PyData.canLay0 (.tuple [.str y, rwD r]) = true
        simp only [PyData.canLay0, PyData.canLayAll0, strOk_of (hk y hy), lay_rw (hg y r e), Bool.and_self]
      · show PyData.depthAll [.str y, rwD r] + 1 ≤ 3
        have := depth_rw r
        simp only [PyData.depthAll, PyData.depth]
        omega
  have c : PyData.canLay0 (.list (ys.map fun y => .tuple [.str y, ((f y).map rwD).getD .none])) = true := by
    simp only [PyData.canLay0]
    exact layAll_of fun d hd => by
      obtain ⟨y, hy, rfl⟩ := List.mem_map.mp hd
      exact (one y hy).1
  rw [c, Bool.true_and]
  refine decide_eq_true ?_
  show PyData.depthAll (ys.map fun y => .tuple [.str y, ((f y).map rwD).getD .none]) + 1 ≤ 64
  have : PyData.depthAll (ys.map fun y => .tuple [.str y, ((f y).map rwD).getD .none]) ≤ 3 := depthAll_le fun d hd => by
    obtain ⟨y, hy, rfl⟩ := List.mem_map.mp hd
    exact (one y hy).2
  omega
/-- addresses of pairs with known rows, as data -/
theorem dp_pairs {K : PySem.W.Frag} {H : Hp} {p : Addr} {f : Mp Rw} : ∀ {as : List Addr} {ys : List Str}, Paired (fun (a : Addr) y => ∃ v r, H a = some (.tup [.str y, v]) ∧ f y = some r ∧ RwV K H v r) as ys → DpAll K H (as.map V.ref) (ys.map fun y => .tuple [.str y, ((f y).map rwD).getD .none])
  | _, _, .nil => .nil
  | _, _, .cons (b := y) ⟨v, r, h1, h2, h3⟩ l => by
    refine .cons (.tup (.inl (.inl h1)) (.cons (.str y) (.cons ?_ .nil))) (dp_pairs (p := p) l)
    rw [h2]
    exact h3.dp
end Fk

set_option maxHeartbeats 4000000
/-! Tables of rows as data that repr can show. -/
namespace Fk
open PySem PySem.Spec PyProof.Rows L2
def rowD (m : Mp Rw) (y : Str) : PyData := ((m y).map rwD).getD .none
def rowsD (ys : List Str) (m : Mp Rw) : PyData := .dict ((ys.map PyData.str).zip (ys.map (rowD m)))
section
variable {K : PySem.W.Frag} {H : Hp}
theorem FvV.dq {v : V} {f : Fv} (h : FvV K H v f) : Dq K H v (fvD f) := by
  cases f with
  | none =>
    obtain rfl : v = .non := h
    exact .non
  | some p =>
    obtain ⟨q, rfl, t⟩ := h
    exact .tup t.sq (.cons (.str _) (.cons (.str _) .nil))
theorem RwV.dq {v : V} {r : Rw} (h : RwV K H v r) : Dq K H v (rwD r) := by
  obtain ⟨q, v1, v2, rfl, t, a, b⟩ := h
  exact .tup t.sq (.cons a.dq (.cons b.dq .nil))
theorem dq_rows {e : Addr} {t : Tab} {m : Mp Rw} (h : H e = some (.dK (kT t))) (hh : Holds (RwV K H) t m) (nd : Nd t) : Dq K H (.ref e) (rowsD (t.map (·.1)) m) := by
  have key : ∀ l : Tab, (∀ p ∈ l, ∃ r, m p.1 = some r ∧ RwV K H p.2 r) → DqAll K H ((kT l).map (·.2)) ((l.map (·.1)).map (rowD m)) := by
    intro l
    induction l with
    | nil => intro _; exact .nil
    | cons p l ih =>
      intro hl
      obtain ⟨r, a, b⟩ := hl p List.mem_cons_self
      refine .cons ?_ (ih fun q hq => hl q (List.mem_cons_of_mem _ hq))
      show Dq K H p.2 (rowD m p.1)
      unfold rowD
      rw [a]
      exact b.dq
  have := Dq.dic h (key t fun p hp => hh.at' (by
    clear key hh h
    induction t with
    | nil => cases hp
    | cons q l ih =>
      obtain ⟨h1, h2⟩ := List.nodup_cons.mp (show ((q :: l).map (·.1)).Nodup from nd)
      rcases List.mem_cons.mp hp with z | z
      · rw [z, show q = (q.1, q.2) from rfl, valV_pos rfl]
      · rw [valV_neg (fun e => h1 (by dsimp only; rw [e]; exact List.mem_map.mpr ⟨p, z, rfl⟩))]
        exact ih h2 z))
  have ek : ((kT t).map fun p => keyD p.1) = (t.map (·.1)).map PyData.str := by
    unfold kT
    rw [List.map_map, List.map_map]
    rfl
  rw [ek] at this
  exact this
end
theorem fv_facts {f : Fv} (h : GoodF f) : (fvD f).showable = true ∧ (fvD f).intsShort 13 = true ∧ (fvD f).weight ≤ 30 := by
  cases f with
  | none => exact ⟨rfl, rfl, Nat.zero_le _⟩
  | some p =>
    obtain ⟨h1, h2⟩ := h p rfl
    refine ⟨rfl, rfl, ?_⟩
    have l1 : p.1.cps.size ≤ 4 := by
      simp only [FKS, List.mem_cons, List.not_mem_nil, or_false] at h1
      rcases h1 with e | e <;> rw [e] <;> decide +kernel
    have l2 : p.2.cps.size = 16 := (ok_idF h2).2
    show PyData.weightAll [.str p.1, .str p.2] ≤ 30
    simp only [PyData.weightAll, PyData.weight]
    omega
theorem rw_facts {r : Rw} (h : GoodR r) : (rwD r).showable = true ∧ (rwD r).leavesShort 13 = true ∧ (rwD r).depth ≤ 2 ∧ (rwD r).weight ≤ 100 := by
  obtain ⟨a1, a2, a3⟩ := fv_facts h.1
  obtain ⟨b1, b2, b3⟩ := fv_facts h.2
  refine ⟨?_, PyData.leavesShort_of_canLay0 13 _ (lay_rw h) ?_, depth_rw r, ?_⟩
  · show PyData.showableAll [fvD r.1, fvD r.2] = true
    simp only [PyData.showableAll, a1, b1, Bool.and_self]
  · show PyData.intsShortAll 13 [fvD r.1, fvD r.2] = true
    simp only [PyData.intsShortAll, a2, b2, Bool.and_self]
  · show PyData.weightAll [fvD r.1, fvD r.2] ≤ 100
    simp only [PyData.weightAll]
    omega
theorem row_facts {m : Mp Rw} (hg : ∀ x r, m x = some r → GoodR r) (y : Str) : (rowD m y).showable = true ∧ (rowD m y).leavesShort 13 = true ∧ (rowD m y).depth ≤ 2 ∧ (rowD m y).weight ≤ 100 := by
  unfold rowD
  cases e : m y with
  | none => exact ⟨rfl, rfl, by decide, by decide⟩
  | some r => exact rw_facts (hg y r e)
theorem rows_kv {m : Mp Rw} (hg : ∀ x r, m x = some r → GoodR r) : ∀ ys : List Str, (∀ y ∈ ys, PathOk y) →
    PyData.showableKv ((ys.map PyData.str).zip (ys.map (rowD m))) = true ∧ PyData.leavesShortKv 13 ((ys.map PyData.str).zip (ys.map (rowD m))) = true ∧ PyData.depthKv ((ys.map PyData.str).zip (ys.map (rowD m))) ≤ 2 ∧ PyData.weightKv ((ys.map PyData.str).zip (ys.map (rowD m))) ≤ 2000 * ys.length
  | [], _ => ⟨rfl, rfl, Nat.zero_le _, Nat.zero_le _⟩
  | y :: l, h => by
    obtain ⟨i1, i2, i3, i4⟩ := rows_kv hg l fun z hz => h z (List.mem_cons_of_mem _ hz)
    obtain ⟨r1, r2, r3, r4⟩ := row_facts hg y
    obtain ⟨_, p2, p3⟩ := h y List.mem_cons_self
    have p2 : y.cps.size ≤ 1000 := p2
    have ls : PyData.leavesShort 13 (.str y) = true := PyData.leavesShort_of_canLay0 13 (.str y) (strOk_of p3) rfl
    rw [List.map_cons, List.map_cons, List.zip_cons_cons]
    refine ⟨?_, ?_, ?_, ?_⟩
    · simp only [PyData.showableKv, PyData.showable, r1, i1, Bool.and_self]
    · simp only [PyData.leavesShortKv, ls, r2, i2, Bool.and_self]
    · simp only [PyData.depthKv, PyData.depth]
      omega
    · simp only [PyData.weightKv, PyData.weight, List.length_cons]
      omega
theorem rows_facts {m : Mp Rw} (hg : ∀ x r, m x = some r → GoodR r) {ys : List Str} (hy : ∀ y ∈ ys, PathOk y) (hl : ys.length ≤ 60) : (rowsD ys m).showable = true ∧ (rowsD ys m).leavesShort 13 = true ∧ (rowsD ys m).depth ≤ 3 ∧ (rowsD ys m).weight ≤ 120000 := by
  obtain ⟨i1, i2, i3, i4⟩ := rows_kv hg ys hy
  refine ⟨i1, i2, ?_, ?_⟩
  · show PyData.depthKv _ + 1 ≤ 3
    omega
  · show PyData.weightKv _ ≤ 120000
    omega
/-- three tables in a tuple can be shown -/
theorem three_shown {d1 d2 d3 : PyData} (h1 : d1.showable = true ∧ d1.leavesShort 13 = true ∧ d1.depth ≤ 3 ∧ d1.weight ≤ 120000) (h2 : d2.showable = true ∧ d2.leavesShort 13 = true ∧ d2.depth ≤ 3 ∧ d2.weight ≤ 120000) (h3 : d3.showable = true ∧ d3.leavesShort 13 = true ∧ d3.depth ≤ 3 ∧ d3.weight ≤ 120000) :
    PyData.showable (.tuple [d1, d2, d3]) = true ∧ PyData.depth (.tuple [d1, d2, d3]) ≤ 60 ∧ (PyData.shown (.tuple [d1, d2, d3])).length ≤ sizeLine := by
  obtain ⟨a1, a2, a3, a4⟩ := h1
  obtain ⟨b1, b2, b3, b4⟩ := h2
  obtain ⟨c1, c2, c3, c4⟩ := h3
  refine ⟨?_, ?_, PyData.shown_fits (B := 13) (by decide) (by decide) ?_ ?_⟩
  · simp only [PyData.showable, PyData.showableAll, a1, b1, c1, Bool.and_self]
  · simp only [PyData.depth, PyData.depthAll]
    omega
  · simp only [PyData.leavesShort, PyData.leavesShortAll, a2, b2, c2, Bool.and_self]
  · simp only [PyData.weight, PyData.weightAll]
    omega
end Fk

set_option maxHeartbeats 4000000
/-! The paths that lie above a path. -/
namespace Fk
open PySem PySem.Spec PyProof.Rows L2
theorem starts_at (r h : Str) : Txt.startswith r h = true ↔ (TL.tl r).take h.length = TL.tl h := by
  unfold Txt.startswith
  rw [Bool.and_eq_true, StrLaws.subAt_eq]
  show (_ ∧ (((TL.tl r).drop 0).take h.length == TL.tl h) = true) ↔ _
  rw [List.drop_zero]
  constructor
  · rintro ⟨_, h⟩
    exact eq_of_beq h
  · intro e
    refine ⟨decide_eq_true ?_, by rw [e]; exact beq_self_eq_true _⟩
    have := congrArg List.length e
    rw [List.length_take, ← TL.len_tl, ← TL.len_tl] at this
    omega
/-- the joins of the first segments, all but the whole -/
def prefsF (x : Str) : List Str := (List.range ((segs x).length - 1)).map fun k => Txt.join "/" ((segs x).take (k + 1))
theorem joinL_cons (s : List Nat) {r : List (List Nat)} (h : r ≠ []) : TL.joinL [47] (s :: r) = s ++ 47 :: TL.joinL [47] r := by
  cases r with
  | nil => exact absurd rfl h
  | cons q r =>
    rfl
theorem cut_at {s P J R : List Nat} (hs : 47 ∉ s) (e : s ++ 47 :: J = P ++ 47 :: R) : (P = s ∧ R = J) ∨ ∃ P', P = s ++ 47 :: P' ∧ J = P' ++ 47 :: R := by
  induction s generalizing P with
  | nil =>
    cases P with
    | nil =>
      simp only [List.nil_append, List.cons.injEq, true_and] at e
      exact .inl ⟨rfl, e.symm⟩
    | cons c P =>
      simp only [List.nil_append, List.cons_append, List.cons.injEq] at e
      obtain ⟨rfl, e⟩ := e
      exact .inr ⟨P, rfl, e⟩
  | cons c s ih =>
    cases P with
    | nil =>
      simp only [List.nil_append, List.cons_append, List.cons.injEq] at e
      exact absurd (by rw [e.1]; exact List.mem_cons_self) hs
    | cons d P =>
      simp only [List.cons_append, List.cons.injEq] at e
      obtain ⟨rfl, e⟩ := e
      rcases ih (fun z => hs (List.mem_cons_of_mem _ z)) e with ⟨a, b⟩ | ⟨P', a, b⟩
      · exact .inl ⟨by rw [a], b⟩
      · exact .inr ⟨P', by rw [a]; rfl, b⟩
theorem above_of : ∀ {ss : List (List Nat)} {P R : List Nat}, (∀ s ∈ ss, 47 ∉ s) → TL.joinL [47] ss = P ++ 47 :: R → ∃ k, k + 1 < ss.length ∧ P = TL.joinL [47] (ss.take (k + 1))
  | [], P, R, _, e => by
    have : (0 : Nat) = (P ++ 47 :: R).length := congrArg List.length e
    rw [List.length_append, List.length_cons] at this
    omega
  | [s], P, R, hf, e => by
    have e : s = P ++ 47 :: R := e
    exact absurd (by rw [e]; exact List.mem_append_right _ List.mem_cons_self) (hf s List.mem_cons_self)
  | s :: q :: r, P, R, hf, e => by
    rw [joinL_cons s (by simp)] at e
    rcases cut_at (hf s List.mem_cons_self) e with ⟨a, b⟩ | ⟨P', a, b⟩
    · exact ⟨0, by simp, by rw [a]; rfl⟩
    · obtain ⟨k, h1, h2⟩ := above_of (fun z hz => hf z (List.mem_cons_of_mem _ hz)) b
      refine ⟨k + 1, by rw [List.length_cons]; omega, ?_⟩
      rw [List.take_succ_cons, joinL_cons s (by simp), a, h2]
theorem of_above : ∀ {ss : List (List Nat)} {k : Nat}, k + 1 < ss.length → ∃ R, TL.joinL [47] ss = TL.joinL [47] (ss.take (k + 1)) ++ 47 :: R
  | [], k, h => by simp at h
  | [s], k, h => by simp at h
  | s :: q :: r, 0, _ => ⟨TL.joinL [47] (q :: r), by rw [joinL_cons s (by simp)]; rfl⟩
  | s :: q :: r, k + 1, h => by
    obtain ⟨R, e⟩ := of_above (ss := q :: r) (k := k) (by rw [List.length_cons] at h; omega)
    refine ⟨R, ?_⟩
    have e2 : (s :: q :: r).take (k + 1 + 1) = s :: (q :: r).take (k + 1) := rfl
    rw [joinL_cons s (by simp), e, e2, joinL_cons s (by simp), List.append_assoc]
    rfl
theorem tl_segs (x : Str) : TL.joinL [47] ((segs x).map TL.tl) = TL.tl x := by
  have := congrArg TL.tl (StrLaws.join_split x "/")
  rw [TL.tl_join, slash_tl] at this
  exact this
theorem segs_free (x : Str) : ∀ s ∈ (segs x).map TL.tl, 47 ∉ s := fun s hs => by
  obtain ⟨p, hp, rfl⟩ := List.mem_map.mp hs
  exact StrLaws.split_free x 47 p (by
    have e : ("/" : Str) = ⟨#[47]⟩ := TL.ext_tl slash_tl
    rw [← e]
    exact hp)
theorem tl_pref (x : Str) (k : Nat) : TL.tl (Txt.join "/" ((segs x).take k)) = TL.joinL [47] (((segs x).map TL.tl).take k) := by
  rw [TL.join_eq, TL.tl_join, slash_tl, List.map_take]
/-- a path lies above another one: by its segments, by its text -/
theorem mem_prefs {x p : Str} : p ∈ prefsF x ↔ Txt.startswith x (p ++ ("/" : Str)) = true := by
  have el : (TL.tl (p ++ ("/" : Str))) = TL.tl p ++ [47] := by rw [TL.tl_append, slash_tl]
  have en : (p ++ ("/" : Str)).length = (TL.tl p).length + 1 := by rw [TL.len_tl, el, List.length_append, List.length_singleton]
  rw [starts_at, el, en]
  unfold prefsF
  rw [List.mem_map]
  constructor
  · rintro ⟨k, hk, rfl⟩
    rw [List.mem_range] at hk
    obtain ⟨R, e⟩ := of_above (ss := (segs x).map TL.tl) (k := k) (by rw [List.length_map]; omega)
    rw [tl_segs, ← tl_pref] at e
    rw [e]
    generalize TL.tl (Txt.join "/" ((segs x).take (k + 1))) = P
    rw [show P ++ 47 :: R = (P ++ [47]) ++ R by rw [List.append_assoc]; rfl, List.take_left' (by rw [List.length_append, List.length_singleton])]
  · intro e
    have e2 : TL.tl x = TL.tl p ++ 47 :: (TL.tl x).drop ((TL.tl p).length + 1) := by
      conv => lhs; rw [← List.take_append_drop ((TL.tl p).length + 1) (TL.tl x), e, List.append_assoc]
      rfl
    obtain ⟨k, h1, h2⟩ := above_of (segs_free x) ((tl_segs x).trans e2)
    rw [List.length_map] at h1
    exact ⟨k, List.mem_range.mpr (by omega), TL.ext_tl (by rw [tl_pref, h2])⟩
theorem prefs_len {x p : Str} (h : p ∈ prefsF x) : p.length < x.length := by
  have := (starts_at _ _).mp (mem_prefs.mp h)
  have e := congrArg List.length this
  rw [List.length_take, ← TL.len_tl, ← TL.len_tl] at e
  have en : (p ++ ("/" : Str)).length = p.length + 1 := by rw [TL.len_tl, TL.tl_append, slash_tl, List.length_append, List.length_singleton, ← TL.len_tl]
  omega
end Fk

set_option maxHeartbeats 4000000
namespace Fk
open PySem PySem.Spec PyProof.Rows L2
def top (i : Nat) : Stmt := PySem.Challenge.pw_forkhaul_k42_changes_of_files.main.body.getD i (.Pass ⟨0, 0, 0, 0⟩)
abbrev s_ForkError_init : Stmt := inClass (top 1) 0
theorem sc_ForkError_init : FnScope ["self", "why"] ["self", "why"] (C8.fnScope s_ForkError_init) := C8.fnScope_by (by decide +kernel)

abbrev s_Conflict_init : Stmt := inClass (top 4) 0
theorem sc_Conflict_init : FnScope ["self", "paths"] ["self", "paths"] (C8.fnScope s_Conflict_init) := C8.fnScope_by (by decide +kernel)

abbrev s_is_id : Stmt := top 9
theorem sc_is_id : FnScope ["thing"] ["thing"] (C8.fnScope s_is_id) := C8.fnScope_by (by decide +kernel)

abbrev s_is_path : Stmt := top 10
theorem sc_is_path : FnScope ["thing", "segments", "segment"] ["thing"] (C8.fnScope s_is_path) := C8.fnScope_by (by decide +kernel)

abbrev s_is_segment : Stmt := top 11
theorem sc_is_segment : FnScope ["thing"] ["thing"] (C8.fnScope s_is_segment) := C8.fnScope_by (by decide +kernel)

abbrev s_ascending : Stmt := top 12
theorem sc_ascending : FnScope ["names", "name"] ["names"] (C8.fnScope s_ascending) := C8.fnScope_by (by decide +kernel)

abbrev s_prefixes : Stmt := top 13
theorem sc_prefixes : FnScope ["path", "segments", "many"] ["path"] (C8.fnScope s_prefixes) := C8.fnScope_by (by decide +kernel)

abbrev s__is_word : Stmt := top 14
theorem sc__is_word : FnScope ["thing", "signs"] ["thing", "signs"] (C8.fnScope s__is_word) := C8.fnScope_by (by decide +kernel)

abbrev s_is_value : Stmt := top 17
theorem sc_is_value : FnScope ["thing", "kinds", "kind", "name"] ["thing", "kinds"] (C8.fnScope s_is_value) := C8.fnScope_by (by decide +kernel)

abbrev s_differences : Stmt := top 19
theorem sc_differences : FnScope ["old", "new", "rows", "path", "before", "behind"] ["old", "new"] (C8.fnScope s_differences) := C8.fnScope_by (by decide +kernel)

abbrev s_check_are_files : Stmt := top 20
theorem sc_check_are_files : FnScope ["arguments", "files", "path"] ["arguments"] (C8.fnScope s_check_are_files) := C8.fnScope_by (by decide +kernel)

abbrev s_crossing : Stmt := top 21
theorem sc_crossing : FnScope ["paths", "found", "path", "prefix"] ["paths"] (C8.fnScope s_crossing) := C8.fnScope_by (by decide +kernel)

abbrev s_Change_init : Stmt := inClass (top 23) 0
theorem sc_Change_init : FnScope ["self", "rows", "path"] ["self", "rows"] (C8.fnScope s_Change_init) := C8.fnScope_by (by decide +kernel)

abbrev s_Change_rows : Stmt := inClass (top 23) 1
theorem sc_Change_rows : FnScope ["self"] ["self"] (C8.fnScope s_Change_rows) := C8.fnScope_by (by decide +kernel)

abbrev s_Change_between : Stmt := inClass (top 23) 2
theorem sc_Change_between : FnScope ["cls", "old", "new", "path", "before", "behind"] ["cls", "old", "new"] (C8.fnScope s_Change_between) := C8.fnScope_by (by decide +kernel)

abbrev s_Change_plain : Stmt := inClass (top 23) 3
theorem sc_Change_plain : FnScope ["self", "path", "old", "new"] ["self"] (C8.fnScope s_Change_plain) := C8.fnScope_by (by decide +kernel)

abbrev s_Change_on : Stmt := inClass (top 23) 4
theorem sc_Change_on : FnScope ["self", "files", "torn", "path", "news", "_", "new", "values", "result", "crossed"] ["self", "files"] (C8.fnScope s_Change_on) := C8.fnScope_by (by decide +kernel)

abbrev s_Change_is_apart : Stmt := inClass (top 23) 5
theorem sc_Change_is_apart : FnScope ["self", "other"] ["self", "other"] (C8.fnScope s_Change_is_apart) := C8.fnScope_by (by decide +kernel)

abbrev s_Change_add : Stmt := inClass (top 23) 6
theorem sc_Change_add : FnScope ["self", "other", "shared", "path", "joined"] ["self", "other"] (C8.fnScope s_Change_add) := C8.fnScope_by (by decide +kernel)

abbrev s_Change_neg : Stmt := inClass (top 23) 7
theorem sc_Change_neg : FnScope ["self", "path"] ["self"] (C8.fnScope s_Change_neg) := C8.fnScope_by (by decide +kernel)

abbrev s_Change_eq : Stmt := inClass (top 23) 8
theorem sc_Change_eq : FnScope ["self", "other"] ["self", "other"] (C8.fnScope s_Change_eq) := C8.fnScope_by (by decide +kernel)

abbrev s__check_change : Stmt := top 24
theorem sc__check_change : FnScope ["thing"] ["thing"] (C8.fnScope s__check_change) := C8.fnScope_by (by decide +kernel)

abbrev s__is_row : Stmt := top 25
theorem sc__is_row : FnScope ["thing"] ["thing"] (C8.fnScope s__is_row) := C8.fnScope_by (by decide +kernel)

abbrev s__is_value_or_none : Stmt := top 26
theorem sc__is_value_or_none : FnScope ["thing"] ["thing"] (C8.fnScope s__is_value_or_none) := C8.fnScope_by (by decide +kernel)

abbrev s__lie_at_or_below : Stmt := top 27
theorem sc__lie_at_or_below : FnScope ["rows", "others", "path", "place"] ["rows", "others"] (C8.fnScope s__lie_at_or_below) := C8.fnScope_by (by decide +kernel)

abbrev s_l_cell_at : Stmt := top 29
theorem sc_l_cell_at : FnScope ["_law_script", "_law_k"] ["_law_script", "_law_k"] (C8.fnScope s_l_cell_at) := C8.fnScope_by (by decide +kernel)

abbrev s_l_well : Stmt := top 30
theorem sc_l_well : FnScope ["_law_cell"] ["_law_cell"] (C8.fnScope s_l_well) := C8.fnScope_by (by decide +kernel)

abbrev s_l_draw : Stmt := top 31
theorem sc_l_draw : FnScope ["_law_well_here", "_law_size", "_law_found", "_law_seed", "_law_mixed"] ["_law_well_here", "_law_size"] (C8.fnScope s_l_draw) := C8.fnScope_by (by decide +kernel)

abbrev s_l_pick : Stmt := top 32
theorem sc_l_pick : FnScope ["_law_well_here", "_law_some"] ["_law_well_here", "_law_some"] (C8.fnScope s_l_pick) := C8.fnScope_by (by decide +kernel)

abbrev s_l_some_files : Stmt := top 33
theorem sc_l_some_files : FnScope ["_law_well_here", "_law_most", "_law_found", "_law_k", "_law_value", "_law_some", "_law_near_here"] ["_law_well_here", "_law_most"] (C8.fnScope s_l_some_files) := C8.fnScope_by (by decide +kernel)

abbrev s_l_near : Stmt := top 34
theorem sc_l_near : FnScope ["_law_well_here", "_law_files", "_law_found", "_law_k", "_law_more", "_law_path"] ["_law_well_here", "_law_files"] (C8.fnScope s_l_near) := C8.fnScope_by (by decide +kernel)

abbrev s_l_clashes : Stmt := top 35
theorem sc_l_clashes : FnScope ["_law_files", "_law_found", "_law_path", "_law_other", "_law_k"] ["_law_files"] (C8.fnScope s_l_clashes) := C8.fnScope_by (by decide +kernel)

abbrev s_l_on : Stmt := top 36
theorem sc_l_on : FnScope ["_law_change_here", "_law_files", "e"] ["_law_change_here", "_law_files"] (C8.fnScope s_l_on) := C8.fnScope_by (by decide +kernel)

abbrev s_l_due : Stmt := top 37
theorem sc_l_due : FnScope ["_law_rows", "_law_files", "_law_bad", "_law_path", "_law_found", "_law_value"] ["_law_rows", "_law_files"] (C8.fnScope s_l_due) := C8.fnScope_by (by decide +kernel)

abbrev s_l_change : Stmt := top 38
theorem sc_l_change : FnScope ["_law_well_here", "_law_files", "_law_other", "_law_found", "_law_path"] ["_law_well_here", "_law_files"] (C8.fnScope s_l_change) := C8.fnScope_by (by decide +kernel)

abbrev s_l_apart : Stmt := top 39
theorem sc_l_apart : FnScope ["_law_first", "_law_second", "_law_one", "_law_other"] ["_law_first", "_law_second"] (C8.fnScope s_l_apart) := C8.fnScope_by (by decide +kernel)

abbrev s_l_sum_right : Stmt := top 40
theorem sc_l_sum_right : FnScope ["_law_well_here", "_law_c", "_law_files", "_law_due_here", "_law_base", "_law_second", "_law_d", "_law_goal", "_law_both", "_law_rows", "_law_path", "_law_row"] ["_law_well_here", "_law_c", "_law_files", "_law_due_here"] (C8.fnScope s_l_sum_right) := C8.fnScope_by (by decide +kernel)

abbrev s_l_exchange_right : Stmt := top 41
theorem sc_l_exchange_right : FnScope ["_law_well_here", "_law_c", "_law_first", "_law_files", "_law_bad", "_law_path", "_law_value", "_law_other", "_law_apart_here", "_law_one", "_law_last"] ["_law_well_here", "_law_c", "_law_first", "_law_files"] (C8.fnScope s_l_exchange_right) := C8.fnScope_by (by decide +kernel)

abbrev s_law : Stmt := top 42
theorem sc_law : FnScope ["_law_script", "_law_cell", "_law_well_here", "_law_files", "_law_first", "_law_c", "_law_kept", "_law_due_here", "_law_found", "_law_same"] ["_law_script"] (C8.fnScope s_law) := C8.fnScope_by (by decide +kernel)

structure Top (K : PySem.W.Frag) (mg : Str → Option Value) : Prop where
  d_is_id : IsDef K mg "is_id" s_is_id
  d_is_path : IsDef K mg "is_path" s_is_path
  d_is_segment : IsDef K mg "is_segment" s_is_segment
  d_ascending : IsDef K mg "ascending" s_ascending
  d_prefixes : IsDef K mg "prefixes" s_prefixes
  d__is_word : IsDef K mg "_is_word" s__is_word
  d_is_value : IsDef K mg "is_value" s_is_value
  d_differences : IsDef K mg "differences" s_differences
  d_check_are_files : IsDef K mg "check_are_files" s_check_are_files
  d_crossing : IsDef K mg "crossing" s_crossing
  d__check_change : IsDef K mg "_check_change" s__check_change
  d__is_row : IsDef K mg "_is_row" s__is_row
  d__is_value_or_none : IsDef K mg "_is_value_or_none" s__is_value_or_none
  d__lie_at_or_below : IsDef K mg "_lie_at_or_below" s__lie_at_or_below
  d_l_cell_at : IsDef K mg "_law_cell_at" s_l_cell_at
  d_l_well : IsDef K mg "_law_well" s_l_well
  d_l_draw : IsDef K mg "_law_draw" s_l_draw
  d_l_pick : IsDef K mg "_law_pick" s_l_pick
  d_l_some_files : IsDef K mg "_law_some_files" s_l_some_files
  d_l_near : IsDef K mg "_law_near" s_l_near
  d_l_clashes : IsDef K mg "_law_clashes" s_l_clashes
  d_l_on : IsDef K mg "_law_on" s_l_on
  d_l_due : IsDef K mg "_law_due" s_l_due
  d_l_change : IsDef K mg "_law_change" s_l_change
  d_l_apart : IsDef K mg "_law_apart" s_l_apart
  d_l_sum_right : IsDef K mg "_law_sum_right" s_l_sum_right
  d_l_exchange_right : IsDef K mg "_law_exchange_right" s_l_exchange_right
  d_law : IsDef K mg "law" s_law
  z_ValueError : mg "ValueError" = none
  z_all : mg "all" = none
  z_any : mg "any" = none
  z_dict : mg "dict" = none
  z_int : mg "int" = none
  z_isinstance : mg "isinstance" = none
  z_len : mg "len" = none
  z_list : mg "list" = none
  z_range : mg "range" = none
  z_sorted : mg "sorted" = none
  z_str : mg "str" = none
  z_tuple : mg "tuple" = none
  g_HEX_DIGITS : ∃ u, mg "HEX_DIGITS" = some u ∧ RelV (V.str (Str.ofString "0123456789abcdef")) u
  g_SEGMENT_SIGNS : ∃ u, mg "SEGMENT_SIGNS" = some u ∧ RelV (V.str (Str.ofString "abcdefghijklmnopqrstuvwxyz0123456789._-")) u
  g_LONGEST_WORD : ∃ u, mg "LONGEST_WORD" = some u ∧ RelV (V.int 12) u
section
variable {P : Program} {w : World} {K : PySem.W.Frag} {mg : Str → Option Value} {base : Heap}
def spIsWord : Sp := fun vs H Q _ => ∃ (v : V) (y : Str), vs = [v, .str y] ∧ Thing H v ∧ ∀ H', Same H H' → Q (.bl (evalV (isWordF y) v)) H'
theorem c__is_word (T : Top K mg) : C8.Cal P w K mg base 2 "_is_word" spIsWord [] := by
  refine cal_of T.d__is_word sc__is_word (fun _ _ _ _ _ _ us hl => match us, hl with | [_, _], _ => rfl) (fun vs H Q E h => ?_) (fun f cdv A outer s H vs Q E hr h => ?_)
  · obtain ⟨x, y, rfl, _⟩ := h
    rfl
  · obtain ⟨v, y, rfl, t, q⟩ := h
    refine ⟨_, (pss_one (ps_ret (pe_and (pe_callB call_isi (by rfl) T.z_isinstance (by decide +kernel) (pa_cons (pv 0) (pa_cons (pe_bltn (v := .ty "str") (by rfl) T.z_str (by decide +kernel) rfl) pa_nil))) (pe_and (pe_chain op_le op_le pe_int (pe_callB call_len_str (by rfl) T.z_len (by decide +kernel) (pa_cons (pv 0) pa_nil)) (C8.pe_gc (by rfl) T.g_LONGEST_WORD)) (pe_one (pe_cmpR op_eq (pe_bm PySem.F.plainAttrs_str PySem.F.slot_str_strip PySem.F.type_str_strip mt_stripChars (pv 0) (pa_cons (pv 1) pa_nil)) pe_str (nomark _))))))), ?_⟩
    refine ⟨v, rfl, ?_⟩
    dsimp only [tCons, tC, tNil]
    refine t.isi ?_
    refine ⟨_, rfl, ?_⟩
    rcases t.cases with ⟨x, rfl, hx, ho⟩ | hn
    · refine iteT ⟨.str x, rfl, x, rfl, small_line (by omega), _, _, rfl, rfl, _, rfl, ite2 (fun h1 => ?_) (fun h1 => ?_)⟩
      · have h1 := of_decide_eq_true h1
        refine ⟨_, _, rfl, rfl, _, rfl, ite2 (fun h2 => ?_) (fun h2 => ?_)⟩
        · have h2 := of_decide_eq_true h2
          refine ⟨.str x, rfl, rfl, .str y, rfl, x, y, rfl, rfl, small_line (by omega), rfl, of_ev (q _ (Same.refl _)) (Eq.trans ?_ (strip_none x y).symm)⟩
          unfold isWordF
          rw [decide_eq_true (by omega), decide_eq_true (by omega)]
          rfl
        · have h2 : ¬ x.length ≤ 12 := fun z => h2 (decide_eq_true (by omega))
          refine of_ev (q _ (Same.refl _)) ?_
          unfold isWordF
          rw [decide_eq_false h2, Bool.false_and, Bool.and_false]
      · have h1 : ¬ 1 ≤ x.length := fun z => h1 (decide_eq_true (by omega))
        refine ⟨_, rfl, iteF (of_ev (q _ (Same.refl _)) ?_)⟩
        unfold isWordF
        rw [decide_eq_false h1, Bool.false_and]
    · rw [hn]
      exact iteF (of_ev0 hn (q _ (Same.refl _)))
theorem evalV_split {f : Str → Bool} : evalV f = fun v => match v with | .str x => f x | _ => false := rfl
theorem c_is_segment (T : Top K mg) : C8.Cal P w K mg base 3 "is_segment" (spWord isSegF) [] := by
  refine cal_of T.d_is_segment sc_is_segment (fun _ _ _ _ _ _ us hl => match us, hl with | [_], _ => rfl) (fun vs H Q E h => ?_) (fun f cdv A outer s H vs Q E hr h => ?_)
  · obtain ⟨x, rfl, _⟩ := h
    rfl
  · obtain ⟨v, rfl, t, q⟩ := h
    refine ⟨_, (pss_one (ps_ret (pe_and (C8.pe_c (c__is_word T) hr (by decide) (by rfl) (pa_cons (pv 0) (pa_cons (C8.pe_gc (by rfl) T.g_SEGMENT_SIGNS) pa_nil))) (pe_and (pe_cmpR op_ne (pv 0) pe_str (nomark _)) (pe_one (pe_cmpR op_notin_str pe_str (pv 0) rfl)))))), ?_⟩
    refine ⟨v, rfl, v, SSG, rfl, t, fun H1 s1 => ⟨_, rfl, ?_⟩⟩
    rcases t.cases with ⟨x, rfl, hx, ho⟩ | hn
    · refine ite2 (fun h1 => ?_) (fun h1 => ?_)
      · have h1 : isWordF SSG x = true := h1
        refine ⟨.str x, rfl, rfl, _, rfl, ite2 (fun h2 => ?_) (fun h2 => ?_)⟩
        · refine ⟨.str x, rfl, _, x, rfl, rfl, of_ev (q _ s1) ?_⟩
          have h2 : ¬ x = "." := fun z => by
            rw [z] at h2
            simp at h2
          unfold isSegF
          rw [h1, decide_eq_false h2]
          rfl
        · refine of_ev (q _ s1) ?_
          have h2 : x = "." := Decidable.byContradiction fun z => h2 (by rw [decide_eq_false (fun e => z (V.str.inj e))]; rfl)
          unfold isSegF
          rw [decide_eq_true h2]
          simp
      · have h1 : isWordF SSG x = false := Bool.eq_false_iff.mpr h1
        refine of_ev (q _ s1) ?_
        unfold isSegF
        rw [h1, Bool.false_and]
    · rw [hn]
      exact iteF (of_ev0 hn (q _ s1))
theorem c_is_id (T : Top K mg) : C8.Cal P w K mg base 2 "is_id" (spWord isIdF) [] := by
  refine cal_of T.d_is_id sc_is_id (fun _ _ _ _ _ _ us hl => match us, hl with | [_], _ => rfl) (fun vs H Q E h => ?_) (fun f cdv A outer s H vs Q E hr h => ?_)
  · obtain ⟨x, rfl, _⟩ := h
    rfl
  · obtain ⟨v, rfl, t, q⟩ := h
    refine ⟨_, (pss_one (ps_ret (pe_and (pe_callB call_isi (by rfl) T.z_isinstance (by decide +kernel) (pa_cons (pv 0) (pa_cons (pe_bltn (v := .ty "str") (by rfl) T.z_str (by decide +kernel) rfl) pa_nil))) (pe_and (pe_cmpR op_eq (pe_callB call_len_str (by rfl) T.z_len (by decide +kernel) (pa_cons (pv 0) pa_nil)) pe_int (nomark _)) (pe_one (pe_cmpR op_eq (pe_bm PySem.F.plainAttrs_str PySem.F.slot_str_strip PySem.F.type_str_strip mt_stripChars (pv 0) (pa_cons (C8.pe_gc (by rfl) T.g_HEX_DIGITS) pa_nil)) pe_str (nomark _))))))), ?_⟩
    refine ⟨v, rfl, ?_⟩
    dsimp only [tCons, tC, tNil]
    refine t.isi ?_
    refine ⟨_, rfl, ?_⟩
    rcases t.cases with ⟨x, rfl, hx, ho⟩ | hn
    · refine iteT ⟨.str x, rfl, x, rfl, small_line (by omega), rfl, _, rfl, ite2 (fun h1 => ?_) (fun h1 => ?_)⟩
      · have h1 := V.int.inj (of_decide_eq_true h1)
        refine ⟨.str x, rfl, rfl, x, HEX, rfl, rfl, small_line (by omega), rfl, of_ev (q _ (Same.refl _)) (Eq.trans ?_ (strip_none x HEX).symm)⟩
        unfold isIdF
        rw [decide_eq_true (by omega)]
        rfl
      · have h1 : ¬ x.length = 16 := fun z => h1 (decide_eq_true (by rw [z]; rfl))
        refine of_ev (q _ (Same.refl _)) ?_
        unfold isIdF
        rw [decide_eq_false h1, Bool.false_and]
    · rw [hn]
      exact iteF (of_ev0 hn (q _ (Same.refl _)))
theorem c_is_path (T : Top K mg) : C8.Cal P w K mg base 4 "is_path" (spWord isPathF) [] := by
  refine cal_of T.d_is_path sc_is_path (fun _ _ _ _ _ _ us hl => match us, hl with | [_], _ => rfl) (fun vs H Q E h => ?_) (fun f cdv A outer s H vs Q E hr h => ?_)
  · obtain ⟨x, rfl, _⟩ := h
    rfl
  · obtain ⟨v, rfl, t, q⟩ := h
    refine ⟨_, (pss_cons (ps_if (pt_not (pt_val (pe_callB call_isi (by rfl) T.z_isinstance (by decide +kernel) (pa_cons (pv 0) (pa_cons (pe_bltn (v := .ty "str") (by rfl) T.z_str (by decide +kernel) rfl) pa_nil)))))
      (pss_one (ps_ret pe_bl))
      pss_nil)
      (pss_cons (ps_set (i := 1) sc_is_path.nd rfl (Or.inl rfl) (pe_split (pv 0) pe_str))
      (pss_one (ps_ret (pe_and (pe_cmpR op_le (pe_callB call_len_seq (by rfl) T.z_len (by decide +kernel) (pa_cons (pv 1) pa_nil)) pe_int (nomark _)) (pe_one (pe_callB (cr_all rfl) (by rfl) T.z_all (by decide +kernel) (pa_cons (pe_lc (own := [("segment", 2)]) (g := gName 2) (by rfl) sc_is_path.nd (pi_list (pv 1)) (blkOk_by (own := [("segment", 2)]) (N := ["thing", "segments", "segment"]) (sc := C8.fnScope s_is_path) (by decide +kernel)) (fun _ _ _ _ _ => (pg_name (i := 2) sc_is_path.nd rfl (Or.inl rfl))) (fun _ _ _ _ _ => pts_nil) (fun _ _ _ _ _ => (C8.pe_c (c_is_segment T) hr (by decide) (by rfl) (pa_cons (pv 2) pa_nil)))) pa_nil)))))))), ?_⟩
    refine ⟨v, rfl, ?_⟩
    dsimp only [tCons, tC, tNil]
    refine t.isi ?_
    refine ⟨_, rfl, ?_⟩
    rcases t.cases with ⟨x, rfl, hx, ho⟩ | hn
    · obtain ⟨hl1, hl2⟩ := segs_len x hx
      have ho2 := segs_ok x ho
      refine iteF ⟨.str x, rfl, ⟨x, rfl⟩, x, _, rfl, rfl, rfl, small_line (by omega), fun p hp => ?_⟩
      have sm := same_new (o := .lst ((segs x).map V.str)) hp
      refine ⟨.ref p, rfl, p, (segs x).map V.str, rfl, .inl (.inl (.inl upd_same)), _, _, rfl, rfl, _, rfl, ite2 (fun h1 => ?_) (fun h1 => ?_)⟩
      · have h1 : (segs x).length ≤ 6 := by
          have h1 := of_decide_eq_true h1
          rw [List.length_map] at h1
          omega
        refine ⟨.ref p, rfl, p, rfl, ⟨_, .inl (.inl upd_same)⟩, fun D hD => ?_⟩
        have np : p ≠ D := ne_of_none upd_same hD
        refine lc_pure (i := 2) (us := segs x) (g := V.str) yields_list (fun u => .bl (isSegF u)) (fun _ => true) hD (fun H s => .inl (.inl (s _ _ upd_same))) (fun H u _ hu R r => r H (Same.refl H))
          (fun H u _ hu _ R r => ⟨.str u, rfl, .str u, rfl, .str u (hl2 u hu) (ho2 u hu), fun H' s' => r H' s'⟩) (by omega) (fun H2 s2 h2 => ?_)
        refine ⟨D, (segs x).map isSegF, rfl, .inl (.inl ?_), of_ev (q _ (sm.trans s2)) ?_⟩
        · rw [h2, filt_all, List.map_map]
          rfl
        · unfold isPathF
          rw [decide_eq_true h1, List.all_map]
          rfl
      · have h1 : ¬ (segs x).length ≤ 6 := fun z => h1 (decide_eq_true (by rw [List.length_map]; omega))
        refine of_ev (q _ sm) ?_
        unfold isPathF
        rw [decide_eq_false h1, Bool.false_and]
    · rw [hn]
      exact iteT (of_ev0 hn (q _ (Same.refl _)))
def spAsc : Sp := fun vs H Q _ => ∃ (a : Addr) (t : Tab), vs = [.ref a] ∧ H a = some (.dK (kT t)) ∧ t.length < 64 ∧ ∀ (ys : List Str) (p : Addr) (H' : Hp), ys.Perm (t.map (·.1)) → sortedS ys = true → H p = none → Same H H' → H' p = some (.tup (ys.map V.str)) → Q (.ref p) H'
theorem c_ascending (T : Top K mg) : C8.Cal P w K mg base 1 "ascending" spAsc [] := by
  refine cal_of T.d_ascending sc_ascending (fun _ _ _ _ _ _ us hl => match us, hl with | [_], _ => rfl) (fun vs H Q E h => ?_) (fun f cdv A outer s H vs Q E hr h => ?_)
  · obtain ⟨a, t, rfl, _⟩ := h
    rfl
  · obtain ⟨a, t, rfl, ha, hl, q⟩ := h
    refine ⟨_, (pss_one (ps_ret (pe_callTy call_tuple_of (by rfl) T.z_tuple (by decide +kernel) (pa_cons (pe_callB (cr_sortedS) (by rfl) T.z_sorted (by decide +kernel) (pa_cons (pe_lock (pe_lc (own := [("name", 1)]) (g := gName 1) (by rfl) sc_ascending.nd (pi_keys (pv 0)) (blkOk_by (own := [("name", 1)]) (N := ["names", "name"]) (sc := C8.fnScope s_ascending) (by decide +kernel)) (fun _ _ _ _ _ => (pg_name (i := 1) sc_ascending.nd rfl (Or.inl rfl))) (fun _ _ _ _ _ => pts_nil) (fun _ _ _ _ _ => (pe_callTy SkE.call_str_str (by rfl) T.z_str (by decide +kernel) (pa_cons (pv 1) pa_nil))))) pa_nil)) pa_nil)))), ?_⟩
    refine ⟨a, _, ha, trivial, fun od => ⟨.ref a, rfl, a, od, rfl, .inl ⟨kT t, upd_same, fun D hD => ?_⟩⟩⟩
    have na : D ≠ a := fun z => by
      rw [z, upd_same] at hD
      cases hD
    have Y : Yields (Itk a od (kT t)) ((t.map (·.1)).map V.str) (fun H => H a = some (.frz od (.dK (kT t)))) := by
      rw [← kV_kT]
      exact yields_keys
    refine lc_pure (i := 1) (us := t.map (·.1)) (g := V.str) Y V.str (fun _ => true) hD (fun H s => s _ _ upd_same) (fun H u _ hu R r => r H (Same.refl H))
      (fun H u _ hu _ R r => ⟨_, rfl, u, rfl, r H (Same.refl H)⟩) (by rw [List.length_map]; omega) (fun H2 s2 h2 => ?_)
    rw [filt_all] at h2
    have sm : Same H (upd H2 a (.dK (kT t))) := fun b o e => by
      by_cases hb : b = a
      · rw [hb, upd_same, ← ha, ← hb, e]
      · rw [upd_ne hb]
        exact s2 _ _ (by rw [upd_ne hb]; exact e)
    have hD' : H D = none := by rw [upd_ne na] at hD; exact hD
    refine ⟨s2 _ _ upd_same, D, t.map (·.1), rfl, .inl (.inl ?_), by rw [List.length_map]; exact hl, fun ys p hp hs hn => ?_⟩
    · rw [upd_ne na]
      exact h2
    · refine ⟨p, _, rfl, .inl ⟨.inl (.inl upd_same), fun l hl => ?_⟩⟩
      have np : H p = none := sm.free hn
      have nl : H l = none := (sm.trans (same_new hn)).free hl
      exact q ys l _ hp hs nl ((sm.trans (same_new hn)).trans (same_new hl)) upd_same
end

end Fk

set_option maxHeartbeats 4000000
namespace Fk
open PySem PySem.Spec PyProof.Rows L2
def OTY41 : List String := ["NoneType", "int", "list", "tuple", "dict"]
/-- the class, its error, the kinds of files -/
structure TopC (K : PySem.W.Frag) (mg : Str → Option Value) (C fk cE iF : Addr) : Prop extends Top K mg where
  insC : C8.InsC K C
  mgC : mg "Change" = some (.ref C)
  ini : ∃ f fd, Mk K C f ∧ C8.Fun K "__init__" "Change.__init__" s_Change_init f fd ∧ fd.defaults = .none
  odd : ∀ Ty ∈ OTY41, PySem.W.kitOne K (.type Ty) (.ref C) = some false
  g_FILE_KINDS : ∃ u, mg "FILE_KINDS" = some u ∧ RelV (.ref fk) u
  kF : KTup K fk (FKS.map V.str)
  d_plain : MDef K C "plain" "Change.plain" s_Change_plain
  d_apart : MDef K C "is_apart" "Change.is_apart" s_Change_is_apart
  d_add : MDef K C "__add__" "Change.__add__" s_Change_add
  d_neg : MDef K C "__neg__" "Change.__neg__" s_Change_neg
  d_eq : MDef K C "__eq__" "Change.__eq__" s_Change_eq
  pRows : PDef K C "rows" "Change.rows" s_Change_rows
  nR : NoAttr K C "_rows"
  ne : PySem.W.findIn K (.ref C) "__ne__" = some (some (.builtin "object.__ne__"))
  addF : AddF K C
  addT : ∀ Ty ∈ OTY41, ∃ fo ro, PySem.W.findIn K (.type Ty) "__add__" = some fo ∧ PySem.W.findIn K (.type Ty) "__radd__" = some ro ∧ PySem.W.subIn K (.type Ty) (.ref C) = some false
  notF : ∀ Ty ∈ OTY41, PySem.W.notFirst K C (.type Ty) = true
  notC : PySem.W.notFirst K C (.ref C) = true
  eC : ErrC K mg "BadChange" "why" cE iF
  exC : PySem.W.exmOne K (.ref cE) (.ref cE) = some true
theorem flat_strs (ys : List Str) : (ys.map V.str).all flatV = true := by
  rw [List.all_map]
  exact List.all_eq_true.mpr fun y _ => rfl
section
variable {P : Program} {w : World} {K : PySem.W.Frag} {mg : Str → Option Value} {base : Heap} {C fk cE iF : Addr}
theorem TopC.cl (T : TopC K mg C fk cE iF) : Cls K C := T.insC.cl
theorem TopC.g_Change (T : TopC K mg C fk cE iF) : ∃ u, mg "Change" = some u ∧ RelV (.ref C) u := ⟨_, T.mgC, rfl⟩
theorem isi_tup {H : Hp} {p : Addr} {xs : List V} {Q : VK} (h : TupK K H p xs) (k : Q (.bl true) H) : rIsi K [.ref p, .ty "tuple"] H Q := by
  rcases h with e | ⟨o, its, n, lk, c, _⟩
  · exact ⟨_, _, .type "tuple", .type "tuple", true, rfl, .ty "tuple", .base (.tup e), kit_ty (by decide +kernel), k⟩
  · exact ⟨_, _, .type "tuple", .type "tuple", true, rfl, .ty "tuple", .kTuple lk c, kit_ty (by decide +kernel), k⟩
/-- what is no tuple -/
def NoTup (K : PySem.W.Frag) (H : Hp) (v : V) : Prop := ∃ Ty ∈ (["NoneType", "int", "str", "list", "dict"] : List String), TyX K H v (.type Ty)
theorem noTup_isi {H : Hp} {v : V} (h : NoTup K H v) {R : VK} (r : R (.bl false) H) : rIsi K [v, .ty "tuple"] H R := by
  obtain ⟨Ty, hT, ty⟩ := h
  refine ⟨_, _, .type Ty, .type "tuple", false, rfl, .ty "tuple", ty, ?_, r⟩
  simp only [List.mem_cons, List.not_mem_nil, or_false] at hT
  rcases hT with rfl | rfl | rfl | rfl | rfl <;> exact kit_ty (by decide +kernel)
def spValue (K : PySem.W.Frag) : Sp := fun vs H Q _ => ∃ (v : V) (k : Addr), vs = [v, .ref k] ∧ TupK K H k (FKS.map V.str) ∧ ((∃ (q : Addr) (p : Str × Str), v = .ref q ∧ TupK K H q [.str p.1, .str p.2] ∧ p.1 ∈ FKS ∧ isIdF p.2 = true ∧ ∀ H', Same H H' → Q (.bl true) H') ∨ (NoTup K H v ∧ Q (.bl false) H))
theorem c_is_value (T : Top K mg) : C8.Cal P w K mg base 3 "is_value" (spValue K) [] := by
  refine cal_of T.d_is_value sc_is_value (fun _ _ _ _ _ _ us hl => match us, hl with | [_, _], _ => rfl) (fun vs H Q E h => ?_) (fun f cdv A outer s H vs Q E hr h => ?_)
  · obtain ⟨v, k, rfl, _⟩ := h
    rfl
  · obtain ⟨v, k, rfl, hk, h⟩ := h
    refine ⟨_, (pss_cons (ps_if (PW.pt (pw_or (pt_not (pt_val (pe_callB call_isi (by rfl) T.z_isinstance (by decide +kernel) (pa_cons (pv 0) (pa_cons (pe_bltn (v := .ty "tuple") (by rfl) T.z_tuple (by decide +kernel) rfl) pa_nil))))) (pw_or1 (pt_cmpR op_ne (pe_callB call_len_seq (by rfl) T.z_len (by decide +kernel) (pa_cons (pv 0) pa_nil)) pe_int (nomark _)))))
      (pss_one (ps_ret pe_bl))
      pss_nil)
      (pss_cons (ps_asg (pv 0) (pg_tup rfl (pgs_cons (pg_name (i := 2) sc_is_value.nd rfl (Or.inl rfl)) (pgs_cons (pg_name (i := 3) sc_is_value.nd rfl (Or.inl rfl)) pgs_nil))))
      (pss_one (ps_ret (pe_and (pe_cmpR op_in_seq (pv 2) (pv 1) rfl) (pe_one (C8.pe_c (c_is_id T) hr (by decide) (by rfl) (pa_cons (pv 3) pa_nil)))))))), ?_⟩
    refine ⟨v, rfl, ?_⟩
    dsimp only [tCons, tC, tNil]
    rcases h with ⟨p, pp, rfl, hp, hm, hi, q⟩ | ⟨nt, q⟩
    · refine isi_tup hp ⟨_, rfl, iteF ?_⟩
      refine ⟨.ref p, rfl, p, _, rfl, .inr hp.sq, rfl, _, rfl, iteF ?_⟩
      refine ⟨.ref p, rfl, p, _, rfl, hp.sq, rfl, _, _, rfl, _, _, rfl, rfl, ?_⟩
      refine ⟨.str pp.1, rfl, .ref k, rfl, k, _, rfl, .inr hk.sq, rfl, flat_strs FKS, _, rfl, ifT ?_ ?_⟩
      · unfold inV
        rw [if_neg Bool.false_ne_true, List.any_eq_true]
        exact ⟨.str pp.1, List.mem_map.mpr ⟨pp.1, hm, rfl⟩, by show (pp.1 == pp.1) = true; exact beq_self_eq_true _⟩
      · exact ⟨.str pp.2, rfl, .str pp.2, rfl, .str pp.2 (by have := (ok_idF hi).2; omega) (ok_idF hi).1, fun H' s' => by
          rw [show evalV isIdF (.str pp.2) = true from hi]
          exact q H' s'⟩
    · exact noTup_isi nt ⟨_, rfl, iteT q⟩
/-- what may stand in a row and what may not -/
def spVn (K : PySem.W.Frag) : Sp := fun vs H Q _ => ∃ v : V, vs = [v] ∧ ((∃ f, FvV K H v f ∧ GoodF f ∧ ∀ H', Same H H' → Q (.bl true) H') ∨ (NoTup K H v ∧ v ≠ .non ∧ Q (.bl false) H))
theorem c__is_value_or_none (T : TopC K mg C fk cE iF) : C8.Cal P w K mg base 4 "_is_value_or_none" (spVn K) [] := by
  refine cal_of T.d__is_value_or_none sc__is_value_or_none (fun _ _ _ _ _ _ us hl => match us, hl with | [_], _ => rfl) (fun vs H Q E h => ?_) (fun f cdv A outer s H vs Q E hr h => ?_)
  · obtain ⟨v, rfl, _⟩ := h
    rfl
  · obtain ⟨v, rfl, h⟩ := h
    refine ⟨_, (pss_one (ps_ret (pe_or (pe_cmpR op_isN (pv 0) pe_non (nomark _)) (pe_one (C8.pe_c (c_is_value T.toTop) hr (by decide) (by rfl) (pa_cons (pv 0) (pa_cons (C8.pe_gc (by rfl) T.g_FILE_KINDS) pa_nil))))))), ?_⟩
    refine ⟨v, rfl, rfl, _, rfl, ?_⟩
    rcases h with ⟨g, hv, gg, q⟩ | ⟨nt, nn, q⟩
    · cases g with
      | none =>
        obtain rfl : v = .non := hv
        exact iteT (q _ (Same.refl _))
      | some p =>
        obtain ⟨a, rfl, ha⟩ := hv
        obtain ⟨g1, g2⟩ := gg p rfl
        rw [decide_eq_false (fun z => by cases z)]
        exact iteF ⟨.ref a, rfl, .ref a, fk, rfl, .inr T.kF, .inl ⟨a, p, rfl, ha, g1, g2, q⟩⟩
    · rw [decide_eq_false nn]
      exact iteF ⟨v, rfl, v, fk, rfl, .inr T.kF, .inr ⟨nt, q⟩⟩
/-- what is no row -/
def BadRow (K : PySem.W.Frag) (H : Hp) (v : V) : Prop := NoTup K H v ∨ (∃ q x, v = .ref q ∧ TupK K H q [x]) ∨ ∃ q x y, v = .ref q ∧ TupK K H q [x, y] ∧ NoTup K H x ∧ x ≠ .non
def spRow (K : PySem.W.Frag) : Sp := fun vs H Q _ => ∃ v : V, vs = [v] ∧ ((∃ r, RwV K H v r ∧ GoodR r ∧ ∀ H', Same H H' → Q (.bl true) H') ∨ (BadRow K H v ∧ Q (.bl false) H))
theorem c__is_row (T : TopC K mg C fk cE iF) : C8.Cal P w K mg base 5 "_is_row" (spRow K) [] := by
  refine cal_of T.d__is_row sc__is_row (fun _ _ _ _ _ _ us hl => match us, hl with | [_], _ => rfl) (fun vs H Q E h => ?_) (fun f cdv A outer s H vs Q E hr h => ?_)
  · obtain ⟨v, rfl, _⟩ := h
    rfl
  · obtain ⟨v, rfl, h⟩ := h
    refine ⟨_, (pss_one (ps_ret (pe_and (pe_callB call_isi (by rfl) T.z_isinstance (by decide +kernel) (pa_cons (pv 0) (pa_cons (pe_bltn (v := .ty "tuple") (by rfl) T.z_tuple (by decide +kernel) rfl) pa_nil))) (pe_and (pe_cmpR op_eq (pe_callB call_len_seq (by rfl) T.z_len (by decide +kernel) (pa_cons (pv 0) pa_nil)) pe_int (nomark _)) (pe_and (C8.pe_c (c__is_value_or_none T) hr (by decide) (by rfl) (pa_cons (pe_ix ix_tup (pv 0) pe_int (fun _ _ => rfl)) pa_nil)) (pe_one (C8.pe_c (c__is_value_or_none T) hr (by decide) (by rfl) (pa_cons (pe_ix ix_tup (pv 0) pe_int (fun _ _ => rfl)) pa_nil)))))))), ?_⟩
    refine ⟨v, rfl, ?_⟩
    dsimp only [tCons, tC, tNil]
    rcases h with ⟨r, ⟨a, v1, v2, rfl, ha, h1, h2⟩, ⟨g1, g2⟩, q⟩ | ⟨h, q⟩
    · refine isi_tup ha ⟨_, rfl, iteT ?_⟩
      refine ⟨.ref a, rfl, a, _, rfl, .inr ha.sq, rfl, _, rfl, iteT ?_⟩
      refine ⟨.ref a, rfl, a, _, 0, v1, rfl, rfl, ha.sq, rfl, v1, rfl, .inl ⟨r.1, h1, g1, fun H1 s1 => ⟨_, rfl, iteT ?_⟩⟩⟩
      refine ⟨.ref a, rfl, a, _, 1, v2, rfl, rfl, (ha.keep (TupKeep.of s1)).sq, rfl, v2, rfl, .inl ⟨r.2, h2.keep (TupKeep.of s1), g2, fun H2 s2 => q _ (s1.trans s2)⟩⟩
    · rcases h with nt | ⟨a, x, rfl, ha⟩ | ⟨a, x, y, rfl, ha, nt, nn⟩
      · exact noTup_isi nt ⟨_, rfl, iteF q⟩
      · refine isi_tup ha ⟨_, rfl, iteT ?_⟩
        exact ⟨.ref a, rfl, a, _, rfl, .inr ha.sq, rfl, _, rfl, iteF q⟩
      · refine isi_tup ha ⟨_, rfl, iteT ?_⟩
        refine ⟨.ref a, rfl, a, _, rfl, .inr ha.sq, rfl, _, rfl, iteT ?_⟩
        exact ⟨.ref a, rfl, a, _, 0, x, rfl, rfl, ha.sq, rfl, x, rfl, .inr ⟨nt, nn, _, rfl, iteF q⟩⟩
end

end Fk

set_option maxHeartbeats 4000000
namespace Fk
open PySem PySem.Spec PyProof.Rows L2
theorem fr_sets {a : Addr} {H H1 : Hp} (s : Same H H1) {o : HO} : Fr a H (upd H1 a o) := (Fr.same s).trans Fr.at
section
variable {P : Program} {w : World} {K : PySem.W.Frag} {mg : Str → Option Value} {base : Heap} {C fk cE iF : Addr}
def spChI (K : PySem.W.Frag) (C : Addr) : Sp := fun vs H Q _ => ∃ (a e dx : Addr) (n : Nat) (m : Mp Rw), vs = [.ref a, .ref e] ∧ H a = some (.ins C dx []) ∧ RowsAt K H e n m ∧ n ≤ 60 ∧ ∀ d H', H d = none → Fr a H H' → ChAt K C H' a dx d n m → Q .non H'
theorem k_Change (T : TopC K mg C fk cE iF) : C8.Mak P w K mg base 6 "Change" C (spChI K C) [] := by
  obtain ⟨f, fd, M, F, df⟩ := T.ini
  refine C8.mak0 M T.mgC F (F.binds (ps := ["self", "rows"]) df fun _ _ _ _ _ _ us hl => match us, hl with | [_, _], _ => rfl) .nil sc_Change_init (fun vs H Q E h => ?_) (fun cdv A outer s H vs Q E hr h => ?_)
  · obtain ⟨a, e, dx, n, m, rfl, _⟩ := h
    rfl
  · obtain ⟨a, e, dx, n, m, rfl, ha, ⟨t, he, hH, hO⟩, hn, q⟩ := h
    have nae : a ≠ e := fun z => by rw [z, he] at ha; cases ha
    have hl : t.length ≤ 60 := Nat.le_trans hO.len hn
    refine ⟨_, (pss_cons (ps_if (PW.pt (pw_or (pt_not (pt_val (pe_callB call_isi (by rfl) T.z_isinstance (by decide +kernel) (pa_cons (pv 1) (pa_cons (pe_bltn (v := .ty "dict") (by rfl) T.z_dict (by decide +kernel) rfl) pa_nil))))) (pw_or1 (pt_not (pt_val (pe_callB (cr_all rfl) (by rfl) T.z_all (by decide +kernel) (pa_cons (pe_lock (pe_lc (own := [("path", 2)]) (g := gName 2) (by rfl) sc_Change_init.nd (pi_keys (pv 1)) (blkOk_by (own := [("path", 2)]) (N := ["self", "rows", "path"]) (sc := C8.fnScope s_Change_init) (by decide +kernel)) (fun _ _ _ _ _ => (pg_name (i := 2) sc_Change_init.nd rfl (Or.inl rfl))) (fun _ _ _ _ _ => pts_nil) (fun _ _ _ _ _ => (pe_and (C8.pe_c (c_is_path T.toTop) hr (by decide) (by rfl) (pa_cons (pv 2) pa_nil)) (pe_one (C8.pe_c (c__is_row T) hr (by decide) (by rfl) (pa_cons (pe_dget (hu_of hr) (pv 1) (pv 2) (fun _ _ => rfl)) pa_nil))))))) pa_nil)))))))
      (pss_one ps_never)
      pss_nil)
      (pss_one (ps_fld (pv 0) (pe_dc (own := [("path", 2)]) (g := gName 2) (by rfl) sc_Change_init.nd (pi_tup (C8.pe_c (c_ascending T.toTop) hr (by decide) (by rfl) (pa_cons (pv 1) pa_nil))) (blkOk_by (own := [("path", 2)]) (N := ["self", "rows", "path"]) (sc := C8.fnScope s_Change_init) (by decide +kernel)) (fun _ _ _ _ _ => (pg_name (i := 2) sc_Change_init.nd rfl (Or.inl rfl))) (fun _ _ _ _ _ => pts_nil) (fun _ _ _ _ _ => (pv 2)) (fun _ _ _ _ _ => (pe_dget (hu_of hr) (pv 1) (pv 2) (fun _ _ => rfl)))) rfl))), ?_⟩
    refine ⟨.ref e, rfl, ?_⟩
    dsimp only [tCons, tC, tNil]
    refine ⟨_, _, .type "dict", .type "dict", true, rfl, .ty "dict", .base (.dK he), kit_ty (by decide +kernel), _, rfl, iteF ?_⟩
    refine ⟨e, _, he, trivial, fun od => ⟨.ref e, rfl, e, od, rfl, .inl ⟨kT t, upd_same, fun D hD => ?_⟩⟩⟩
    have Y : Yields (Itk e od (kT t)) ((t.map (·.1)).map V.str) (fun H => H e = some (.frz od (.dK (kT t)))) := by
      rw [← kV_kT]
      exact yields_keys
    have nDe : D ≠ e := lock_ne hD
    have fD : H D = none := lock_free hD
    have k0 : TupKeep H (upd H e (.frz od (.dK (kT t)))) := TupKeep.at fun xs z => by rw [he] at z; cases z
    refine lc_pure (i := 2) (us := t.map (·.1)) (g := V.str) Y (fun _ => .bl true) (fun _ => true) hD (fun H s => s _ _ upd_same) (fun H u _ hu R r => r H (Same.refl H))
      (fun H1 u s1 hu _ R r => ?_) (by rw [List.length_map]; omega) (fun H2 s2 h2 => ?_)
    · obtain ⟨p1, p2, p3⟩ := hO.path u hu
      refine ⟨.str u, rfl, .str u, rfl, .str u (by omega) p3, fun H3 s3 => ⟨_, rfl, ?_⟩⟩
      rw [show evalV isPathF (.str u) = true from p1]
      refine iteT ?_
      have z := hH.mem.mp hu
      cases y : m u with
      | none => rw [y] at z; cases z
      | some r0 =>
        obtain ⟨v, hv, rv⟩ := hH.at y
        have g1 := dget_kT (.inr ⟨od, s3 _ _ (s1 _ _ upd_same)⟩) u
        rw [hv] at g1
        exact ⟨.ref e, rfl, .str u, rfl, e, _, rfl, g1, v, rfl, .inl ⟨r0, (rv.keep k0).keep (TupKeep.of (s1.trans s3)), hO.good u r0 y, fun H4 s4 => r H4 (s3.trans s4)⟩⟩
    · rw [filt_all] at h2
      refine ⟨s2 _ _ upd_same, D, (t.map (·.1)).map fun _ => true, rfl, .inl (.inl ?_), ?_⟩
      · rw [upd_ne nDe, h2, List.map_map, List.map_map, List.map_map]
        rfl
      have hall : ((t.map (·.1)).map fun _ => true).all id = true := List.all_eq_true.mpr fun x hx => by
        obtain ⟨_, _, rfl⟩ := List.mem_map.mp hx
        rfl
      rw [hall]
      refine ⟨_, rfl, iteF ?_⟩
      have s02 : Same H (upd H2 e (.dK (kT t))) := same_unlock s2 he
      generalize upd H2 e (.dK (kT t)) = H3 at s02
      refine ⟨.ref e, rfl, e, t, rfl, s02 _ _ he, by omega, fun ys p H4 hp hs hpn s4 h4 => ?_⟩
      have s04 := s02.trans s4
      have hy : ∀ y ∈ ys, y ∈ t.map (·.1) := fun y hy => hp.mem_iff.mp hy
      refine ⟨p, rfl, ⟨_, SqT.of h4⟩, fun D2 hD2 => ?_⟩
      refine dc_tab (us := ys) (val := V.str) yields_tup (fun y => y) (fun y => (valV t y).getD .non) (fun _ => true) (fun y => [some (.ref a), some (.ref e), some (.str y)]) hD2 (fun H s => SqT.of (s _ _ h4)) (fun _ _ => rfl)
        (fun H u _ _ R k => k) (fun H u _ _ R k => k H (Same.refl H)) (fun H u _ _ _ R k => ⟨_, rfl, k H (Same.refl H)⟩) (fun H5 u s5 hu _ R k => ?_) (by have := hp.length_eq; rw [List.length_map] at this; omega) (by rw [filt_all, List.map_id']; exact hp.nodup_iff.mpr hO.nd) (fun H5 s5 h5 => ?_)
      · have z := mem_val.mp (hy u hu)
        cases hv : valV t u with
        | none => rw [hv] at z; cases z
        | some v =>
          have g1 := dget_kT (.inl (s5 _ _ (s04 _ _ he))) u
          rw [hv] at g1
          rw [hv] at k
          exact ⟨.ref e, rfl, .str u, rfl, e, _, rfl, g1, k H5 (Same.refl H5)⟩
      · have s05 := s04.trans s5
        have fD2 : H D2 = none := s04.free hD2
        have nDa : D2 ≠ a := ne_of_none' fD2 ha
        refine ⟨.ref a, rfl, a, C, dx, _, rfl, s05 _ _ ha, T.cl, T.nR, (by decide), ?_⟩
        refine q D2 _ fD2 (fr_sets s05) ⟨upd_same, ys.map fun y => (y, (valV t y).getD .non), ?_, ?_, ?_, ?_⟩
        · rw [upd_ne nDa, h5, filt_all]
        · refine (hH.perm hp).imp fun v r rv => rv.keep fun b xs z => fr_sets s05 _ _ (fun y => by rw [y, ha] at z; cases z) z
        · have ek : (ys.map fun y => (y, (valV t y).getD V.non)).map (·.1) = ys := by
            rw [List.map_map]
            exact List.map_id' ys
          refine ⟨nd_by (hp.nodup_iff.mpr hO.nd) _, ?_, fun x hx => ?_, hO.good⟩
          · have := hp.length_eq
            rw [List.length_map] at this ⊢
            rw [this]
            exact hO.len
          · rw [ek] at hx
            exact hO.path x (hy x hx)
        · rw [List.map_map]
          rw [show ((fun p : Str × V => p.1) ∘ fun y => (y, (valV t y).getD V.non)) = id from rfl, List.map_id]
          exact hs
end

end Fk

set_option maxHeartbeats 4000000
namespace Fk
open PySem PySem.Spec PyProof.Rows L2
/-- an error with its text, made in a heap that goes on from H -/
def Bad (c : Addr) (H : Hp) (E : XK) : Prop := ∀ (dd : Addr) (y : V) (H' : Hp), Same H H' → H' dd = some (.xd [("why", y)]) → E (.ref c) (some dd) H'
theorem Bad.same {c : Addr} {H H1 : Hp} {E : XK} (b : Bad c H E) (s : Same H H1) : Bad c H1 E := fun dd y H' s' h => b dd y H' (s.trans s') h
theorem made_same {x dx : Addr} {H H2 : Hp} {o u : HO} (hx : H x = none) (hdx : H dx = none) (f : Fr x (upd (upd H dx o) x u) H2) : Same H H2 := fun b q z => by
  have n1 := ne_of_none z hx
  exact f b q n1 (by rw [upd_ne n1, upd_ne (ne_of_none z hdx)]; exact z)
/-- a table is read, also while it is locked -/
theorem dget_two {H H1 : Hp} {d e : Addr} {od : Obj} {t u : Tab} (hd : H d = some (.dK (kT t))) (he : H e = some (.dK (kT u))) (s : Same (upd H d (.frz od (.dK (kT t)))) H1) (x : Str) : DGet H1 e (.str x) (valV u x) := by
  by_cases z : e = d
  · subst z
    rw [hd] at he
    have e1 : kT t = kT u := by injection he with he; injection he
    refine dget_kT (.inr ⟨od, ?_⟩) x
    rw [← e1]
    exact s _ _ upd_same
  · exact dget_kT (.inl (s _ _ (by rw [upd_ne z]; exact he))) x
def fitsM (m m' : Mp Rw) : Prop := ∀ x r r', m x = some r → m' x = some r' → r.2 = r'.1
def sumM (m m' : Mp Rw) : Mp Rw := fun x => match m x, m' x with
  | some r, some r' => some (r.1, r'.2)
  | some r, none => some r
  | none, o => o
section
variable {P : Program} {w : World} {K : PySem.W.Frag} {mg : Str → Option Value} {base : Heap} {C fk cE iF : Addr}
/-- what is no change -/
def NotCh (K : PySem.W.Frag) (H : Hp) (v : V) : Prop := ∃ Ty ∈ OTY41, TyX K H v (.type Ty)
theorem TopC.isC (T : TopC K mg C fk cE iF) {H : Hp} {a dx : Addr} {fs : List (Str × V)} {Q : VK} (h : H a = some (.ins C dx fs)) (k : Q (.bl true) H) : rIsi K [.ref a, .ref C] H Q :=
  ⟨_, _, .ref C, .ref C, _, rfl, .own _, .base (.ins h T.insC.cl T.insC.ha T.insC.hn T.insC.htk T.insC.hm), T.insC.me, k⟩
theorem TopC.isN (T : TopC K mg C fk cE iF) {H : Hp} {v : V} {Q : VK} (h : NotCh K H v) (k : Q (.bl false) H) : rIsi K [v, .ref C] H Q := by
  obtain ⟨Ty, hT, ty⟩ := h
  exact ⟨_, _, .type Ty, .ref C, false, rfl, .own _, ty, T.odd Ty hT, k⟩
def spChk (K : PySem.W.Frag) (C cE : Addr) : Sp := fun vs H Q E => ∃ v : V, vs = [v] ∧ ((∃ a dx fs, v = .ref a ∧ H a = some (.ins C dx fs) ∧ Q .non H) ∨ (NotCh K H v ∧ Bad cE H E))
theorem calX_of {x : Str} {st : Stmt} {N ps : List Str} {k : Nat} {sp : Sp} (D : IsDef K mg x st) (S : FnScope N ps (C8.fnScope st))
    (hb : ∀ (kV doc pm : Value) (an : Option Addr) (cdv ct : Value) (us : List Value), us.length = ps.length → bindArgs (PySem.W.fnOf x x (C8.fnArgs st) (C8.fnBody st) (C8.fnScope st) .none kV doc pm an cdv ct) ⟨us, []⟩ = pure (ps.zip us))
    (len : ∀ vs H Q E, sp vs H Q E → vs.length = ps.length)
    (hbody : ∀ (f : Addr) (cdv : Value) (A : Around) (outer : List Env) (s : Shared) (H : Hp) (vs : List V) (Q : VK) (E : XK), Room k (A.deeper (envOfC x (C8.fnScope st) s.heap.objs.size f cdv)) → sp vs H Q E →
      ∃ t, PSs (cxOf (L2.CX P w) P w K mg base N x (C8.fnScope st) f cdv A outer s H E) (C8.fnBody st) t ∧ t { nx := fun _ H' => Q .non H', rt := Q } (start N vs) H) : CalX P w K mg base (L2.CX P w) (k + 1) x sp [] := by
  obtain ⟨f, fd, D, df⟩ := D
  obtain ⟨oc, od, dV, kV, doc, pm, an, cdv, ct, osl, rfl, lk, hcd⟩ := D.fn.ex
  exact ⟨f, _, ps, [], fn_of lk hcd S len fun A outer s H vs Q E hr hsp => hbody f cdv A outer s H vs Q E hr hsp, D.mgf, D.kp, D.fn.binds df hb, .nil⟩
theorem cx__check_change (T : TopC K mg C fk cE iF) : CalX P w K mg base (L2.CX P w) 3 "_check_change" (spChk K C cE) [] := by
  refine calX_of T.d__check_change sc__check_change (fun _ _ _ _ _ _ us hl => match us, hl with | [_], _ => rfl) (fun vs H Q E h => ?_) (fun f cdv A outer s H vs Q E hr h => ?_)
  · obtain ⟨v, rfl, _⟩ := h
    rfl
  · obtain ⟨v, rfl, h⟩ := h
    refine ⟨_, (pss_one (ps_if (pt_not (pt_val (pe_callB call_isi (by rfl) T.z_isinstance (by decide +kernel) (pa_cons (pv 0) (pa_cons (C8.pe_gc (by rfl) T.g_Change) pa_nil)))))
      (pss_one (ps_raise rfl (takes_of rfl rfl rfl rfl) (rs_of T.eC (hr.mono (by decide)) (by rfl) (pa_cons pe_str pa_nil))))
      pss_nil)), ?_⟩
    refine ⟨v, rfl, ?_⟩
    dsimp only [tCons, tC, tNil]
    rcases h with ⟨a, dx, fs, rfl, ha, q⟩ | ⟨nt, q⟩
    · exact T.isC ha ⟨_, rfl, iteF q⟩
    · exact T.isN nt ⟨_, rfl, iteT ⟨(by show 1 ≤ 1000; decide), do_raise T.eC fun dd H3 s3 _ h3 => q dd _ H3 s3 h3⟩⟩
/-- a change's rows, told: a new dict, in order -/
def spRowsP (K : PySem.W.Frag) (C : Addr) : Sp := fun vs H Q _ => ∃ (a dx d : Addr) (n : Nat) (m : Mp Rw), vs = [.ref a] ∧ ChAt K C H a dx d n m ∧ ∀ p H' t, H p = none → Same H H' → H' p = some (.dK (kT t)) → Holds (RwV K H') t m → RowsOk n t m → sortedS (t.map (·.1)) = true → Q (.ref p) H'
theorem p_Change_rows (T : TopC K mg C fk cE iF) : Prp P w K mg base 1 C "rows" (spRowsP K C) := by
  refine prp_of T.cl T.pRows sc_Change_rows (fun _ _ _ _ _ _ us hl => match us, hl with | [_], _ => rfl) (fun vs H Q E h => ?_) (fun f cdv A outer s H vs Q E hr h => ?_)
  · obtain ⟨a, dx, d, n, m, rfl, _⟩ := h
    rfl
  · obtain ⟨a, dx, d, n, m, rfl, ⟨ha, t, hd, hH, hO, hs⟩, q⟩ := h
    refine ⟨_, (pss_one (ps_ret (pe_callTy call_dictD (by rfl) T.z_dict (by decide +kernel) (pa_cons (pe_fld (pv 0) rfl) pa_nil)))), ?_⟩
    refine ⟨.ref a, rfl, a, C, dx, _, _, rfl, ha, T.cl, T.nR, rfl, d, kT t, rfl, .inl hd, fun p np => ?_⟩
    have sm := same_new (o := .dK (kT t)) np
    exact q p _ t np sm upd_same (hH.imp fun _ _ x => x.keep (TupKeep.of sm)) hO hs
end

end Fk

set_option maxHeartbeats 4000000
namespace Fk
open PySem PySem.Spec PyProof.Rows L2
section
variable {P : Program} {w : World} {K : PySem.W.Frag} {mg : Str → Option Value} {base : Heap} {C fk cE iF : Addr}
def spAdd (K : PySem.W.Frag) (C cE : Addr) : Sp := fun vs H Q E => ∃ (a dx d : Addr) (n : Nat) (m : Mp Rw) (y : V), vs = [.ref a, y] ∧ ChAt K C H a dx d n m ∧
  ((∃ (b dx' d' : Addr) (n' : Nat) (m' : Mp Rw), y = .ref b ∧ ChAt K C H b dx' d' n' m' ∧ n + n' + n ≤ 60 ∧ ((fitsM m m' ∧ ∀ c dx3 d3 H', H c = none → H d3 = none → Same H H' → ChAt K C H' c dx3 d3 (n + n' + n) (sumM m m') → Q (.ref c) H') ∨ (¬ fitsM m m' ∧ Bad cE H E))) ∨ (NotCh K H y ∧ Bad cE H E))
theorem mx_Change_add (T : TopC K mg C fk cE iF) : MetX P w K mg base (L2.CX P w) 8 C "__add__" (spAdd K C cE) [] := by
  refine metX_of T.cl T.d_add sc_Change_add (fun _ _ _ _ _ _ us hl => match us, hl with | [_, _], _ => rfl) (fun vs H Q E h => ?_) (fun f cdv A outer s H vs Q E hr h => ?_)
  · obtain ⟨a, dx, d, n, m, y, rfl, _⟩ := h
    rfl
  · obtain ⟨a, dx, d, n, m, y, rfl, ⟨ha, t, hd, hH, hO, hs⟩, h⟩ := h
    refine ⟨_, (pss_cons (ps_expr (pe_cx (cx__check_change T) hr (by decide) (fun _ => passAt (takes_of rfl rfl rfl rfl) _) (by rfl) (pa_cons (pv 1) pa_nil)))
      (pss_cons (ps_lock (ps_setLc (i := 2) (own := [("path", 3)]) (g := gName 3) (by rfl) sc_Change_add.nd rfl rfl (sw_true rfl rfl rfl (by decide +kernel)) (pi_keys (pe_fld (pv 0) rfl)) (blkOk_by (own := [("path", 3)]) (N := ["self", "other", "shared", "path", "joined"]) (sc := C8.fnScope s_Change_add) (by decide +kernel)) (fun _ _ _ _ _ => (pg_name (i := 3) sc_Change_add.nd rfl (Or.inl rfl))) (fun _ _ _ _ _ => pts_one (pt_cmp (pc_din (hu_of hr) (pv 3) (pe_fldK (K := K) rfl (pv 1) rfl)))) (fun _ _ _ _ _ => (pv 3))))
      (pss_cons (ps_if (pt_not (pt_val (pe_callB (cr_all rfl) (by rfl) T.z_all (by decide +kernel) (pa_cons (pe_lc (own := [("path", 3)]) (g := gName 3) (by rfl) sc_Change_add.nd (pi_list (pv 2)) (blkOk_by (own := [("path", 3)]) (N := ["self", "other", "shared", "path", "joined"]) (sc := C8.fnScope s_Change_add) (by decide +kernel)) (fun _ _ _ _ _ => (pg_name (i := 3) sc_Change_add.nd rfl (Or.inl rfl))) (fun _ _ _ _ _ => pts_nil) (fun _ _ _ _ _ => (pe_cmpR (op_eqFv (K := K) rfl hr.units) (pe_ix (ixK_tup (K := K) rfl) (pe_dget (hu_of hr) (pe_fldK (K := K) rfl (pv 0) rfl) (pv 3) (fun _ _ => rfl)) pe_int (fun _ _ => rfl)) (pe_ix (ixK_tup (K := K) rfl) (pe_dget (hu_of hr) (pe_fldK (K := K) rfl (pv 1) rfl) (pv 3) (fun _ _ => rfl)) pe_int (fun _ _ => rfl)) (nomark _)))) pa_nil))))
      (pss_one (ps_raise rfl (takes_of rfl rfl rfl rfl) (rs_of T.eC (hr.mono (by decide)) (by rfl) (pa_cons pe_str pa_nil))))
      pss_nil)
      (pss_cons (ps_setDc (i := 4) (own := [("path", 3)]) (g := gName 3) (by rfl) sc_Change_add.nd rfl rfl (sw_trueD rfl rfl rfl (by decide +kernel)) (pi_list (pv 2)) (blkOk_by (own := [("path", 3)]) (N := ["self", "other", "shared", "path", "joined"]) (sc := C8.fnScope s_Change_add) (by decide +kernel)) (fun _ _ _ _ _ => (pg_name (i := 3) sc_Change_add.nd rfl (Or.inl rfl))) (fun _ _ _ _ _ => pts_nil) (fun _ _ _ _ _ => (pv 3)) (fun _ _ _ _ _ => (pe_tup (pa_cons (pe_ix (ixK_tup (K := K) rfl) (pe_dget (hu_of hr) (pe_fldK (K := K) rfl (pv 0) rfl) (pv 3) (fun _ _ => rfl)) pe_int (fun _ _ => rfl)) (pa_cons (pe_ix (ixK_tup (K := K) rfl) (pe_dget (hu_of hr) (pe_fldK (K := K) rfl (pv 1) rfl) (pv 3) (fun _ _ => rfl)) pe_int (fun _ _ => rfl)) pa_nil)))))
      (pss_one (ps_ret (C8.pe_mk (k_Change T) hr (by decide) (by rfl) (pa_cons (pe_stars (.cons (pe_fld (pv 0) rfl) (.cons (pe_fld (pv 1) rfl) (.cons (pv 4) .nil))) (by decide) rfl) pa_nil)))))))), ?_⟩
    refine ⟨y, rfl, y, rfl, ?_⟩
    rcases h with ⟨b, dx', d', n', m', rfl, ⟨hb, u, hd', kH, kO, ks⟩, hn, h⟩ | ⟨nc, q⟩
    case inr => exact .inr ⟨nc, q⟩
    refine .inl ⟨b, dx', _, rfl, hb, ?_⟩
    refine ⟨d, _, hd, trivial, fun od => ⟨.ref a, rfl, a, C, dx, _, _, rfl, (by rw [upd_ne (fun z => by rw [z, hd] at ha; cases ha)]; exact ha), T.cl, T.nR, rfl, d, od, rfl, .inl ⟨kT t, upd_same, fun D hD => ?_⟩⟩⟩
    have Y : Yields (Itk d od (kT t)) ((t.map (·.1)).map V.str) (fun H => H d = some (.frz od (.dK (kT t)))) := by
      rw [← kV_kT]
      exact yields_keys
    have nDd : D ≠ d := lock_ne hD
    have fD : H D = none := lock_free hD
    have nbd : b ≠ d := fun z => by rw [z, hd] at hb; cases hb
    have lt : t.length ≤ n := hO.len
    have lu : u.length ≤ n' := kO.len
    refine lc_pure (i := 3) (us := t.map (·.1)) (g := V.str) Y V.str (fun x => (valV u x).isSome) hD (fun H s => s _ _ upd_same) (fun H1 x s1 hx R r => ?_)
      (fun H1 x s1 hx _ R r => ⟨_, rfl, r H1 (Same.refl H1)⟩) (by rw [List.length_map]; omega) (fun H2 s2 h2 => ?_)
    · exact ⟨.str x, rfl, .ref b, rfl, b, C, dx', _, _, rfl, s1 _ _ (by rw [upd_ne nbd]; exact hb), T.cl, T.nR, rfl, d', _, rfl, dget_two hd hd' s1 x, _, rfl, r H1 (Same.refl H1)⟩
    · refine ⟨s2 _ _ upd_same, ?_⟩
      have s02 : Same H (upd H2 d (.dK (kT t))) := same_unlock s2 hd
      have hL : (upd H2 d (.dK (kT t))) D = some (.lst (((t.map (·.1)).filter fun x => (valV u x).isSome).map V.str)) := by rw [upd_ne nDd]; exact h2
      generalize upd H2 d (.dK (kT t)) = H3 at s02 hL
      generalize hsh : ((t.map (·.1)).filter fun x => (valV u x).isSome) = sh at hL
      have msh : ∀ x, x ∈ sh ↔ (m x).isSome = true ∧ (m' x).isSome = true := fun x => by rw [← hsh, List.mem_filter, hH.mem, kH.isSome]
      have lsh : sh.length ≤ n := by
        have := List.length_filter_le (fun x => (valV u x).isSome) (t.map (·.1))
        rw [hsh, List.length_map] at this
        omega
      have ndsh : sh.Nodup := by rw [← hsh]; exact hO.nd.filter _
      refine ⟨.ref D, rfl, D, rfl, ⟨_, SqL.of hL⟩, fun D2 hD2 => ?_⟩
      have row : ∀ {H4 : Hp}, Same H H4 → ∀ x ∈ sh, ∃ q1 q2 v1 v2 w1 w2 r r', m x = some r ∧ m' x = some r' ∧ valV t x = some (.ref q1) ∧ valV u x = some (.ref q2) ∧ TupK K H4 q1 [v1, v2] ∧ TupK K H4 q2 [w1, w2] ∧ FvV K H4 v1 r.1 ∧ FvV K H4 v2 r.2 ∧ FvV K H4 w1 r'.1 ∧ FvV K H4 w2 r'.2 := fun {H4} s4 x hx => by
        obtain ⟨h1, h2⟩ := (msh x).mp hx
        cases e1 : m x with
        | none => rw [e1] at h1; cases h1
        | some r =>
          cases e2 : m' x with
          | none => rw [e2] at h2; cases h2
          | some r' =>
            obtain ⟨v, hv, q1, v1, v2, rfl, t1, f1, f2⟩ := hH.at e1
            obtain ⟨w, hw, q2, w1, w2, rfl, t2, g1, g2⟩ := kH.at e2
            have k4 := TupKeep.of s4
            exact ⟨q1, q2, v1, v2, w1, w2, r, r', rfl, rfl, hv, hw, t1.keep k4, t2.keep k4, f1.keep k4, f2.keep k4, g1.keep k4, g2.keep k4⟩
      refine lc_pure (i := 3) (us := sh) (g := V.str) yields_list (fun x => .bl (decide ((m x).map (·.2) = (m' x).map (·.1)))) (fun _ => true) hD2 (fun H s => SqL.of (s _ _ hL)) (fun H4 x s4 hx R r => r H4 (Same.refl H4))
        (fun H4 x s4 hx _ R k => ?_) (by omega) (fun H4 s4 h4 => ?_)
      · obtain ⟨q1, q2, v1, v2, w1, w2, r, r', e1, e2, hv, hw, t1, t2, f1, f2, g1, g2⟩ := row (s02.trans s4) x hx
        have d1 := dget_kT (.inl (s4 _ _ (s02 _ _ hd))) x
        have d2 := dget_kT (.inl (s4 _ _ (s02 _ _ hd'))) x
        rw [hv] at d1
        rw [hw] at d2
        refine ⟨.ref a, rfl, a, C, dx, _, _, rfl, s4 _ _ (s02 _ _ ha), T.cl, T.nR, rfl, .str x, rfl, d, _, rfl, d1, q1, _, 1, v2, rfl, rfl, t1.sq, rfl, ?_⟩
        refine ⟨.ref b, rfl, b, C, dx', _, _, rfl, s4 _ _ (s02 _ _ hb), T.cl, T.nR, rfl, .str x, rfl, d', _, rfl, d2, q2, _, 0, w1, rfl, rfl, t2.sq, rfl, ?_⟩
        rw [e1, e2] at k
        refine ⟨r.2, r'.1, f2, g1, (hO.good x r e1).2, (kO.good x r' e2).1, ?_⟩
        have e3 : decide (Option.map (fun x : Rw => x.2) (some r) = Option.map (fun x : Rw => x.1) (some r')) = decide (r.2 = r'.1) := decide_eq_decide.mpr ⟨fun z => Option.some.inj z, fun z => congrArg some z⟩
        rw [← e3]
        exact k H4 (Same.refl H4)
      · rw [filt_all] at h4
        have s04 := s02.trans s4
        refine ⟨D2, sh.map fun x => decide ((m x).map (·.2) = (m' x).map (·.1)), rfl, .inl (.inl (by rw [h4, List.map_map]; rfl)), ?_⟩
        have hall : ((sh.map fun x => decide ((m x).map (·.2) = (m' x).map (·.1))).all id = true) ↔ fitsM m m' := by
          rw [List.all_map, List.all_eq_true]
          constructor
          · intro hh x r r' e1 e2
            have := hh x ((msh x).mpr (by rw [e1, e2]; exact ⟨rfl, rfl⟩))
            have := of_decide_eq_true this
            rw [e1, e2] at this
            exact Option.some.inj this
          · intro hh x hx
            obtain ⟨h1, h2⟩ := (msh x).mp hx
            cases e1 : m x with
            | none => rw [e1] at h1; cases h1
            | some r =>
              cases e2 : m' x with
              | none => rw [e2] at h2; cases h2
              | some r' =>
                show decide ((m x).map (·.2) = (m' x).map (·.1)) = true
                rw [e1, e2]
                exact decide_eq_true (congrArg some (hh x r r' e1 e2))
        rcases h with ⟨fit, q⟩ | ⟨nf, q⟩
        · rw [hall.mpr fit]
          refine ⟨_, rfl, iteF ?_⟩
          refine ⟨.ref D, rfl, D, rfl, ⟨_, SqL.of (s4 _ _ hL)⟩, fun D3 hD3 => ?_⟩
          let rf : Str → Rw := fun x => (((m x).getD (none, none)).1, ((m' x).getD (none, none)).2)
          refine dc_hold (us := sh) (val := V.str) yields_list (fun x => x) (RwV K) rf (fun _ => true) (fun x => [some (.ref a), some (.ref b), some (.ref D), some (.str x), none]) hD3 (fun H5 s5 => SqL.of (s5 _ _ (s4 _ _ hL))) (fun _ _ => rfl)
            (fun H5 x _ _ S k => k) (fun H5 x _ _ S k => k H5 (Same.refl H5)) (fun H5 x _ _ _ S k => ⟨_, rfl, k H5 (Same.refl H5)⟩) (fun _ _ _ _ k h => h.keep k) (fun H5 x s5 hx _ S k => ?_) (by omega) (by rw [List.map_id']; exact ndsh) (fun H5 tab s5 h5 pr => ?_)
          · have s05 := s04.trans s5
            obtain ⟨q1, q2, v1, v2, w1, w2, r, r', e1, e2, hv, hw, t1, t2, f1, f2, g1, g2⟩ := row s05 x hx
            have d1 := dget_kT (.inl (s05 _ _ hd)) x
            have d2 := dget_kT (.inl (s05 _ _ hd')) x
            rw [hv] at d1
            rw [hw] at d2
            refine ⟨.ref a, rfl, a, C, dx, _, _, rfl, s05 _ _ ha, T.cl, T.nR, rfl, .str x, rfl, d, _, rfl, d1, q1, _, 0, v1, rfl, rfl, t1.sq, rfl, ?_⟩
            refine ⟨.ref b, rfl, b, C, dx', _, _, rfl, s05 _ _ hb, T.cl, T.nR, rfl, .str x, rfl, d', _, rfl, d2, q2, _, 1, w2, rfl, rfl, t2.sq, rfl, (by show 2 ≤ sizeLine; decide), fun tp ntp => ?_⟩
            have st := same_new (o := .tup [v1, w2]) ntp
            refine k (.ref tp) _ st ⟨tp, v1, w2, rfl, .inl upd_same, ?_, ?_⟩
            · show FvV K _ v1 ((m x).getD (none, none)).1
              rw [e1]
              exact f1.keep (TupKeep.of st)
            · show FvV K _ w2 ((m' x).getD (none, none)).2
              rw [e2]
              exact g2.keep (TupKeep.of st)
          · rw [filt_all] at pr
            have s05 := s04.trans s5
            have ek : tab.map (·.1) = sh := by
              have := paired_keys (R := fun v x => RwV K H5 v (rf x)) pr
              rwa [List.map_id'] at this
            have jH : Holds (RwV K H5) tab (fun x => if x ∈ sh then some (rf x) else none) := holds_paired pr (by rw [List.map_id']; exact ndsh) (fun x hx => if_pos hx) (fun x hx => if_neg (by rwa [List.map_id'] at hx))
            have hH5 := hH.imp fun _ _ x => RwV.keep x (TupKeep.of s05)
            have kH5 := kH.imp fun _ _ x => RwV.keep x (TupKeep.of s05)
            have ndt : Nd tab := by unfold Nd; rw [ek]; exact ndsh
            have ltab : tab.length = sh.length := by rw [← ek, List.length_map]
            obtain ⟨m1, e1, n1, l1, h1⟩ := (Holds.nil (R := RwV K H5)).merge hH5 (by unfold Nd; exact List.nodup_nil) hO.nd
            obtain ⟨m2, e2, n2, l2, h2⟩ := h1.merge kH5 n1 kO.nd
            obtain ⟨m3, e3, n3, l3, h3⟩ := h2.merge jH n2 ndt
            intro p np
            have npd : ∀ {c : Addr} {o : HO}, H5 c = some o → p ≠ c := fun {c o} z y => by rw [y, z] at np; cases np
            have pd := npd (s05 _ _ hd)
            have pd' := npd (s05 _ _ hd')
            have pD := npd h5
            have len0 : ([] : Tab).length = 0 := rfl
            refine ⟨.ref a, rfl, a, C, dx, _, _, rfl, (by rw [upd_ne (npd (s05 _ _ ha)).symm]; exact s05 _ _ ha), T.cl, T.nR, rfl, d, [], kT t, rfl, pd, upd_same, (by rw [upd_ne pd.symm]; exact s05 _ _ hd), small_line (by rw [len_kT]; show 0 + _ ≤ _; omega), ?_⟩
            rw [show ([] : List (Key × V)) = kT [] from rfl, e1, upd_upd]
            refine ⟨.ref b, rfl, b, C, dx', _, _, rfl, (by rw [upd_ne (npd (s05 _ _ hb)).symm]; exact s05 _ _ hb), T.cl, T.nR, rfl, d', kT m1, kT u, rfl, pd', upd_same, (by rw [upd_ne pd'.symm]; exact s05 _ _ hd'), small_line (by rw [len_kT, len_kT]; omega), ?_⟩
            rw [e2, upd_upd]
            refine ⟨.ref D3, rfl, D3, kT m2, kT tab, rfl, pD, upd_same, (by rw [upd_ne pD.symm]; exact h5), small_line (by rw [len_kT, len_kT]; omega), ?_⟩
            rw [e3, upd_upd]
            have sp := same_new (o := .dK (kT m3)) np
            have hp : (upd H5 p (.dK (kT m3))) p = some (.dK (kT m3)) := upd_same
            have h3' := h3.imp fun _ _ x => RwV.keep x (TupKeep.of sp)
            have s06 := s05.trans sp
            generalize upd H5 p (.dK (kT m3)) = H6 at sp hp h3' s06
            have eM : orM (orM (orM (fun _ => none) m) m') (fun x => if x ∈ sh then some (rf x) else none) = sumM m m' := by
              funext x
              unfold orM sumM
              dsimp only
              by_cases hx : x ∈ sh
              · obtain ⟨z1, z2⟩ := (msh x).mp hx
                rw [if_pos hx]
                cases c1 : m x with
                | none => rw [c1] at z1; cases z1
                | some r =>
                  cases c2 : m' x with
                  | none => rw [c2] at z2; cases z2
                  | some r' =>
                    show some (rf x) = _
                    show some (((m x).getD (none, none)).1, ((m' x).getD (none, none)).2) = _
                    rw [c1, c2]
                    rfl
              · rw [if_neg hx]
                cases c1 : m x with
                | none => cases c2 : m' x <;> rfl
                | some r =>
                  cases c2 : m' x with
                  | none => rfl
                  | some r' => exact absurd ((msh x).mpr (by rw [c1, c2]; exact ⟨rfl, rfl⟩)) hx
            rw [eM] at h3'
            have rO : RowsOk (n + n' + n) m3 (sumM m m') := by
              refine ⟨n3, by omega, fun x hx => ?_, fun x r e => ?_⟩
              · have z := h3'.mem.mp hx
                unfold sumM at z
                cases c1 : m x with
                | some r => exact hO.path x (hH.mem.mpr (by rw [c1]; rfl))
                | none =>
                  cases c2 : m' x with
                  | some r => exact kO.path x (kH.mem.mpr (by rw [c2]; rfl))
                  | none => rw [c1, c2] at z; cases z
              · unfold sumM at e
                cases c1 : m x with
                | none =>
                  rw [c1] at e
                  exact kO.good x r e
                | some r1 =>
                  cases c2 : m' x with
                  | none => rw [c1, c2] at e; cases e; exact hO.good x _ c1
                  | some r2 => rw [c1, c2] at e; cases e; exact ⟨(hO.good x _ c1).1, (kO.good x _ c2).2⟩
            refine fun A0 dx0 hA hdx ndx => ⟨A0, p, dx0, n + n' + n, sumM m m', rfl, upd_same, ?_, hn, fun d3 H7 hd3 f7 k7 => ⟨rfl, ?_⟩⟩
            · have sA : Same H6 (upd (upd H6 dx0 (.own A0)) A0 (.ins C dx0 [])) := fun b q z => by
                rw [upd_ne (ne_of_none z hA), upd_ne (ne_of_none z hdx)]
                exact z
              exact RowsAt.same ⟨m3, hp, h3', rO⟩ sA
            · have s67 := made_same hA hdx f7
              have fd3 : H d3 = none := s06.free (by
                have := hd3
                by_cases z : d3 = A0
                · rw [z]; exact hA
                · rw [upd_ne z] at this
                  by_cases z2 : d3 = dx0
                  · rw [z2]; exact hdx
                  · rwa [upd_ne z2] at this)
              exact q A0 dx0 d3 H7 (s06.free hA) fd3 (s06.trans s67) k7
        · rw [Bool.eq_false_iff.mpr fun z => nf (hall.mp z)]
          exact ⟨_, rfl, iteT ⟨(by show 1 ≤ 1000; decide), do_raise T.eC fun dd H5 s5 _ h5 => q dd _ H5 (s04.trans s5) h5⟩⟩
end

end Fk

set_option maxHeartbeats 4000000
namespace Fk
open PySem PySem.Spec PyProof.Rows L2
theorem val_memE {t : Tab} (nd : Nd t) {p : Str × V} (hp : p ∈ t) : valV t p.1 = some p.2 := by
  induction t with
  | nil => cases hp
  | cons q l ih =>
    obtain ⟨h1, h2⟩ := List.nodup_cons.mp (show ((q :: l).map (·.1)).Nodup from nd)
    rcases List.mem_cons.mp hp with z | z
    · rw [z, show q = (q.1, q.2) from rfl, valV_pos rfl]
    · rw [valV_neg (fun e => h1 (by dsimp only; rw [e]; exact List.mem_map.mpr ⟨p, z, rfl⟩))]
      exact ih h2 z
/-- the rows of a table, one by one -/
theorem rows_list {K : PySem.W.Frag} {H : Hp} {t : Tab} {m : Mp Rw} (nd : Nd t) (h : Holds (RwV K H) t m) : ∃ us : List (Str × V × V × Rw), us.map (·.1) = t.map (·.1) ∧ us.length = t.length ∧
    ∀ (k : Nat) (u : Str × V × V × Rw), us[k]? = some u → ∃ q : Addr, t[k]? = some (u.1, .ref q) ∧ TupK K H q [u.2.1, u.2.2.1] ∧ FvV K H u.2.1 u.2.2.2.1 ∧ FvV K H u.2.2.1 u.2.2.2.2 ∧ m u.1 = some u.2.2.2 := by
  have key : ∀ l : Tab, (∀ p ∈ l, p ∈ t) → ∃ us : List (Str × V × V × Rw), us.map (·.1) = l.map (·.1) ∧ us.length = l.length ∧ ∀ (k : Nat) (u : Str × V × V × Rw), us[k]? = some u → ∃ q : Addr, l[k]? = some (u.1, .ref q) ∧ TupK K H q [u.2.1, u.2.2.1] ∧ FvV K H u.2.1 u.2.2.2.1 ∧ FvV K H u.2.2.1 u.2.2.2.2 ∧ m u.1 = some u.2.2.2 := by
    intro l
    induction l with
    | nil => intro _; exact ⟨[], rfl, rfl, fun k u e => by simp at e⟩
    | cons p l ih =>
      intro hl
      obtain ⟨us, e1, e2, e3⟩ := ih fun q hq => hl q (List.mem_cons_of_mem _ hq)
      obtain ⟨r, hr, q, v1, v2, ev, t1, f1, f2⟩ := h.at' (val_memE nd (hl p List.mem_cons_self))
      refine ⟨(p.1, v1, v2, r) :: us, by rw [List.map_cons, List.map_cons, e1], by rw [List.length_cons, List.length_cons, e2], fun k u e => ?_⟩
      cases k with
      | zero =>
        rw [List.getElem?_cons_zero] at e
        cases e
        exact ⟨q, by rw [List.getElem?_cons_zero, ← ev], t1, f1, f2, hr⟩
      | succ k =>
        rw [List.getElem?_cons_succ] at e ⊢
        exact e3 k u e
  exact key t fun p hp => hp
def negM (m : Mp Rw) : Mp Rw := fun x => (m x).map fun r => (r.2, r.1)
def plainM (m : Mp Rw) : Mp Rw := fun x => (m x).bind fun r => if r.1 = r.2 then none else some r
section
variable {P : Program} {w : World} {K : PySem.W.Frag} {mg : Str → Option Value} {base : Heap} {C fk cE iF : Addr}
/-- Change(a dict of rows) -/
theorem do_change {H : Hp} {p : Addr} {n : Nat} {m : Mp Rw} {Q : VK} (hp : RowsAt K H p n m) (hn : n ≤ 60) (q : ∀ c dx3 d3 H', H c = none → H d3 = none → Same H H' → ChAt K C H' c dx3 d3 n m → Q (.ref c) H') :
    ∀ x dx, H x = none → H dx = none → dx ≠ x → spChI K C (.ref x :: ([.ref p] ++ [])) (upd (upd H dx (.own x)) x (.ins C dx [])) (fun v H2 => v = .non ∧ Q (.ref x) H2) C8.E0 := by
  intro A0 dx0 hA hdx ndx
  refine ⟨A0, p, dx0, n, m, rfl, upd_same, ?_, hn, fun d3 H7 hd3 f7 k7 => ⟨rfl, ?_⟩⟩
  · exact hp.same fun b q z => by
      rw [upd_ne (ne_of_none z hA), upd_ne (ne_of_none z hdx)]
      exact z
  · have s67 := made_same hA hdx f7
    have fd3 : H d3 = none := by
      have := hd3
      by_cases z : d3 = A0
      · rw [z]; exact hA
      · rw [upd_ne z] at this
        by_cases z2 : d3 = dx0
        · rw [z2]; exact hdx
        · rwa [upd_ne z2] at this
    exact q A0 dx0 d3 H7 hA fd3 s67 k7
def spNeg (K : PySem.W.Frag) (C : Addr) : Sp := fun vs H Q _ => ∃ (a dx d : Addr) (n : Nat) (m : Mp Rw), vs = [.ref a] ∧ ChAt K C H a dx d n m ∧ n ≤ 60 ∧ ∀ c dx3 d3 H', H c = none → H d3 = none → Same H H' → ChAt K C H' c dx3 d3 n (negM m) → Q (.ref c) H'
theorem m_Change_neg (T : TopC K mg C fk cE iF) : C8.Met P w K mg base 8 C "__neg__" (spNeg K C) [] := by
  refine met_of T.cl T.d_neg sc_Change_neg (fun _ _ _ _ _ _ us hl => match us, hl with | [_], _ => rfl) (fun vs H Q E h => ?_) (fun f cdv A outer s H vs Q E hr h => ?_)
  · obtain ⟨a, dx, d, n, m, rfl, _⟩ := h
    rfl
  · obtain ⟨a, dx, d, n, m, rfl, ⟨ha, t, hd, hH, hO, hs⟩, hn, q⟩ := h
    refine ⟨_, (pss_one (ps_ret (C8.pe_mk (k_Change T) hr (by decide) (by rfl) (pa_cons (pe_lock (pe_dc (own := [("path", 1)]) (g := gName 1) (by rfl) sc_Change_neg.nd (pi_keys (pe_fld (pv 0) rfl)) (blkOk_by (own := [("path", 1)]) (N := ["self", "path"]) (sc := C8.fnScope s_Change_neg) (by decide +kernel)) (fun _ _ _ _ _ => (pg_name (i := 1) sc_Change_neg.nd rfl (Or.inl rfl))) (fun _ _ _ _ _ => pts_nil) (fun _ _ _ _ _ => (pv 1)) (fun _ _ _ _ _ => (pe_tup (pa_cons (pe_ix (ixK_tup (K := K) rfl) (pe_dget (hu_of hr) (pe_fldK (K := K) rfl (pv 0) rfl) (pv 1) (fun _ _ => rfl)) pe_int (fun _ _ => rfl)) (pa_cons (pe_ix (ixK_tup (K := K) rfl) (pe_dget (hu_of hr) (pe_fldK (K := K) rfl (pv 0) rfl) (pv 1) (fun _ _ => rfl)) pe_int (fun _ _ => rfl)) pa_nil)))))) pa_nil)))), ?_⟩
    have nad : a ≠ d := fun z => by rw [z, hd] at ha; cases ha
    have lt : t.length ≤ n := hO.len
    refine ⟨d, _, hd, trivial, fun od => ⟨.ref a, rfl, a, C, dx, _, _, rfl, (by rw [upd_ne nad]; exact ha), T.cl, T.nR, rfl, d, od, rfl, .inl ⟨kT t, upd_same, fun D hD => ?_⟩⟩⟩
    have Y : Yields (Itk d od (kT t)) ((t.map (·.1)).map V.str) (fun H => H d = some (.frz od (.dK (kT t)))) := by
      rw [← kV_kT]
      exact yields_keys
    have nDd : D ≠ d := lock_ne hD
    have fD : H D = none := lock_free hD
    have k0 : TupKeep H (upd H d (.frz od (.dK (kT t)))) := TupKeep.at fun xs z => by rw [hd] at z; cases z
    let rf : Str → Rw := fun x => (((m x).getD (none, none)).2, ((m x).getD (none, none)).1)
    refine dc_hold (us := t.map (·.1)) (val := V.str) Y (fun x => x) (RwV K) rf (fun _ => true) (fun x => [some (.ref a), some (.str x)]) hD (fun H5 s5 => s5 _ _ upd_same) (fun _ _ => rfl)
      (fun H5 x _ _ S k => k) (fun H5 x _ _ S k => k H5 (Same.refl H5)) (fun H5 x _ _ _ S k => ⟨_, rfl, k H5 (Same.refl H5)⟩) (fun _ _ _ _ k h => h.keep k) (fun H5 x s5 hx _ S k => ?_) (by rw [List.length_map]; omega) (by rw [List.map_id']; exact hO.nd) (fun H5 tab s5 h5 pr => ?_)
    · have z := hH.mem.mp hx
      cases e1 : m x with
      | none => rw [e1] at z; cases z
      | some r =>
        obtain ⟨v, hv, q1, v1, v2, rfl, t1, f1, f2⟩ := hH.at e1
        have k5 := k0.trans (TupKeep.of s5)
        have d1 := dget_kT (.inr ⟨od, s5 _ _ upd_same⟩) x
        rw [hv] at d1
        have ha5 : H5 a = some (.ins C dx [("_rows", .ref d)]) := s5 _ _ (by rw [upd_ne nad]; exact ha)
        refine ⟨.ref a, rfl, a, C, dx, _, _, rfl, ha5, T.cl, T.nR, rfl, .str x, rfl, d, _, rfl, d1, q1, _, 1, v2, rfl, rfl, (t1.keep k5).sq, rfl, ?_⟩
        refine ⟨.ref a, rfl, a, C, dx, _, _, rfl, ha5, T.cl, T.nR, rfl, .str x, rfl, d, _, rfl, d1, q1, _, 0, v1, rfl, rfl, (t1.keep k5).sq, rfl, (by show 2 ≤ sizeLine; decide), fun tp ntp => ?_⟩
        have st := same_new (o := .tup [v2, v1]) ntp
        refine k (.ref tp) _ st ⟨tp, v2, v1, rfl, .inl upd_same, ?_, ?_⟩
        · show FvV K _ v2 ((m x).getD (none, none)).2
          rw [e1]
          exact (f2.keep k5).keep (TupKeep.of st)
        · show FvV K _ v1 ((m x).getD (none, none)).1
          rw [e1]
          exact (f1.keep k5).keep (TupKeep.of st)
    · rw [filt_all] at pr
      refine ⟨s5 _ _ upd_same, ?_⟩
      have s06 : Same H (upd H5 d (.dK (kT t))) := same_unlock s5 hd
      have k6 : TupKeep H5 (upd H5 d (.dK (kT t))) := TupKeep.at fun xs z => by rw [s5 _ _ upd_same] at z; cases z
      have ek : tab.map (·.1) = t.map (·.1) := by
        have := paired_keys (R := fun v x => RwV K H5 v (rf x)) pr
        rwa [List.map_id'] at this
      have jH : Holds (RwV K H5) tab (negM m) := by
        refine holds_paired pr (by rw [List.map_id']; exact hO.nd) (fun x hx => ?_) (fun x hx => ?_)
        · have z := hH.mem.mp hx
          unfold negM
          cases e1 : m x with
          | none => rw [e1] at z; cases z
          | some r =>
            show some (r.2, r.1) = some (((m x).getD (none, none)).2, ((m x).getD (none, none)).1)
            rw [e1]
            rfl
        · rw [List.map_id'] at hx
          unfold negM
          cases e1 : m x with
          | none => rfl
          | some r => exact absurd (hH.mem.mpr (by rw [e1]; rfl)) hx
      have hR : RowsAt K (upd H5 d (.dK (kT t))) D n (negM m) := by
        refine ⟨tab, by rw [upd_ne nDd]; exact h5, jH.imp fun _ _ x => x.keep k6, by unfold Nd; rw [ek]; exact hO.nd, ?_, fun x hx => hO.path x (by rw [← ek]; exact hx), fun x r e => ?_⟩
        · have := congrArg List.length ek
          rw [List.length_map, List.length_map] at this
          omega
        · unfold negM at e
          cases e1 : m x with
          | none => rw [e1] at e; cases e
          | some r1 =>
            rw [e1] at e
            cases e
            exact ⟨(hO.good x r1 e1).2, (hO.good x r1 e1).1⟩
      exact do_change hR hn fun c dx3 d3 H' f1 f2 s' k' => q c dx3 d3 H' (s06.free f1) (s06.free f2) (s06.trans s') k'
def spPlain (K : PySem.W.Frag) (C : Addr) : Sp := fun vs H Q _ => ∃ (a dx d : Addr) (n : Nat) (m : Mp Rw), vs = [.ref a] ∧ ChAt K C H a dx d n m ∧ n ≤ 60 ∧ ∀ c dx3 d3 H', H c = none → H d3 = none → Same H H' → ChAt K C H' c dx3 d3 n (plainM m) → Q (.ref c) H'
theorem m_Change_plain (T : TopC K mg C fk cE iF) : C8.Met P w K mg base 8 C "plain" (spPlain K C) [] := by
  refine met_of T.cl T.d_plain sc_Change_plain (fun _ _ _ _ _ _ us hl => match us, hl with | [_], _ => rfl) (fun vs H Q E h => ?_) (fun f cdv A outer s H vs Q E hr h => ?_)
  · obtain ⟨a, dx, d, n, m, rfl, _⟩ := h
    rfl
  · obtain ⟨a, dx, d, n, m, rfl, ⟨ha, t, hd, hH, hO, hs⟩, hn, q⟩ := h
    refine ⟨_, (pss_one (ps_ret (C8.pe_mk (k_Change T) hr (by decide) (by rfl) (pa_cons (pe_lock (pe_dc (own := [("path", 1), ("old", 2), ("new", 3)]) (g := _) (by rfl) sc_Change_plain.nd (pi_items (pe_fld (pv 0) rfl)) (blkOk_by (own := [("path", 1), ("old", 2), ("new", 3)]) (N := ["self", "path", "old", "new"]) (sc := C8.fnScope s_Change_plain) (by decide +kernel)) (fun _ _ _ _ _ => (pg_tupK (K := K) (n := 2) rfl rfl (pgs_cons (pg_name (i := 1) sc_Change_plain.nd rfl (Or.inl rfl)) (pgs_cons (pg_tupK (K := K) (n := 2) rfl rfl (pgs_cons (pg_name (i := 2) sc_Change_plain.nd rfl (Or.inl rfl)) (pgs_cons (pg_name (i := 3) sc_Change_plain.nd rfl (Or.inl rfl)) pgs_nil))) pgs_nil)))) (fun _ _ _ _ _ => pts_one (pt_cmpR (op_neFv (K := K) rfl hr.units) (pv 2) (pv 3) (nomark _))) (fun _ _ _ _ _ => (pv 1)) (fun _ _ _ _ _ => (pe_tup (pa_cons (pv 2) (pa_cons (pv 3) pa_nil)))))) pa_nil)))), ?_⟩
    have nad : a ≠ d := fun z => by rw [z, hd] at ha; cases ha
    have lt : t.length ≤ n := hO.len
    refine ⟨d, _, hd, trivial, fun od => ⟨.ref a, rfl, a, C, dx, _, _, rfl, (by rw [upd_ne nad]; exact ha), T.cl, T.nR, rfl, d, od, _, rfl, upd_same, fun D hD => ?_⟩⟩
    have nDd : D ≠ d := lock_ne hD
    have fD : H D = none := lock_free hD
    have k0 : TupKeep H (upd H d (.frz od (.dK (kT t)))) := TupKeep.at fun xs z => by rw [hd] at z; cases z
    obtain ⟨us, eu, lu, ur⟩ := rows_list hO.nd hH
    have ndu : (us.map (·.1)).Nodup := by rw [eu]; exact hO.nd
    have lk : (kT t).length = us.length := by rw [len_kT, lu]
    have at_ : ∀ {H5 : Hp} {u : Str × V × V × Rw}, Same (upd H d (.frz od (.dK (kT t)))) H5 → u ∈ us → ∃ q0, TupK K H5 q0 [u.2.1, u.2.2.1] ∧ FvV K H5 u.2.1 u.2.2.2.1 ∧ FvV K H5 u.2.2.1 u.2.2.2.2 ∧ m u.1 = some u.2.2.2 := fun {H5 u} s5 hu => by
      obtain ⟨k, hk⟩ := List.getElem?_of_mem hu
      obtain ⟨q0, _, t1, f1, f2, e⟩ := ur k u hk
      have k5 := k0.trans (TupKeep.of s5)
      exact ⟨q0, t1.keep k5, f1.keep k5, f2.keep k5, e⟩
    refine dc_holdS (us := us) (G := fun H5 => H5 d = some (.frz od (.dK (kT t)))) (fun k H5 g hk => ⟨g, by rw [lk]; exact hk⟩) (fun H5 g => ⟨g, Nat.le_of_eq lk⟩) (fun u => u.1) (RwV K) (fun u => u.2.2.2) (fun u => !decide (u.2.2.2.1 = u.2.2.2.2)) (fun u => [some (.ref a), some (.str u.1), some u.2.1, some u.2.2.1]) hD (fun H5 s5 => s5 _ _ upd_same) (fun _ _ => rfl)
      (fun k H5 u x H6 s5 hu hy => ?_) (fun H5 u s5 hu S k => ?_) (fun H5 u s5 hu _ S k => ⟨_, rfl, k H5 (Same.refl H5)⟩) (fun _ _ _ _ k h => h.keep k) (fun H5 u s5 hu _ S k => ?_) (by rw [lu]; omega) ndu (fun H5 tab s5 h5 pr => ?_)
    · obtain ⟨T0, k', v, hkv, rfl, nT, rfl⟩ := hy
      have sT := same_new (o := .tup [kV k', v]) nT
      refine ⟨sT, fun S hS => ?_⟩
      have hm : u ∈ us := List.mem_of_getElem? hu
      obtain ⟨q0, e1, t1, f1, f2, _⟩ := ur k u hu
      have e2 : (kT t)[k]? = some (.inr u.1, .ref q0) := by
        unfold kT
        rw [List.getElem?_map, e1]
        rfl
      rw [e2] at hkv
      cases hkv
      have t1' : TupK K (upd H5 T0 (.tup [V.str u.1, .ref q0])) q0 [u.2.1, u.2.2.1] := (t1.keep k0).keep (TupKeep.of (s5.trans sT))
      exact ⟨T0, _, rfl, SqT.of upd_same, rfl, _, _, rfl, _, _, rfl, q0, _, rfl, t1'.sq, rfl, _, _, rfl, _, _, rfl, rfl, rfl, hS⟩
    · obtain ⟨q0, t1, f1, f2, e⟩ := at_ s5 hu
      have g := hO.good u.1 _ e
      exact ⟨u.2.1, rfl, u.2.2.1, rfl, _, _, f1, f2, g.1, g.2, _, rfl, k H5 (Same.refl H5)⟩
    · obtain ⟨q0, t1, f1, f2, e⟩ := at_ s5 hu
      refine ⟨_, rfl, _, rfl, (by show 2 ≤ sizeLine; decide), fun tp ntp => ?_⟩
      have st := same_new (o := .tup [u.2.1, u.2.2.1]) ntp
      exact k (.ref tp) _ st ⟨tp, _, _, rfl, .inl upd_same, f1.keep (TupKeep.of st), f2.keep (TupKeep.of st)⟩
    · refine ⟨s5 _ _ upd_same, ?_⟩
      have s06 : Same H (upd H5 d (.dK (kT t))) := same_unlock s5 hd
      have k6 : TupKeep H5 (upd H5 d (.dK (kT t))) := TupKeep.at fun xs z => by rw [s5 _ _ upd_same] at z; cases z
      have mu : ∀ x, x ∈ us.map (·.1) ↔ (m x).isSome = true := fun x => by rw [eu, hH.mem]
      have sub : ((us.filter fun u => !decide (u.2.2.2.1 = u.2.2.2.2)).map (·.1)).Nodup := ndu.sublist ((List.filter_sublist).map _)
      have ek := paired_keys (R := fun v (u : Str × V × V × Rw) => RwV K H5 v u.2.2.2) pr
      have uniq : ∀ u ∈ us, m u.1 = some u.2.2.2 := fun u hu => by
        obtain ⟨k, hk⟩ := List.getElem?_of_mem hu
        obtain ⟨_, _, _, _, _, e⟩ := ur k u hk
        exact e
      have jH : Holds (RwV K H5) tab (plainM m) := by
        refine holds_paired pr sub (fun u hu => ?_) (fun x hx => ?_)
        · obtain ⟨h1, h2⟩ := List.mem_filter.mp hu
          unfold plainM
          rw [uniq u h1]
          show (if u.2.2.2.1 = u.2.2.2.2 then none else some u.2.2.2) = _
          rw [if_neg (fun z => by rw [decide_eq_true z] at h2; cases h2)]
        · unfold plainM
          cases e1 : m x with
          | none => rfl
          | some r =>
            show (if r.1 = r.2 then none else some r) = none
            by_cases z : r.1 = r.2
            · rw [if_pos z]
            · exfalso
              obtain ⟨u, hu, rfl⟩ := List.mem_map.mp ((mu x).mpr (by rw [e1]; rfl))
              have e2 := uniq u hu
              rw [e1] at e2
              cases e2
              exact hx (List.mem_map.mpr ⟨u, List.mem_filter.mpr ⟨hu, by rw [decide_eq_false z]; rfl⟩, rfl⟩)
      have hR : RowsAt K (upd H5 d (.dK (kT t))) D n (plainM m) := by
        refine ⟨tab, by rw [upd_ne nDd]; exact h5, jH.imp fun _ _ x => x.keep k6, by unfold Nd; rw [ek]; exact sub, ?_, fun x hx => ?_, fun x r e => ?_⟩
        · have e2 := congrArg List.length ek
          have := List.length_filter_le (fun u : Str × V × V × Rw => !decide (u.2.2.2.1 = u.2.2.2.2)) us
          rw [List.length_map, List.length_map] at e2
          omega
        · rw [ek] at hx
          obtain ⟨u, hu, rfl⟩ := List.mem_map.mp hx
          exact hO.path _ (by rw [← eu]; exact List.mem_map.mpr ⟨u, (List.mem_filter.mp hu).1, rfl⟩)
        · unfold plainM at e
          cases e1 : m x with
          | none => rw [e1] at e; cases e
          | some r1 =>
            rw [e1] at e
            have e : (if r1.1 = r1.2 then none else some r1) = some r := e
            split at e
            · cases e
            · cases e
              exact hO.good x r e1
      exact do_change hR hn fun c dx3 d3 H' f1 f2 s' k' => q c dx3 d3 H' (s06.free f1) (s06.free f2) (s06.trans s') k'
end

end Fk

set_option maxHeartbeats 4000000
namespace Fk
open PySem PySem.Spec PyProof.Rows L2
theorem pss_vac {X : Cx} {sts : List Stmt} : PSs X sts (fun _ _ _ => False) := ⟨fun _ _ _ _ _ _ h => h.elim⟩
section
variable {P : Program} {w : World} {K : PySem.W.Frag} {mg : Str → Option Value} {base : Heap} {C fk cE iF : Addr}
def spEqC (K : PySem.W.Frag) (C : Addr) : Sp := fun vs H Q _ => ∃ (a dx d : Addr) (n : Nat) (m : Mp Rw) (y : V), vs = [.ref a, y] ∧ ChAt K C H a dx d n m ∧
  ((∃ (b dx' d' : Addr) (n' : Nat) (m' : Mp Rw), y = .ref b ∧ ChAt K C H b dx' d' n' m' ∧ ∀ c : Bool, (c = true ↔ m = m') → Q (.bl c) H) ∨ (NotCh K H y ∧ Q (.bl false) H))
theorem m_Change_eq (T : TopC K mg C fk cE iF) : C8.Met P w K mg base 1 C "__eq__" (spEqC K C) [] := by
  refine met_of T.cl T.d_eq sc_Change_eq (fun _ _ _ _ _ _ us hl => match us, hl with | [_, _], _ => rfl) (fun vs H Q E h => ?_) (fun f cdv A outer s H vs Q E hr h => ?_)
  · obtain ⟨a, dx, d, n, m, y, rfl, _⟩ := h
    rfl
  · obtain ⟨a, dx, d, n, m, y, rfl, ⟨ha, t, hd, hH, hO, hs⟩, h⟩ := h
    refine ⟨_, (pss_one (ps_ret (pe_and (pe_callB call_isi (by rfl) T.z_isinstance (by decide +kernel) (pa_cons (pv 1) (pa_cons (C8.pe_gc (by rfl) T.g_Change) pa_nil))) (pe_one (pe_cmpR (op_eqDD (room66 hr)) (pe_fld (pv 0) rfl) (pe_fld (pv 1) rfl) (nomark _)))))), ?_⟩
    refine ⟨y, rfl, ?_⟩
    dsimp only [tCons, tC, tNil]
    rcases h with ⟨b, dx', d', n', m', rfl, ⟨hb, u, hd', kH, kO, ks⟩, q⟩ | ⟨nc, q⟩
    · refine T.isC hb ⟨_, rfl, iteT ?_⟩
      refine ⟨.ref a, rfl, a, C, dx, _, _, rfl, ha, T.cl, T.nR, rfl, .ref b, rfl, b, C, dx', _, _, rfl, hb, T.cl, T.nR, rfl, ?_⟩
      have := Classical.propDecidable (m = m')
      exact rows_eq (c := decide (m = m')) hd hd' hH kH hO kO (by rw [decide_eq_true_eq]) (q _ (by rw [decide_eq_true_eq]))
    · exact T.isN nc ⟨_, rfl, iteF q⟩
theorem ownX_of {CX : CXT} {k : Nat} {m : Str} {sp : Sp} (M : MetX P w K mg base CX k C m sp []) : OwnM P w K mg base CX k C m sp := by
  obtain ⟨f, fd, ps, ds, _, hm, F, b, d⟩ := M.ex
  cases d
  exact ⟨f, fd, ps, hm.at_, hm.fn, F, b⟩
/-- what is no dict -/
def NoDict (K : PySem.W.Frag) (H : Hp) (v : V) : Prop := ∃ Ty ∈ (["NoneType", "int", "list", "tuple"] : List String), TyX K H v (.type Ty)
theorem noDict_isi {H : Hp} {v : V} (h : NoDict K H v) {R : VK} (r : R (.bl false) H) : rIsi K [v, .ty "dict"] H R := by
  obtain ⟨Ty, hT, ty⟩ := h
  refine ⟨_, _, .type Ty, .type "dict", false, rfl, .ty "dict", ty, ?_, r⟩
  simp only [List.mem_cons, List.not_mem_nil, or_false] at hT
  rcases hT with rfl | rfl | rfl | rfl <;> exact kit_ty (by decide +kernel)
end

end Fk

set_option maxHeartbeats 4000000
namespace Fk
open PySem PySem.Spec PyProof.Rows L2
/-! ### the paths above a path -/
section
variable {P : Program} {w : World} {K : PySem.W.Frag} {mg : Str → Option Value} {base : Heap} {C fk cE iF : Addr}
theorem cutV_to {α : Type} (l : List α) (g : α → V) (k : Nat) : cutV (l.map g) none (some (k : Int)) = (l.take k).map g := by
  unfold cutV
  rw [HT.sIx_none, HT.sIx_nat, List.drop_zero, Nat.sub_zero, List.map_take]
  rcases Nat.le_total k (l.map g).length with h | h
  · rw [Nat.min_eq_left h]
  · rw [Nat.min_eq_right h, List.take_length, List.take_of_length_le h]
theorem segs_path {x : Str} (h : isPathF x = true) : (segs x).length ≤ 6 ∧ ∀ p ∈ segs x, p.length ≤ 12 := by
  unfold isPathF at h
  rw [Bool.and_eq_true, decide_eq_true_eq, List.all_eq_true] at h
  exact ⟨h.1, fun p hp => seg_len (h.2 p hp)⟩
theorem pref_le {x : Str} (k : Nat) (h : isPathF x = true) : (((segs x).take k).map (·.length)).sum + ((segs x).take k).length * ("/" : Str).length ≤ 16777216 := by
  obtain ⟨h1, h2⟩ := segs_path h
  have l1 : ((segs x).take k).length ≤ 6 := by
    rw [List.length_take]
    omega
  have := sum_len ((segs x).take k) fun p hp => h2 p (List.mem_of_mem_take hp)
  have e : ("/" : Str).length = 1 := by decide +kernel
  rw [e]
  omega
def spPref : Sp := fun vs H Q _ => ∃ x : Str, vs = [.str x] ∧ PathOk x ∧ ∀ p H', H p = none → Same H H' → H' p = some (.lst ((prefsF x).map V.str)) → Q (.ref p) H'
theorem c_prefixes (T : Top K mg) : C8.Cal P w K mg base 1 "prefixes" spPref [] := by
  refine cal_of T.d_prefixes sc_prefixes (fun _ _ _ _ _ _ us hl => match us, hl with | [_], _ => rfl) (fun vs H Q E h => ?_) (fun f cdv A outer s H vs Q E hr h => ?_)
  · obtain ⟨x, rfl, _⟩ := h
    rfl
  · obtain ⟨x, rfl, hx, q⟩ := h
    refine ⟨_, (pss_cons (ps_set (i := 1) sc_prefixes.nd rfl (Or.inr rfl) (pe_split (pv 0) pe_str))
      (pss_one (ps_ret (pe_lc (own := [("many", 2)]) (g := gName 2) (by rfl) sc_prefixes.nd (pi_range2 (by rfl) T.z_range (pa_cons pe_int (pa_cons (pe_callB call_len_seq (by rfl) T.z_len (by decide +kernel) (pa_cons (pv 1) pa_nil)) pa_nil))) (blkOk_by (own := [("many", 2)]) (N := ["path", "segments", "many"]) (sc := C8.fnScope s_prefixes) (by decide +kernel)) (fun _ _ _ _ _ => (pg_name (i := 2) sc_prefixes.nd rfl (Or.inl rfl))) (fun _ _ _ _ _ => pts_nil) (fun _ _ _ _ _ => (pe_joinK (K := K) rfl pe_str (pe_slice (slK_list (K := K) rfl) (pv 1) po_none (po_some (pv 2))))))))), ?_⟩
    obtain ⟨hl1, hl2⟩ := segs_path hx.1
    have hx1 := hx.2.1
    refine ⟨.str x, rfl, ⟨x, rfl⟩, x, _, rfl, rfl, rfl, small_line (by omega), fun p hp => ?_⟩
    have sm : Same H (upd H p (.lst ((Txt.split x "/").map V.str))) := same_new hp
    have h1 : (upd H p (.lst ((Txt.split x "/").map V.str))) p = some (.lst ((segs x).map V.str)) := upd_same
    generalize upd H p (.lst ((Txt.split x "/").map V.str)) = H1 at sm h1
    refine ⟨.ref p, rfl, p, (segs x).map V.str, rfl, .inl (.inl (.inl h1)), ?_⟩
    refine ⟨1, _, rfl, ⟨by decide, by decide, by rw [List.length_map]; omega, by rw [List.length_map]; omega⟩, fun D hD => ?_⟩
    have e : ((((segs x).map V.str).length : Int) - 1).toNat = (segs x).length - 1 := by rw [List.length_map]; omega
    rw [e]
    refine lc_pure (i := 2) (us := List.range ((segs x).length - 1)) (g := fun (k : Nat) => V.int (1 + (k : Int))) yields_range (fun k => .str (Txt.join "/" ((segs x).take (k + 1)))) (fun _ => true) hD (fun _ _ => trivial) (fun H u _ hu R r => r H (Same.refl H))
      (fun H2 k s2 hk _ R r => ?_) (by rw [List.length_range]; omega) (fun H2 s2 h2 => ?_)
    · refine ⟨⟨_, rfl⟩, .ref p, rfl, .int (1 + (k : Int)), rfl, _, rfl, p, _, rfl, SqL.of (s2 _ _ h1), fun p2 np2 => ?_⟩
      have ec : cutV ((segs x).map V.str) none (some (1 + (k : Int))) = ((segs x).take (k + 1)).map V.str := by
        rw [show (1 : Int) + (k : Int) = ((k + 1 : Nat) : Int) by omega, cutV_to]
      refine ⟨_, p2, (segs x).take (k + 1), rfl, rfl, .inl (SqL.of (by rw [upd_same, ec])), pref_le (k + 1) hx.1, r _ (same_new np2)⟩
    · rw [filt_all] at h2
      have np : H D = none := sm.free hD
      exact q D H2 np (sm.trans s2) (by rw [h2]; unfold prefsF; rw [List.map_map]; rfl)
end

end Fk

set_option maxHeartbeats 4000000
namespace Fk
open PySem PySem.Spec PyProof.Rows L2
theorem len_of_sub {α : Type} [DecidableEq α] : ∀ {l m : List α}, l.Nodup → (∀ x ∈ l, x ∈ m) → l.length ≤ m.length
  | [], m, _, _ => Nat.zero_le _
  | a :: l, m, n, s => by
    obtain ⟨n1, n2⟩ := List.nodup_cons.mp n
    have ha : a ∈ m := s a List.mem_cons_self
    have ih : l.length ≤ (m.erase a).length := len_of_sub n2 fun x hx => (List.mem_erase_of_ne (fun e => n1 (by rw [← e]; exact hx))).mpr (s x (List.mem_cons_of_mem _ hx))
    rw [List.length_erase_of_mem ha] at ih
    have : 0 < m.length := List.length_pos_of_mem ha
    rw [List.length_cons]
    omega
theorem keys_putI {u : Tab} {a x : Str} {v : V} : x ∈ (putK u a v).map (·.1) ↔ x ∈ u.map (·.1) ∨ x = a := by
  rw [mem_val, mem_val, val_putK]
  by_cases e : x = a
  · rw [if_pos e]
    exact ⟨fun _ => .inr e, fun _ => rfl⟩
  · rw [if_neg e]
    exact ⟨.inl, fun z => z.resolve_right e⟩
/-- paths among some that lie above or below another of them -/
def crossF (ys : List Str) (x : Str) : Prop := x ∈ ys ∧ ∃ y ∈ ys, Txt.startswith y (x ++ ("/" : Str)) = true ∨ Txt.startswith x (y ++ ("/" : Str)) = true
section
variable {P : Program} {w : World} {K : PySem.W.Frag} {mg : Str → Option Value} {base : Heap} {C fk cE iF : Addr}
/-- a dict of marks: its keys are told -/
def MarksAt (H : Hp) (e : Addr) (n : Nat) (S : Str → Prop) : Prop := ∃ t : Tab, H e = some (.dK (kT t)) ∧ Nd t ∧ t.length ≤ n ∧ ∀ x, x ∈ t.map (·.1) ↔ S x
def spCross : Sp := fun vs H Q _ => ∃ (e : Addr) (t : Tab), vs = [.ref e] ∧ H e = some (.dK (kT t)) ∧ Nd t ∧ t.length < 60 ∧ (∀ x ∈ t.map (·.1), PathOk x) ∧ ∀ p H', H p = none → Same H H' → MarksAt H' p t.length (crossF (t.map (·.1))) → Q (.ref p) H'
theorem c_crossing (T : Top K mg) : C8.Cal P w K mg base 2 "crossing" spCross [] := by
  refine cal_of T.d_crossing sc_crossing (fun _ _ _ _ _ _ us hl => match us, hl with | [_], _ => rfl) (fun vs H Q E h => ?_) (fun f cdv A outer s H vs Q E hr h => ?_)
  · obtain ⟨e, t, rfl, _⟩ := h
    rfl
  · obtain ⟨e, t, rfl, he, nd, hl, hp, q⟩ := h
    refine ⟨_, (pss_cons (ps_set (i := 1) sc_crossing.nd rfl (Or.inl rfl) pe_dnewK)
      (pss_cons (ps_lock (ps_for PassesOwn.never rfl (pi_keys (pv 0)) (pg_name (i := 2) sc_crossing.nd rfl (Or.inl rfl))
      (pss_one (ps_for PassesOwn.never rfl (pi_list (C8.pe_c (c_prefixes T) hr (by decide) (by rfl) (pa_cons (pv 2) pa_nil))) (pg_name (i := 3) sc_crossing.nd rfl (Or.inl rfl))
      (pss_one (ps_if (pt_cmp (pc_din (hu_of hr) (pv 3) (pv 0)))
      (pss_cons (ps_dput (hu_of hr) (pv 1) (pv 3) pe_bl rfl)
      (pss_one (ps_dput (hu_of hr) (pv 1) (pv 2) pe_bl rfl)))
      pss_nil))))))
      (pss_one (ps_ret (pv 1))))), ?_⟩
    intro D hD
    have s1 := same_new (o := .dK []) hD
    have hD1 : (upd H D (.dK [])) D = some (.dK (kT [])) := upd_same
    generalize upd H D (.dK []) = H1 at s1 hD1
    have nDe : D ≠ e := fun z => by rw [z, he] at hD; cases hD
    refine ⟨e, _, s1 _ _ he, trivial, fun od => ⟨.ref e, rfl, e, od, rfl, .inl ⟨kT t, upd_same, ?_⟩⟩⟩
    generalize hks : t.map (·.1) = ks at *
    have Y : Yields (Itk e od (kT t)) (ks.map V.str) (fun H => H e = some (.frz od (.dK (kT t)))) := by
      rw [← hks, ← kV_kT]
      exact yields_keys
    have lks : ks.length = t.length := by rw [← hks, List.length_map]
    let mk : List Str → Str → Prop := fun ys x => ∃ y ∈ ys, ∃ p ∈ prefsF y, p ∈ ks ∧ (x = p ∨ x = y)
    have hDL : (upd H1 e (.frz od (.dK (kT t)))) D = some (.dK (kT [])) := by rw [upd_ne nDe]; exact hD1
    have heL : (upd H1 e (.frz od (.dK (kT t)))) e = some (.frz od (.dK (kT t))) := upd_same
    have kL : ∀ b o, b ≠ e → H1 b = some o → (upd H1 e (.frz od (.dK (kT t)))) b = some o := fun b o n z => by rw [upd_ne n]; exact z
    generalize upd H1 e (.frz od (.dK (kT t))) = HL at hDL heL kL
    refine forG Y (fun i σ H' => ∃ (u : Tab) (z2 z3 : Option V), σ = [some (.ref e), some (.ref D), z2, z3] ∧ H' D = some (.dK (kT u)) ∧ Nd u ∧ Fr D HL H' ∧ ∀ x, x ∈ u.map (·.1) ↔ mk (ks.take i) x)
      ⟨[], none, none, rfl, hDL, by unfold Nd; exact List.nodup_nil, Fr.refl D HL, fun x => ⟨(fun z => nomatch z), fun ⟨y, hy, _⟩ => by simp at hy⟩⟩ (fun i σ H' I => ?_) (fun i x σ H' hx I => ?_) (fun σ H' I => ?_)
    · obtain ⟨_, _, _, _, _, _, fr, _⟩ := I
      exact fr _ _ nDe.symm heL
    · obtain ⟨u, z2, z3, rfl, hDD, ndu, fr, hu⟩ := I
      rw [List.getElem?_map] at hx
      cases hy : ks[i]? with
      | none => rw [hy] at hx; cases hx
      | some y =>
        rw [hy] at hx
        cases hx
        have hym : y ∈ ks := List.mem_of_getElem? hy
        have etk : ks.take (i + 1) = ks.take i ++ [y] := by
          rw [List.take_add_one, hy]
          rfl
        refine ⟨.str y, rfl, y, rfl, hp y hym, fun pl H2 npl s2 hpl => ?_⟩
        have nplD : pl ≠ D := fun z => by rw [z, hDD] at npl; cases npl
        have heH : H2 e = some (.frz od (.dK (kT t))) := s2 _ _ (fr _ _ nDe.symm heL)
        refine ⟨pl, rfl, ⟨_, SqL.of hpl⟩, ?_⟩
        refine forG (items := (prefsF y).map V.str) yields_list (fun j σ H' => ∃ (u : Tab) (z3 : Option V), σ = [some (.ref e), some (.ref D), some (.str y), z3] ∧ H' D = some (.dK (kT u)) ∧ Nd u ∧ Fr D H2 H' ∧ ∀ x, x ∈ u.map (·.1) ↔ (mk (ks.take i) x ∨ ∃ p ∈ (prefsF y).take j, p ∈ ks ∧ (x = p ∨ x = y)))
          ⟨u, z3, rfl, s2 _ _ hDD, ndu, Fr.refl D H2, fun x => by rw [hu x]; exact ⟨.inl, fun z => z.elim id fun ⟨p, hp, _⟩ => by simp at hp⟩⟩ (fun j σ H' I => ?_) (fun j x σ H' hx I => ?_) (fun σ H' I => ?_)
        · obtain ⟨_, _, _, _, _, f2, _⟩ := I
          exact SqL.of (f2 _ _ nplD hpl)
        · obtain ⟨v, z3', rfl, hDv, ndv, f2, hv⟩ := I
          rw [List.getElem?_map] at hx
          cases hpp : (prefsF y)[j]? with
          | none => rw [hpp] at hx; cases hx
          | some p =>
            rw [hpp] at hx
            cases hx
            have etj : (prefsF y).take (j + 1) = (prefsF y).take j ++ [p] := by
              rw [List.take_add_one, hpp]
              rfl
            have g1 : DGet H' e (.str p) (valV t p) := dget_kT (.inr ⟨od, f2 _ _ nDe.symm heH⟩) p
            have sub : ∀ x ∈ v.map (·.1), x ∈ ks := fun x hx => by
              rcases (hv x).mp hx with ⟨y', hy', p', _, hp', z⟩ | ⟨p', _, hp', z⟩
              · exact z.elim (fun z => by rw [z]; exact hp') fun z => by rw [z]; exact List.mem_of_mem_take hy'
              · exact z.elim (fun z => by rw [z]; exact hp') fun z => by rw [z]; exact hym
            have lv : v.length ≤ t.length := by
              have := len_of_sub ndv sub
              rw [List.length_map] at this
              omega
            refine ⟨.str p, rfl, .ref e, rfl, e, _, rfl, g1, _, rfl, ?_⟩
            by_cases hpk : p ∈ ks
            · have hs : (valV t p).isSome = true := mem_val.mp (by rw [hks]; exact hpk)
              rw [hs]
              refine ifT rfl ?_
              refine ⟨.ref D, rfl, .str p, rfl, D, _, rfl, DPut.k (k := .inr p) hDv (small_lt (by rw [len_kT]; omega)), ?_⟩
              refine ⟨.ref D, rfl, .str y, rfl, D, _, rfl, DPut.k (k := .inr y) upd_same (small_lt (by rw [putK_kT, len_kT]; have := length_putK v p (.bl true); omega)), putK (putK v p (.bl true)) y (.bl true), _, rfl, by rw [upd_same, putK_kT, putK_kT], nd_put (nd_put ndv p _) y _, ?_, fun x => ?_⟩
              · exact f2.trans fun b o nb z => by rw [upd_ne nb, upd_ne nb]; exact z
              · rw [keys_putI, keys_putI, hv x, etj]
                constructor
                · rintro (((z | ⟨p', h1, h2, h3⟩) | rfl) | rfl)
                  · exact .inl z
                  · exact .inr ⟨p', List.mem_append_left _ h1, h2, h3⟩
                  · exact .inr ⟨_, List.mem_append_right _ List.mem_cons_self, hpk, .inl rfl⟩
                  · exact .inr ⟨p, List.mem_append_right _ List.mem_cons_self, hpk, .inr rfl⟩
                · rintro (z | ⟨p', h1, h2, h3⟩)
                  · exact .inl (.inl (.inl z))
                  · rcases List.mem_append.mp h1 with h1 | h1
                    · exact .inl (.inl (.inr ⟨p', h1, h2, h3⟩))
                    · rw [List.mem_singleton.mp h1] at h3
                      exact h3.elim (fun z => .inl (.inr z)) fun z => .inr z
            · have hs : (valV t p).isSome = false := by
                cases c : valV t p with
                | none => rfl
                | some w => exact absurd (by rw [← hks]; exact valV_in c) hpk
              rw [hs]
              refine ifF Bool.false_ne_true ⟨v, _, rfl, hDv, ndv, f2, fun x => ?_⟩
              rw [hv x, etj]
              constructor
              · rintro (z | ⟨p', h1, h2, h3⟩)
                · exact .inl z
                · exact .inr ⟨p', List.mem_append_left _ h1, h2, h3⟩
              · rintro (z | ⟨p', h1, h2, h3⟩)
                · exact .inl z
                · rcases List.mem_append.mp h1 with h1 | h1
                  · exact .inr ⟨p', h1, h2, h3⟩
                  · rw [List.mem_singleton.mp h1] at h2
                    exact absurd h2 hpk
        · obtain ⟨v, z3', rfl, hDv, ndv, f2, hv⟩ := I
          rw [List.length_map, List.take_length] at hv
          refine ⟨v, _, _, rfl, hDv, ndv, (fr.trans (Fr.same s2)).trans f2, fun x => ?_⟩
          rw [hv x, etk]
          constructor
          · rintro (⟨y', h1, h2⟩ | h)
            · exact ⟨y', List.mem_append_left _ h1, h2⟩
            · exact ⟨y, List.mem_append_right _ List.mem_cons_self, h⟩
          · rintro ⟨y', h1, h2⟩
            rcases List.mem_append.mp h1 with h1 | h1
            · exact .inl ⟨y', h1, h2⟩
            · rw [List.mem_singleton.mp h1] at h2
              exact .inr h2
    · obtain ⟨u, z2, z3, rfl, hDD, ndu, fr, hu⟩ := I
      rw [List.length_map, List.take_length] at hu
      refine ⟨fr _ _ nDe.symm heL, _, rfl, q D _ hD (fun b o z => ?_) ⟨u, by rw [upd_ne nDe]; exact hDD, ndu, ?_, fun x => ?_⟩⟩
      · by_cases hb : b = e
        · rw [hb, upd_same, ← he, ← hb, z]
        · rw [upd_ne hb]
          exact fr b o (ne_of_none z hD) (kL b o hb (s1 b o z))
      · have := len_of_sub ndu (m := ks) fun x hx => by
          obtain ⟨y', hy', p', _, hp', z⟩ := (hu x).mp hx
          exact z.elim (fun z => by rw [z]; exact hp') fun z => by rw [z]; exact hy'
        rw [List.length_map] at this
        omega
      · rw [hu x]
        constructor
        · rintro ⟨y', hy', p', h1, hp', z⟩
          have st := mem_prefs.mp h1
          rcases z with rfl | rfl
          · exact ⟨hp', y', hy', .inl st⟩
          · exact ⟨hy', p', hp', .inr st⟩
        · rintro ⟨hx, y, hy, z⟩
          rcases z with z | z
          · exact ⟨y, hy, x, mem_prefs.mpr z, hx, .inl rfl⟩
          · exact ⟨x, hx, y, mem_prefs.mpr z, hy, .inr rfl⟩
end

end Fk

set_option maxHeartbeats 4000000
/-! Files: dicts from paths to values. A class made by a name of the def's own. -/
namespace Fk
open PySem PySem.Spec PyProof.Rows L2
theorem tyx_same {K : PySem.W.Frag} {H H' : Hp} {v : V} {t : Value} (e : Same H H') (h : TyX K H v t) : TyX K H' v t := by
  cases h with
  | base b =>
    refine .base ?_
    cases b with
    | non => exact .non
    | bl x => exact .bl x
    | int i => exact .int i
    | str x => exact .str x
    | flt x => exact .flt x
    | lst h => exact .lst (e _ _ h)
    | frz h => exact .frz (e _ _ h)
    | tup h => exact .tup (e _ _ h)
    | dK h => exact .dK (e _ _ h)
    | dT h => exact .dT (e _ _ h)
    | ins h c1 c2 c3 c4 c5 => exact .ins (e _ _ h) c1 c2 c3 c4 c5
  | byt b => exact .byt b
  | set h => exact .set (e _ _ h)
  | kList h c => exact .kList h c
  | kTuple h c => exact .kTuple h c
  | kDict h c => exact .kDict h c
  | fTuple h => exact .fTuple (e _ _ h)
  | fDict h => exact .fDict (e _ _ h)
theorem rising_of_pw : ∀ (l : List Str) (p : Str), (p :: l).Pairwise leS → risingS p l = true
  | [], p, _ => rfl
  | x :: r, p, h => by
    obtain ⟨h1, h2⟩ := List.pairwise_cons.mp h
    show (!ltCps x.cps.toList p.cps.toList && risingS x r) = true
    rw [rising_of_pw r x h2, Bool.and_true, ltCps_eq, decide_eq_false (h1 x List.mem_cons_self)]
    rfl
theorem sorted_of_pw {l : List Str} (h : l.Pairwise leS) : sortedS l = true := by
  cases l with
  | nil => rfl
  | cons x r => exact rising_of_pw r x h
theorem sorted_filter {l : List Str} (h : sortedS l = true) (p : Str → Bool) : sortedS (l.filter p) = true := sorted_of_pw ((sorted_pw h).filter p)
theorem keys_putF {u : Tab} {a x : Str} {v : V} (h : x ∈ (putK u a v).map (·.1)) : x ∈ u.map (·.1) ∨ x = a := by
  rw [mem_val, val_putK] at h
  by_cases e : x = a
  · exact .inr e
  · rw [if_neg e] at h
    exact .inl (mem_val.mpr h)
abbrev Fi := Str × Str
def GoodP (p : Fi) : Prop := p.1 ∈ FKS ∧ isIdF p.2 = true
theorem GoodP.f {p : Fi} (h : GoodP p) : GoodF (some p) := fun q e => by cases e; exact h
section
variable {K : PySem.W.Frag} {H H' : Hp}
def FiV (K : PySem.W.Frag) (H : Hp) (v : V) (p : Fi) : Prop := FvV K H v (some p)
structure FilesOk (n : Nat) (t : Tab) (m : Mp Fi) : Prop where
  nd : Nd t
  len : t.length ≤ n
  path : ∀ x ∈ t.map (·.1), PathOk x
  good : ∀ x p, m x = some p → GoodP p
def FilesAt (K : PySem.W.Frag) (H : Hp) (e : Addr) (n : Nat) (m : Mp Fi) : Prop := ∃ t, H e = some (.dK (kT t)) ∧ Holds (FiV K H) t m ∧ FilesOk n t m
theorem FilesAt.same {e : Addr} {n : Nat} {m : Mp Fi} (h : FilesAt K H e n m) (s : Same H H') : FilesAt K H' e n m := by
  obtain ⟨t, h1, h2, h3⟩ := h
  exact ⟨t, s _ _ h1, h2.imp fun _ _ x => FvV.keep x (TupKeep.of s), h3⟩
theorem FilesOk.mono {n n' : Nat} {t : Tab} {m : Mp Fi} (h : FilesOk n t m) (l : n ≤ n') : FilesOk n' t m := ⟨h.nd, Nat.le_trans h.len l, h.path, h.good⟩
theorem FilesAt.mono {e : Addr} {n n' : Nat} {m : Mp Fi} (h : FilesAt K H e n m) (l : n ≤ n') : FilesAt K H e n' m := let ⟨t, h1, h2, h3⟩ := h; ⟨t, h1, h2, h3.mono l⟩
theorem FilesOk.put {n : Nat} {t : Tab} {m : Mp Fi} {x : Str} {v : V} {p : Fi} (h : FilesOk n t m) (px : PathOk x) (g : GoodP p) : FilesOk (n + 1) (putK t x v) (putM m x p) := by
  refine ⟨nd_put h.nd x v, Nat.le_trans (length_putK t x v) (by have := h.len; omega), fun y hy => ?_, fun y s e => ?_⟩
  · rcases keys_putF hy with z | z
    · exact h.path y z
    · rw [z]; exact px
  · unfold putM at e
    split at e
    · cases e; exact g
    · exact h.good y s e
/-- what a path has, or None, in files -/
theorem get_fv {t : Tab} {m : Mp Fi} (h : Holds (FiV K H) t m) (x : Str) : FvV K H ((valV t x).getD .non) (m x) := by
  rcases h x with ⟨a, b⟩ | ⟨v, r, a, b, c⟩
  · rw [a, b]
    rfl
  · rw [a, b]
    exact c
end
section
variable {X : Cx} {CX : CXT} {k i : Nat} {f C : Addr} {fd : FuncData} {ps : List Str} {sp : Sp} {dvs : List V} {ds : List Value} {E : XK} {x : Str} {p pos : Pos} {e : Expr} {es : List Expr} {t : TA}
/-- x(e, ..), the class C in a slot -/
def tMakeL (i : Nat) (C : Addr) (sp : Sp) (dvs : List V) (E : XK) (t : TA) : TE := fun σ H Q => σ[i]? = some (some (.ref C)) ∧ tMake C sp dvs E t σ H Q
theorem pe_makeL (M : Mk X.K C f) (F : FnOk X.prog X.w X.K X.mg X.base CX k f fd ps sp) (hr : Room (k + 1) X.A) (hN : X.N[i]? = some x) (hv : Vis X.env.scope x) (hb : Binds X.K fd ps ds) (hd : Vals dvs ds) (hx : Passes CX X E) (ha : PA X (e :: es) t)
    (hdb : (x == ("__debug__" : Str)) = false := by decide) (hcd : (x == ("__classdict__" : Str)) = false := by decide)
    (he : starEach (e :: es) X.env = (false, eval e X.env) :: starEach es X.env := by rfl) (hpl : (backTo pos (starEach es X.env)).any (·.1) = false := by rfl) : PE X (.Call (.Name x p) (e :: es) [] pos) (tMakeL i C sp dvs E t) := by
  refine ⟨fun pins s σ H Q I h => ?_⟩
  obtain ⟨hs, ht⟩ := h
  refine wpAny_Call_Name_kw (thn ((pe_var (pos := p) hN hv hdb hcd).run pins s σ H (fun v H1 => v = .ref C ∧ H1 = H) I ⟨.ref C, hs, rfl, rfl⟩) fun u s1 ⟨v, H1, I1, r1, q1⟩ => ?_)
  obtain ⟨rfl, rfl⟩ := q1
  cases r1
  refine PySem.W.callWith_K (h₀ := X.base) I.ok.mod.kin M.kp (thn (ha.run pos pins s1 σ _ _ I1 ht) fun us s2 ⟨vs, H2, I2, r, q⟩ => ⟨I2.kIn, ?_⟩) he hpl
  exact run_make M F hr hb hd hx I2 r q
end
end Fk

set_option maxHeartbeats 4000000
namespace Fk
open PySem PySem.Spec PyProof.Rows L2
/-- what more is known where changes are put on files -/
structure TopF (K : PySem.W.Frag) (mg : Str → Option Value) (C fk cE iF cP cK iK : Addr) : Prop extends TopC K mg C fk cE iF where
  d_on : MDef K C "on" "Change.on" s_Change_on
  eP : ErrC K mg "BadPath" "why" cP iF
  eK : ErrC K mg "Conflict" "paths" cK iK
  bt : ∃ (p g : Addr) (fd : FuncData) (mc : Value), ClX.CRead K C mc ∧ ClX.CMet K C mc "between" p g ∧ C8.Fun K "between" "Change.between" s_Change_between g fd ∧ fd.defaults = .none
  exP : PySem.W.exmOne K (.ref cP) (.ref cP) = some true
  exK : PySem.W.exmOne K (.ref cK) (.ref cK) = some true
section
variable {P : Program} {w : World} {K : PySem.W.Frag} {mg : Str → Option Value} {base : Heap} {C fk cE iF cP cK iK : Addr}
/-- files, as many as may be -/
def FileV (K : PySem.W.Frag) (H : Hp) (v : V) : Prop := ∃ e m, v = .ref e ∧ FilesAt K H e 60 m
def BadFile (K : PySem.W.Frag) (H : Hp) (v : V) : Prop := NoDict K H v ∨ ∃ (e : Addr) (x : Str) (v1 : V), v = .ref e ∧ H e = some (.dK (kT [(x, v1)])) ∧ x.length ≤ 1000 ∧ OkS x ∧ (isPathF x = false ∨ (isPathF x = true ∧ ∀ H', TupKeep H H' → (∀ b o, b ≠ e → H b = some o → H' b = some o) → NoTup K H' v1))
theorem FileV.same {H H' : Hp} {v : V} (h : FileV K H v) (s : Same H H') : FileV K H' v := let ⟨e, m, a, b⟩ := h; ⟨e, m, a, b.same s⟩
def spCkF (K : PySem.W.Frag) (cP : Addr) : Sp := fun vs H Q E => ∃ (L : Addr) (xs : List V), vs = [.ref L] ∧ H L = some (.lst xs) ∧ ((∀ v ∈ xs, FileV K H v) ∧ (∀ H', Same H H' → Q .non H') ∨
  ∃ (i : Nat) (v : V), xs[i]? = some v ∧ (∀ j u, j < i → xs[j]? = some u → FileV K H u) ∧ BadFile K H v ∧ Bad cP H E)
set_option pp.maxSteps 300 in
theorem cx_check_are_files (T : TopF K mg C fk cE iF cP cK iK) : CalX P w K mg base (L2.CX P w) 5 "check_are_files" (spCkF K cP) [] := by
  refine calX_of T.d_check_are_files sc_check_are_files (fun _ _ _ _ _ _ us hl => match us, hl with | [_], _ => rfl) (fun vs H Q E h => ?_) (fun f cdv A outer s H vs Q E hr h => ?_)
  · obtain ⟨L, xs, rfl, _⟩ := h
    rfl
  · obtain ⟨L, xs, rfl, hL, h⟩ := h
    refine ⟨_, (pss_one (ps_for (passes_of rfl) rfl (pi_list (pv 0)) (pg_name (i := 1) sc_check_are_files.nd rfl (Or.inl rfl))
      (pss_cons (ps_if (pt_not (pt_val (pe_callB call_isi (by rfl) T.z_isinstance (by decide +kernel) (pa_cons (pv 1) (pa_cons (pe_bltn (v := .ty "dict") (by rfl) T.z_dict (by decide +kernel) rfl) pa_nil)))))
      (pss_one (ps_raise rfl (takes_of rfl rfl rfl rfl) (rs_of T.eP (hr.mono (by decide)) (by rfl) (pa_cons pe_str pa_nil))))
      pss_nil)
      (pss_one (ps_lock (ps_for (passes_of rfl) rfl (pi_keys (pv 1)) (pg_name (i := 2) sc_check_are_files.nd rfl (Or.inl rfl))
      (pss_one (ps_if (PW.pt (pw_or (pt_not (pt_val (C8.pe_c (c_is_path T.toTop) hr (by decide) (by rfl) (pa_cons (pv 2) pa_nil)))) (pw_or1 (pt_not (pt_val (C8.pe_c (c_is_value T.toTop) hr (by decide) (by rfl) (pa_cons (pe_dget (hu_of hr) (pv 1) (pv 2) (fun _ _ => rfl)) (pa_cons (C8.pe_gc (by rfl) T.g_FILE_KINDS) pa_nil))))))))
      (pss_one (ps_raise rfl (takes_lock (takes_of rfl rfl rfl rfl)) (rs_of T.eP (hr.mono (by decide)) (by rfl) (pa_cons pe_str pa_nil))))
      pss_nil)))))))), ?_⟩
    refine ⟨.ref L, rfl, L, rfl, ⟨_, SqL.of hL⟩, ?_⟩
    have pre : ∃ n : Nat, n ≤ xs.length ∧ (∀ j u, j < n → xs[j]? = some u → FileV K H u) ∧ (n = xs.length ∧ (∀ H', Same H H' → Q .non H') ∨ ∃ v, xs[n]? = some v ∧ BadFile K H v ∧ Bad cP H E) := by
      rcases h with ⟨g, q⟩ | ⟨i, v, hi, g, b, q⟩
      · exact ⟨xs.length, Nat.le_refl _, fun j u _ hu => g u (List.mem_of_getElem? hu), .inl ⟨rfl, q⟩⟩
      · exact ⟨i, Nat.le_of_lt (List.getElem?_eq_some_iff.mp hi).1, g, .inr ⟨v, hi, b, q⟩⟩
    obtain ⟨n, hn, good, fin⟩ := pre
    refine forG (items := xs) yields_list (fun i σ H' => i ≤ n ∧ Same H H' ∧ ∃ z1 z2, σ = [some (.ref L), z1, z2]) ⟨Nat.zero_le _, Same.refl H, none, none, rfl⟩ (fun i σ H' I => SqL.of (I.2.1 _ _ hL)) (fun i x σ H' hx I => ?_) (fun σ H' I => ?_)
    · obtain ⟨hi, s1, z1, z2, rfl⟩ := I
      refine ⟨x, rfl, ?_⟩
      dsimp only [tCons, tC, tNil]
      have kL : ∀ {e : Addr} {u : HO} {od : Obj}, H' e = some u → (∀ ys, u ≠ .tup ys) → TupKeep H' (upd H' e (.frz od u)) := fun {e u od} he nt => TupKeep.at fun ys z => by
        rw [he] at z
        exact nt _ (Option.some.inj z)
      by_cases hin : i < n
      · obtain ⟨e, m, rfl, t, he, hH, hO⟩ := (good i x hin hx).same s1
        refine ⟨_, _, .type "dict", .type "dict", true, rfl, .ty "dict", .base (.dK he), kit_ty (by decide +kernel), _, rfl, iteF ?_⟩
        refine ⟨e, _, he, trivial, fun od => ⟨.ref e, rfl, e, od, rfl, .inl ⟨kT t, upd_same, ?_⟩⟩⟩
        have kk := kL (od := od) he (fun ys z => nomatch z)
        have heL : (upd H' e (.frz od (.dK (kT t)))) e = some (.frz od (.dK (kT t))) := upd_same
        have sU : ∀ {H2 : Hp}, Same (upd H' e (.frz od (.dK (kT t)))) H2 → Same H' (upd H2 e (.dK (kT t))) := fun s => same_unlock s he
        generalize upd H' e (.frz od (.dK (kT t))) = HL at kk heL sU
        have Y : Yields (Itk e od (kT t)) ((t.map (·.1)).map V.str) (fun H => H e = some (.frz od (.dK (kT t)))) := by
          rw [← kV_kT]
          exact yields_keys
        refine forG Y (fun _ σ H2 => Same HL H2 ∧ ∃ z2, σ = [some (.ref L), some (.ref e), z2]) ⟨Same.refl HL, z2, rfl⟩ (fun _ σ H2 I => I.1 _ _ heL) (fun k y σ H2 hy I => ?_) (fun σ H2 I => ?_)
        · obtain ⟨s2, z2, rfl⟩ := I
          rw [List.getElem?_map] at hy
          cases hu : (t.map (·.1))[k]? with
          | none => rw [hu] at hy; cases hy
          | some u =>
            rw [hu] at hy
            cases hy
            have hum : u ∈ t.map (·.1) := List.mem_of_getElem? hu
            obtain ⟨pu, lu, ou⟩ := hO.path u hum
            refine ⟨.str u, rfl, .str u, rfl, .str u (by omega) ou, fun H3 s3 => ⟨_, rfl, ?_⟩⟩
            rw [show evalV isPathF (.str u) = true from pu]
            refine iteF ?_
            have g1 := dget_kT (.inr ⟨od, s3 _ _ (s2 _ _ heL)⟩) u
            have z := hH.mem.mp hum
            cases e1 : m u with
            | none => rw [e1] at z; cases z
            | some p =>
              obtain ⟨v, hv, rv⟩ := hH.at e1
              rw [hv] at g1
              have rv3 : FvV K H3 v (some p) := FvV.keep rv (kk.trans (TupKeep.of (s2.trans s3)))
              obtain ⟨q0, rfl, tq⟩ := rv3
              obtain ⟨h1, h2⟩ := hO.good u p e1
              exact ⟨.ref e, rfl, .str u, rfl, e, _, rfl, g1, .ref q0, fk, rfl, .inr T.kF, .inl ⟨q0, p, rfl, tq, h1, h2, fun H4 s4 => ⟨_, rfl, iteF ⟨(s2.trans s3).trans s4, _, rfl⟩⟩⟩⟩
        · obtain ⟨s2, z2, rfl⟩ := I
          exact ⟨s2 _ _ heL, by omega, s1.trans (sU s2), _, _, rfl⟩
      · have ein : i = n := by omega
        subst ein
        rcases fin with ⟨e, _⟩ | ⟨v, hv, bad, q⟩
        · have := (List.getElem?_eq_some_iff.mp hx).1
          omega
        · rw [hx] at hv
          cases hv
          rcases bad with ⟨Ty, hTy, ty⟩ | ⟨e, y, v1, rfl, he, ly, oy, hb⟩
          · exact noDict_isi ⟨Ty, hTy, tyx_same s1 ty⟩ ⟨_, rfl, iteT ⟨(by show 1 ≤ 1000; decide), do_raise T.eP fun dd H3 s3 _ h3 => q dd _ H3 (s1.trans s3) h3⟩⟩
          · have he' := s1 _ _ he
            refine ⟨_, _, .type "dict", .type "dict", true, rfl, .ty "dict", .base (.dK he'), kit_ty (by decide +kernel), _, rfl, iteF ?_⟩
            refine ⟨e, _, he', trivial, fun od => ⟨.ref e, rfl, e, od, rfl, .inl ⟨kT [(y, v1)], upd_same, ?_⟩⟩⟩
            have kk := kL (od := od) he' (fun ys z => nomatch z)
            have heL : (upd H' e (.frz od (.dK (kT [(y, v1)])))) e = some (.frz od (.dK (kT [(y, v1)]))) := upd_same
            have kO : ∀ b o, b ≠ e → H b = some o → (upd H' e (.frz od (.dK (kT [(y, v1)])))) b = some o := fun b o nb z => by rw [upd_ne nb]; exact s1 _ _ z
            have sU : ∀ {H2 : Hp}, Same (upd H' e (.frz od (.dK (kT [(y, v1)])))) H2 → Same H' (upd H2 e (.dK (kT [(y, v1)]))) := fun s => same_unlock s he'
            generalize upd H' e (.frz od (.dK (kT [(y, v1)]))) = HL at kk heL sU kO
            have Y : Yields (Itk e od (kT [(y, v1)])) ([V.str y]) (fun H => H e = some (.frz od (.dK (kT [(y, v1)])))) := yields_keys
            have out : ∀ {H2 : Hp}, Same HL H2 → ∀ dd (yy : V) H3, Same H2 H3 → H2 dd = none → H3 dd = some (.xd [("why", yy)]) → wLock (cxOf (L2.CX P w) P w K mg base ["arguments", "files", "path"] "check_are_files" (C8.fnScope s_check_are_files) f cdv A outer s H E) (fun cls d x H => E cls d H) (.ref cP) (some dd) [some (.ref L), some (.ref e), some (.str y)] H3 := fun {H2} s2 dd yy H3 s3 nd h3 => by
              have ne : dd ≠ e := fun z => by rw [z, s2 _ _ heL] at nd; cases nd
              exact ⟨e, od, _, s3 _ _ (s2 _ _ heL), (fun o' u' z => by rw [show H e = _ from z] at he; cases he), q dd yy _ (s1.trans (sU (s2.trans s3))) (by rw [upd_ne ne]; exact h3)⟩
            refine forG Y (fun k σ H2 => k = 0 ∧ Same HL H2 ∧ ∃ z2, σ = [some (.ref L), some (.ref e), z2]) ⟨rfl, Same.refl HL, z2, rfl⟩ (fun _ σ H2 I => I.2.1 _ _ heL) (fun k u σ H2 hy I => ?_) (fun σ H2 I => ?_)
            · obtain ⟨rfl, s2, z2, rfl⟩ := I
              cases hy
              refine ⟨.str y, rfl, .str y, rfl, .str y (by omega) oy, fun H3 s3 => ⟨_, rfl, ?_⟩⟩
              rcases hb with pf | ⟨pt, nt⟩
              · rw [show evalV isPathF (.str y) = false from pf]
                exact iteT ⟨(by show 1 ≤ 1000; decide), do_raise (Q := fun cls d H' => wLock (cxOf (L2.CX P w) P w K mg base ["arguments", "files", "path"] "check_are_files" (C8.fnScope s_check_are_files) f cdv A outer s H E) (fun cls d x H => E cls d H) cls d [some (.ref L), some (.ref e), some (.str y)] H') T.eP fun dd H4 s4 nd h4 => out (s2.trans s3) dd _ H4 s4 nd h4⟩
              · rw [show evalV isPathF (.str y) = true from pt]
                refine iteF ?_
                have g1 := dget_kT (.inr ⟨od, s3 _ _ (s2 _ _ heL)⟩) y
                rw [show valV [(y, v1)] y = some v1 from valV_pos rfl] at g1
                refine ⟨.ref e, rfl, .str y, rfl, e, _, rfl, g1, v1, fk, rfl, .inr T.kF, .inr ⟨nt H3 (((TupKeep.of s1).trans kk).trans (TupKeep.of (s2.trans s3))) (fun b o nb z => s3 _ _ (s2 _ _ (kO b o nb z))), ⟨_, rfl, iteT ⟨(by show 1 ≤ 1000; decide), do_raise (Q := fun cls d H' => wLock (cxOf (L2.CX P w) P w K mg base ["arguments", "files", "path"] "check_are_files" (C8.fnScope s_check_are_files) f cdv A outer s H E) (fun cls d x H => E cls d H) cls d [some (.ref L), some (.ref e), some (.str y)] H') T.eP fun dd H4 s4 nd h4 => out (s2.trans s3) dd _ H4 s4 nd h4⟩⟩⟩⟩
            · obtain ⟨z, _⟩ := I
              cases z
    · obtain ⟨hi, s1, z1, z2, rfl⟩ := I
      rcases fin with ⟨_, q⟩ | ⟨v, hv, _⟩
      · exact q H' s1
      · have := (List.getElem?_eq_some_iff.mp hv).1
        omega
end

end Fk

set_option maxHeartbeats 4000000
namespace Fk
open PySem PySem.Spec PyProof.Rows L2
def spAscL : Sp := fun vs H Q _ => ∃ (a : Addr) (zs : List Str), vs = [.ref a] ∧ H a = some (.lst (zs.map V.str)) ∧ zs.length < 64 ∧ ∀ (ys : List Str) (p : Addr) (H' : Hp), ys.Perm zs → sortedS ys = true → H p = none → Same H H' → H' p = some (.tup (ys.map V.str)) → Q (.ref p) H'
section
variable {P : Program} {w : World} {K : PySem.W.Frag} {mg : Str → Option Value} {base : Heap} {C fk cE iF cP cK iK : Addr}
theorem c_ascendingL (T : Top K mg) : C8.Cal P w K mg base 1 "ascending" spAscL [] := by
  refine cal_of T.d_ascending sc_ascending (fun _ _ _ _ _ _ us hl => match us, hl with | [_], _ => rfl) (fun vs H Q E h => ?_) (fun f cdv A outer s H vs Q E hr h => ?_)
  · obtain ⟨a, zs, rfl, _⟩ := h
    rfl
  · obtain ⟨a, zs, rfl, ha, hl, q⟩ := h
    refine ⟨_, (pss_one (ps_ret (pe_callTy call_tuple_of (by rfl) T.z_tuple (by decide +kernel) (pa_cons (pe_callB (cr_sortedS) (by rfl) T.z_sorted (by decide +kernel) (pa_cons (pe_lc (own := [("name", 1)]) (g := gName 1) (by rfl) sc_ascending.nd (pi_list (pv 0)) (blkOk_by (own := [("name", 1)]) (N := ["names", "name"]) (sc := C8.fnScope s_ascending) (by decide +kernel)) (fun _ _ _ _ _ => (pg_name (i := 1) sc_ascending.nd rfl (Or.inl rfl))) (fun _ _ _ _ _ => pts_nil) (fun _ _ _ _ _ => (pe_callTy SkE.call_str_str (by rfl) T.z_str (by decide +kernel) (pa_cons (pv 1) pa_nil)))) pa_nil)) pa_nil)))), ?_⟩
    refine ⟨.ref a, rfl, a, rfl, ⟨_, SqL.of ha⟩, fun D hD => ?_⟩
    refine lc_pure (i := 1) (us := zs) (g := V.str) yields_list V.str (fun _ => true) hD (fun H s => SqL.of (s _ _ ha)) (fun H u _ hu R r => r H (Same.refl H))
      (fun H u _ hu _ R r => ⟨_, rfl, u, rfl, r H (Same.refl H)⟩) (by omega) (fun H2 s2 h2 => ?_)
    rw [filt_all] at h2
    refine ⟨D, zs, rfl, .inl (.inl h2), hl, fun ys p hp hs hn => ?_⟩
    refine ⟨p, _, rfl, .inl ⟨.inl (.inl upd_same), fun l hl => ?_⟩⟩
    have nl : H l = none := (s2.trans (same_new hn)).free hl
    exact q ys l _ hp hs nl ((s2.trans (same_new hn)).trans (same_new hl)) upd_same
/-- {**a, **b} of two tables -/
theorem stars2 {α : Type} {R : V → α → Prop} {σ : L2.St} {H : Hp} {Q : VK} {i j : Nat} {a b : Addr} {t u : Tab} {f g : Mp α} (hi : σ[i]? = some (some (.ref a))) (hj : σ[j]? = some (some (.ref b))) (ha : H a = some (.dK (kT t))) (hb : H b = some (.dK (kT u)))
    (hf : Holds R t f) (hg : Holds R u g) (nt : Nd t) (nu : Nd u) (hl : t.length + u.length ≤ 1000) (q : ∀ p m H', H p = none → Same H H' → H' p = some (.dK (kT m)) → Nd m → m.length ≤ t.length + u.length → Holds R m (orM f g) → Q (.ref p) H') :
    tStars [tVar i, tVar j] σ H Q := by
  intro p np
  have npd : ∀ {c : Addr} {o : HO}, H c = some o → p ≠ c := fun {c o} z y => by rw [y, z] at np; cases np
  have len0 : ([] : Tab).length = 0 := rfl
  obtain ⟨m1, e1, n1, l1, h1⟩ := (Holds.nil (R := R)).merge hf (by unfold Nd; exact List.nodup_nil) nt
  obtain ⟨m2, e2, n2, l2, h2⟩ := h1.merge hg n1 nu
  have f0 : orM (fun _ => none) f = f := by
    funext x
    unfold orM
    cases f x <;> rfl
  rw [f0] at h2
  refine ⟨.ref a, hi, a, [], kT t, rfl, npd ha, upd_same, (by rw [upd_ne (npd ha).symm]; exact ha), small_line (by rw [len_kT]; show 0 + _ ≤ _; omega), ?_⟩
  rw [show ([] : List (Key × V)) = kT [] from rfl, e1, upd_upd]
  refine ⟨.ref b, hj, b, kT m1, kT u, rfl, npd hb, upd_same, (by rw [upd_ne (npd hb).symm]; exact hb), small_line (by rw [len_kT, len_kT]; omega), ?_⟩
  rw [e2, upd_upd]
  exact q p m2 _ np (same_new np) upd_same n2 (by omega) h2
end
def diffM (f g : Mp Fi) : Mp Rw := fun x => if f x = g x then none else some (f x, g x)
section
variable {P : Program} {w : World} {K : PySem.W.Frag} {mg : Str → Option Value} {base : Heap} {C fk cE iF cP cK iK : Addr}
def spDiff (K : PySem.W.Frag) : Sp := fun vs H Q _ => ∃ (a b : Addr) (n n' : Nat) (f g : Mp Fi), vs = [.ref a, .ref b] ∧ FilesAt K H a n f ∧ FilesAt K H b n' g ∧ n + n' ≤ 60 ∧
  ∀ (D : Addr) (as : List Addr) (ys : List Str) (H' : Hp), Same H H' → H' D = some (.lst (as.map V.ref)) → ys.Nodup → sortedS ys = true → ys.length ≤ n + n' → (∀ x ∈ ys, PathOk x) → (∀ x, x ∈ ys ↔ f x ≠ g x) →
    Paired (fun (a : Addr) x => ∃ v1 v2, H' a = some (.tup [.str x, v1, v2]) ∧ FvV K H' v1 (f x) ∧ FvV K H' v2 (g x)) as ys → Q (.ref D) H'
theorem cx_differences (T : TopF K mg C fk cE iF cP cK iK) : CalX P w K mg base (L2.CX P w) 6 "differences" (spDiff K) [] := by
  refine calX_of T.d_differences sc_differences (fun _ _ _ _ _ _ us hl => match us, hl with | [_, _], _ => rfl) (fun vs H Q E h => ?_) (fun fa cdv A outer s H vs Q E hr h => ?_)
  · obtain ⟨a, b, n, n', f, g, rfl, _⟩ := h
    rfl
  · obtain ⟨a, b, n, n', f, g, rfl, hA, hB, hn, q⟩ := h
    refine ⟨_, (pss_cons (ps_expr (pe_cx (cx_check_are_files T) hr (by decide) (fun _ => passAt (takes_of rfl rfl rfl rfl) _) (by rfl) (pa_cons (pe_lst (pa_cons (pv 0) (pa_cons (pv 1) pa_nil))) pa_nil)))
      (pss_cons (ps_setLc (i := 2) (own := [("path", 3)]) (g := gName 3) (by rfl) sc_differences.nd rfl rfl (sw_true rfl rfl rfl (by decide +kernel)) (pi_tup (C8.pe_c (c_ascending T.toTop) hr (by decide) (by rfl) (pa_cons (pe_stars (.cons (pv 0) (.cons (pv 1) .nil)) (by decide) rfl) pa_nil))) (blkOk_by (own := [("path", 3)]) (N := ["old", "new", "rows", "path", "before", "behind"]) (sc := C8.fnScope s_differences) (by decide +kernel)) (fun _ _ _ _ _ => (pg_name (i := 3) sc_differences.nd rfl (Or.inl rfl))) (fun _ _ _ _ _ => pts_nil) (fun _ _ _ _ _ => (pe_tup (pa_cons (pv 3) (pa_cons (pe_dget1 (hu_of hr) (pv 0) (pv 3) ⟨rfl, rfl, rfl, rfl⟩) (pa_cons (pe_dget1 (hu_of hr) (pv 1) (pv 3) ⟨rfl, rfl, rfl, rfl⟩) pa_nil))))))
      (pss_one (ps_ret (pe_lc (own := [("path", 3), ("before", 4), ("behind", 5)]) (g := _) (by rfl) sc_differences.nd (pi_list (pv 2)) (blkOk_by (own := [("path", 3), ("before", 4), ("behind", 5)]) (N := ["old", "new", "rows", "path", "before", "behind"]) (sc := C8.fnScope s_differences) (by decide +kernel)) (fun _ _ _ _ _ => (pg_tupK (K := K) (n := 3) rfl rfl (pgs_cons (pg_name (i := 3) sc_differences.nd rfl (Or.inl rfl)) (pgs_cons (pg_name (i := 4) sc_differences.nd rfl (Or.inl rfl)) (pgs_cons (pg_name (i := 5) sc_differences.nd rfl (Or.inl rfl)) pgs_nil))))) (fun _ _ _ _ _ => pts_one (pt_cmpR (op_neFv (K := K) rfl hr.units) (pv 4) (pv 5) (nomark _))) (fun _ _ _ _ _ => (pe_tup (pa_cons (pv 3) (pa_cons (pv 4) (pa_cons (pv 5) pa_nil)))))))))), ?_⟩
    refine ⟨.ref a, rfl, .ref b, rfl, (by show 2 ≤ sizeLine; decide), fun L hL => ?_⟩
    have s1 := same_new (o := .lst [V.ref a, .ref b]) hL
    have hA1 := hA.same s1
    have hB1 := hB.same s1
    have h1 := upd_same (H := H) (a := L) (o := .lst [V.ref a, .ref b])
    generalize upd H L (.lst [V.ref a, .ref b]) = H1 at s1 hA1 hB1 h1
    refine ⟨L, _, rfl, h1, .inl ⟨fun v hv => ?_, fun H2 s2 => ?_⟩⟩
    · simp only [List.mem_cons, List.not_mem_nil, or_false] at hv
      rcases hv with rfl | rfl
      · exact ⟨a, f, rfl, hA1.mono (by omega)⟩
      · exact ⟨b, g, rfl, hB1.mono (by omega)⟩
    · obtain ⟨ta, ga, hFa, oA⟩ := hA1.same s2
      obtain ⟨tb, gb, hFb, oB⟩ := hB1.same s2
      have la := oA.len
      have lb := oB.len
      refine stars2 rfl rfl ga gb hFa hFb oA.nd oB.nd (by omega) fun p mt H3 np s3 hp nd lm hM => ?_
      refine ⟨p, mt, rfl, hp, by omega, fun ys pl H4 hperm hs npl s4 hpl => ⟨pl, rfl, ⟨_, SqT.of hpl⟩, fun D hD => ?_⟩⟩
      have s24 := s3.trans s4
      have lys : ys.length ≤ n + n' := by rw [hperm.length_eq, List.length_map]; omega
      have ndy : ys.Nodup := hperm.nodup_iff.mpr nd
      have memy : ∀ x, x ∈ ys ↔ (f x ≠ none ∨ g x ≠ none) := fun x => by
        rw [hperm.mem_iff, hM.mem]
        unfold orM
        cases f x <;> cases g x <;> simp
      have py : ∀ x ∈ ys, PathOk x := fun x hx => by
        rcases (memy x).mp hx with z | z
        · refine oA.path x (hFa.mem.mpr ?_)
          cases e : f x with
          | none => exact absurd e z
          | some r => rfl
        · refine oB.path x (hFb.mem.mpr ?_)
          cases e : g x with
          | none => exact absurd e z
          | some r => rfl
      let rw_ : Str → Str × V × V := fun x => (x, (valV ta x).getD .non, (valV tb x).getD .non)
      have kA : ∀ {H' : Hp}, Same H4 H' → ∀ x, FvV K H' ((valV ta x).getD .non) (f x) ∧ FvV K H' ((valV tb x).getD .non) (g x) := fun {H'} s x =>
        ⟨(get_fv hFa x).keep (TupKeep.of (s24.trans s)), (get_fv hFb x).keep (TupKeep.of (s24.trans s))⟩
      have gF : ∀ x, GoodF (f x) ∧ GoodF (g x) := fun x => ⟨fun p e => oA.good x p e, fun p e => oB.good x p e⟩
      refine lc_new (us := ys) (val := V.str) yields_tup (fun x => [.str x, (valV ta x).getD .non, (valV tb x).getD .non]) (fun _ => true) (fun x => [some (.ref a), some (.ref b), none, some (.str x), none, none]) hD (fun H s => SqT.of (s _ _ hpl)) (fun _ _ => rfl) (fun H u _ _ R r => r) (fun H u _ _ R r => r H (Same.refl H)) (fun H5 x s5 hx _ R r => ?_) (by omega) (fun as H5 s5 h5 tp => ?_)
      · have dA := dget_kT (.inl (s5 _ _ (s24 _ _ ga))) x
        have dB := dget_kT (.inl (s5 _ _ (s24 _ _ gb))) x
        exact ⟨.str x, rfl, .ref a, rfl, a, rfl, .inl ⟨_, .inl (s5 _ _ (s24 _ _ ga))⟩, .str x, rfl, _, dA, .ref b, rfl, b, rfl, .inl ⟨_, .inl (s5 _ _ (s24 _ _ gb))⟩, .str x, rfl, _, dB, (by show 3 ≤ sizeLine; decide), fun pt hpt => r pt _ (same_new hpt) upd_same⟩
      · rw [filt_all] at tp
        have el : as.length = (ys.map rw_).length := by
          have := tp.1
          rw [List.length_map] at this ⊢
          exact this
        have lrw : (ys.map rw_).length = ys.length := List.length_map _
        have tp' : Tups H5 as ((ys.map rw_).map fun u => [V.str u.1, u.2.1, u.2.2]) := by
          rw [List.map_map]
          exact tp
        refine ⟨.ref D, rfl, D, rfl, ⟨_, SqL.of h5⟩, fun D2 hD2 => ?_⟩
        have inr : ∀ {u : Addr × (Str × V × V)}, u ∈ as.zip (ys.map rw_) → ∃ x ∈ ys, u.2 = rw_ x := fun {u} hu => by
          obtain ⟨x, hx, e⟩ := List.mem_map.mp (List.of_mem_zip hu).2
          exact ⟨x, hx, e.symm⟩
        refine lc_new (us := as.zip (ys.map rw_)) (val := fun u => V.ref u.1) (yields_zipL el) (fun u => [V.str u.2.1, u.2.2.1, u.2.2.2]) (fun u => !decide (f u.2.1 = g u.2.1)) (fun u => [some (.ref a), some (.ref b), some (.ref D), some (.str u.2.1), some u.2.2.1, some u.2.2.2]) hD2 (fun H s => .inl (.inl (s _ _ h5))) (fun _ _ => rfl)
          (fun H6 u s6 hu R k => ⟨u.1, _, rfl, SqT.of (s6 _ _ (tups_get tp' hu)), rfl, _, _, rfl, _, _, rfl, _, _, rfl, rfl, k⟩) (fun H6 u s6 hu R k => ?_) (fun H6 u s6 hu _ R k => ?_) (by rw [List.length_zip]; omega) (fun bs H6 s6 h6 tq => ?_)
        · obtain ⟨x, hx, e⟩ := inr hu
          obtain ⟨k1, k2⟩ := kA (s5.trans s6) x
          rw [e] at k ⊢
          exact ⟨_, rfl, _, rfl, f x, g x, k1, k2, (gF x).1, (gF x).2, _, rfl, k H6 (Same.refl H6)⟩
        · exact ⟨_, rfl, _, rfl, _, rfl, (by show 3 ≤ sizeLine; decide), fun pt hpt => k pt _ (same_new hpt) upd_same⟩
        · have eqm : ((as.zip (ys.map rw_)).filter fun u => !decide (f u.2.1 = g u.2.1)).map (fun u => [V.str u.2.1, u.2.2.1, u.2.2.2]) = (ys.filter fun x => !decide (f x = g x)).map fun x => [V.str x, (valV ta x).getD .non, (valV tb x).getD .non] := by
            rw [show (fun u : Addr × (Str × V × V) => [V.str u.2.1, u.2.2.1, u.2.2.2]) = (fun m : Str × V × V => [V.str m.1, m.2.1, m.2.2]) ∘ Prod.snd from rfl, ← List.map_map]
            have := List.filter_map (f := (Prod.snd : Addr × (Str × V × V) → Str × V × V)) (p := fun m => !decide (f m.1 = g m.1)) (l := as.zip (ys.map rw_))
            rw [List.map_snd_zip (by omega), List.filter_map] at this
            rw [show ((as.zip (ys.map rw_)).filter fun u => !decide (f u.2.1 = g u.2.1)).map Prod.snd = _ from this.symm, List.map_map]
            rfl
          rw [eqm] at tq
          have s06 : Same H H6 := ((s1.trans s2).trans s24).trans (s5.trans s6)
          refine q D2 bs (ys.filter fun x => !decide (f x = g x)) H6 s06 h6 (ndy.filter _) ?_ (Nat.le_trans (List.length_filter_le _ _) lys) (fun x hx => py x (List.mem_filter.mp hx).1) (fun x => ?_) ?_
          · exact sorted_filter hs _
          · rw [List.mem_filter, memy]
            constructor
            · rintro ⟨_, z⟩ e
              rw [decide_eq_true e] at z
              cases z
            · intro ne
              refine ⟨?_, by rw [decide_eq_false ne]; rfl⟩
              by_cases e : f x = none
              · exact .inr fun e2 => ne (by rw [e, e2])
              · exact .inl e
          · have key : ∀ (bs : List Addr) (zs : List Str), Tups H6 bs (zs.map fun x => [V.str x, (valV ta x).getD .non, (valV tb x).getD .non]) → Paired (fun (a : Addr) x => ∃ v1 v2, H6 a = some (.tup [.str x, v1, v2]) ∧ FvV K H6 v1 (f x) ∧ FvV K H6 v2 (g x)) bs zs := by
              intro bs zs
              induction zs generalizing bs with
              | nil =>
                intro t
                cases bs with
                | nil => exact .nil
                | cons _ _ => cases t.1
              | cons z zs ih =>
                intro t
                cases bs with
                | nil => cases t.1
                | cons b bs =>
                  have h0 : H6 b = some (.tup [V.str z, (valV ta z).getD .non, (valV tb z).getD .non]) := t.2 0 _ _ rfl rfl
                  obtain ⟨k1, k2⟩ := kA (s5.trans s6) z
                  exact .cons ⟨_, _, h0, k1, k2⟩ (ih bs ⟨Nat.succ.inj t.1, fun i c l hc hl => t.2 (i + 1) c l (by rw [List.getElem?_cons_succ]; exact hc) (by rw [List.map_cons, List.getElem?_cons_succ]; exact hl)⟩)
            exact key bs _ tq
end

end Fk

set_option maxHeartbeats 4000000
namespace Fk
open PySem PySem.Spec PyProof.Rows L2
def TornF (m : Mp Rw) (f : Mp Fi) (x : Str) : Prop := ∃ r, m x = some r ∧ f x ≠ r.1
def onM (m : Mp Rw) (f : Mp Fi) : Mp Fi := fun x => match m x with
  | some r => r.2
  | none => f x
def CrossM (g : Mp Fi) (x : Str) : Prop := (g x).isSome = true ∧ ∃ y, (g y).isSome = true ∧ (Txt.startswith y (x ++ ("/" : Str)) = true ∨ Txt.startswith x (y ++ ("/" : Str)) = true)
def Confl (cK : Addr) (H : Hp) (E : XK) (S : Str → Prop) : Prop := ∀ (dd p : Addr) (ys : List Str) (H' : Hp), Same H H' → H' dd = some (.xd [("paths", .ref p)]) → H' p = some (.tup (ys.map V.str)) → sortedS ys = true → ys.Nodup → ys.length ≤ 60 → (∀ x, x ∈ ys ↔ S x) → E (.ref cK) (some dd) H'
section
variable {P : Program} {w : World} {K : PySem.W.Frag} {mg : Str → Option Value} {base : Heap} {C fk cE iF cP cK iK : Addr}
def spOn (K : PySem.W.Frag) (C cP cK : Addr) : Sp := fun vs H Q E => ∃ (a dx d : Addr) (n : Nat) (m : Mp Rw) (v : V), vs = [.ref a, v] ∧ ChAt K C H a dx d n m ∧ ((BadFile K H v ∧ Bad cP H E) ∨ ∃ (e : Addr) (n' : Nat) (f : Mp Fi), v = .ref e ∧ FilesAt K H e n' f ∧ n + n' ≤ 59 ∧
  (((∃ x, TornF m f x) ∧ Confl cK H E (TornF m f)) ∨ ((∀ x, ¬ TornF m f x) ∧ (∃ x, CrossM (onM m f) x) ∧ Confl cK H E (CrossM (onM m f))) ∨
    ((∀ x, ¬ TornF m f x) ∧ (∀ x, ¬ CrossM (onM m f) x) ∧ ∀ p t H', H p = none → Same H H' → H' p = some (.dK (kT t)) → Holds (FiV K H') t (onM m f) → FilesOk (n + n') t (onM m f) → sortedS (t.map (·.1)) = true → Q (.ref p) H')))
theorem BadFile.same {H H' : Hp} {v : V} (h : BadFile K H v) (s : Same H H') : BadFile K H' v := by
  rcases h with ⟨t, a, b⟩ | ⟨e, x, v1, rfl, he, lx, ox, hbad⟩
  · exact .inl ⟨t, a, tyx_same s b⟩
  · refine .inr ⟨e, x, v1, rfl, s _ _ he, lx, ox, hbad.imp id fun ⟨h1, h2⟩ => ⟨h1, fun H2 k k2 => h2 H2 ((TupKeep.of s).trans k) fun b o n z => k2 b o n (s _ _ z)⟩⟩
theorem mx_Change_on (T : TopF K mg C fk cE iF cP cK iK) : MetX P w K mg base (L2.CX P w) 8 C "on" (spOn K C cP cK) [] := by
  refine metX_of T.cl T.d_on sc_Change_on (fun _ _ _ _ _ _ us hl => match us, hl with | [_, _], _ => rfl) (fun vs H Q E h => ?_) (fun fa cdv A outer s H vs Q E hr h => ?_)
  · obtain ⟨a, dx, d, n, m, v, rfl, _⟩ := h
    rfl
  · obtain ⟨a, dx, d, n, m, v, rfl, hA, h⟩ := h
    refine ⟨_, (pss_cons (ps_expr (pe_cx (cx_check_are_files T) hr (by decide) (fun _ => passAt (takes_of rfl rfl rfl rfl) _) (by rfl) (pa_cons (pe_lst (pa_cons (pv 1) pa_nil)) pa_nil)))
      (pss_cons (ps_lock (ps_setLc (i := 2) (own := [("path", 3)]) (g := gName 3) (by rfl) sc_Change_on.nd rfl rfl (sw_true rfl rfl rfl (by decide +kernel)) (pi_keys (pe_fld (pv 0) rfl)) (blkOk_by (own := [("path", 3)]) (N := ["self", "files", "torn", "path", "news", "_", "new", "values", "result", "crossed"]) (sc := C8.fnScope s_Change_on) (by decide +kernel)) (fun _ _ _ _ _ => (pg_name (i := 3) sc_Change_on.nd rfl (Or.inl rfl))) (fun _ _ _ _ _ => pts_one (pt_cmpR (op_neFv (K := K) rfl hr.units) (pe_dget1 (hu_of hr) (pv 1) (pv 3) ⟨rfl, rfl, rfl, rfl⟩) (pe_ix (ixK_tup (K := K) rfl) (pe_dget (hu_of hr) (pe_fldK (K := K) rfl (pv 0) rfl) (pv 3) (fun _ _ => rfl)) pe_int (fun _ _ => rfl)) (nomark _))) (fun _ _ _ _ _ => (pv 3))))
      (pss_cons (ps_if (pt_truth (pv 2) (by intro _; rfl))
      (pss_one (ps_raise rfl (takes_of rfl rfl rfl rfl) (rs_of T.eK (hr.mono (by decide)) (by rfl) (pa_cons (C8.pe_c (c_ascendingL T.toTop) hr (by decide) (by rfl) (pa_cons (pv 2) pa_nil)) pa_nil))))
      pss_nil)
      (pss_cons (ps_lock (ps_setDc (i := 4) (own := [("path", 3), ("_", 5), ("new", 6)]) (g := _) (by rfl) sc_Change_on.nd rfl rfl (sw_trueD rfl rfl rfl (by decide +kernel)) (pi_items (pe_fld (pv 0) rfl)) (blkOk_by (own := [("path", 3), ("_", 5), ("new", 6)]) (N := ["self", "files", "torn", "path", "news", "_", "new", "values", "result", "crossed"]) (sc := C8.fnScope s_Change_on) (by decide +kernel)) (fun _ _ _ _ _ => (pg_tupK (K := K) (n := 2) rfl rfl (pgs_cons (pg_name (i := 3) sc_Change_on.nd rfl (Or.inl rfl)) (pgs_cons (pg_tupK (K := K) (n := 2) rfl rfl (pgs_cons (pg_name (i := 5) sc_Change_on.nd rfl (Or.inl rfl)) (pgs_cons (pg_name (i := 6) sc_Change_on.nd rfl (Or.inl rfl)) pgs_nil))) pgs_nil)))) (fun _ _ _ _ _ => pts_nil) (fun _ _ _ _ _ => (pv 3)) (fun _ _ _ _ _ => (pv 6))))
      (pss_cons (ps_set (i := 7) sc_Change_on.nd rfl (Or.inr rfl) (pe_stars (.cons (pv 1) (.cons (pv 4) .nil)) (by decide) rfl))
      (pss_cons (ps_setDc (i := 8) (own := [("path", 3)]) (g := gName 3) (by rfl) sc_Change_on.nd rfl rfl (sw_trueD rfl rfl rfl (by decide +kernel)) (pi_tup (C8.pe_c (c_ascending T.toTop) hr (by decide) (by rfl) (pa_cons (pv 7) pa_nil))) (blkOk_by (own := [("path", 3)]) (N := ["self", "files", "torn", "path", "news", "_", "new", "values", "result", "crossed"]) (sc := C8.fnScope s_Change_on) (by decide +kernel)) (fun _ _ _ _ _ => (pg_name (i := 3) sc_Change_on.nd rfl (Or.inl rfl))) (fun _ _ _ _ _ => pts_one (pt_cmpR op_notN (pe_dget (hu_of hr) (pv 7) (pv 3) (fun _ _ => rfl)) pe_non (nomark _))) (fun _ _ _ _ _ => (pv 3)) (fun _ _ _ _ _ => (pe_dget (hu_of hr) (pv 7) (pv 3) (fun _ _ => rfl))))
      (pss_cons (ps_set (i := 9) sc_Change_on.nd rfl (Or.inl rfl) (C8.pe_c (c_crossing T.toTop) hr (by decide) (by rfl) (pa_cons (pv 8) pa_nil)))
      (pss_cons (ps_if (pt_truth (pv 9) (by intro _; rfl))
      (pss_one (ps_raise rfl (takes_of rfl rfl rfl rfl) (rs_of T.eK (hr.mono (by decide)) (by rfl) (pa_cons (C8.pe_c (c_ascending T.toTop) hr (by decide) (by rfl) (pa_cons (pv 9) pa_nil)) pa_nil))))
      pss_nil)
      (pss_one (ps_ret (pv 8))))))))))), ?_⟩
    refine ⟨v, rfl, (by show 1 ≤ sizeLine; decide), fun L hL => ?_⟩
    have s1 := same_new (o := .lst [v]) hL
    have h1 := upd_same (H := H) (a := L) (o := .lst [v])
    rcases h with ⟨bad, q⟩ | ⟨e, n', f, rfl, hF, hn, h⟩
    · exact ⟨L, _, rfl, h1, .inr ⟨0, v, rfl, fun j u hj => absurd hj (Nat.not_lt_zero j), bad.same s1, q.same s1⟩⟩
    generalize upd H L (.lst [V.ref e]) = H1 at s1 h1
    refine ⟨L, _, rfl, h1, .inl ⟨fun v hv => ?_, fun H2 s2 => ?_⟩⟩
    · rw [List.mem_singleton.mp hv]
      exact ⟨e, f, rfl, (hF.same s1).mono (by omega)⟩
    have s02 := s1.trans s2
    obtain ⟨ha, t, hd, hH, hO, hs⟩ := hA.same s02
    obtain ⟨u, he, hF2, oF⟩ := hF.same s02
    have lt : t.length ≤ n := hO.len
    have lu : u.length ≤ n' := oF.len
    have nad : a ≠ d := fun z => by rw [z, hd] at ha; cases ha
    refine ⟨d, _, hd, trivial, fun od => ⟨.ref a, rfl, a, C, dx, _, _, rfl, (by rw [upd_ne nad]; exact ha), T.cl, T.nR, rfl, d, od, rfl, .inl ⟨kT t, upd_same, fun D hD => ?_⟩⟩⟩
    have gF : ∀ x, GoodF (f x) := fun x p e1 => oF.good x p e1
    have nDd : D ≠ d := lock_ne hD
    have fD : H2 D = none := lock_free hD
    have k0 : TupKeep H2 (upd H2 d (.frz od (.dK (kT t)))) := TupKeep.at fun xs z => by rw [hd] at z; cases z
    have gE : ∀ {H5 : Hp}, Same (upd H2 d (.frz od (.dK (kT t)))) H5 → ∀ x, IsD H5 e ∧ DGet H5 e (.str x) (valV u x) := fun {H5} s5 x => by
      by_cases w : e = d
      · have e0 : kT t = kT u := by
          rw [w, hd] at he
          injection he with he
          injection he with he
        exact ⟨.inl ⟨kT t, .inr ⟨od, by rw [w]; exact s5 _ _ upd_same⟩⟩, dget_kT (.inr ⟨od, by rw [w, ← e0]; exact s5 _ _ upd_same⟩) x⟩
      · have := s5 _ _ (show (upd H2 d (.frz od (.dK (kT t)))) e = some (.dK (kT u)) by rw [upd_ne w]; exact he)
        exact ⟨.inl ⟨kT u, .inl this⟩, dget_kT (.inl this) x⟩
    let pt : Str → Bool := fun x => match m x with
      | some r => !decide (f x = r.1)
      | none => false
    have hpt : ∀ {x : Str} {r : Rw}, m x = some r → pt x = !decide (f x = r.1) := fun {x r} e1 => by
      show (match m x with | some r => !decide (f x = r.1) | none => false) = _
      rw [e1]
    have Y : Yields (Itk d od (kT t)) ((t.map (·.1)).map V.str) (fun H => H d = some (.frz od (.dK (kT t)))) := by
      rw [← kV_kT]
      exact yields_keys
    refine lc_pure (i := 3) (us := t.map (·.1)) (g := V.str) Y V.str pt hD (fun H s => s _ _ upd_same) (fun H5 x s5 hx R r => ?_) (fun H5 x s5 hx _ R r => ⟨_, rfl, r H5 (Same.refl H5)⟩) (by rw [List.length_map]; omega) (fun H5 s5 h5 => ?_)
    · have z := hH.mem.mp hx
      cases e1 : m x with
      | none => rw [e1] at z; cases z
      | some rr =>
        obtain ⟨v, hv, q1, v1, v2, rfl, t1, f1, f2⟩ := hH.at e1
        have k5 := k0.trans (TupKeep.of s5)
        have d1 := dget_kT (.inr ⟨od, s5 _ _ upd_same⟩) x
        rw [hv] at d1
        obtain ⟨i1, i2⟩ := gE s5 x
        refine ⟨.ref e, rfl, e, rfl, i1, .str x, rfl, _, i2, .ref a, rfl, a, C, dx, _, _, rfl, s5 _ _ (by rw [upd_ne nad]; exact ha), T.cl, T.nR, rfl, .str x, rfl, d, _, rfl, d1, q1, _, 0, v1, rfl, rfl, (t1.keep k5).sq, rfl, ?_⟩
        refine ⟨f x, rr.1, (get_fv hF2 x).keep k5, f1.keep k5, gF x, (hO.good x rr e1).1, _, rfl, ?_⟩
        rw [← hpt e1]
        exact r H5 (Same.refl H5)
    refine ⟨s5 _ _ upd_same, ?_⟩
    have s26 : Same H2 (upd H5 d (.dK (kT t))) := same_unlock s5 hd
    have h6 : (upd H5 d (.dK (kT t))) D = some (.lst (((t.map (·.1)).filter pt).map V.str)) := by rw [upd_ne nDd]; exact h5
    generalize upd H5 d (.dK (kT t)) = H6 at s26 h6
    have mt : ∀ x, x ∈ (t.map (·.1)).filter pt ↔ TornF m f x := fun x => by
      rw [List.mem_filter, hH.mem]
      constructor
      · rintro ⟨z1, z2⟩
        cases e1 : m x with
        | none => rw [e1] at z1; cases z1
        | some r =>
          rw [hpt e1] at z2
          exact ⟨r, e1, fun z => by rw [decide_eq_true z] at z2; cases z2⟩
      · rintro ⟨r, e1, ne⟩
        exact ⟨by rw [e1]; rfl, by rw [hpt e1, decide_eq_false ne]; rfl⟩
    have ndt : ((t.map (·.1)).filter pt).Nodup := hO.nd.filter _
    have ltt : ((t.map (·.1)).filter pt).length ≤ n := Nat.le_trans (List.length_filter_le _ _) (by rw [List.length_map]; exact lt)
    generalize (t.map (·.1)).filter pt = zs at h6 mt ndt ltt
    have s06 := s02.trans s26
    obtain ⟨u6, he6, hF6, oF6⟩ := hF.same s06
    obtain ⟨ha6, t6, hd6, hH6, hO6, hs6⟩ := hA.same s06
    have lt6 : t6.length ≤ n := hO6.len
    have lu6 : u6.length ≤ n' := oF6.len
    by_cases hz : zs = []
    case neg =>
      refine ⟨.ref D, rfl, true, ?tru, ?_⟩
      case tru => exact .inl ⟨_, SqL.of h6, by cases zs with | nil => exact absurd rfl hz | cons _ _ => rfl⟩
      refine iteT ?_
      refine ⟨.ref D, rfl, D, zs, rfl, h6, by omega, fun ys p H7 hp hsy np s7 h7 => ⟨(by show 1 ≤ 1000; decide), do_raise (Q := E) T.eK fun dd H8 s8 nd h8 => ?_⟩⟩
      have my : ∀ x, x ∈ ys ↔ TornF m f x := fun x => by rw [hp.mem_iff, mt]
      obtain ⟨x0, hx0⟩ := List.exists_mem_of_ne_nil zs hz
      have tn := (mt x0).mp hx0
      rcases h with ⟨_, q⟩ | ⟨no, _⟩ | ⟨no, _⟩
      · exact q dd p ys H8 (s06.trans (s7.trans s8)) h8 (s8 _ _ h7) hsy (hp.nodup_iff.mpr ndt) (by rw [hp.length_eq]; omega) my
      · exact absurd tn (no x0)
      · exact absurd tn (no x0)
    case pos =>
      subst hz
      refine ⟨.ref D, rfl, false, ?tru2, ?_⟩
      case tru2 => exact .inl ⟨_, SqL.of h6, rfl⟩
      refine iteF ?_
      have notorn : ∀ x, ¬ TornF m f x := fun x z => by
        have := (mt x).mpr z
        cases this
      have h : ((∃ x, CrossM (onM m f) x) ∧ Confl cK H E (CrossM (onM m f))) ∨ ((∀ x, ¬ CrossM (onM m f) x) ∧ ∀ p t H', H p = none → Same H H' → H' p = some (.dK (kT t)) → Holds (FiV K H') t (onM m f) → FilesOk (n + n') t (onM m f) → sortedS (t.map (·.1)) = true → Q (.ref p) H') := by
        rcases h with ⟨⟨x, z⟩, _⟩ | ⟨_, z⟩ | ⟨_, z⟩
        · exact absurd z (notorn x)
        · exact .inl z
        · exact .inr z
      have nad6 : a ≠ d := nad
      refine ⟨d, _, hd6, trivial, fun od2 => ⟨.ref a, rfl, a, C, dx, _, _, rfl, (by rw [upd_ne nad]; exact ha6), T.cl, T.nR, rfl, d, od2, _, rfl, upd_same, fun D2 hD2 => ?_⟩⟩
      have nDd2 : D2 ≠ d := lock_ne hD2
      have k6 : TupKeep H6 (upd H6 d (.frz od2 (.dK (kT t6)))) := TupKeep.at fun xs z => by rw [hd6] at z; cases z
      obtain ⟨us, eu, lus, ur⟩ := rows_list hO6.nd hH6
      have ndu : (us.map (·.1)).Nodup := by rw [eu]; exact hO6.nd
      have lk : (kT t6).length = us.length := by rw [len_kT, lus]
      let newM : Mp Fv := fun x => (m x).map (·.2)
      refine dc_holdS (us := us) (G := fun H5 => H5 d = some (.frz od2 (.dK (kT t6)))) (fun k H5 g hk => ⟨g, by rw [lk]; exact hk⟩) (fun H5 g => ⟨g, Nat.le_of_eq lk⟩) (fun u => u.1) (FvV K) (fun u => u.2.2.2.2) (fun _ => true) (fun u => [some (.ref a), some (.ref e), some (.ref D), some (.str u.1), none, some u.2.1, some u.2.2.1, none, none, none]) hD2 (fun H5 s5 => s5 _ _ upd_same) (fun _ _ => rfl)
        (fun k H5 u x H7 s5 hu hy => ?_) (fun H5 u s5 hu S k => k H5 (Same.refl H5)) (fun H5 u s5 hu _ S k => ⟨_, rfl, k H5 (Same.refl H5)⟩) (fun _ _ _ _ k h => h.keep k) (fun H5 u s5 hu _ S k => ?_) (by rw [lus]; omega) ndu (fun H5 tab s5 h5 pr => ?_)
      · obtain ⟨T0, k', v, hkv, rfl, nT, rfl⟩ := hy
        have sT := same_new (o := .tup [kV k', v]) nT
        refine ⟨sT, fun S hS => ?_⟩
        obtain ⟨q0, e1, t1, f1, f2, _⟩ := ur k u hu
        have e2 : (kT t6)[k]? = some (.inr u.1, .ref q0) := by
          unfold kT
          rw [List.getElem?_map, e1]
          rfl
        rw [e2] at hkv
        cases hkv
        have t1' : TupK K (upd H5 T0 (.tup [V.str u.1, .ref q0])) q0 [u.2.1, u.2.2.1] := (t1.keep k6).keep (TupKeep.of (s5.trans sT))
        exact ⟨T0, _, rfl, SqT.of upd_same, rfl, _, _, rfl, _, _, rfl, q0, _, rfl, t1'.sq, rfl, _, _, rfl, _, _, rfl, rfl, rfl, hS⟩
      · obtain ⟨k1, hk1⟩ := List.getElem?_of_mem hu
        obtain ⟨q0, _, t1, f1, f2, e1⟩ := ur k1 u hk1
        exact ⟨_, rfl, k _ H5 (Same.refl H5) (f2.keep (k6.trans (TupKeep.of s5)))⟩
      rw [filt_all] at pr
      refine ⟨s5 _ _ upd_same, ?_⟩
      have s67 : Same H6 (upd H5 d (.dK (kT t6))) := same_unlock s5 hd6
      have k7 : TupKeep H5 (upd H5 d (.dK (kT t6))) := TupKeep.at fun xs z => by rw [s5 _ _ upd_same] at z; cases z
      have h7 : (upd H5 d (.dK (kT t6))) D2 = some (.dK (kT tab)) := by rw [upd_ne nDd2]; exact h5
      have ek := paired_keys (R := fun v (u : Str × V × V × Rw) => FvV K H5 v u.2.2.2.2) pr
      have ndtab : Nd tab := by unfold Nd; rw [ek]; exact ndu
      have ltab : tab.length ≤ n := by
        have := congrArg List.length ek
        rw [List.length_map, List.length_map] at this
        omega
      have jH : Holds (FvV K (upd H5 d (.dK (kT t6)))) tab newM := by
        refine (holds_paired pr ndu (fun u hu => ?_) (fun x hx => ?_)).imp fun _ _ x => x.keep k7
        · obtain ⟨k1, hk1⟩ := List.getElem?_of_mem hu
          obtain ⟨_, _, _, _, _, e1⟩ := ur k1 u hk1
          show (m u.1).map (·.2) = _
          rw [e1]
          rfl
        · rw [eu] at hx
          show (m x).map (·.2) = none
          cases e1 : m x with
          | none => rfl
          | some r => exact absurd (hH6.mem.mpr (by rw [e1]; rfl)) hx
      generalize upd H5 d (.dK (kT t6)) = H7 at s67 h7 jH
      have s07 := s06.trans s67
      have hF7 : Holds (FvV K H7) u6 (fun x => (f x).map some) := fun x => by
        rcases hF6 x with ⟨z1, z2⟩ | ⟨v, r, z1, z2, z3⟩
        · exact .inl ⟨z1, by show (f x).map some = none; rw [z2]; rfl⟩
        · exact .inr ⟨v, some r, z1, by show (f x).map some = _; rw [z2]; rfl, z3.keep (TupKeep.of s67)⟩
      refine stars2 rfl rfl (s67 _ _ he6) h7 hF7 jH oF6.nd ndtab (by omega) fun p mv H8 np s8 hp8 ndv lmv hV => ?_
      refine ⟨.ref p, rfl, p, mv, rfl, hp8, by omega, fun ys pl H9 hperm hsy npl s9 hpl => ⟨pl, rfl, ⟨_, SqT.of hpl⟩, fun D3 hD3 => ?_⟩⟩
      have lys : ys.length ≤ n + n' := by rw [hperm.length_eq, List.length_map]; omega
      have ndy : ys.Nodup := hperm.nodup_iff.mpr ndv
      have hp9 := s9 _ _ hp8
      have val : ∀ x ∈ ys, ∃ v, valV mv x = some v ∧ FvV K H9 v (onM m f x) := fun x hx => by
        have z := hV.mem.mp (hperm.mem_iff.mp hx)
        cases e1 : orM (fun x => (f x).map some) newM x with
        | none => rw [e1] at z; cases z
        | some fv =>
          obtain ⟨v, hv, fv1⟩ := hV.at e1
          have ev : fv = onM m f x := by
            unfold orM at e1
            unfold onM
            cases e2 : m x with
            | some r =>
              rw [show newM x = some r.2 from by show (m x).map (·.2) = _; rw [e2]; rfl] at e1
              exact (Option.some.inj e1).symm
            | none =>
              rw [show newM x = none from by show (m x).map (·.2) = _; rw [e2]; rfl] at e1
              have e1 : (f x).map some = some fv := e1
              cases e3 : f x with
              | none => rw [e3] at e1; cases e1
              | some r => rw [e3] at e1; exact (Option.some.inj e1).symm
          rw [← ev]
          exact ⟨v, hv, fv1.keep (TupKeep.of (s8.trans s9))⟩
      have inY : ∀ x r, onM m f x = some r → x ∈ ys := fun x r e1 => by
        refine hperm.mem_iff.mpr (hV.mem.mpr ?_)
        unfold onM at e1
        unfold orM
        cases e2 : m x with
        | some q =>
          rw [show newM x = some q.2 from by show (m x).map (·.2) = _; rw [e2]; rfl]
          rfl
        | none =>
          rw [e2] at e1
          rw [show newM x = none from by show (m x).map (·.2) = _; rw [e2]; rfl]
          show ((f x).map some).isSome = true
          rw [show f x = some r from e1]
          rfl
      have pathY : ∀ x ∈ ys, PathOk x := fun x hx => by
        have z := hV.mem.mp (hperm.mem_iff.mp hx)
        unfold orM at z
        cases e2 : m x with
        | some q => exact hO6.path x (hH6.mem.mpr (by rw [e2]; rfl))
        | none =>
          rw [show newM x = none from by show (m x).map (·.2) = _; rw [e2]; rfl] at z
          have z : ((f x).map some).isSome = true := z
          refine oF6.path x (hF6.mem.mpr ?_)
          cases e3 : f x with
          | none => rw [e3] at z; cases z
          | some _ => rfl
      have goodY : ∀ x r, onM m f x = some r → GoodP r := fun x r e1 => by
        unfold onM at e1
        cases e2 : m x with
        | some q =>
          rw [e2] at e1
          exact (hO6.good x q e2).2 r e1
        | none =>
          rw [e2] at e1
          exact oF6.good x r e1
      refine dc_hold (us := ys) (val := V.str) yields_tup (fun x => x) (FiV K) (fun x => (onM m f x).getD ("", "")) (fun x => (onM m f x).isSome) (fun x => [some (.ref a), some (.ref e), some (.ref D), some (.str x), some (.ref D2), none, none, some (.ref p), none, none]) hD3 (fun H5 s5 => SqT.of (s5 _ _ hpl)) (fun _ _ => rfl)
        (fun H5 x _ _ S k => k) (fun H5 x s5 hx S k => ?_) (fun H5 x _ _ _ S k => ⟨_, rfl, k H5 (Same.refl H5)⟩) (fun _ _ _ _ k h => FvV.keep h k) (fun H5 x s5 hx hpx S k => ?_) (by omega) (by rw [List.map_id']; exact ndy) (fun H5 tab2 s5 h5 pr2 => ?_)
      · obtain ⟨v, hv, fv1⟩ := val x hx
        have g1 := dget_kT (.inl (s5 _ _ hp9)) x
        rw [hv] at g1
        refine ⟨.ref p, rfl, .str x, rfl, p, _, rfl, g1, rfl, _, rfl, ?_⟩
        have eb : (!decide (v = V.non)) = (onM m f x).isSome := by
          cases ev : onM m f x with
          | none =>
            rw [ev] at fv1
            rw [show v = .non from fv1]
            rfl
          | some r =>
            rw [ev] at fv1
            obtain ⟨q0, rfl, _⟩ := fv1
            rw [decide_eq_false (fun z => by cases z)]
            rfl
        rw [eb]
        exact k H5 (Same.refl H5)
      · obtain ⟨v, hv, fv1⟩ := val x hx
        have g1 := dget_kT (.inl (s5 _ _ hp9)) x
        rw [hv] at g1
        refine ⟨.ref p, rfl, .str x, rfl, p, _, rfl, g1, k v H5 (Same.refl H5) ?_⟩
        cases ev : onM m f x with
        | none => rw [ev] at hpx; cases hpx
        | some r =>
          rw [ev] at fv1
          exact FvV.keep fv1 (TupKeep.of s5)
      have ek2 : tab2.map (·.1) = ys.filter fun x => (onM m f x).isSome := by
        have := paired_keys (R := fun v x => FiV K H5 v ((onM m f x).getD ("", ""))) pr2
        rwa [List.map_id'] at this
      have rH : Holds (FiV K H5) tab2 (onM m f) := by
        refine holds_paired pr2 (by rw [List.map_id']; exact ndy.filter _) (fun x hx => ?_) (fun x hx => ?_)
        · have z := (List.mem_filter.mp hx).2
          cases ev : onM m f x with
          | none => rw [ev] at z; cases z
          | some r => rfl
        · rw [List.map_id'] at hx
          cases ev : onM m f x with
          | none => rfl
          | some r => exact absurd (List.mem_filter.mpr ⟨inY x r ev, by rw [ev]; rfl⟩) hx
      have rO : FilesOk (n + n') tab2 (onM m f) := by
        refine ⟨by unfold Nd; rw [ek2]; exact ndy.filter _, ?_, fun x hx => ?_, goodY⟩
        · have := congrArg List.length ek2
          have l2 := List.length_filter_le (fun x => (onM m f x).isSome) ys
          rw [List.length_map] at this
          omega
        · rw [ek2] at hx
          exact pathY x (List.mem_filter.mp hx).1
      have rS : sortedS (tab2.map (·.1)) = true := by
        rw [ek2]
        exact sorted_filter hsy _
      have s0A := ((s07.trans s8).trans s9).trans s5
      have len2 := rO.len
      refine ⟨.ref D3, rfl, D3, tab2, rfl, h5, rO.nd, by omega, rO.path, fun pc HA npc sA hM => ?_⟩
      obtain ⟨uc, hpc, ndc, lc, huc⟩ := hM
      have cross : ∀ x, x ∈ uc.map (·.1) ↔ CrossM (onM m f) x := fun x => by
        rw [huc x]
        unfold crossF CrossM
        rw [rH.mem]
        constructor
        · rintro ⟨z1, y, hy, z2⟩
          exact ⟨z1, y, rH.mem.mp hy, z2⟩
        · rintro ⟨z1, y, hy, z2⟩
          exact ⟨z1, y, rH.mem.mpr hy, z2⟩
      by_cases hu : uc = []
      · subst hu
        refine ⟨.ref pc, rfl, false, .inr (.inr ⟨_, hpc, rfl⟩), iteF ?_⟩
        rcases h with ⟨⟨x, z⟩, _⟩ | ⟨_, q⟩
        · have := (cross x).mpr z
          cases this
        · refine ⟨_, rfl, q D3 tab2 HA ?_ (s0A.trans sA) (sA _ _ h5) (rH.imp fun _ _ x => FvV.keep x (TupKeep.of sA)) rO rS⟩
          exact ((s07.trans s8).trans s9).free hD3
      · obtain ⟨⟨x0, w0⟩, ur', rfl⟩ := List.exists_cons_of_ne_nil hu
        refine ⟨.ref pc, rfl, true, .inr (.inr ⟨_, hpc, rfl⟩), iteT ?_⟩
        refine ⟨.ref pc, rfl, pc, _, rfl, hpc, by omega, fun ys' p' HB hp' hsy' np' sB hB => ⟨(by show 1 ≤ 1000; decide), do_raise (Q := E) T.eK fun dd HC sC nd hCc => ?_⟩⟩
        have my : ∀ x, x ∈ ys' ↔ CrossM (onM m f) x := fun x => by rw [hp'.mem_iff, cross]
        rcases h with ⟨_, q⟩ | ⟨no, _⟩
        · exact q dd p' ys' HC (s0A.trans (sA.trans (sB.trans sC))) hCc (sC _ _ hB) hsy' (hp'.nodup_iff.mpr ndc) (by rw [hp'.length_eq, List.length_map]; omega) my
        · exact absurd ((cross x0).mp (by rw [List.map_cons]; exact List.mem_cons_self)) (no x0)
end

end Fk

set_option maxHeartbeats 4000000
/-! *e among arguments and in list displays, its K given. -/
namespace Fk
open PySem PySem.Spec PyProof.Rows L2 StX
theorem pa_starK {X : Cx} {K : PySem.W.Frag} {e : Expr} {es : List Expr} {te : TE} {t : TA} {p : Pos} (eK : X.K = K) (he : PE X e te) (hr : PA X es t) (hs : starEach (.Starred e p :: es) X.env = (true, eval e X.env) :: starEach es X.env := by rfl) : PA X (.Starred e p :: es) (tStar K te t) := by
  subst eK
  exact pa_star he hr hs
end Fk

set_option maxHeartbeats 4000000
namespace Fk
open PySem PySem.Spec PyProof.Rows L2
open StX
/-- some path is, or lies below, one of others -/
def BelowF (ks os : List Str) : Prop := ∃ x ∈ ks, ∃ y ∈ os, x = y ∨ Txt.startswith x (y ++ ("/" : Str)) = true
section
variable {P : Program} {w : World} {K : PySem.W.Frag} {mg : Str → Option Value} {base : Heap} {C fk cE iF cP cK iK : Addr}
def spLie : Sp := fun vs H Q _ => ∃ (a b : Addr) (t u : Tab), vs = [.ref a, .ref b] ∧ H a = some (.dK (kT t)) ∧ H b = some (.dK (kT u)) ∧ t.length ≤ 100 ∧ (∀ x ∈ t.map (·.1), PathOk x) ∧ ∀ (c : Bool) H', (c = true ↔ BelowF (t.map (·.1)) (u.map (·.1))) → Same H H' → Q (.bl c) H'
theorem c__lie_at_or_below (T : Top K mg) : C8.Cal P w K mg base 2 "_lie_at_or_below" spLie [] := by
  refine cal_of T.d__lie_at_or_below sc__lie_at_or_below (fun _ _ _ _ _ _ us hl => match us, hl with | [_, _], _ => rfl) (fun vs H Q E h => ?_) (fun f cdv A outer s H vs Q E hr h => ?_)
  · obtain ⟨a, b, t, u, rfl, _⟩ := h
    rfl
  · obtain ⟨a, b, t, u, rfl, ha, hb, hl, hp, q⟩ := h
    refine ⟨_, (pss_one (ps_ret (pe_callB (cr_any rfl) (by rfl) T.z_any (by decide +kernel) (pa_cons (pe_lock (pe_lc2 (vs1 := [3]) (own := [("path", 2), ("place", 3)]) (g := gName 2) (by rfl) sc__lie_at_or_below.nd (pi_keys (pv 0)) (blkOk_by (own := [("path", 2), ("place", 3)]) (N := ["rows", "others", "path", "place"]) (sc := C8.fnScope s__lie_at_or_below) (by decide +kernel)) (by decide) (fun _ _ _ _ _ => (pg_name (i := 2) sc__lie_at_or_below.nd rfl (Or.inl rfl))) (fun _ _ _ _ _ => pts_nil) (fun _ _ _ _ _ => (pi_listK (K := K) rfl (pe_lst (pa_cons (pv 2) (pa_starK (K := K) rfl (C8.pe_c (c_prefixes T) hr (by decide) (by rfl) (pa_cons (pv 2) pa_nil)) pa_nil))))) (fun _ _ _ _ _ => (pg_name (i := 3) sc__lie_at_or_below.nd rfl (Or.inl rfl))) (fun _ _ _ _ _ => pts_nil) (fun _ _ _ _ _ => (pe_cmp (pc_din (hu_of hr) (pv 3) (pv 1)))))) pa_nil)))), ?_⟩
    refine ⟨a, _, ha, trivial, fun od => ⟨.ref a, rfl, a, od, rfl, .inl ⟨kT t, upd_same, fun D hD => ?_⟩⟩⟩
    have nDa : D ≠ a := lock_ne hD
    have Y : Yields (Itk a od (kT t)) ((t.map (·.1)).map V.str) (fun H => H a = some (.frz od (.dK (kT t)))) := by
      rw [← kV_kT]
      exact yields_keys
    have gB : ∀ {H5 : Hp}, Same (upd H a (.frz od (.dK (kT t)))) H5 → ∀ x, DGet H5 b (.str x) (valV u x) := fun {H5} s5 x => by
      by_cases w : b = a
      · have e0 : kT t = kT u := by
          rw [w, ha] at hb
          exact HO.dK.inj (Option.some.inj hb)
        exact dget_kT (.inr ⟨od, by rw [w, ← e0]; exact s5 _ _ upd_same⟩) x
      · exact dget_kT (.inl (s5 _ _ (by rw [upd_ne w]; exact hb))) x
    have lp : ∀ x ∈ t.map (·.1), (x :: prefsF x).length ≤ 7 := fun x hx => by
      have := (segs_path (hp x hx).1).1
      unfold prefsF
      simp only [List.length_cons, List.length_map, List.length_range]
      omega
    refine lc2_pure (i := 2) (j := 3) (us := t.map (·.1)) (g := V.str) (h := V.str) Y (fun x => x :: prefsF x) (fun x p => .bl (valV u p).isSome) hD (fun H5 s5 => s5 _ _ upd_same) (fun _ => rfl) (fun _ _ => rfl) (fun H5 x s5 hD5 hx R r => ?_) (fun H5 x p s5 hx hpm R r => ?_) ?_ (fun H5 s5 h5 => ?_)
    · refine ⟨.str x, rfl, .str x, rfl, x, rfl, hp x hx, fun pl H6 npl s6 hpl => ⟨pl, _, rfl, .inr (SqL.of hpl), ?_, fun L nL => ?_⟩⟩
      · have := lp x hx
        rw [List.length_cons] at this
        exact small_line (by rw [List.append_nil, List.length_cons, List.length_map]; omega)
      · refine ⟨L, rfl, ⟨_, SqL.of upd_same⟩, ?_⟩
        have eL : (V.str x :: ((prefsF x).map V.str ++ [])) = (x :: prefsF x).map V.str := by rw [List.append_nil]; rfl
        refine r (Itl K L) (fun H => SqL K H L ((x :: prefsF x).map V.str)) _ yields_list (s6.trans (same_new nL)) (fun H' fr => SqL.of (fr L _ ?_ (by rw [upd_same, eL])))
        intro z
        rw [List.mem_singleton.mp z] at nL
        cases e5 : H5 D with
        | none => exact hD5 e5
        | some o =>
          rw [s6 _ _ e5] at nL
          cases nL
    · exact ⟨.str p, rfl, .ref b, rfl, b, _, rfl, gB s5 p, r H5 (Same.refl H5)⟩
    · have : ∀ l : List Str, (∀ x ∈ l, x ∈ t.map (·.1)) → (l.flatMap fun x => x :: prefsF x).length ≤ l.length * 7 := by
        intro l
        induction l with
        | nil => intro _; exact Nat.le_refl _
        | cons y l ih =>
          intro hh
          have i1 := ih fun z hz => hh z (List.mem_cons_of_mem _ hz)
          have i2 := lp y (hh y List.mem_cons_self)
          rw [List.flatMap_cons, List.length_append, List.length_cons (a := y) (as := l), Nat.succ_mul]
          omega
      have := this _ fun x hx => hx
      rw [List.length_map] at this
      omega
    · refine ⟨s5 _ _ upd_same, D, ((t.map (·.1)).flatMap fun x => x :: prefsF x).map fun p => (valV u p).isSome, rfl, .inl (.inl ?_), ?_⟩
      · rw [upd_ne nDa, h5, List.map_map, List.map_flatMap]
        rfl
      · refine q _ _ ?_ (same_unlock s5 ha)
        rw [List.any_map, List.any_eq_true]
        constructor
        · rintro ⟨p, hpm, e⟩
          obtain ⟨x, hx, hxp⟩ := List.mem_flatMap.mp hpm
          have hu : p ∈ u.map (·.1) := mem_val.mpr e
          rcases List.mem_cons.mp hxp with z | z
          · exact ⟨x, hx, p, hu, .inl z.symm⟩
          · exact ⟨x, hx, p, hu, .inr (mem_prefs.mp z)⟩
        · rintro ⟨x, hx, y, hy, z⟩
          refine ⟨y, List.mem_flatMap.mpr ⟨x, hx, ?_⟩, mem_val.mp hy⟩
          rcases z with z | z
          · rw [z]; exact List.mem_cons_self
          · exact List.mem_cons_of_mem _ (mem_prefs.mpr z)
end

end Fk

set_option maxHeartbeats 4000000
namespace Fk
open PySem PySem.Spec PyProof.Rows L2
def BelowM (m m' : Mp Rw) : Prop := ∃ x y, (m x).isSome = true ∧ (m' y).isSome = true ∧ (x = y ∨ Txt.startswith x (y ++ ("/" : Str)) = true)
theorem below_m {K : PySem.W.Frag} {H H' : Hp} {t u : Tab} {m m' : Mp Rw} (h : Holds (RwV K H) t m) (k : Holds (RwV K H') u m') : BelowF (t.map (·.1)) (u.map (·.1)) ↔ BelowM m m' := by
  unfold BelowF BelowM
  constructor
  · rintro ⟨x, hx, y, hy, z⟩
    exact ⟨x, y, h.mem.mp hx, k.mem.mp hy, z⟩
  · rintro ⟨x, y, hx, hy, z⟩
    exact ⟨x, h.mem.mpr hx, y, k.mem.mpr hy, z⟩
section
variable {P : Program} {w : World} {K : PySem.W.Frag} {mg : Str → Option Value} {base : Heap} {C fk cE iF cP cK iK : Addr}
def spApartG (K : PySem.W.Frag) (C : Addr) : Sp := fun vs H Q _ => ∃ (a dx d b dx' d' : Addr) (n n' : Nat) (m m' : Mp Rw), vs = [.ref a, .ref b] ∧ ChAt K C H a dx d n m ∧ ChAt K C H b dx' d' n' m' ∧ n ≤ 60 ∧ n' ≤ 60 ∧ ∀ (c : Bool) H', (c = true ↔ ¬ BelowM m m' ∧ ¬ BelowM m' m) → Same H H' → Q (.bl c) H'
theorem mx_Change_is_apartG (T : TopF K mg C fk cE iF cP cK iK) : MetX P w K mg base (L2.CX P w) 4 C "is_apart" (spApartG K C) [] := by
  refine metX_of T.cl T.d_apart sc_Change_is_apart (fun _ _ _ _ _ _ us hl => match us, hl with | [_, _], _ => rfl) (fun vs H Q E h => ?_) (fun f cdv A outer s H vs Q E hr h => ?_)
  · obtain ⟨a, dx, d, b, dx', d', n, n', m, m', rfl, _⟩ := h
    rfl
  · obtain ⟨a, dx, d, b, dx', d', n, n', m, m', rfl, hA, hB, hn, hn', q⟩ := h
    obtain ⟨ha, t, hd, hH, hO, hs⟩ := id hA
    obtain ⟨hb, u, hd', kH, kO, ks⟩ := id hB
    have lt := hO.len
    have lu := kO.len
    refine ⟨_, (pss_cons (ps_expr (pe_cx (cx__check_change T.toTopC) hr (by decide) (fun _ => passAt (takes_of rfl rfl rfl rfl) _) (by rfl) (pa_cons (pv 1) pa_nil)))
      (pss_one (ps_ret (pe_and (pe_not (C8.pe_c (c__lie_at_or_below T.toTop) hr (by decide) (by rfl) (pa_cons (pe_fld (pv 0) rfl) (pa_cons (pe_fld (pv 1) rfl) pa_nil)))) (pe_one (pe_not (C8.pe_c (c__lie_at_or_below T.toTop) hr (by decide) (by rfl) (pa_cons (pe_fld (pv 1) rfl) (pa_cons (pe_fld (pv 0) rfl) pa_nil))))))))), ?_⟩
    refine ⟨.ref b, rfl, .ref b, rfl, .inl ⟨b, dx', _, rfl, hb, ?_⟩⟩
    refine ⟨.ref a, rfl, a, C, dx, _, _, rfl, ha, T.cl, T.nR, rfl, .ref b, rfl, b, C, dx', _, _, rfl, hb, T.cl, T.nR, rfl, d, d', t, u, rfl, hd, hd', by omega, hO.path, fun c1 H1 hc1 s1 => ⟨c1, rfl, ?_⟩⟩
    rw [below_m hH kH] at hc1
    cases c1 with
    | true =>
      refine ⟨false, rfl, q _ H1 ⟨(fun z => by cases z), fun z => absurd (hc1.mp rfl) z.1⟩ s1⟩
    | false =>
      refine ⟨true, rfl, ?_⟩
      have n1 : ¬ BelowM m m' := fun z => by have := hc1.mpr z; cases this
      refine ⟨.ref b, rfl, b, C, dx', _, _, rfl, s1 _ _ hb, T.cl, T.nR, rfl, .ref a, rfl, a, C, dx, _, _, rfl, s1 _ _ ha, T.cl, T.nR, rfl, d', d, u, t, rfl, s1 _ _ hd', s1 _ _ hd, by omega, kO.path, fun c2 H2 hc2 s2 => ⟨c2, rfl, ?_⟩⟩
      rw [below_m kH hH] at hc2
      refine q _ H2 ?_ (s1.trans s2)
      cases c2 with
      | true => exact ⟨(fun z => by cases z), fun z => absurd (hc2.mp rfl) z.2⟩
      | false => exact ⟨fun _ => ⟨n1, fun z => by have := hc2.mpr z; cases this⟩, fun _ => rfl⟩
end

end Fk

set_option maxHeartbeats 4000000
namespace Fk
open PySem PySem.Spec PyProof.Rows L2
theorem paired_list {α β γ : Type} {R : α → β → γ → Prop} : ∀ {as : List α} {ys : List β}, Paired (fun a y => ∃ z, R a y z) as ys → ∃ us : List (α × β × γ), us.map (·.1) = as ∧ us.map (·.2.1) = ys ∧ ∀ u ∈ us, R u.1 u.2.1 u.2.2
  | _, _, .nil => ⟨[], rfl, rfl, fun u h => nomatch h⟩
  | _, _, .cons (a := a) (b := b) ⟨z, h⟩ r => by
    obtain ⟨us, e1, e2, e3⟩ := paired_list r
    refine ⟨(a, b, z) :: us, by rw [List.map_cons, e1], by rw [List.map_cons, e2], fun u hu => ?_⟩
    rcases List.mem_cons.mp hu with rfl | hu
    · exact h
    · exact e3 u hu
section
variable {P : Program} {w : World} {K : PySem.W.Frag} {mg : Str → Option Value} {base : Heap} {C fk cE iF cP cK iK : Addr}
def spBetw (K : PySem.W.Frag) (C : Addr) : Sp := fun vs H Q _ => ∃ (a b : Addr) (n n' : Nat) (f g : Mp Fi), vs = [.ref C, .ref a, .ref b] ∧ FilesAt K H a n f ∧ FilesAt K H b n' g ∧ n + n' ≤ 60 ∧
  ∀ c dx d H', H c = none → H d = none → Same H H' → ChAt K C H' c dx d (n + n') (diffM f g) → Q (.ref c) H'
theorem ok_between (T : TopF K mg C fk cE iF cP cK iK) {ga : Addr} {fd : FuncData} (F : C8.Fun K "between" "Change.between" s_Change_between ga fd) : FnOk P w K mg base (L2.CX P w) 8 ga fd ["cls", "old", "new"] (spBetw K C) := by
  obtain ⟨fi, fdi, psi, dsi, MK, FK, _, BK, dd⟩ := (k_Change (P := P) (w := w) (base := base) T.toTopC).ex
  cases dd
  obtain ⟨oc, od, dV, kV, doc, pm, an, cdv, ct, osl, rfl, lk, hcd⟩ := F.ex
  refine fn_of lk hcd sc_Change_between (fun vs H Q E h => ?_) (fun A outer s H vs Q E hr h => ?_)
  · obtain ⟨a, b, n, n', f, g, rfl, _⟩ := h
    rfl
  · obtain ⟨a, b, n, n', f, g, rfl, hA, hB, hn, q⟩ := h
    refine ⟨_, (pss_one (ps_ret (pe_makeL MK FK (hr.mono (by decide)) (i := 0) rfl (Or.inl rfl) BK .nil (E := C8.E0) (fun _ _ _ _ _ _ _ z => z.elim) (pa_cons (pe_dc (own := [("path", 3), ("before", 4), ("behind", 5)]) (g := _) (by rfl) sc_Change_between.nd (pi_list (pe_cx (cx_differences T) hr (by decide) (fun _ => passAt (takes_of rfl rfl rfl rfl) _) (by rfl) (pa_cons (pv 1) (pa_cons (pv 2) pa_nil)))) (blkOk_by (own := [("path", 3), ("before", 4), ("behind", 5)]) (N := ["cls", "old", "new", "path", "before", "behind"]) (sc := C8.fnScope s_Change_between) (by decide +kernel)) (fun _ _ _ _ _ => (pg_tupK (K := K) (n := 3) rfl rfl (pgs_cons (pg_name (i := 3) sc_Change_between.nd rfl (Or.inl rfl)) (pgs_cons (pg_name (i := 4) sc_Change_between.nd rfl (Or.inl rfl)) (pgs_cons (pg_name (i := 5) sc_Change_between.nd rfl (Or.inl rfl)) pgs_nil))))) (fun _ _ _ _ _ => pts_nil) (fun _ _ _ _ _ => (pv 3)) (fun _ _ _ _ _ => (pe_tup (pa_cons (pv 4) (pa_cons (pv 5) pa_nil))))) pa_nil)))), ?_⟩
    refine ⟨rfl, .ref a, rfl, .ref b, rfl, a, b, n, n', f, g, rfl, hA, hB, hn, fun D as ys H1 s1 hD ndy sy ly py my pr => ⟨D, rfl, ⟨_, SqL.of hD⟩, fun D2 hD2 => ?_⟩⟩
    have pr' : Paired (fun (a : Addr) x => ∃ z : V × V, H1 a = some (.tup [.str x, z.1, z.2]) ∧ FvV K H1 z.1 (f x) ∧ FvV K H1 z.2 (g x)) as ys := Paired.mapP pr fun _ _ ⟨v1, v2, h⟩ => ⟨(v1, v2), h⟩
    obtain ⟨us, e1, e2, e3⟩ := paired_list pr'
    have lus : us.length = ys.length := by rw [← e2, List.length_map]
    have Y : Yields (Itl K D) (us.map fun u => V.ref u.1) (fun H => SqL K H D (as.map V.ref)) := by
      rw [show (us.map fun u => V.ref u.1) = as.map V.ref by rw [← e1, List.map_map]; rfl]
      exact yields_list
    have gF : ∀ x, GoodF (f x) ∧ GoodF (g x) := fun x => by
      obtain ⟨_, _, _, o1⟩ := hA
      obtain ⟨_, _, _, o2⟩ := hB
      exact ⟨fun p e => o1.good x p e, fun p e => o2.good x p e⟩
    refine dc_hold (us := us) (val := fun u => V.ref u.1) Y (fun u => u.2.1) (RwV K) (fun u => (f u.2.1, g u.2.1)) (fun _ => true) (fun u => [some (.ref C), some (.ref a), some (.ref b), some (.str u.2.1), some u.2.2.1, some u.2.2.2]) hD2 (fun H5 s5 => SqL.of (s5 _ _ hD)) (fun _ _ => rfl)
      (fun H5 u s5 hu S k => ⟨u.1, _, rfl, SqT.of (s5 _ _ (e3 u hu).1), rfl, _, _, rfl, _, _, rfl, _, _, rfl, rfl, k⟩) (fun H5 u _ _ S k => k H5 (Same.refl H5)) (fun H5 u _ _ _ S k => ⟨_, rfl, k H5 (Same.refl H5)⟩) (fun _ _ _ _ k h => h.keep k) (fun H5 u s5 hu _ S k => ?_) (by omega) (by rw [e2]; exact ndy) (fun H5 tab s5 h5 pr2 => ?_)
    · refine ⟨_, rfl, _, rfl, (by show 2 ≤ sizeLine; decide), fun tp ntp => ?_⟩
      have st := same_new (o := .tup [u.2.2.1, u.2.2.2]) ntp
      obtain ⟨_, f1, f2⟩ := e3 u hu
      exact k (.ref tp) _ st ⟨tp, _, _, rfl, .inl upd_same, f1.keep (TupKeep.of (s5.trans st)), f2.keep (TupKeep.of (s5.trans st))⟩
    · rw [filt_all] at pr2
      have ek := paired_keys (R := fun v (u : Addr × Str × V × V) => RwV K H5 v (f u.2.1, g u.2.1)) pr2
      rw [e2] at ek
      have rH : Holds (RwV K H5) tab (diffM f g) := by
        refine holds_paired pr2 (by rw [e2]; exact ndy) (fun u hu => ?_) (fun x hx => ?_)
        · have hm : u.2.1 ∈ ys := by rw [← e2]; exact List.mem_map.mpr ⟨u, hu, rfl⟩
          show (if f u.2.1 = g u.2.1 then none else some (f u.2.1, g u.2.1)) = _
          rw [if_neg ((my _).mp hm)]
        · rw [e2] at hx
          show (if f x = g x then none else some (f x, g x)) = none
          by_cases z : f x = g x
          · rw [if_pos z]
          · exact absurd ((my x).mpr z) hx
      have s05 := s1.trans s5
      refine do_change ⟨tab, h5, rH, by unfold Nd; rw [ek]; exact ndy, ?_, fun x hx => py x (by rw [← ek]; exact hx), fun x r e => ?_⟩ hn fun c dx3 d3 H' f1 f2 s' k' => q c dx3 d3 H' (s05.free f1) (s05.free f2) (s05.trans s') k'
      · have := congrArg List.length ek
        rw [List.length_map] at this
        omega
      · unfold diffM at e
        split at e
        · cases e
        · cases e
          exact gF x
end

end Fk

set_option maxHeartbeats 4000000
namespace Fk
open PySem PySem.Spec PyProof.Rows L2
section
variable {P : Program} {w : World} {K : PySem.W.Frag} {mg : Str → Option Value} {base : Heap}
/-! ### the wells -/
def spCellAt (K : PySem.W.Frag) : Sp := fun vs H Q _ => ∃ (a : Addr) (ns : List Int) (k : Nat), vs = [.ref a, .int k] ∧ SqL K H a (ns.map V.int) ∧ ∀ v : Int, Q (.int v) H
theorem c_l_cell_at (T : Top K mg) : C8.Cal P w K mg base 1 "_law_cell_at" (spCellAt K) [] := by
  refine cal_of T.d_l_cell_at sc_l_cell_at (fun _ _ _ _ _ _ us hl => match us, hl with | [_, _], _ => rfl) (fun vs H Q E h => ?_) (fun f cdv A outer s H vs Q E hr h => ?_)
  · obtain ⟨a, ns, k, rfl, _⟩ := h
    rfl
  · obtain ⟨a, ns, k, rfl, hS, q⟩ := h
    refine ⟨_, (pss_cons (ps_if (pt_cmpR op_lt (pv 1) (pe_callB call_len_seq (by rfl) T.z_len (by decide +kernel) (pa_cons (pv 0) pa_nil)) (nomark _))
      (pss_one (ps_ret (pe_ix ix_list (pv 0) (pv 1) (fun _ _ => rfl))))
      pss_nil)
      (pss_one (ps_ret pe_int))), ?_⟩
    refine ⟨.int k, rfl, .ref a, rfl, a, _, rfl, .inl hS, _, _, rfl, rfl, _, rfl, ite2 (fun h1 => ?_) (fun h1 => ?_)⟩
    · have h1 := of_decide_eq_true h1
      rw [List.length_map] at h1
      have h2 : k < ns.length := by omega
      exact ⟨.ref a, rfl, .int k, rfl, a, _, k, .int ns[k], rfl, rfl, hS, atI_nat (by rw [List.getElem?_map, List.getElem?_eq_getElem h2]; rfl), q _⟩
    · exact q _
def spWell : Sp := fun vs H Q _ => ∃ (x : Int), vs = [.int x] ∧ ∀ H' a, H a = none → Same H H' → Wl H' a 0 → Q (.ref a) H'
theorem c_l_well (T : Top K mg) : C8.Cal P w K mg base 1 "_law_well" spWell [] := by
  refine cal_of T.d_l_well sc_l_well (fun _ _ _ _ _ _ us hl => match us, hl with | [_], _ => rfl) (fun vs H Q E h => ?_) (fun f cdv A outer s H vs Q E hr h => ?_)
  · obtain ⟨x, rfl, _⟩ := h
    rfl
  · obtain ⟨x, rfl, q⟩ := h
    refine ⟨_, (pss_one (ps_ret (pe_lst (pa_cons (pe_op op_mul (pv 0) (pe_callTy call_int1 (by rfl) T.z_int (by decide +kernel) (pa_cons (pe_cmpR op_ge (pv 0) (pe_op op_pow pe_int pe_int) (nomark _)) pa_nil))) (pa_cons (pv 0) (pa_cons pe_int pa_nil)))))), ?_⟩
    refine ⟨.int x, rfl, .int x, rfl, 10, 18, rfl, rfl, ⟨by decide, by decide, by decide⟩, _, _, rfl, rfl, .inr ⟨_, rfl, _, _, rfl, rfl, .inr ?_, .int x, rfl, (by show 3 ≤ sizeLine; decide), fun p hp => ?_⟩⟩
    · split <;> exact ⟨by decide, by decide⟩
    · exact q _ p hp (same_new hp) ⟨Int.le_refl _, _, _, upd_same⟩
/-- the number that is drawn; the well behind it -/
def Drawn (H : Hp) (a : Addr) (n c : Int) (Q : VK) : Prop := ∀ r x y c', 0 ≤ r → r < n → c ≤ c' → c' ≤ c + 1 → Q (.int r) (upd H a (.lst [.int x, .int y, .int c']))
def spDraw : Sp := fun vs H Q _ => ∃ (a : Addr) (n c : Int), vs = [.ref a, .int n] ∧ Wl H a c ∧ 0 < n ∧ n < 2000000000 ∧ c < 2 ^ 40 ∧ Drawn H a n c Q
theorem at3 (x y c : Int) : atI [V.int x, .int y, .int c] 0 = some (.int x) ∧ atI [V.int x, .int y, .int c] 1 = some (.int y) ∧ atI [V.int x, .int y, .int c] 2 = some (.int c) := ⟨rfl, rfl, rfl⟩
theorem pow_small {i : Int} (h0 : 0 ≤ i) (h : i < 2 ^ 62) : i.natAbs < 2 ^ 64 := by omega
theorem c_l_draw (T : Top K mg) : C8.Cal P w K mg base 1 "_law_draw" spDraw [] := by
  refine cal_of T.d_l_draw sc_l_draw (fun _ _ _ _ _ _ us hl => match us, hl with | [_, _], _ => rfl) (fun vs H Q E h => ?_) (fun f cdv A outer s H vs Q E hr h => ?_)
  · obtain ⟨a, n, c, rfl, _⟩ := h
    rfl
  · obtain ⟨a, n, c, rfl, ⟨hc0, x, y, hw⟩, hn0, hn1, hc, q⟩ := h
    refine ⟨_, (pss_cons (ps_if (pt_cmpR op_gt (pe_ix ix_list (pv 0) pe_int (fun _ _ => rfl)) pe_int (nomark _))
      (pss_cons (ps_set (i := 2) sc_l_draw.nd rfl (Or.inl rfl) (pe_op op_mod (pe_callTy call_int1 (by rfl) T.z_int (by decide +kernel) (pa_cons (pe_ix ix_list (pv 0) pe_int (fun _ _ => rfl)) pa_nil)) (pv 1)))
      (pss_cons (ps_asg (pe_op op_fdivW (pe_ix ix_list (pv 0) pe_int (fun _ _ => rfl)) (pv 1)) (pg_sub (pv 0) pe_int set_list))
      (pss_one (ps_ret (pv 2)))))
      pss_nil)
      (pss_cons (ps_asg (pe_op op_add (pe_ix ix_list (pv 0) pe_int (fun _ _ => rfl)) pe_int) (pg_sub (pv 0) pe_int set_list))
      (pss_cons (ps_set (i := 3) sc_l_draw.nd rfl (Or.inl rfl) (pe_op op_add (pe_op op_mod (pe_callTy call_int1 (by rfl) T.z_int (by decide +kernel) (pa_cons (pe_ix ix_list (pv 0) pe_int (fun _ _ => rfl)) pa_nil)) pe_int) (pe_op op_mul (pe_op op_mod (pe_callTy call_int1 (by rfl) T.z_int (by decide +kernel) (pa_cons (pe_op op_fdivW (pe_ix ix_list (pv 0) pe_int (fun _ _ => rfl)) pe_int) pa_nil)) pe_int) pe_int)))
      (pss_cons (ps_set (i := 4) sc_l_draw.nd rfl (Or.inl rfl) (pe_op op_mod (pe_callTy call_int1 (by rfl) T.z_int (by decide +kernel) (pa_cons (pe_op op_pow (pe_op op_add (pe_op op_add (pv 3) (pe_op op_mul pe_int (pe_ix ix_list (pv 0) pe_int (fun _ _ => rfl)))) pe_int) pe_int) pa_nil)) pe_int))
      (pss_cons (ps_set (i := 4) sc_l_draw.nd rfl (Or.inl rfl) (pe_op op_mod (pe_callTy call_int1 (by rfl) T.z_int (by decide +kernel) (pa_cons (pe_op op_mul (pv 4) (pe_op op_add (pe_op op_add (pe_op op_fdivW (pv 4) pe_int) pe_int) (pe_ix ix_list (pv 0) pe_int (fun _ _ => rfl)))) pa_nil)) pe_int))
      (pss_one (ps_ret (pe_op op_mod (pe_callTy call_int1 (by rfl) T.z_int (by decide +kernel) (pa_cons (pe_op op_mod (pe_callTy call_int1 (by rfl) T.z_int (by decide +kernel) (pa_cons (pe_op op_mul (pv 4) (pe_op op_add (pe_op op_fdivW (pv 4) pe_int) pe_int)) pa_nil)) pe_int) pa_nil)) (pv 1))))))))), ?_⟩
    refine ⟨.ref a, rfl, a, _, 0, _, rfl, rfl, SqL.of hw, rfl, _, _, rfl, rfl, _, rfl, ite2 (fun h1 => ?_) (fun h1 => ?_)⟩
    · refine ⟨.ref a, rfl, a, _, 0, _, rfl, rfl, SqL.of hw, rfl, .inl ⟨_, rfl, .int n, rfl, _, _, rfl, rfl, hn0, ?_⟩⟩
      refine ⟨.ref a, rfl, a, _, 0, _, rfl, rfl, SqL.of hw, rfl, .int n, rfl, _, _, rfl, rfl, wide_div (b := 31) hn0 (by omega) (by decide) (by decide), .ref a, rfl, a, _, 0, 0, rfl, rfl, hw, rfl, .int (x % n), rfl, ?_⟩
      exact q _ _ _ _ (Int.emod_nonneg _ (by omega)) (Int.emod_lt_of_pos _ hn0) (Int.le_refl _) (by omega)
    · refine ⟨.ref a, rfl, a, _, 2, _, rfl, rfl, SqL.of hw, rfl, _, _, rfl, rfl, .ref a, rfl, a, _, 2, 2, rfl, rfl, hw, rfl, ?_⟩
      have hw2 : (upd H a (.lst [V.int x, .int y, .int (c + 1)])) a = some (.lst [V.int x, .int y, .int (c + 1)]) := upd_same
      have b1 : ∀ z m : Int, 0 < m → 0 ≤ z % m ∧ z % m < m := fun z m h => ⟨Int.emod_nonneg _ (by omega), Int.emod_lt_of_pos _ h⟩
      have y1 := b1 y 2147483549 (by decide)
      have y2 := b1 (y / 2147483549) 80021 (by decide)
      refine ⟨.ref a, rfl, a, _, 1, _, rfl, rfl, SqL.of hw2, rfl, .inl ⟨_, rfl, _, _, rfl, rfl, (by show (0 : Int) < _; decide), .ref a, rfl, a, _, 1, _, rfl, rfl, SqL.of hw2, rfl, _, _, rfl, rfl, wide_div (b := 40) (by decide) (by decide) (by decide) (by decide), .inl ⟨_, rfl, _, _, rfl, rfl, (by show (0 : Int) < _; decide), _, _, rfl, rfl, .inr (by decide), _, _, rfl, rfl, ?_⟩⟩⟩
      refine ⟨_, rfl, .ref a, rfl, a, _, 2, _, rfl, rfl, SqL.of hw2, rfl, _, _, rfl, rfl, .inl (by decide), _, _, rfl, rfl, _, _, rfl, rfl, _, _, rfl, rfl, ⟨by decide, by decide, pow_small (by omega) (by omega)⟩, .inl ⟨_, rfl, _, _, rfl, rfl, (by show (0 : Int) < _; decide), ?_⟩⟩
      generalize ((y % 2147483549 + y / 2147483549 % 80021 * 37 + 5843 * (c + 1) + 17) ^ Int.toNat 5) = big
      have m1 := b1 big 2147483647 (by decide)
      refine ⟨_, rfl, _, rfl, _, _, rfl, rfl, wide_div (b := 40) (by decide) (by decide) (by decide) (by decide), _, _, rfl, rfl, .ref a, rfl, a, _, 2, _, rfl, rfl, SqL.of hw2, rfl, _, _, rfl, rfl, _, _, rfl, rfl, .inl (by omega), .inl ⟨_, rfl, _, _, rfl, rfl, (by show (0 : Int) < _; decide), ?_⟩⟩
      generalize (big % 2147483647 * (big % 2147483647 / 953 + 40993 + (c + 1))) = big2
      have m2 := b1 big2 2147483629 (by decide)
      refine ⟨_, rfl, _, rfl, _, _, rfl, rfl, wide_div (b := 40) (by decide) (by decide) (by decide) (by decide), _, _, rfl, rfl, _, _, rfl, rfl, .inl (by omega), .inl ⟨_, rfl, _, _, rfl, rfl, (by show (0 : Int) < _; decide), .inl ⟨_, rfl, .int n, rfl, _, _, rfl, rfl, hn0, ?_⟩⟩⟩
      exact q _ _ _ _ (Int.emod_nonneg _ (by omega)) (Int.emod_lt_of_pos _ hn0) (by omega) (Int.le_refl _)
def spPick (K : PySem.W.Frag) : Sp := fun vs H Q _ => ∃ (a b : Addr) (xs : List V) (c : Int), vs = [.ref a, .ref b] ∧ Wl H a c ∧ SqL K H b xs ∧ b ≠ a ∧ 0 < xs.length ∧ xs.length < 1000000 ∧ c < 2 ^ 40 ∧ ∀ v ∈ xs, Aft a c 1 H (Q v)
theorem c_l_pick (T : Top K mg) : C8.Cal P w K mg base 2 "_law_pick" (spPick K) [] := by
  refine cal_of T.d_l_pick sc_l_pick (fun _ _ _ _ _ _ us hl => match us, hl with | [_, _], _ => rfl) (fun vs H Q E h => ?_) (fun f cdv A outer s H vs Q E hr h => ?_)
  · obtain ⟨a, b, xs, c, rfl, _⟩ := h
    rfl
  · obtain ⟨a, b, xs, c, rfl, hw, hS, nb, h0, h1, hc, q⟩ := h
    refine ⟨_, (pss_one (ps_ret (pe_ix ix_list (pv 1) (C8.pe_c (c_l_draw T) hr (by decide) (by rfl) (pa_cons (pv 0) (pa_cons (pe_callB call_len_seq (by rfl) T.z_len (by decide +kernel) (pa_cons (pv 1) pa_nil)) pa_nil))) (fun _ _ => rfl)))), ?_⟩
    refine ⟨.ref b, rfl, .ref a, rfl, .ref b, rfl, b, xs, rfl, .inl hS, a, xs.length, c, rfl, hw, by omega, by omega, hc, fun r x y c' hr0 hr1 hc1 hc2 => ?_⟩
    obtain ⟨v, hv, _, e⟩ := atI_int hr0 hr1
    exact ⟨b, xs, r, v, rfl, rfl, sql_fr hS nb Fr.at, e, q v hv _ c' Fr.at (Wl.upd (by have := hw.1; omega)) hc1 hc2⟩
theorem menu {xs : List Int} {v : V} (h : v ∈ xs.map V.int) : ∃ m ∈ xs, v = .int m := by
  obtain ⟨m, hm, rfl⟩ := List.mem_map.mp h
  exact ⟨m, hm, rfl⟩
theorem do_draw {H : Hp} {a : Addr} {n k : Int} {Q : VK} (hw : Wl H a k) (h0 : 0 < n) (h1 : n < 2000000000) (hk : k < 2 ^ 39) (q : ∀ r : Nat, (r : Int) < n → ∀ H' k', Fr a H H' → Wl H' a k' → k ≤ k' → k' ≤ k + 1 → Q (.int r) H') : spDraw [.ref a, .int n] H Q C8.E0 := by
  refine ⟨a, n, k, rfl, hw, h0, h1, by omega, fun r x y k' r0 r1 k1 k2 => ?_⟩
  obtain ⟨m, rfl⟩ := Int.eq_ofNat_of_zero_le r0
  exact q m r1 _ k' Fr.at (Wl.upd (by have := hw.1; omega)) k1 k2
theorem do_pick {H : Hp} {a b : Addr} {xs : List V} {k : Int} {Q : VK} (hw : Wl H a k) (hS : H b = some (.lst xs)) (nb : b ≠ a) (h0 : 0 < xs.length) (h1 : xs.length < 1000000) (hk : k < 2 ^ 39) (q : ∀ v ∈ xs, ∀ H' k', Fr a H H' → Wl H' a k' → k ≤ k' → k' ≤ k + 1 → Q v H') : spPick K [.ref a, .ref b] H Q C8.E0 :=
  ⟨a, b, xs, k, rfl, hw, SqL.of hS, nb, h0, h1, by omega, q⟩
end
theorem TupKeep.fr {W : Addr} {H H' : Hp} {c : Int} (f : Fr W H H') (w : Wl H W c) : TupKeep H H' := fun b xs e => f b _ (fun z => by
  obtain ⟨_, x, y, h⟩ := w
  rw [z, h] at e
  cases e) e
theorem Wl.neK {W e : Addr} {H : Hp} {c : Int} {kvs : List (Key × V)} (w : Wl H W c) (h : H e = some (.dK kvs)) : e ≠ W := fun z => by
  obtain ⟨_, x, y, h'⟩ := w
  rw [z, h'] at h
  cases h
theorem RowsAt.fr {K : PySem.W.Frag} {W e : Addr} {H H' : Hp} {c : Int} {n : Nat} {m : Mp Rw} (h : RowsAt K H e n m) (f : Fr W H H') (w : Wl H W c) : RowsAt K H' e n m := by
  obtain ⟨t, h1, h2, h3⟩ := h
  exact ⟨t, f _ _ (w.neK h1) h1, h2.imp fun _ _ x => x.keep (TupKeep.fr f w), h3⟩
def ID16 (x : Str) : Str := repS x 16
theorem id_rep : isIdF (repS "0" 16) = true ∧ isIdF (repS "1" 16) = true := by decide +kernel

end Fk

set_option maxHeartbeats 4000000
namespace Fk
open PySem PySem.Spec PyProof.Rows L2
def MENU : List Str := ["a", "b", "a/b", "a/c", "a/b/c", "d", "e/f", "e", "ab", "a.b", "a-b", "a0", "a_", "a/bc", "ab/c", "a/b.c"]
theorem menu_ok : ∀ x ∈ MENU, PathOk x := by
  intro x hx
  simp only [MENU, List.mem_cons, List.not_mem_nil, or_false] at hx
  rcases hx with rfl | rfl | rfl | rfl | rfl | rfl | rfl | rfl | rfl | rfl | rfl | rfl | rfl | rfl | rfl | rfl <;> exact ⟨by decide +kernel, by decide +kernel, ok_by (by decide +kernel)⟩
def InMenu {α : Type} (m : Mp α) : Prop := ∀ x, (m x).isSome = true → x ∈ MENU
theorem FilesOk.menu {K : PySem.W.Frag} {H : Hp} {n : Nat} {t : Tab} {m : Mp Fi} (h : FilesOk n t m) (hH : Holds (FiV K H) t m) (im : InMenu m) : FilesOk 16 t m := by
  refine ⟨h.nd, ?_, h.path, h.good⟩
  have := len_of_sub h.nd (m := MENU) fun x hx => im x (hH.mem.mp hx)
  rw [List.length_map] at this
  exact this
theorem RowsOk.menu {K : PySem.W.Frag} {H : Hp} {n : Nat} {t : Tab} {m : Mp Rw} (h : RowsOk n t m) (hH : Holds (RwV K H) t m) (im : InMenu m) : RowsOk 16 t m := by
  refine ⟨h.nd, ?_, h.path, h.good⟩
  have := len_of_sub h.nd (m := MENU) fun x hx => im x (hH.mem.mp hx)
  rw [List.length_map] at this
  exact this
theorem InMenu.put {α : Type} {m : Mp α} {x : Str} {r : α} (h : InMenu m) (hx : x ∈ MENU) : InMenu (putM m x r) := fun y hy => by
  unfold putM at hy
  split at hy
  · rename_i e; rw [e]; exact hx
  · exact h y hy
theorem InMenu.drop {α : Type} {m : Mp α} {x : Str} (h : InMenu m) : InMenu (dropM m x) := fun y hy => by
  unfold dropM at hy
  split at hy
  · cases hy
  · exact h y hy
/-- files from the menu at e -/
def MenuAt (K : PySem.W.Frag) (H : Hp) (e : Addr) (f : Mp Fi) : Prop := FilesAt K H e 16 f ∧ InMenu f
theorem FilesAt.fr {K : PySem.W.Frag} {W e : Addr} {H H' : Hp} {c : Int} {n : Nat} {m : Mp Fi} (h : FilesAt K H e n m) (f : Fr W H H') (w : Wl H W c) : FilesAt K H' e n m := by
  obtain ⟨t, h1, h2, h3⟩ := h
  exact ⟨t, f _ _ (w.neK h1) h1, h2.imp fun _ _ x => FvV.keep x (TupKeep.fr f w), h3⟩
theorem MenuAt.fr {K : PySem.W.Frag} {W e : Addr} {H H' : Hp} {c : Int} {m : Mp Fi} (h : MenuAt K H e m) (f : Fr W H H') (w : Wl H W c) : MenuAt K H' e m := ⟨h.1.fr f w, h.2⟩
theorem MenuAt.same {K : PySem.W.Frag} {e : Addr} {H H' : Hp} {m : Mp Fi} (h : MenuAt K H e m) (s : Same H H') : MenuAt K H' e m := ⟨h.1.same s, h.2⟩
section
variable {P : Program} {w : World} {K : PySem.W.Frag} {mg : Str → Option Value} {base : Heap} {C fk cE iF cP cK iK : Addr}
def spSomeF (K : PySem.W.Frag) : Sp := fun vs H Q _ => ∃ (W : Addr) (most : Nat) (c : Int), vs = [.ref W, .int (most : Int)] ∧ Wl H W c ∧ c < 2 ^ 36 ∧ 1 ≤ most ∧ most ≤ 6 ∧ ∀ d H' c' f, H d = none → Fr W H H' → Wl H' W c' → c ≤ c' → c' ≤ c + 40 → MenuAt K H' d f → Q (.ref d) H'
theorem c_l_some_files (T : TopF K mg C fk cE iF cP cK iK) : C8.Cal P w K mg base 3 "_law_some_files" (spSomeF K) [] := by
  refine cal_of T.d_l_some_files sc_l_some_files (fun _ _ _ _ _ _ us hl => match us, hl with | [_, _], _ => rfl) (fun vs H Q E h => ?_) (fun f cdv A outer s H vs Q E hr h => ?_)
  · obtain ⟨W, most, c, rfl, _⟩ := h
    rfl
  · obtain ⟨W, most, c, rfl, hw, hc, hm1, hm2, q⟩ := h
    refine ⟨_, (pss_cons (ps_set (i := 2) sc_l_some_files.nd rfl (Or.inl rfl) pe_dnewK)
      (pss_cons (ps_for PassesOwn.never rfl (pi_range1 (by rfl) T.z_range (pa_cons (C8.pe_c (c_l_draw T.toTop) hr (by decide) (by rfl) (pa_cons (pv 0) (pa_cons (pe_op op_add (pv 1) pe_int) pa_nil))) pa_nil)) (pg_name (i := 3) sc_l_some_files.nd rfl (Or.inl rfl))
      (pss_cons (ps_set (i := 4) sc_l_some_files.nd rfl (Or.inl rfl) (pe_tup (pa_cons (C8.pe_c (c_l_pick T.toTop) hr (by decide) (by rfl) (pa_cons (pv 0) (pa_cons (pe_lst (pa_cons pe_str (pa_cons pe_str (pa_cons pe_str pa_nil)))) pa_nil))) (pa_cons (pe_op op_mul_si (C8.pe_c (c_l_pick T.toTop) hr (by decide) (by rfl) (pa_cons (pv 0) (pa_cons (pe_lst (pa_cons pe_str (pa_cons pe_str (pa_cons pe_str pa_nil)))) pa_nil))) pe_int) pa_nil))))
      (pss_cons (ps_set (i := 5) sc_l_some_files.nd rfl (Or.inl rfl) (pe_lst (pa_cons pe_str (pa_cons pe_str (pa_cons pe_str (pa_cons pe_str (pa_cons pe_str (pa_cons pe_str (pa_cons pe_str (pa_cons pe_str pa_nil))))))))))
      (pss_cons (ps_set (i := 6) sc_l_some_files.nd rfl (Or.inl rfl) (pe_lst (pa_cons pe_str (pa_cons pe_str (pa_cons pe_str (pa_cons pe_str (pa_cons pe_str (pa_cons pe_str (pa_cons pe_str (pa_cons pe_str (pa_cons pe_str (pa_cons pe_str pa_nil))))))))))))
      (pss_one (ps_dput (hu_of hr) (pv 2) (C8.pe_c (c_l_pick T.toTop) hr (by decide) (by rfl) (pa_cons (pv 0) (pa_cons (C8.pe_c (c_l_pick T.toTop) hr (by decide) (by rfl) (pa_cons (pv 0) (pa_cons (pe_lst (pa_cons (pv 5) (pa_cons (pv 5) (pa_cons (pv 6) pa_nil)))) pa_nil))) pa_nil))) (pv 4) rfl))))))
      (pss_one (ps_ret (pv 2))))), ?_⟩
    intro d hd
    have wd : d ≠ W := hw.ne hd
    have w0 : Wl (upd H d (.dK [])) W c := hw.new hd
    have f0 : Fr W H (upd H d (.dK [])) := Fr.new hd
    have h0 : (upd H d (.dK [])) d = some (.dK (kT [])) := upd_same
    generalize upd H d (.dK []) = H0 at w0 f0 h0
    refine ⟨.ref W, rfl, _, rfl, _, _, rfl, rfl, ?_⟩
    refine do_draw w0 (by omega) (by omega) (by omega) fun r hr5 H1 c1 f1 w1 l1 m1 => ⟨r, rfl, by omega, by omega, ?_⟩
    refine forG yields_range (fun i σ H' => ∃ (t : Tab) (m' : Mp Fi) (c' : Int) (z3 z4 z5 z6 : Option V), σ = [some (.ref W), some (.int (most : Int)), some (.ref d), z3, z4, z5, z6] ∧ H' d = some (.dK (kT t)) ∧ Holds (FiV K H') t m' ∧ FilesOk 16 t m' ∧ InMenu m' ∧ Fr W H H' ∧ Wl H' W c' ∧ c ≤ c' ∧ c' ≤ c + 1 + 5 * i)
      ⟨[], fun _ => none, c1, none, none, none, none, rfl, f1 _ _ wd h0, .nil, ⟨by unfold Nd; exact List.nodup_nil, Nat.zero_le _, (fun x hx => nomatch hx), (fun x r e => nomatch e)⟩, (fun x h => nomatch h), f0.trans f1, w1, by omega, by omega⟩ (fun _ _ _ _ => trivial) (fun i x σ H' hx I => ?_) (fun σ H' I => ?_)
    · obtain ⟨t, m', c', z3, z4, z5, z6, rfl, hD, hH, hO, hI, fH, w', l', u'⟩ := I
      have hi := (List.getElem?_eq_some_iff.mp hx).1
      rw [List.length_map, List.length_range] at hi
      have hi6 : (i : Int) < 8 := by omega
      refine ⟨.ref W, rfl, (by show 3 ≤ sizeLine; decide), fun b hb => ?_⟩
      refine do_pick (w'.new hb) upd_same (w'.ne hb) (by show 0 < 3; decide) (by show 3 < 1000000; decide) (by omega) fun pk hpk H2 c2 f2 w2 l2 m2 => ?_
      have F2 : Fr W H' H2 := (Fr.new hb).trans f2
      refine ⟨.ref W, rfl, (by show 3 ≤ sizeLine; decide), fun b3 hb3 => ?_⟩
      refine do_pick (w2.new hb3) upd_same (w2.ne hb3) (by show 0 < 3; decide) (by show 3 < 1000000; decide) (by omega) fun pd hpd H3 c3 f3 w3 l3 m3 => ?_
      have F3 : Fr W H' H3 := F2.trans ((Fr.new hb3).trans f3)
      obtain ⟨kd, rfl, hkd⟩ : ∃ kd, pk = .str kd ∧ kd ∈ FKS := by
        simp only [List.mem_cons, List.not_mem_nil, or_false] at hpk
        rcases hpk with rfl | rfl | rfl
        · exact ⟨_, rfl, by decide⟩
        · exact ⟨_, rfl, by decide⟩
        · exact ⟨_, rfl, by decide⟩
      obtain ⟨dg, rfl, hl1, hdg⟩ : ∃ dg, pd = .str dg ∧ dg.length = 1 ∧ isIdF (repS dg 16) = true := by
        simp only [List.mem_cons, List.not_mem_nil, or_false] at hpd
        rcases hpd with rfl | rfl | rfl <;> exact ⟨_, rfl, by decide +kernel, by decide +kernel⟩
      refine ⟨dg, 16, rfl, rfl, by decide, by decide, by rw [hl1]; decide, (by show 2 ≤ sizeLine; decide), fun tp ntp => ?_⟩
      have st := same_new (o := .tup [.str kd, .str (repS dg (Int.toNat 16))]) ntp
      have ht := upd_same (H := H3) (a := tp) (o := .tup [.str kd, .str (repS dg (Int.toNat 16))])
      generalize upd H3 tp (.tup [.str kd, .str (repS dg (Int.toNat 16))]) = H4 at st ht ⊢
      have ht : H4 tp = some (.tup [.str kd, .str (repS dg 16)]) := ht
      have w4 := w3.same st
      have F4 := F3.trans (Fr.same st)
      refine ⟨(by show 8 ≤ sizeLine; decide), fun bA nA => ?_⟩
      have sA := same_new (o := .lst [V.str "a", .str "b", .str "a/b", .str "a/c", .str "a/b/c", .str "d", .str "e/f", .str "e"]) nA
      have hA := upd_same (H := H4) (a := bA) (o := .lst [V.str "a", .str "b", .str "a/b", .str "a/c", .str "a/b/c", .str "d", .str "e/f", .str "e"])
      have wA := w4.ne nA
      generalize upd H4 bA (.lst [V.str "a", .str "b", .str "a/b", .str "a/c", .str "a/b/c", .str "d", .str "e/f", .str "e"]) = H5 at sA hA
      refine ⟨(by show 10 ≤ sizeLine; decide), fun bB nB => ?_⟩
      have sB := same_new (o := .lst [V.str "a", .str "ab", .str "a.b", .str "a-b", .str "a0", .str "a_", .str "a/b", .str "a/bc", .str "ab/c", .str "a/b.c"]) nB
      have hB := upd_same (H := H5) (a := bB) (o := .lst [V.str "a", .str "ab", .str "a.b", .str "a-b", .str "a0", .str "a_", .str "a/b", .str "a/bc", .str "ab/c", .str "a/b.c"])
      have wB := (w4.same sA).ne nB
      generalize upd H5 bB (.lst [V.str "a", .str "ab", .str "a.b", .str "a-b", .str "a0", .str "a_", .str "a/b", .str "a/bc", .str "ab/c", .str "a/b.c"]) = H6 at sB hB
      refine ⟨.ref tp, rfl, .ref d, rfl, .ref W, rfl, .ref W, rfl, .ref bA, rfl, .ref bA, rfl, .ref bB, rfl, (by show 3 ≤ sizeLine; decide), fun bC nC => ?_⟩
      have s46 := sA.trans sB
      have w6 := w4.same s46
      refine do_pick (w6.new nC) upd_same (w6.ne nC) (by show 0 < 3; decide) (by show 3 < 1000000; decide) (by omega) fun pm hpm H7 c7 f7 w7 l7 m7 => ?_
      have F67 : Fr W H6 H7 := (Fr.new nC).trans f7
      obtain ⟨bM, xs, rfl, hbM, nM, hx0, hx1, hxs⟩ : ∃ bM xs, pm = .ref bM ∧ H7 bM = some (.lst xs) ∧ bM ≠ W ∧ 0 < xs.length ∧ xs.length < 1000000 ∧ ∀ v ∈ xs, ∃ y, v = .str y ∧ y ∈ MENU := by
        have a1 : ∀ v ∈ [V.str "a", .str "b", .str "a/b", .str "a/c", .str "a/b/c", .str "d", .str "e/f", .str "e"], ∃ y, v = .str y ∧ y ∈ MENU := fun v hv => by
          simp only [List.mem_cons, List.not_mem_nil, or_false] at hv
          rcases hv with rfl | rfl | rfl | rfl | rfl | rfl | rfl | rfl <;> exact ⟨_, rfl, by decide⟩
        have a2 : ∀ v ∈ [V.str "a", .str "ab", .str "a.b", .str "a-b", .str "a0", .str "a_", .str "a/b", .str "a/bc", .str "ab/c", .str "a/b.c"], ∃ y, v = .str y ∧ y ∈ MENU := fun v hv => by
          simp only [List.mem_cons, List.not_mem_nil, or_false] at hv
          rcases hv with rfl | rfl | rfl | rfl | rfl | rfl | rfl | rfl | rfl | rfl <;> exact ⟨_, rfl, by decide⟩
        simp only [List.mem_cons, List.not_mem_nil, or_false] at hpm
        rcases hpm with rfl | rfl | rfl
        · exact ⟨bA, _, rfl, F67 _ _ wA (sB _ _ hA), wA, by show 0 < 8; decide, by show 8 < 1000000; decide, a1⟩
        · exact ⟨bA, _, rfl, F67 _ _ wA (sB _ _ hA), wA, by show 0 < 8; decide, by show 8 < 1000000; decide, a1⟩
        · exact ⟨bB, _, rfl, F67 _ _ wB hB, wB, by show 0 < 10; decide, by show 10 < 1000000; decide, a2⟩
      refine do_pick w7 hbM nM hx0 hx1 (by omega) fun pv hpv H8 c8 f8 w8 l8 m8 => ?_
      obtain ⟨px, rfl, hpx⟩ := hxs pv hpv
      have F8 : Fr W H' H8 := (F4.trans (Fr.same s46)).trans (F67.trans f8)
      have k8 : TupKeep H4 H8 := ((TupKeep.of s46).trans (TupKeep.fr F67 w6)).trans (TupKeep.fr f8 w7)
      have hd8 : H8 d = some (.dK (kT t)) := F8 _ _ wd hD
      have kk : TupKeep H' H8 := TupKeep.fr F8 w'
      have k9 : TupKeep H8 (upd H8 d (.dK (putK (kT t) (.inr px) (.ref tp)))) := TupKeep.at fun xs z => by rw [hd8] at z; cases z
      have hH2 : Holds (FiV K (upd H8 d (.dK (putK (kT t) (.inr px) (.ref tp))))) (putK t px (.ref tp)) (putM m' px (kd, repS dg 16)) :=
        Holds.put (hH.imp fun _ _ y => FvV.keep y (kk.trans k9)) ⟨tp, rfl, .inl (k9 _ _ (k8 _ _ ht))⟩
      have hI2 : InMenu (putM m' px (kd, repS dg 16)) := hI.put hpx
      exact ⟨d, _, rfl, DPut.k (k := .inr px) hd8 (small_lt (by rw [len_kT]; have := hO.len; omega)), putK t px (.ref tp), putM m' px (kd, repS dg 16), c8, _, _, _, _, rfl, by rw [upd_same, putK_kT], hH2, (hO.put (menu_ok px hpx) ⟨hkd, hdg⟩).menu hH2 hI2, hI2, (fH.trans F8).mut hd, w8.mut wd, by omega, by push_cast; omega⟩
    · obtain ⟨t, m', c', z3, z4, z5, z6, rfl, hD, hH, hO, hI, fH, w', l', u'⟩ := I
      rw [List.length_map, List.length_range] at u'
      exact ⟨_, rfl, q d H' c' m' hd fH w' l' (by omega) ⟨⟨t, hD, hH, hO⟩, hI⟩⟩
end

end Fk

set_option maxHeartbeats 4000000
namespace Fk
open PySem PySem.Spec PyProof.Rows L2
section
variable {P : Program} {w : World} {K : PySem.W.Frag} {mg : Str → Option Value} {base : Heap} {C fk cE iF cP cK iK : Addr}
theorem FilesOk.drop {n : Nat} {t : Tab} {m : Mp Fi} {x : Str} (h : FilesOk n t m) : FilesOk n (dropK t x) (dropM m x) := by
  have sub : ∀ y ∈ (dropK t x).map (·.1), y ∈ t.map (·.1) := fun y hy => by
    rw [mem_val, valV_drop] at hy
    split at hy
    · cases hy
    · exact mem_val.mpr hy
  have nd : Nd (dropK t x) := nd_drop h.nd x
  refine ⟨nd, ?_, fun y hy => h.path y (sub y hy), fun y p e => ?_⟩
  · have := len_of_sub nd sub
    rw [List.length_map, List.length_map] at this
    exact Nat.le_trans this h.len
  · unfold dropM at e
    split at e
    · cases e
    · exact h.good y p e
def spNearF (K : PySem.W.Frag) : Sp := fun vs H Q _ => ∃ (W e : Addr) (c : Int) (f : Mp Fi), vs = [.ref W, .ref e] ∧ Wl H W c ∧ c < 2 ^ 35 ∧ MenuAt K H e f ∧ ∀ d H' c' g, H d = none → Fr W H H' → Wl H' W c' → c ≤ c' → c' ≤ c + 1000 → MenuAt K H' d g → Q (.ref d) H'
theorem c_l_near (T : TopF K mg C fk cE iF cP cK iK) : C8.Cal P w K mg base 4 "_law_near" (spNearF K) [] := by
  refine cal_of T.d_l_near sc_l_near (fun _ _ _ _ _ _ us hl => match us, hl with | [_, _], _ => rfl) (fun vs H Q E h => ?_) (fun fa cdv A outer s H vs Q E hr h => ?_)
  · obtain ⟨W, e, c, f, rfl, _⟩ := h
    rfl
  · obtain ⟨W, e, c, f, rfl, hw, hc, ⟨⟨te, he, hHe, hOe⟩, hIe⟩, q⟩ := h
    refine ⟨_, (pss_cons (ps_set (i := 2) sc_l_near.nd rfl (Or.inl rfl) (pe_callTy call_dictD (by rfl) T.z_dict (by decide +kernel) (pa_cons (pv 1) pa_nil)))
      (pss_cons (ps_for PassesOwn.never rfl (pi_range1 (by rfl) T.z_range (pa_cons (C8.pe_c (c_l_draw T.toTop) hr (by decide) (by rfl) (pa_cons (pv 0) (pa_cons pe_int pa_nil))) pa_nil)) (pg_name (i := 3) sc_l_near.nd rfl (Or.inl rfl))
      (pss_cons (ps_set (i := 4) sc_l_near.nd rfl (Or.inl rfl) (C8.pe_c (c_l_some_files T) hr (by decide) (by rfl) (pa_cons (pv 0) (pa_cons pe_int pa_nil))))
      (pss_one (ps_lock (ps_for PassesOwn.never rfl (pi_keys (pv 4)) (pg_name (i := 5) sc_l_near.nd rfl (Or.inl rfl))
      (pss_one (ps_if (PW.pt (pw_and (pt_cmp (pc_din (hu_of hr) (pv 5) (pv 2))) (pw_and1 (pt_cmpR op_eq (C8.pe_c (c_l_draw T.toTop) hr (by decide) (by rfl) (pa_cons (pv 0) (pa_cons pe_int pa_nil))) pe_int (nomark _)))))
      (pss_one (ps_expr (pe_dpop1 (pv 2) (pv 5) ⟨rfl, rfl, rfl, rfl⟩)))
      (pss_one (ps_dput (hu_of hr) (pv 2) (pv 5) (pe_dget (hu_of hr) (pv 4) (pv 5) (fun _ _ => rfl)) rfl)))))))))
      (pss_one (ps_ret (pv 2))))), ?_⟩
    refine ⟨.ref e, rfl, e, _, rfl, .inl he, fun D hD => ?_⟩
    have wD : D ≠ W := hw.ne hD
    have s0 := same_new (o := .dK (kT te)) hD
    have w0 := hw.same s0
    have h0 := upd_same (H := H) (a := D) (o := .dK (kT te))
    generalize upd H D (.dK (kT te)) = H0 at s0 w0 h0
    refine ⟨.ref W, rfl, do_draw w0 (by decide) (by decide) (by omega) fun r hr4 H1 c1 f1 w1 l1 m1 => ⟨r, rfl, by omega, by omega, ?_⟩⟩
    refine forG yields_range (fun i σ H' => ∃ (u : Tab) (m' : Mp Fi) (c' : Int) (z3 z4 z5 : Option V), σ = [some (.ref W), some (.ref e), some (.ref D), z3, z4, z5] ∧ H' D = some (.dK (kT u)) ∧ Holds (FiV K H') u m' ∧ FilesOk 16 u m' ∧ InMenu m' ∧ Fr W H H' ∧ Wl H' W c' ∧ c ≤ c' ∧ c' ≤ c + 1 + 80 * i)
      ⟨te, f, c1, none, none, none, rfl, f1 _ _ wD h0, hHe.imp fun _ _ x => FvV.keep x ((TupKeep.of s0).trans (TupKeep.fr f1 w0)), hOe, hIe, (Fr.same s0).trans f1, w1, by omega, by omega⟩ (fun _ _ _ _ => trivial) (fun i x σ H' hx I => ?_) (fun σ H' I => ?_)
    · obtain ⟨u, m', c', z3, z4, z5, rfl, hDD, hH, hO, hI, fH, w', l', u'⟩ := I
      have hi := (List.getElem?_eq_some_iff.mp hx).1
      rw [List.length_map, List.length_range] at hi
      have hi4 : (i : Int) < 4 := by omega
      refine ⟨.ref W, rfl, W, 2, c', rfl, w', by omega, by decide, by decide, fun e2 H2 c2 g ne2 f2 w2 l2 u2 hM => ?_⟩
      obtain ⟨⟨tM, hM2, hHM, hOM⟩, hIM⟩ := hM
      have nW : e2 ≠ W := w'.ne ne2
      have nD : D ≠ e2 := fun z => by rw [z] at hDD; rw [hDD] at ne2; cases ne2
      have hD2 := f2 _ _ wD hDD
      have lM := hOM.len
      refine ⟨e2, _, hM2, trivial, fun od => ⟨.ref e2, rfl, e2, od, rfl, .inl ⟨kT tM, upd_same, ?_⟩⟩⟩
      have ke : TupKeep H2 (upd H2 e2 (.frz od (.dK (kT tM)))) := TupKeep.at fun xs z => by rw [hM2] at z; cases z
      have fL : Fr W H (upd H2 e2 (.frz od (.dK (kT tM)))) := (fH.trans f2).mut (by
        cases hc : H e2 with
        | none => rfl
        | some o => rw [fH _ _ nW hc] at ne2; cases ne2)
      have hDL : (upd H2 e2 (.frz od (.dK (kT tM)))) D = some (.dK (kT u)) := by rw [upd_ne nD]; exact hD2
      have heL := upd_same (H := H2) (a := e2) (o := .frz od (.dK (kT tM)))
      have wL : Wl (upd H2 e2 (.frz od (.dK (kT tM)))) W c2 := w2.mut nW
      generalize upd H2 e2 (.frz od (.dK (kT tM))) = HL at ke fL hDL heL wL
      have hHL : Holds (FiV K HL) u m' := hH.imp fun _ _ x => FvV.keep x ((TupKeep.fr f2 w').trans ke)
      have hML : Holds (FiV K HL) tM g := hHM.imp fun _ _ x => FvV.keep x ke
      have Y : Yields (Itk e2 od (kT tM)) ((tM.map (·.1)).map V.str) (fun H => H e2 = some (.frz od (.dK (kT tM)))) := by
        rw [← kV_kT]
        exact yields_keys
      refine forG Y (fun j σ H' => ∃ (u : Tab) (m' : Mp Fi) (c' : Int) (z5 : Option V), σ = [some (.ref W), some (.ref e), some (.ref D), some x, some (.ref e2), z5] ∧ H' D = some (.dK (kT u)) ∧ Holds (FiV K H') u m' ∧ FilesOk 16 u m' ∧ InMenu m' ∧ Fr W H H' ∧ Wl H' W c' ∧ c2 ≤ c' ∧ c' ≤ c2 + j ∧ H' e2 = some (.frz od (.dK (kT tM))) ∧ TupKeep HL H')
        ⟨u, m', c2, z5, rfl, hDL, hHL, hO, hI, fL, wL, by omega, by omega, heL, TupKeep.refl _⟩ (fun j σ H' I => I.choose_spec.choose_spec.choose_spec.choose_spec.2.2.2.2.2.2.2.2.2.1) (fun j y σ H3 hy I => ?_) (fun σ H3 I => ?_)
      · obtain ⟨v, m2, c3, z5', rfl, hDD3, hH3, hO3, hI3, fH3, w3, l3, u3, he3, k3⟩ := I
        rw [List.getElem?_map] at hy
        cases hyy : (tM.map (·.1))[j]? with
        | none => rw [hyy] at hy; cases hy
        | some yy =>
          rw [hyy] at hy
          cases hy
          have hj := (List.getElem?_eq_some_iff.mp hyy).1
          rw [List.length_map] at hj
          have hj16 : (j : Int) < 16 := by omega
          have lv := hO3.len
          have hym : yy ∈ tM.map (·.1) := List.mem_of_getElem? hyy
          have pathy := hOM.path yy hym
          have zg := hHM.mem.mp hym
          have hmenu : yy ∈ MENU := hIM yy zg
          have sml : (kT v).length < sizeLine := small_lt (by rw [len_kT]; omega)
          have put : ∀ {H4 : Hp} {c4 : Int}, Fr W H3 H4 → Wl H4 W c4 → c2 ≤ c4 → c4 ≤ c2 + ((j + 1 : Nat) : Int) → tDGet (tVar 4) (tVar 5) [some (.ref W), some (.ref e), some (.ref D), some x, some (.ref e2), some (.str yy)] H4 (fun vv H5 => ∃ H6, DPut H5 D (.str yy) vv H6 ∧ ∃ (u : Tab) (m' : Mp Fi) (c' : Int) (z5 : Option V), ([some (.ref W), some (.ref e), some (.ref D), some x, some (.ref e2), some (.str yy)] : L2.St) = [some (.ref W), some (.ref e), some (.ref D), some x, some (.ref e2), z5] ∧ H6 D = some (.dK (kT u)) ∧ Holds (FiV K H6) u m' ∧ FilesOk 16 u m' ∧ InMenu m' ∧ Fr W H H6 ∧ Wl H6 W c' ∧ c2 ≤ c' ∧ c' ≤ c2 + ((j + 1 : Nat) : Int) ∧ H6 e2 = some (.frz od (.dK (kT tM))) ∧ TupKeep HL H6) := by
            intro H4 c4 f4 w4 l4 u4
            have he4 := f4 _ _ nW he3
            have hD4 := f4 _ _ wD hDD3
            have k4 : TupKeep H3 H4 := TupKeep.fr f4 w3
            cases eg : g yy with
            | none => rw [eg] at zg; cases zg
            | some pp =>
              obtain ⟨vv, hvv, rvv⟩ := hML.at eg
              have g1 := dget_kT (.inr ⟨od, he4⟩) yy
              rw [hvv] at g1
              have k5 : TupKeep H4 (upd H4 D (.dK (putK (kT v) (.inr yy) vv))) := TupKeep.at fun xs z => by rw [hD4] at z; cases z
              have hH5 : Holds (FiV K (upd H4 D (.dK (putK (kT v) (.inr yy) vv)))) (putK v yy vv) (putM m2 yy pp) := Holds.put (hH3.imp fun _ _ x => FvV.keep x (k4.trans k5)) (FvV.keep rvv ((k3.trans k4).trans k5))
              have hI5 : InMenu (putM m2 yy pp) := hI3.put hmenu
              exact ⟨.ref e2, rfl, .str yy, rfl, e2, _, rfl, g1, _, DPut.k (k := .inr yy) hD4 sml, putK v yy vv, putM m2 yy pp, c4, _, rfl, by rw [upd_same, putK_kT], hH5, (hO3.put pathy (hOM.good yy pp eg)).menu hH5 hI5, hI5, (fH3.trans f4).mut hD, w4.mut wD, l4, u4, by rw [upd_ne nD.symm]; exact he4, (k3.trans k4).trans k5⟩
          have g1 : DGet H3 D (.str yy) (valV v yy) := dget_kT (.inl hDD3) yy
          refine ⟨.str yy, rfl, .ref D, rfl, D, _, rfl, g1, _, rfl, ?_⟩
          rcases hH3 yy with ⟨a1, a2⟩ | ⟨v0, r0, a1, a2, rv0⟩
          · rw [a1]
            refine ifF Bool.false_ne_true ?_
            obtain ⟨b1, b2, b3, b4, b5, b6, b7, b8, H6, b9, b10⟩ := put (Fr.refl W H3) w3 l3 (by push_cast; omega)
            exact ⟨b1, b2, b3, b4, b5, b6, b7, b8, .ref D, rfl, .str yy, rfl, D, H6, rfl, b9, b10⟩
          · rw [a1]
            refine ifT rfl ?_
            refine ⟨.ref W, rfl, do_draw w3 (by decide) (by decide) (by omega) fun r6 hr6 H4 c4 f4 w4 l4 m4 => ⟨rfl, _, rfl, ite2 (fun z => ?_) (fun z => ?_)⟩⟩
            · have hD4 := f4 _ _ wD hDD3
              have k4 : TupKeep H3 H4 := TupKeep.fr f4 w3
              have k5 : TupKeep H4 (upd H4 D (.dK (dropK (kT v) (.inr yy)))) := TupKeep.at fun xs z => by rw [hD4] at z; cases z
              have hH5 : Holds (FiV K (upd H4 D (.dK (dropK (kT v) (.inr yy))))) (dropK v yy) (dropM m2 yy) := Holds.drop (hH3.imp fun _ _ x => FvV.keep x (k4.trans k5))
              exact ⟨.ref D, rfl, D, rfl, .inl ⟨_, .inl hD4⟩, .str yy, rfl, kT v, .inr yy, v0, hD4, rfl, by rw [valV_kT]; exact a1, dropK v yy, dropM m2 yy, c4, _, rfl, by rw [upd_same, dropK_kT], hH5, hO3.drop, hI3.drop, (fH3.trans f4).mut hD, w4.mut wD, by omega, by push_cast; omega, by rw [upd_ne nD.symm]; exact f4 _ _ nW he3, (k3.trans k4).trans k5⟩
            · obtain ⟨b1, b2, b3, b4, b5, b6, b7, b8, H6, b9, b10⟩ := put f4 w4 (by omega) (by push_cast; omega)
              exact ⟨b1, b2, b3, b4, b5, b6, b7, b8, .ref D, rfl, .str yy, rfl, D, H6, rfl, b9, b10⟩
      · obtain ⟨v, m2, c3, z5', rfl, hDD3, hH3, hO3, hI3, fH3, w3, l3, u3, he3, k3⟩ := I
        rw [List.length_map, List.length_map] at u3
        refine ⟨he3, v, m2, c3, _, _, _, rfl, by rw [upd_ne nD]; exact hDD3, hH3.imp fun _ _ x => FvV.keep x (TupKeep.at fun xs z => by rw [he3] at z; cases z), hO3, hI3, fH3.mut (by
          cases hc : H e2 with
          | none => rfl
          | some o => rw [fH _ _ nW hc] at ne2; cases ne2), w3.mut nW, by omega, by push_cast; omega⟩
    · obtain ⟨u, m', c', z3, z4, z5, rfl, hDD, hH, hO, hI, fH, w', l', u'⟩ := I
      rw [List.length_map, List.length_range] at u'
      exact ⟨_, rfl, q D H' c' m' hD fH w' l' (by omega) ⟨⟨u, hDD, hH, hO⟩, hI⟩⟩
end

end Fk

set_option maxHeartbeats 4000000
namespace Fk
open PySem PySem.Spec PyProof.Rows L2
theorem notInK {X : Cx} {K : PySem.W.Frag} (h : X.K = K) : OpR X (compareOp .NotIn) (rIn K true) := h ▸ op_notIn_seq
/-- the places whose text stands nowhere ahead -/
def newP (qs : List Str) (k : Nat) : Bool := !inV (V.str (qs.getD k "")) (cutV (qs.map V.str) none (some (0 + (k : Int))))
def uniqF (qs : List Str) (n : Nat) : List Str := ((List.range n).filter (newP qs)).map fun k => qs.getD k ""
theorem newP_no {qs : List Str} {a b : Nat} (hab : a < b) (hb : b < qs.length) (p : newP qs b = true) : qs.getD a "" ≠ qs.getD b "" := fun e => by
  unfold newP at p
  have c : inV (V.str (qs.getD b "")) (cutV (qs.map V.str) none (some (0 + (b : Int)))) = true := by
    rw [show (0 : Int) + (b : Int) = ((b : Nat) : Int) by omega, cutV_to]
    unfold inV
    rw [List.any_eq_true]
    refine ⟨.str (qs.getD a ""), List.mem_map.mpr ⟨qs.getD a "", ?_, rfl⟩, ?_⟩
    · rw [List.getD_eq_getElem?_getD, List.getElem?_eq_getElem (by omega)]
      exact List.mem_iff_getElem.mpr ⟨a, by rw [List.length_take]; omega, by rw [List.getElem_take]; rfl⟩
    · rw [e]
      show (qs.getD b "" == qs.getD b "") = true
      exact beq_self_eq_true _
  rw [c] at p
  cases p
theorem uniq_nd (qs : List Str) : (uniqF qs qs.length).Nodup := by
  refine List.pairwise_map.mpr (List.pairwise_filter.mpr ((List.pairwise_lt_range).imp_of_mem fun {a b} ha hb hlt pa pb => ?_))
  exact newP_no hlt (List.mem_range.mp hb) pb
theorem uniq_mem {qs : List Str} {x : Str} (h : x ∈ uniqF qs qs.length) : x ∈ qs := by
  obtain ⟨k, hk, rfl⟩ := List.mem_map.mp h
  have := List.mem_range.mp (List.mem_filter.mp hk).1
  rw [List.getD_eq_getElem?_getD, List.getElem?_eq_getElem this]
  exact List.getElem_mem this
theorem uniq_all (qs : List Str) : ∀ k, k < qs.length → qs.getD k "" ∈ uniqF qs qs.length := by
  intro k
  induction k using Nat.strongRecOn with
  | ind k ih =>
    intro hk
    cases c : newP qs k with
    | true => exact List.mem_map.mpr ⟨k, List.mem_filter.mpr ⟨List.mem_range.mpr hk, c⟩, rfl⟩
    | false =>
      unfold newP at c
      rw [Bool.not_eq_false', show (0 : Int) + (k : Int) = ((k : Nat) : Int) by omega, cutV_to] at c
      unfold inV at c
      rw [List.any_eq_true] at c
      obtain ⟨v, hv, e⟩ := c
      obtain ⟨y, hy, rfl⟩ := List.mem_map.mp hv
      have e : y = qs.getD k "" := eq_of_beq (show (y == qs.getD k "") = true from e)
      obtain ⟨j, hj, e2⟩ := List.mem_iff_getElem.mp hy
      rw [List.length_take] at hj
      rw [List.getElem_take] at e2
      have e3 : qs.getD j "" = y := by rw [List.getD_eq_getElem?_getD, List.getElem?_eq_getElem (by omega), e2]; rfl
      have := ih j (by omega) (by omega)
      rw [e3, e] at this
      exact this
theorem uniq_iff {qs : List Str} {x : Str} : x ∈ uniqF qs qs.length ↔ x ∈ qs := by
  refine ⟨uniq_mem, fun h => ?_⟩
  obtain ⟨k, hk, rfl⟩ := List.mem_iff_getElem.mp h
  have := uniq_all qs k hk
  rw [List.getD_eq_getElem?_getD, List.getElem?_eq_getElem hk] at this
  exact this
section
variable {P : Program} {w : World} {K : PySem.W.Frag} {mg : Str → Option Value} {base : Heap} {C fk cE iF cP cK iK : Addr}
def spClash : Sp := fun vs H Q _ => ∃ (e : Addr) (t : Tab), vs = [.ref e] ∧ H e = some (.dK (kT t)) ∧ Nd t ∧ t.length ≤ 40 ∧ (∀ x ∈ t.map (·.1), PathOk x) ∧
  ∀ ys p H', ys.Nodup → sortedS ys = true → ys.length ≤ t.length → (∀ x, x ∈ ys ↔ crossF (t.map (·.1)) x) → H p = none → Same H H' → H' p = some (.lst (ys.map V.str)) → Q (.ref p) H'
theorem c_l_clashes (T : TopF K mg C fk cE iF cP cK iK) : C8.Cal P w K mg base 1 "_law_clashes" spClash [] := by
  refine cal_of T.d_l_clashes sc_l_clashes (fun _ _ _ _ _ _ us hl => match us, hl with | [_], _ => rfl) (fun vs H Q E h => ?_) (fun fa cdv A outer s H vs Q E hr h => ?_)
  · obtain ⟨e, t, rfl, _⟩ := h
    rfl
  · obtain ⟨e, t, rfl, he, nd, hl, hp, q⟩ := h
    refine ⟨_, (pss_cons (ps_set (i := 1) sc_l_clashes.nd rfl (Or.inr rfl) (pe_lst pa_nil))
      (pss_cons (ps_lock (ps_for PassesOwn.never rfl (pi_keys (pv 0)) (pg_name (i := 2) sc_l_clashes.nd rfl (Or.inl rfl))
      (pss_one (ps_for PassesOwn.never rfl (pi_keys (pv 0)) (pg_name (i := 3) sc_l_clashes.nd rfl (Or.inl rfl))
      (pss_one (ps_if (pt_val (pe_bm PySem.F.plainAttrs_str PySem.F.slot_str_startswith PySem.F.type_str_startswith mt_startswith (pv 3) (pa_cons (pe_op op_add_str (pv 2) pe_str) pa_nil)))
      (pss_one (ps_set (i := 1) sc_l_clashes.nd rfl (Or.inr rfl) (pe_op op_cat (pv 1) (pe_lst (pa_cons (pv 2) (pa_cons (pv 3) pa_nil))))))
      pss_nil))))))
      (pss_one (ps_ret (pe_callB (cr_sortedS) (by rfl) T.z_sorted (by decide +kernel) (pa_cons (pe_lc (own := [("_law_k", 4)]) (g := gName 4) (by rfl) sc_l_clashes.nd (pi_range1 (by rfl) T.z_range (pa_cons (pe_callB call_len_seq (by rfl) T.z_len (by decide +kernel) (pa_cons (pv 1) pa_nil)) pa_nil)) (blkOk_by (own := [("_law_k", 4)]) (N := ["_law_files", "_law_found", "_law_path", "_law_other", "_law_k"]) (sc := C8.fnScope s_l_clashes) (by decide +kernel)) (fun _ _ _ _ _ => (pg_name (i := 4) sc_l_clashes.nd rfl (Or.inl rfl))) (fun _ _ _ _ _ => pts_one (pt_cmpR (notInK (K := K) rfl) (pe_ix (ixK_list (K := K) rfl) (pv 1) (pv 4) (fun _ _ => rfl)) (pe_slice (slK_list (K := K) rfl) (pv 1) po_none (po_some (pv 4))) rfl)) (fun _ _ _ _ _ => (pe_ix (ixK_list (K := K) rfl) (pv 1) (pv 4) (fun _ _ => rfl)))) pa_nil)))))), ?_⟩
    refine ⟨(by show 0 ≤ sizeLine; decide), fun b0 n0 => ?_⟩
    have s0 := same_new (o := .lst []) n0
    have h0 := upd_same (H := H) (a := b0) (o := .lst [])
    generalize upd H b0 (.lst []) = H0 at s0 h0
    have he0 := s0 _ _ he
    generalize hks : t.map (·.1) = ks at *
    have lks : ks.length = t.length := by rw [← hks, List.length_map]
    refine ⟨e, _, he0, trivial, fun od => ⟨.ref e, rfl, e, od, rfl, .inl ⟨kT t, upd_same, ?_⟩⟩⟩
    have Y : Yields (Itk e od (kT t)) (ks.map V.str) (fun H => H e = some (.frz od (.dK (kT t)))) := by
      rw [← hks, ← kV_kT]
      exact yields_keys
    have heL := upd_same (H := H0) (a := e) (o := .frz od (.dK (kT t)))
    have nb0 : b0 ≠ e := fun z => by rw [z, he0] at h0; cases h0
    have h0L : (upd H0 e (.frz od (.dK (kT t)))) b0 = some (.lst []) := by rw [upd_ne nb0]; exact h0
    have sU : ∀ {H2 : Hp}, Same (upd H0 e (.frz od (.dK (kT t)))) H2 → Same H0 (upd H2 e (.dK (kT t))) := fun s => same_unlock s he0
    generalize upd H0 e (.frz od (.dK (kT t))) = HL at heL h0L sU
    let pr : List Str → Str → Prop := fun ys x => ∃ y ∈ ys, ∃ z ∈ ks, Txt.startswith z (y ++ ("/" : Str)) = true ∧ (x = y ∨ x = z)
    refine forG Y (fun i σ H' => ∃ (b : Addr) (qs : List Str) (z2 z3 : Option V), σ = [some (.ref e), some (.ref b), z2, z3, none] ∧ H' b = some (.lst (qs.map V.str)) ∧ Same HL H' ∧ qs.length ≤ 80 * i ∧ ∀ x, x ∈ qs ↔ pr (ks.take i) x)
      ⟨b0, [], none, none, rfl, h0L, Same.refl HL, Nat.zero_le _, fun x => ⟨(fun z => nomatch z), fun ⟨y, hy, _⟩ => by simp at hy⟩⟩ (fun i σ H' I => I.choose_spec.choose_spec.choose_spec.choose_spec.2.2.1 _ _ heL) (fun i x σ H' hx I => ?_) (fun σ H' I => ?_)
    · obtain ⟨b, qs, z2, z3, rfl, hb, s1, lq, hq⟩ := I
      rw [List.getElem?_map] at hx
      cases hy : ks[i]? with
      | none => rw [hy] at hx; cases hx
      | some y =>
        rw [hy] at hx
        cases hx
        have hi := (List.getElem?_eq_some_iff.mp hy).1
        have etk : ks.take (i + 1) = ks.take i ++ [y] := by
          rw [List.take_add_one, hy]
          rfl
        refine ⟨.ref e, rfl, e, od, rfl, .inl ⟨kT t, s1 _ _ heL, ?_⟩⟩
        refine forG Y (fun j σ H2 => ∃ (b : Addr) (qs : List Str) (z3 : Option V), σ = [some (.ref e), some (.ref b), some (.str y), z3, none] ∧ H2 b = some (.lst (qs.map V.str)) ∧ Same HL H2 ∧ qs.length ≤ 80 * i + 2 * j ∧ ∀ x, x ∈ qs ↔ (pr (ks.take i) x ∨ ∃ z ∈ ks.take j, Txt.startswith z (y ++ ("/" : Str)) = true ∧ (x = y ∨ x = z)))
          ⟨b, qs, z3, rfl, hb, s1, by omega, fun x => by rw [hq x]; exact ⟨.inl, fun z => z.elim id fun ⟨p, hp, _⟩ => by simp at hp⟩⟩ (fun j σ H2 I => I.choose_spec.choose_spec.choose_spec.2.2.1 _ _ heL) (fun j x σ H2 hx I => ?_) (fun σ H2 I => ?_)
        · obtain ⟨b2, q2, z3', rfl, hb2, s2, l2, hq2⟩ := I
          rw [List.getElem?_map] at hx
          cases hz : ks[j]? with
          | none => rw [hz] at hx; cases hx
          | some z =>
            rw [hz] at hx
            cases hx
            have hj := (List.getElem?_eq_some_iff.mp hz).1
            have etj : ks.take (j + 1) = ks.take j ++ [z] := by
              rw [List.take_add_one, hz]
              rfl
            have ly := (hp y (List.mem_of_getElem? hy)).2.1
            have e1 : ("/" : Str).length = 1 := by decide +kernel
            refine ⟨.str z, rfl, rfl, .str y, rfl, y, ("/" : Str), rfl, rfl, small_line (by rw [e1]; omega), z, _, rfl, rfl, _, rfl, ?_⟩
            cases c : Txt.startswith z (y ++ ("/" : Str)) with
            | true =>
              refine iteT ?_
              refine ⟨.ref b2, rfl, .str y, rfl, .str z, rfl, (by show 2 ≤ sizeLine; decide), fun bn nbn => ?_⟩
              have sn := same_new (o := .lst [V.str y, .str z]) nbn
              refine ⟨b2, bn, _, _, rfl, rfl, sn _ _ hb2, upd_same, small_line (by rw [List.length_map]; simp only [List.length_cons, List.length_nil]; omega), fun p np => ?_⟩
              refine ⟨p, q2 ++ [y, z], _, rfl, by rw [upd_same, List.map_append]; rfl, s2.trans (sn.trans (same_new np)), by rw [List.length_append]; simp only [List.length_cons, List.length_nil]; omega, fun x => ?_⟩
              rw [List.mem_append, hq2 x, etj]
              constructor
              · rintro ((h | ⟨z', h1, h2, h3⟩) | h)
                · exact .inl h
                · exact .inr ⟨z', List.mem_append_left _ h1, h2, h3⟩
                · refine .inr ⟨z, List.mem_append_right _ List.mem_cons_self, c, ?_⟩
                  simp only [List.mem_cons, List.not_mem_nil, or_false] at h
                  exact h
              · rintro (h | ⟨z', h1, h2, h3⟩)
                · exact .inl (.inl h)
                · rcases List.mem_append.mp h1 with h1 | h1
                  · exact .inl (.inr ⟨z', h1, h2, h3⟩)
                  · rw [List.mem_singleton.mp h1] at h3
                    refine .inr ?_
                    rcases h3 with rfl | rfl <;> simp
            | false =>
              refine iteF ⟨b2, q2, _, rfl, hb2, s2, by omega, fun x => ?_⟩
              rw [hq2 x, etj]
              constructor
              · rintro (h | ⟨z', h1, h2, h3⟩)
                · exact .inl h
                · exact .inr ⟨z', List.mem_append_left _ h1, h2, h3⟩
              · rintro (h | ⟨z', h1, h2, h3⟩)
                · exact .inl h
                · rcases List.mem_append.mp h1 with h1 | h1
                  · exact .inr ⟨z', h1, h2, h3⟩
                  · rw [List.mem_singleton.mp h1, c] at h2
                    cases h2
        · obtain ⟨b2, q2, z3', rfl, hb2, s2, l2, hq2⟩ := I
          rw [List.length_map] at l2
          rw [List.length_map, List.take_length] at hq2
          refine ⟨b2, q2, _, _, rfl, hb2, s2, by omega, fun x => ?_⟩
          rw [hq2 x, etk]
          constructor
          · rintro (⟨y', h1, h2⟩ | h)
            · exact ⟨y', List.mem_append_left _ h1, h2⟩
            · exact ⟨y, List.mem_append_right _ List.mem_cons_self, h⟩
          · rintro ⟨y', h1, h2⟩
            rcases List.mem_append.mp h1 with h1 | h1
            · exact .inl ⟨y', h1, h2⟩
            · rw [List.mem_singleton.mp h1] at h2
              exact .inr h2
    · obtain ⟨b, qs, z2, z3, rfl, hb, s1, lq, hq⟩ := I
      rw [List.length_map, List.take_length] at hq
      rw [List.length_map] at lq
      refine ⟨s1 _ _ heL, ?_⟩
      have s2 := s0.trans (sU s1)
      have nbe : b ≠ e := fun z => by rw [z, s1 _ _ heL] at hb; cases hb
      have hb2 : (upd H' e (.dK (kT t))) b = some (.lst (qs.map V.str)) := by rw [upd_ne nbe]; exact hb
      generalize upd H' e (.dK (kT t)) = H3 at s2 hb2
      have lq2 : qs.length ≤ 3200 := by omega
      refine ⟨.ref b, rfl, b, qs.map V.str, rfl, .inl (.inl (.inl hb2)), _, rfl, by rw [List.length_map]; omega, by rw [List.length_map]; omega, fun D hD => ?_⟩
      have eny : (((qs.map V.str).length : Nat) : Int).toNat = qs.length := by rw [List.length_map]; omega
      have atk : ∀ k, k < qs.length → atI (qs.map V.str) (0 + (k : Int)) = some (.str (qs.getD k "")) := fun k hk => by
        rw [show (0 : Int) + (k : Int) = ((k : Nat) : Int) by omega]
        exact atI_nat (by rw [List.getElem?_map, List.getElem?_eq_getElem hk, List.getD_eq_getElem?_getD, List.getElem?_eq_getElem hk]; rfl)
      refine lc_pure (i := 4) (us := List.range (((qs.map V.str).length : Nat) : Int).toNat) (g := fun (k : Nat) => V.int (0 + (k : Int))) yields_range (fun k => V.str (qs.getD k "")) (newP qs) hD (fun _ _ => trivial) (fun H6 u s hu R r => ?_) (fun H6 u s hu _ R r => ?_) (by rw [List.length_range]; omega) (fun H6 s6 h6 => ?_)
      · have hu := List.mem_range.mp hu
        rw [eny] at hu
        have hA5 := s _ _ hb2
        refine ⟨.ref b, rfl, .int (0 + (u : Int)), rfl, b, _, 0 + (u : Int), _, rfl, rfl, SqL.of hA5, atk u hu, .ref b, rfl, .int (0 + (u : Int)), rfl, _, rfl, b, _, rfl, SqL.of hA5, fun p' hp' => ⟨p', _, rfl, .inl (SqL.of upd_same), rfl, ?_, _, rfl, r _ (same_new hp')⟩⟩
        rw [show (0 : Int) + (u : Int) = ((u : Nat) : Int) by omega, cutV_to]
        exact flat_strs _
      · have hu := List.mem_range.mp hu
        rw [eny] at hu
        exact ⟨.ref b, rfl, .int (0 + (u : Int)), rfl, b, _, 0 + (u : Int), _, rfl, rfl, SqL.of (s _ _ hb2), atk u hu, r H6 (Same.refl H6)⟩
      · rw [eny, show ((List.range qs.length).filter (newP qs)).map (fun k => V.str (qs.getD k "")) = (uniqF qs qs.length).map V.str by unfold uniqF; rw [List.map_map]; rfl] at h6
        have sub : ∀ x ∈ uniqF qs qs.length, x ∈ ks := fun x hx => by
          obtain ⟨y, hy, z, hz, _, e1⟩ := (hq x).mp (uniq_iff.mp hx)
          exact e1.elim (fun e1 => by rw [e1]; exact hy) fun e1 => by rw [e1]; exact hz
        have lu := len_of_sub (uniq_nd qs) sub
        refine ⟨D, uniqF qs qs.length, rfl, SqL.of h6, by omega, fun ys p hpm hsy np => ?_⟩
        refine q ys p _ (hpm.nodup_iff.mpr (uniq_nd qs)) hsy (by rw [hpm.length_eq]; omega) (fun x => ?_) ((s2.trans s6).free np) ((s2.trans s6).trans (same_new np)) upd_same
        rw [hpm.mem_iff, uniq_iff, hq x]
        unfold crossF
        constructor
        · rintro ⟨y, hy, z, hz, c, e1⟩
          rcases e1 with rfl | rfl
          · exact ⟨hy, z, hz, .inl c⟩
          · exact ⟨hz, y, hy, .inr c⟩
        · rintro ⟨hx, y, hy, c | c⟩
          · exact ⟨x, hx, y, hy, c, .inl rfl⟩
          · exact ⟨y, hy, x, hx, c, .inr rfl⟩
end

end Fk

set_option maxHeartbeats 4000000
namespace Fk
open PySem PySem.Spec PyProof.Rows L2
/-- what a change of files gives, or what it refuses -/
inductive Due where
  | files (g : Mp Fi)
  | conf (S : Str → Prop)
section
variable {P : Program} {w : World} {K : PySem.W.Frag} {mg : Str → Option Value} {base : Heap} {C fk cE iF cP cK iK : Addr}
def DueV (K : PySem.W.Frag) (H : Hp) (v : V) : Due → Prop
  | .files g => ∃ e, v = .ref e ∧ MenuAt K H e g
  | .conf S => ∃ (p q : Addr) (ys : List Str), v = .ref p ∧ H p = some (.tup [.str "conflict", .ref q]) ∧ H q = some (.tup (ys.map V.str)) ∧ sortedS ys = true ∧ ys.Nodup ∧ ys.length ≤ 60 ∧ (∀ x ∈ ys, x ∈ MENU) ∧ ∀ x, x ∈ ys ↔ S x
theorem DueV.same {H H' : Hp} {v : V} {o : Due} (h : DueV K H v o) (s : Same H H') : DueV K H' v o := by
  cases o with
  | files g =>
    obtain ⟨e, a, b⟩ := h
    exact ⟨e, a, b.same s⟩
  | conf S =>
    obtain ⟨p, q, ys, a, b, c, d⟩ := h
    exact ⟨p, q, ys, a, s _ _ b, s _ _ c, d⟩
open Classical in
noncomputable def dueF (m : Mp Rw) (f : Mp Fi) : Due := if ∃ x, TornF m f x then .conf (TornF m f) else if ∃ x, CrossM (onM m f) x then .conf (CrossM (onM m f)) else .files (onM m f)
noncomputable def onO (m : Mp Rw) : Due → Due
  | .files f => dueF m f
  | .conf S => .conf S
theorem onM_menu {m : Mp Rw} {f : Mp Fi} (hm : InMenu m) (hf : InMenu f) : InMenu (onM m f) := fun x hx => by
  unfold onM at hx
  cases e : m x with
  | some r => exact hm x (by rw [e]; rfl)
  | none =>
    rw [e] at hx
    exact hf x hx
theorem xf_ofK {C fI : Addr} (T : XC K C fI) : XfC K C := ⟨T.ga, T.gg, T.su, T.hd⟩
def spOnL (K : PySem.W.Frag) (C : Addr) : Sp := fun vs H Q _ => ∃ (a dx d : Addr) (m : Mp Rw) (v : V) (o : Due), vs = [.ref a, v] ∧ ChAt K C H a dx d 16 m ∧ InMenu m ∧ DueV K H v o ∧
  ∀ r H', Same H H' → DueV K H' r (onO m o) → (∀ f e t, o = .files f → r = .ref e → H' e = some (.dK (kT t)) → sortedS (t.map (·.1)) = true) → Q r H'
theorem c_l_on (T : TopF K mg C fk cE iF cP cK iK) : C8.Cal P w K mg base 10 "_law_on" (spOnL K C) [] := by
  refine cal_of T.d_l_on sc_l_on (fun _ _ _ _ _ _ us hl => match us, hl with | [_, _], _ => rfl) (fun vs H Q E h => ?_) (fun fa cdv A outer s H vs Q E hr h => ?_)
  · obtain ⟨a, dx, d, m, v, o, rfl, _⟩ := h
    rfl
  · obtain ⟨a, dx, d, m, v, o, rfl, hA, hM, hv, q⟩ := h
    refine' ⟨_, (pss_cons (ps_if (pt_not (pt_val (pe_callB call_isi (by rfl) T.z_isinstance (by decide +kernel) (pa_cons (pv 1) (pa_cons (pe_bltn (v := .ty "dict") (by rfl) T.z_dict (by decide +kernel) rfl) pa_nil)))))
      (pss_one (ps_ret (pv 1)))
      pss_nil)
      (pss_one (ps_tryA rfl rfl takes_none5 (fun W pn xe tk _ => ?B0) (HdA.as (i := 2) sc_l_on.nd rfl rfl ⟨rfl, by decide, .inl T.eK.mgc⟩ (fun a oe cls d pn hz hf =>
      (pss_one (ps_ret (pe_tup (pa_cons pe_str (pa_cons (pe_xf (xf_ofK T.eK.xc) T.eK.nf hz hf (pv 2)) pa_nil)))))) HdA.nil)))), ?main⟩
    case B0 => exact (pss_one (ps_ret (pe_mx (mx_Change_on T) hr (by decide) (fun _ => passAt tk _) (pv 0) (pa_cons (pv 1) pa_nil))))
    refine ⟨v, rfl, ?_⟩
    dsimp only [tCons, tC, tNil]
    cases o with
    | conf S =>
      obtain ⟨p, q', ys, rfl, hp, hq, h1⟩ := id hv
      exact noDict_isi ⟨"tuple", by decide, .base (.tup hp)⟩ ⟨_, rfl, iteT ⟨.ref p, rfl, q (.ref p) H (Same.refl H) hv fun f e t z => nomatch z⟩⟩
    | files f =>
      obtain ⟨e, rfl, hF, hI⟩ := id hv
      obtain ⟨te, he, _⟩ := id hF
      refine ⟨_, _, .type "dict", .type "dict", true, rfl, .ty "dict", .base (.dK he), kit_ty (by decide +kernel), _, rfl, iteF ?_⟩
      have hI2 := onM_menu hM hI
      have out : ∀ (S : Str → Prop), (∀ x, S x → x ∈ MENU) → onO m (.files f) = .conf S → ∀ (dd p : Addr) (ys : List Str) (H' : Hp), Same H H' → H' dd = some (.xd [("paths", .ref p)]) → H' p = some (.tup (ys.map V.str)) → sortedS ys = true → ys.Nodup → ys.length ≤ 60 → (∀ x, x ∈ ys ↔ S x) → ∀ pt, H' pt = none → Q (.ref pt) (upd H' pt (.tup [V.str "conflict", .ref p])) := by
        intro S hS eo dd p ys H' s h1 h2 h3 h4 h5 h6 pt npt
        have st := same_new (o := .tup [V.str "conflict", .ref p]) npt
        refine q (.ref pt) _ (s.trans st) ?_ (fun f' e' t' _ z he' => ?_)
        · rw [eo]
          exact ⟨pt, p, ys, rfl, upd_same, st _ _ h2, h3, h4, h5, fun x hx => hS x ((h6 x).mp hx), h6⟩
        · cases z
          rw [upd_same] at he'
          cases he'
      refine ⟨.ref a, rfl, a, dx, _, rfl, hA.1, rfl, .ref e, rfl, a, dx, d, 16, m, .ref e, rfl, hA, .inr ⟨e, 16, f, rfl, hF, by decide, ?_⟩⟩
      have := Classical.propDecidable (∃ x, TornF m f x)
      have := Classical.propDecidable (∃ x, CrossM (onM m f) x)
      by_cases ht : ∃ x, TornF m f x
      · have eo : onO m (.files f) = .conf (TornF m f) := by
          show dueF m f = _
          unfold dueF
          exact if_pos ht
        refine .inl ⟨ht, fun dd p ys H' s h1 h2 h3 h4 h5 h6 => ⟨true, T.exK, fun _ ax nax => ⟨.ref ax, rfl, rfl, rfl, dd, _, _, rfl, h1, rfl, (by show 2 ≤ sizeLine; decide), fun pt npt => ?_⟩, fun z => Bool.noConfusion z⟩⟩
        exact out (TornF m f) (fun x ⟨r, e1, _⟩ => hM x (by rw [e1]; rfl)) eo dd p ys H' s h1 h2 h3 h4 h5 h6 pt npt
      · by_cases hc : ∃ x, CrossM (onM m f) x
        · have eo : onO m (.files f) = .conf (CrossM (onM m f)) := by
            show dueF m f = _
            unfold dueF
            rw [if_neg ht]
            exact if_pos hc
          refine .inr (.inl ⟨fun x z => ht ⟨x, z⟩, hc, fun dd p ys H' s h1 h2 h3 h4 h5 h6 => ⟨true, T.exK, fun _ ax nax => ⟨.ref ax, rfl, rfl, rfl, dd, _, _, rfl, h1, rfl, (by show 2 ≤ sizeLine; decide), fun pt npt => ?_⟩, fun z => Bool.noConfusion z⟩⟩)
          exact out (CrossM (onM m f)) (fun x ⟨e1, _⟩ => hI2 x e1) eo dd p ys H' s h1 h2 h3 h4 h5 h6 pt npt
        · refine .inr (.inr ⟨fun x z => ht ⟨x, z⟩, fun x z => hc ⟨x, z⟩, fun p t H' np s hp hH hO hs => ?_⟩)
          refine q (.ref p) H' s ?_ (fun f' e' t' _ z he' => ?_)
          · have eo : onO m (.files f) = .files (onM m f) := by
              show dueF m f = _
              unfold dueF
              rw [if_neg ht]
              exact if_neg hc
            rw [eo]
            exact ⟨p, rfl, ⟨t, hp, hH, hO.menu hH hI2⟩, hI2⟩
          · cases z
            rw [hp] at he'
            have e1 := HO.dK.inj (Option.some.inj he')
            have e2 : t = t' := by
              have := congrArg (List.map fun q : Key × V => q.1) e1
              unfold kT at e1
              exact List.map_inj_right (f := fun q : Str × V => ((Sum.inr q.1 : Key), q.2)) (fun x y h => by
                have h1 := congrArg Prod.fst h
                have h2 := congrArg Prod.snd h
                exact Prod.ext (Sum.inr.inj h1) h2) |>.mp e1
            rw [← e2]
            exact hs
end

end Fk

set_option maxHeartbeats 4000000
/-! A list of new pairs, over things that are new at each turn. -/
namespace Fk
open PySem PySem.Spec PyProof.Rows L2
section
variable {α β : Type} {J : It} {us : List α} {G : Hp → Prop} {H1 : Hp} {D : Addr} {σ : L2.St} {vs : List Nat} {g : TG} {tt : TT} {te : TE} {Q : Hp → Prop}
theorem lc_pairsS (hgo : ∀ k H, G H → k < us.length → J.go k H) (hstop : ∀ H, G H → J.stop us.length H) (kf : α → Str) (R : Hp → V → β → Prop) (rf : α → β) (p : α → Bool) (σf : α → L2.St) (hD1 : H1 D = none) (hG : ∀ H, Same H1 H → G H) (hw : ∀ u ∈ us, wipe (σf u) vs = wipe σ vs)
    (hg : ∀ k H u x H', Same H1 H → us[k]? = some u → J.yld k H x H' → Same H H' ∧ ∀ (S : L2.St → Hp → Prop), S (σf u) H' → g x (wipe σ vs) H' S)
    (ht : ∀ H u, Same H1 H → u ∈ us → ∀ (S : Bool → Hp → Prop), (∀ H3, Same H H3 → S (p u) H3) → tt (σf u) H S)
    (mono : ∀ H H' v r, TupKeep H H' → R H v r → R H' v r)
    (he : ∀ H u, Same H1 H → u ∈ us → p u = true → ∀ (S : VK), (∀ a v H3, Same H H3 → H3 a = some (.tup [.str (kf u), v]) → R H3 v (rf u) → S (.ref a) H3) → te (σf u) H S)
    (hl : us.length ≤ 1000000) (hd : ∀ as H, Same H1 H → H D = some (.lst (as.map V.ref)) → Paired (fun (a : Addr) u => ∃ v, H a = some (.tup [.str (kf u), v]) ∧ R H v (rf u)) as (us.filter p) → Q H) :
    ∃ W : Nat → Nat → Hp → Prop, (∃ m, W 0 m (upd H1 D (.lst []))) ∧ ∀ k m H, W k m H →
      (J.stop k H ∧ Q H) ∨ (J.go k H ∧ ∃ Nx : Hp → Prop, (∀ H', Nx H' → ∃ m', m' < m ∧ W (k + 1) m' H') ∧ ∀ x H', J.yld k H x H' → g x (wipe σ vs) H' fun σ2 H2 => wipe σ2 vs = wipe σ vs ∧ tt σ2 H2 fun b H3 =>
        if b = true then te σ2 H3 fun y H4 => ∃ acc, H4 D = some (.lst acc) ∧ acc.length < sizeLine ∧ Nx (upd H4 D (.lst (acc ++ [y]))) else Nx H3) := by
  let In : Nat → Hp → Prop := fun k H => Same H1 H ∧ ∃ as : List Addr, H D = some (.lst (as.map V.ref)) ∧ as.length ≤ k ∧ Paired (fun (a : Addr) u => ∃ v, H a = some (.tup [.str (kf u), v]) ∧ R H v (rf u)) as ((us.take k).filter p)
  refine ⟨fun k m H => m = us.length - k ∧ k ≤ us.length ∧ In k H, ⟨us.length, rfl, Nat.zero_le _, same_new hD1, [], upd_same, Nat.zero_le _, .nil⟩, ?_⟩
  rintro k m H ⟨rfl, hk', sm, as, hD, las, pr⟩
  by_cases hlt : k < us.length
  · refine .inr ⟨hgo k H (hG _ sm) hlt, In (k + 1), fun H' q => ⟨us.length - (k + 1), by omega, rfl, hlt, q⟩, fun x H' y => ?_⟩
    obtain ⟨u, hu⟩ : ∃ u, us[k]? = some u := ⟨us[k], List.getElem?_eq_getElem hlt⟩
    have hm : u ∈ us := List.mem_of_getElem? hu
    have et : us.take (k + 1) = us.take k ++ [u] := by
      rw [List.take_add_one, hu]
      rfl
    obtain ⟨s0, gg⟩ := hg k H u x H' sm hu y
    refine gg _ ⟨hw u hm, ht H' u (sm.trans s0) hm _ fun H3 s3 => ?_⟩
    have s03 := s0.trans s3
    by_cases hp : p u = true
    · rw [if_pos hp]
      refine he H3 u (sm.trans s03) hm hp _ fun a v H4 s4 h4 rv => ?_
      have s34 := s03.trans s4
      have hD4 := s34 _ _ hD
      have k1 : TupKeep H4 (upd H4 D (.lst (as.map V.ref ++ [V.ref a]))) := TupKeep.at fun xs z => by rw [hD4] at z; cases z
      have k2 : TupKeep H (upd H4 D (.lst (as.map V.ref ++ [V.ref a]))) := (TupKeep.of s34).trans k1
      refine ⟨_, hD4, small_lt (by rw [List.length_map]; omega), same_mut (sm.trans s34) hD1, as ++ [a], by rw [upd_same, List.map_append]; rfl, by rw [List.length_append]; show _ + 1 ≤ _; omega, ?_⟩
      rw [et, List.filter_append, List.filter_cons, hp]
      exact paired_snoc' ⟨v, k1 _ _ h4, mono _ _ _ _ k1 rv⟩ (Paired.mapP pr fun e w ⟨z, a, b⟩ => ⟨z, k2 _ _ a, mono _ _ _ _ k2 b⟩)
    · rw [if_neg hp]
      refine ⟨sm.trans s03, as, s03 _ _ hD, by omega, ?_⟩
      rw [et, List.filter_append, List.filter_cons, if_neg hp]
      simp only [List.filter_nil, List.append_nil]
      exact Paired.mapP pr fun e w ⟨z, a, b⟩ => ⟨z, TupKeep.of s03 _ _ a, mono _ _ _ _ (TupKeep.of s03) b⟩
  · have e : k = us.length := by omega
    subst e
    rw [List.take_length] at pr
    exact .inl ⟨hstop H (hG _ sm), hd as H sm hD pr⟩
end
end Fk

set_option maxHeartbeats 4000000
namespace Fk
open PySem PySem.Spec PyProof.Rows L2
section
variable {P : Program} {w : World} {K : PySem.W.Frag} {mg : Str → Option Value} {base : Heap} {C fk cE iF cP cK iK : Addr}
theorem ne_empty {H : Hp} {D b : Addr} {zs : List Str} {Q : VK} (hD : H D = some (.lst (zs.map V.str))) (hb : H b = some (.lst [])) (ho : ∀ x ∈ zs, OkS x) (q : Q (.bl (!zs.isEmpty)) H) : rNeD K (.ref D) (.ref b) H Q := by
  refine ⟨.list (zs.map PyData.str), .list [], .lst (SqL.of hD) ?_, .lst (SqL.of hb) .nil, ?_, rfl, ?_⟩
  · clear hD q ho
    induction zs with
    | nil => exact .nil
    | cons z r ih => exact .cons (.str z) ih
  · unfold SeqAt.shaped
    have c : PyData.canLay0 (.list (zs.map PyData.str)) = true := lay_strs zs ho
    rw [c, Bool.true_and]
    refine decide_eq_true ?_
    show PyData.depthAll (zs.map PyData.str) + 1 ≤ 64
    have : PyData.depthAll (zs.map PyData.str) ≤ 0 := depthAll_le fun d hd => by
      obtain ⟨y, _, rfl⟩ := List.mem_map.mp hd
      exact Nat.le_refl _
    omega
  · have e : PyData.eqv (.list (zs.map PyData.str)) (.list []) = zs.isEmpty := by
      cases zs <;> rfl
    rw [e]
    exact q
theorem files_pairs {α : Type} {H : Hp} {kf : α → Str} {rf : α → Fi} {g : Mp Fi} {n : Nat} {as : List Addr} {us : List α} (nd : (us.map kf).Nodup) (hg : ∀ u ∈ us, g (kf u) = some (rf u)) (hn : ∀ x, x ∉ us.map kf → g x = none)
    (pr : Paired (fun (a : Addr) u => ∃ v, H a = some (.tup [.str (kf u), v]) ∧ FiV K H v (rf u)) as us) (path : ∀ u ∈ us, PathOk (kf u)) (good : ∀ u ∈ us, GoodP (rf u)) (len : us.length ≤ n) :
    ∃ tab : Tab, Paired (fun p kv => SqT K H p [kV kv.1, kv.2]) as (kT tab) ∧ ∀ p, H p = none → FilesAt K (upd H p (.dK (mergeK [] (kT tab)))) p n g := by
  obtain ⟨tab, p1, p2⟩ := pairs_tab (K := K) pr
  have ek : tab.map (·.1) = us.map kf := paired_keys (R := fun v u => FiV K H v (rf u)) p2
  have ndt : Nd tab := by unfold Nd; rw [ek]; exact nd
  have jH : Holds (FiV K H) tab g := holds_paired p2 nd hg hn
  have em : mergeK [] (kT tab) = kT tab := mergeK_nd [] tab ndt fun x _ z => nomatch z
  refine ⟨tab, p1, fun p np => ⟨tab, by rw [upd_same, em], jH.imp fun _ _ x => FvV.keep x (TupKeep.of (same_new np)), ndt, ?_, fun x hx => ?_, fun x r e => ?_⟩⟩
  · have := congrArg List.length ek
    rw [List.length_map, List.length_map] at this
    omega
  · rw [ek] at hx
    obtain ⟨u, hu, rfl⟩ := List.mem_map.mp hx
    exact path u hu
  · by_cases hx : x ∈ us.map kf
    · obtain ⟨u, hu, rfl⟩ := List.mem_map.mp hx
      rw [hg u hu] at e
      cases e
      exact good u hu
    · rw [hn x hx] at e
      cases e
def spDueL (K : PySem.W.Frag) : Sp := fun vs H Q _ => ∃ (r e : Addr) (m : Mp Rw) (f : Mp Fi), vs = [.ref r, .ref e] ∧ RowsAt K H r 16 m ∧ InMenu m ∧ MenuAt K H e f ∧ ∀ v H', Same H H' → DueV K H' v (dueF m f) → Q v H'
theorem c_l_due (T : TopF K mg C fk cE iF cP cK iK) : C8.Cal P w K mg base 2 "_law_due" (spDueL K) [] := by
  refine cal_of T.d_l_due sc_l_due (fun _ _ _ _ _ _ us hl => match us, hl with | [_, _], _ => rfl) (fun vs H Q E h => ?_) (fun fa cdv A outer s H vs Q E hr h => ?_)
  · obtain ⟨r, e, m, f, rfl, _⟩ := h
    rfl
  · obtain ⟨r, e, m, f, rfl, ⟨t, hr', hH, hO⟩, hM, ⟨⟨u, he, hF, oF⟩, hI⟩, q⟩ := h
    have lt := hO.len
    have lu := oF.len
    refine ⟨_, (pss_cons (ps_setLc (i := 2) (own := [("_law_path", 3)]) (g := gName 3) (by rfl) sc_l_due.nd rfl rfl (sw_true rfl rfl rfl (by decide +kernel)) (pi_list (pe_callB (call_sortedD (by rfl)) (by rfl) T.z_sorted (by decide +kernel) (pa_cons (pv 0) pa_nil))) (blkOk_by (own := [("_law_path", 3)]) (N := ["_law_rows", "_law_files", "_law_bad", "_law_path", "_law_found", "_law_value"]) (sc := C8.fnScope s_l_due) (by decide +kernel)) (fun _ _ _ _ _ => (pg_name (i := 3) sc_l_due.nd rfl (Or.inl rfl))) (fun _ _ _ _ _ => pts_one (pt_cmpR (op_neFv (K := K) rfl hr.units) (pe_dget1 (hu_of hr) (pv 1) (pv 3) ⟨rfl, rfl, rfl, rfl⟩) (pe_ix (ixK_tup (K := K) rfl) (pe_dget (hu_of hr) (pv 0) (pv 3) (fun _ _ => rfl)) pe_int (fun _ _ => rfl)) (nomark _))) (fun _ _ _ _ _ => (pv 3)))
      (pss_cons (ps_if (pt_cmpR (op_neD hr.units) (pv 2) (pe_lst pa_nil) (nomark _))
      (pss_one (ps_ret (pe_tup (pa_cons pe_str (pa_cons (pe_callTy call_tuple_of (by rfl) T.z_tuple (by decide +kernel) (pa_cons (pv 2) pa_nil)) pa_nil)))))
      pss_nil)
      (pss_cons (ps_set (i := 4) sc_l_due.nd rfl (Or.inl rfl) (pe_callTy (call_dictP rfl) (by rfl) T.z_dict (by decide +kernel) (pa_cons (pe_lock (pe_lc (own := [("_law_path", 3), ("_law_value", 5)]) (g := _) (by rfl) sc_l_due.nd (pi_items (pv 1)) (blkOk_by (own := [("_law_path", 3), ("_law_value", 5)]) (N := ["_law_rows", "_law_files", "_law_bad", "_law_path", "_law_found", "_law_value"]) (sc := C8.fnScope s_l_due) (by decide +kernel)) (fun _ _ _ _ _ => (pg_tupK (K := K) (n := 2) rfl rfl (pgs_cons (pg_name (i := 3) sc_l_due.nd rfl (Or.inl rfl)) (pgs_cons (pg_name (i := 5) sc_l_due.nd rfl (Or.inl rfl)) pgs_nil)))) (fun _ _ _ _ _ => pts_one (pt_cmp (pc_dnotin (hu_of hr) (pv 3) (pv 0)))) (fun _ _ _ _ _ => (pe_tup (pa_cons (pv 3) (pa_cons (pv 5) pa_nil)))))) pa_nil)))
      (pss_cons (ps_lock (ps_for PassesOwn.never rfl (pi_keys (pv 0)) (pg_name (i := 3) sc_l_due.nd rfl (Or.inl rfl))
      (pss_one (ps_if (pt_cmpR op_notN (pe_ix ix_tup (pe_dget (hu_of hr) (pv 0) (pv 3) (fun _ _ => rfl)) pe_int (fun _ _ => rfl)) pe_non (nomark _))
      (pss_one (ps_dput (hu_of hr) (pv 4) (pv 3) (pe_ix ix_tup (pe_dget (hu_of hr) (pv 0) (pv 3) (fun _ _ => rfl)) pe_int (fun _ _ => rfl)) rfl))
      pss_nil))))
      (pss_cons (ps_set (i := 2) sc_l_due.nd rfl (Or.inl rfl) (C8.pe_c (c_l_clashes T) hr (by decide) (by rfl) (pa_cons (pv 4) pa_nil)))
      (pss_cons (ps_if (pt_cmpR (op_neD hr.units) (pv 2) (pe_lst pa_nil) (nomark _))
      (pss_one (ps_ret (pe_tup (pa_cons pe_str (pa_cons (pe_callTy call_tuple_of (by rfl) T.z_tuple (by decide +kernel) (pa_cons (pv 2) pa_nil)) pa_nil)))))
      pss_nil)
      (pss_one (ps_ret (pv 4))))))))), ?_⟩
    refine ⟨.ref r, rfl, r, kT t, t.map (·.1), rfl, .inl hr', keys_kT t, (by rw [List.length_map]; omega), fun ys p hp hs np => ⟨p, rfl, ⟨_, SqL.of upd_same⟩, fun D hD => ?_⟩⟩
    have s1 := same_new (o := .lst (ys.map V.str)) np
    have hp1 := upd_same (H := H) (a := p) (o := .lst (ys.map V.str))
    generalize upd H p (.lst (ys.map V.str)) = H1 at s1 hp1 hD
    have lys : ys.length ≤ 16 := by rw [hp.length_eq, List.length_map]; omega
    have gF : ∀ x, GoodF (f x) := fun x p e1 => oF.good x p e1
    let pt : Str → Bool := fun x => match m x with
      | some r => !decide (f x = r.1)
      | none => false
    have hpt : ∀ {x : Str} {r : Rw}, m x = some r → pt x = !decide (f x = r.1) := fun {x r} e1 => by
      show (match m x with | some r => !decide (f x = r.1) | none => false) = _
      rw [e1]
    refine lc_pure (i := 3) (us := ys) (g := V.str) yields_list V.str pt hD (fun H s => SqL.of (s _ _ hp1)) (fun H5 x s5 hx R r' => ?_) (fun H5 x s5 hx _ R r' => ⟨_, rfl, r' H5 (Same.refl H5)⟩) (by omega) (fun H5 s5 h5 => ?_)
    · have z := hH.mem.mp (hp.mem_iff.mp hx)
      cases e1 : m x with
      | none => rw [e1] at z; cases z
      | some rr =>
        obtain ⟨v, hv, q1, v1, v2, rfl, t1, f1, f2⟩ := hH.at e1
        have k5 := TupKeep.of (s1.trans s5)
        have d1 := dget_kT (.inl (s5 _ _ (s1 _ _ hr'))) x
        rw [hv] at d1
        have i2 := dget_kT (.inl (s5 _ _ (s1 _ _ he))) x
        refine ⟨.ref e, rfl, e, rfl, .inl ⟨_, .inl (s5 _ _ (s1 _ _ he))⟩, .str x, rfl, _, i2, .ref r, rfl, .str x, rfl, r, _, rfl, d1, q1, _, 0, v1, rfl, rfl, (t1.keep k5).sq, rfl, ?_⟩
        refine ⟨f x, rr.1, (get_fv hF x).keep k5, f1.keep k5, gF x, (hO.good x rr e1).1, _, rfl, ?_⟩
        rw [← hpt e1]
        exact r' H5 (Same.refl H5)
    have mt : ∀ x, x ∈ ys.filter pt ↔ TornF m f x := fun x => by
      rw [List.mem_filter, hp.mem_iff, hH.mem]
      constructor
      · rintro ⟨z1, z2⟩
        cases e1 : m x with
        | none => rw [e1] at z1; cases z1
        | some r =>
          rw [hpt e1] at z2
          exact ⟨r, e1, fun z => by rw [decide_eq_true z] at z2; cases z2⟩
      · rintro ⟨r, e1, ne⟩
        exact ⟨by rw [e1]; rfl, by rw [hpt e1, decide_eq_false ne]; rfl⟩
    have ndz : (ys.filter pt).Nodup := (hp.nodup_iff.mpr hO.nd).filter _
    have lz : (ys.filter pt).length ≤ 16 := Nat.le_trans (List.length_filter_le _ _) lys
    have sz := sorted_filter hs pt
    generalize ys.filter pt = zs at h5 mt ndz lz sz
    have zM : ∀ x ∈ zs, x ∈ MENU := fun x hx => by
      obtain ⟨r0, e1, _⟩ := (mt x).mp hx
      exact hM x (by rw [e1]; rfl)
    have s05 := s1.trans s5
    refine ⟨.ref D, rfl, (by show 0 ≤ sizeLine; decide), fun b0 n0 => ?_⟩
    have s6 := same_new (o := .lst []) n0
    refine ne_empty (s6 _ _ h5) upd_same (fun x hx => (menu_ok x (zM x hx)).2.2) ⟨_, rfl, ?_⟩
    have ty1 : ∀ {H7 : Hp} {D7 : Addr} {zs : List Str} {S : Str → Prop}, Same H H7 → H7 D7 = some (.lst (zs.map V.str)) → sortedS zs = true → zs.Nodup → zs.length ≤ 60 → (∀ x ∈ zs, x ∈ MENU) → (∀ x, x ∈ zs ↔ S x) → dueF m f = .conf S → ∀ l, H7 l = none → ∀ pt, (upd H7 l (.tup (zs.map V.str))) pt = none → Q (.ref pt) (upd (upd H7 l (.tup (zs.map V.str))) pt (.tup [.str "conflict", .ref l])) := by
      intro H7 D7 zs S s7 _ h2 h3 h4 h5 h6 eo l nl pt npt
      have sl := same_new (o := .tup (zs.map V.str)) nl
      have st := same_new (o := .tup [V.str "conflict", .ref l]) npt
      refine q _ _ (s7.trans (sl.trans st)) ?_
      rw [eo]
      exact ⟨pt, l, zs, rfl, upd_same, st _ _ upd_same, h2, h3, h4, h5, h6⟩
    have := Classical.propDecidable (∃ x, TornF m f x)
    have := Classical.propDecidable (∃ x, CrossM (onM m f) x)
    have s06 := s05.trans s6
    generalize upd H5 b0 (.lst []) = H6 at s6 s06
    have h6 := s6 _ _ h5
    cases zs with
    | cons z0 zr =>
      refine iteT ?_
      have ht : ∃ x, TornF m f x := ⟨z0, (mt z0).mp List.mem_cons_self⟩
      refine ⟨.ref D, rfl, D, _, rfl, .inl ⟨SqL.of h6, fun l nl => ⟨(by show 2 ≤ sizeLine; decide), fun pt npt => ty1 s06 h6 sz ndz (by omega) zM mt ?_ l nl pt npt⟩⟩⟩
      unfold dueF
      exact if_pos ht
    | nil =>
      refine iteF ?_
      have notorn : ¬ ∃ x, TornF m f x := fun ⟨x, z⟩ => by
        have := (mt x).mpr z
        cases this
      have he6 := s06 _ _ he
      have hr6 := s06 _ _ hr'
      refine ⟨e, _, he6, trivial, fun od => ⟨.ref e, rfl, e, od, _, rfl, upd_same, fun D2 hD2 => ?_⟩⟩
      have nDe : D2 ≠ e := lock_ne hD2
      have k6 : TupKeep H6 (upd H6 e (.frz od (.dK (kT u)))) := TupKeep.at fun xs z => by rw [he6] at z; cases z
      have gR : ∀ {H7 : Hp}, Same (upd H6 e (.frz od (.dK (kT u)))) H7 → ∀ x, DGet H7 r (.str x) (valV t x) := fun {H7} s7 x => by
        by_cases w : r = e
        · have e0 : kT u = kT t := by
            rw [w, he6] at hr6
            exact HO.dK.inj (Option.some.inj hr6)
          exact dget_kT (.inr ⟨od, by rw [w, ← e0]; exact s7 _ _ upd_same⟩) x
        · exact dget_kT (.inl (s7 _ _ (by rw [upd_ne w]; exact hr6))) x
      have lk : (kT u).length = u.length := len_kT u
      have fu : ∀ q ∈ u, ∃ p, f q.1 = some p ∧ FiV K H q.2 p := fun q hq => hF.at' (val_memE oF.nd hq)
      let g0 : Mp Fi := fun x => if (m x).isSome then none else f x
      refine lc_pairsS (us := u) (G := fun H5 => H5 e = some (.frz od (.dK (kT u)))) (fun k H5 g hk => ⟨g, by rw [lk]; exact hk⟩) (fun H5 g => ⟨g, Nat.le_of_eq lk⟩) (fun q => q.1) (FiV K) (fun q => (f q.1).getD ("", "")) (fun q => !(valV t q.1).isSome) (fun q => [some (.ref r), some (.ref e), some (.ref D), some (.str q.1), none, some q.2]) hD2 (fun H5 s5 => s5 _ _ upd_same) (fun _ _ => rfl)
        (fun k H5 q x H7 s5 hu hy => ?_) (fun H5 q s5 hu S k => ?_) (fun _ _ _ _ k h => FvV.keep h k) (fun H5 q s5 hu _ S k => ?_) (by omega) (fun as H7 s7 h7 pr => ?_)
      · obtain ⟨T0, k', v, hkv, rfl, nT, rfl⟩ := hy
        have sT := same_new (o := .tup [kV k', v]) nT
        refine ⟨sT, fun S hS => ?_⟩
        have e2 : (kT u)[k]? = some (.inr q.1, q.2) := by
          unfold kT
          rw [List.getElem?_map, hu]
          rfl
        rw [e2] at hkv
        cases hkv
        exact ⟨T0, _, rfl, SqT.of upd_same, rfl, _, _, rfl, _, _, rfl, rfl, hS⟩
      · exact ⟨.str q.1, rfl, .ref r, rfl, r, _, rfl, gR s5 q.1, _, rfl, k H5 (Same.refl H5)⟩
      · obtain ⟨p0, e1, fp⟩ := fu q hu
        refine ⟨_, rfl, _, rfl, (by show 2 ≤ sizeLine; decide), fun tp ntp => ?_⟩
        have st := same_new (o := .tup [V.str q.1, q.2]) ntp
        refine k tp q.2 _ st upd_same ?_
        rw [e1]
        exact FvV.keep fp (((TupKeep.of s06).trans k6).trans (TupKeep.of (s5.trans st)))
      refine ⟨s7 _ _ upd_same, ?_⟩
      have s68 : Same H6 (upd H7 e (.dK (kT u))) := same_unlock s7 he6
      have k8 : TupKeep H7 (upd H7 e (.dK (kT u))) := TupKeep.at fun xs z => by rw [s7 _ _ upd_same] at z; cases z
      have h8 : (upd H7 e (.dK (kT u))) D2 = some (.lst (as.map V.ref)) := by rw [upd_ne nDe]; exact h7
      have mu : ∀ x, x ∈ (u.filter fun q => !(valV t q.1).isSome).map (·.1) ↔ (f x).isSome = true ∧ (m x).isSome = false := fun x => by
        constructor
        · intro hx
          obtain ⟨q, hq, rfl⟩ := List.mem_map.mp hx
          obtain ⟨q1, q2⟩ := List.mem_filter.mp hq
          obtain ⟨p0, e1, _⟩ := fu q q1
          rw [hH.isSome] at q2
          exact ⟨by rw [e1]; rfl, by simpa using q2⟩
        · rintro ⟨z1, z2⟩
          obtain ⟨q, hq, rfl⟩ := List.mem_map.mp (hF.mem.mpr z1)
          exact List.mem_map.mpr ⟨q, List.mem_filter.mpr ⟨hq, by rw [hH.isSome, z2]; rfl⟩, rfl⟩
      obtain ⟨tab, p1, p2⟩ := files_pairs (K := K) (g := g0) (n := 16) (kf := fun q : Str × V => q.1) (nd_filter oF.nd _) (fun q hq => by
          obtain ⟨q1, q2⟩ := List.mem_filter.mp hq
          obtain ⟨p0, e1, _⟩ := fu q q1
          have := ((mu q.1).mp (List.mem_map.mpr ⟨q, hq, rfl⟩)).2
          show (if (m q.1).isSome then none else f q.1) = some ((f q.1).getD ("", ""))
          rw [this, e1]
          rfl) (fun x hx => by
          show (if (m x).isSome then none else f x) = none
          cases c : (m x).isSome with
          | true => rfl
          | false =>
            cases e1 : f x with
            | none => rfl
            | some p0 => exact absurd ((mu x).mpr ⟨by rw [e1]; rfl, c⟩) hx) (Paired.mapP pr fun b x ⟨v, z1, z2⟩ => ⟨v, k8 _ _ z1, FvV.keep z2 k8⟩) (fun q hq => oF.path q.1 (List.mem_map.mpr ⟨q, (List.mem_filter.mp hq).1, rfl⟩)) (fun q hq => by
          obtain ⟨p0, e1, _⟩ := fu q (List.mem_filter.mp hq).1
          rw [e1]
          exact oF.good q.1 p0 e1) (Nat.le_trans (List.length_filter_le _ _) lu)
      refine ⟨D2, as, kT tab, rfl, .inl (.inl h8), p1, fun pF npF => ?_⟩
      obtain ⟨tv, hpF, hV, oV⟩ := p2 pF npF
      have s09 := (s06.trans s68).trans (same_new (o := .dK (mergeK [] (kT tab))) npF)
      have fpF : H pF = none := (s06.trans s68).free npF
      generalize upd (upd H7 e (.dK (kT u))) pF (.dK (mergeK [] (kT tab))) = H9 at s09 hpF hV
      have hr9 := s09 _ _ hr'
      have npr : pF ≠ r := fun z => by rw [z, hr'] at fpF; cases fpF
      refine ⟨r, _, hr9, trivial, fun od2 => ⟨.ref r, rfl, r, od2, rfl, .inl ⟨kT t, upd_same, ?_⟩⟩⟩
      have Y : Yields (Itk r od2 (kT t)) ((t.map (·.1)).map V.str) (fun H => H r = some (.frz od2 (.dK (kT t)))) := by
        rw [← kV_kT]
        exact yields_keys
      have k9 : TupKeep H9 (upd H9 r (.frz od2 (.dK (kT t)))) := TupKeep.at fun xs z => by rw [hr9] at z; cases z
      have hrL := upd_same (H := H9) (a := r) (o := .frz od2 (.dK (kT t)))
      have hpL : (upd H9 r (.frz od2 (.dK (kT t)))) pF = some (.dK (kT tv)) := by rw [upd_ne npr]; exact hpF
      have kOL : ∀ b o, b ≠ r → H b = some o → (upd H9 r (.frz od2 (.dK (kT t)))) b = some o := fun b o nb z => by rw [upd_ne nb]; exact s09 _ _ z
      generalize upd H9 r (.frz od2 (.dK (kT t))) = HL at k9 hrL hpL kOL
      have kHL : TupKeep H HL := (TupKeep.of s09).trans k9
      generalize hks : t.map (·.1) = ks at *
      have hI0 : InMenu g0 := fun x hx => by
        have hx : (if (m x).isSome then none else f x).isSome = true := hx
        cases c : (m x).isSome with
        | true => rw [c] at hx; cases hx
        | false =>
          rw [c] at hx
          exact hI x hx
      let gi : Nat → Mp Fi := fun i x => if x ∈ ks.take i then (m x).bind (·.2) else g0 x
      have gi0 : gi 0 = g0 := by
        funext x
        show (if x ∈ ks.take 0 then _ else g0 x) = _
        rw [List.take_zero, if_neg List.not_mem_nil]
      refine forG Y (fun i σ H' => ∃ (tw : Tab) (z3 : Option V), σ = [some (.ref r), some (.ref e), some (.ref D), z3, some (.ref pF), none] ∧ H' pF = some (.dK (kT tw)) ∧ Holds (FiV K H') tw (gi i) ∧ FilesOk 16 tw (gi i) ∧ InMenu (gi i) ∧ Fr pF HL H')
        ⟨tv, none, rfl, hpL, ?g0h, ?g0o, ?g0m, Fr.refl pF HL⟩ (fun i σ H' I => I.choose_spec.choose_spec.2.2.2.2.2 _ _ npr.symm hrL) (fun i x σ H' hx I => ?_) (fun σ H' I => ?_)
      case g0h => rw [gi0]; exact hV.imp fun _ _ x => FvV.keep x k9
      case g0o => rw [gi0]; exact oV
      case g0m => rw [gi0]; exact hI0
      · obtain ⟨tw, z3, rfl, hpw, hW, oW, iW, fr⟩ := I
        rw [List.getElem?_map] at hx
        cases hy : ks[i]? with
        | none => rw [hy] at hx; cases hx
        | some y =>
          rw [hy] at hx
          cases hx
          have hym : y ∈ ks := List.mem_of_getElem? hy
          have etk : ks.take (i + 1) = ks.take i ++ [y] := by
            rw [List.take_add_one, hy]
            rfl
          have hnew : y ∉ ks.take i := fun z => by
            have nd : ks.Nodup := by rw [← hks]; exact hO.nd
            rw [← List.take_append_drop (i + 1) ks, etk, List.append_assoc] at nd
            exact absurd rfl ((List.nodup_append.mp nd).2.2 y z y (List.mem_append_left _ List.mem_cons_self))
          have k0 : TupKeep H H' := kHL.trans fun b xs z => fr b _ (fun w => by rw [w, hpL] at z; cases z) z
          have hrf := fr _ _ npr.symm hrL
          have z := hH.mem.mp (by rw [hks]; exact hym)
          cases em : m y with
          | none => rw [em] at z; cases z
          | some rr =>
            obtain ⟨v, hv, q1, v1, v2, rfl, t1, f1, f2⟩ := hH.at em
            have d1 := dget_kT (.inr ⟨od2, hrf⟩) y
            rw [hv] at d1
            have sq1 := (t1.keep k0).sq
            have giN : ∀ x, gi (i + 1) x = if x = y then rr.2 else gi i x := fun x => by
              show (if x ∈ ks.take (i + 1) then _ else g0 x) = _
              rw [etk]
              by_cases e1 : x = y
              · rw [if_pos e1, if_pos (by rw [e1]; exact List.mem_append_right _ List.mem_cons_self), e1, em]
                rfl
              · rw [if_neg e1]
                show _ = (if x ∈ ks.take i then _ else g0 x)
                by_cases hm : x ∈ ks.take i
                · rw [if_pos hm, if_pos (List.mem_append_left _ hm)]
                · rw [if_neg hm, if_neg (fun z => (List.mem_append.mp z).elim hm fun w => e1 (List.mem_singleton.mp w))]
            refine ⟨.ref r, rfl, .str y, rfl, r, _, rfl, d1, q1, _, 1, v2, rfl, rfl, sq1, rfl, rfl, _, rfl, ?_⟩
            have f20 := f2.keep k0
            cases e2 : rr.2 with
            | none =>
              rw [e2] at f20
              obtain rfl : v2 = .non := f20
              have eg : gi (i + 1) = gi i := by
                funext x
                rw [giN x]
                by_cases e1 : x = y
                · rw [if_pos e1, e2, e1]
                  show none = (if y ∈ ks.take i then _ else g0 y)
                  rw [if_neg hnew]
                  show none = (if (m y).isSome then none else f y)
                  rw [em]
                  rfl
                · rw [if_neg e1]
              refine iteF ⟨tw, _, rfl, hpw, by rw [eg]; exact hW, by rw [eg]; exact oW, by rw [eg]; exact iW, fr⟩
            | some p0 =>
              rw [e2] at f20
              have f20' := f20
              obtain ⟨qv, rfl, _⟩ := f20'
              rw [decide_eq_false (fun z => by cases z)]
              refine iteT ?_
              have eg : gi (i + 1) = putM (gi i) y p0 := by
                funext x
                rw [giN x, e2]
                rfl
              have k5 : TupKeep H' (upd H' pF (.dK (putK (kT tw) (.inr y) (.ref qv)))) := TupKeep.at fun xs z => by rw [hpw] at z; cases z
              have hW2 : Holds (FiV K (upd H' pF (.dK (putK (kT tw) (.inr y) (.ref qv))))) (putK tw y (.ref qv)) (putM (gi i) y p0) := Holds.put (hW.imp fun _ _ x => FvV.keep x k5) (FvV.keep f20 k5)
              have hyM : y ∈ MENU := hM y (by rw [em]; rfl)
              have iW2 : InMenu (putM (gi i) y p0) := iW.put hyM
              have lw := oW.len
              refine ⟨.ref r, rfl, .str y, rfl, r, _, rfl, d1, q1, _, 1, .ref qv, rfl, rfl, sq1, rfl, .ref pF, rfl, .str y, rfl, pF, _, rfl, DPut.k (k := .inr y) hpw (small_lt (by rw [len_kT]; omega)), putK tw y (.ref qv), _, rfl, by rw [upd_same, putK_kT], by rw [eg]; exact hW2, by rw [eg]; exact (oW.put (menu_ok y hyM) ((hO.good y rr em).2 p0 e2)).menu hW2 iW2, by rw [eg]; exact iW2, ?_⟩
              exact fr.trans fun b o nb z => by rw [upd_ne nb]; exact z
      · obtain ⟨tw, z3, rfl, hpw, hW, oW, iW, fr⟩ := I
        rw [List.length_map] at hW oW iW
        have egi : gi ks.length = onM m f := by
          funext x
          show (if x ∈ ks.take ks.length then (m x).bind (·.2) else g0 x) = _
          rw [List.take_length]
          unfold onM
          cases em : m x with
          | some r0 =>
            rw [if_pos (by rw [← hks]; exact hH.mem.mpr (by rw [em]; rfl))]
            rfl
          | none =>
            rw [if_neg (fun z => by rw [← hks] at z; have := hH.mem.mp z; rw [em] at this; cases this)]
            show (if (m x).isSome then none else f x) = f x
            rw [em]
            rfl
        rw [egi] at hW oW iW
        have hrf := fr _ _ npr.symm hrL
        refine ⟨hrf, ?_⟩
        have kU : TupKeep H' (upd H' r (.dK (kT t))) := TupKeep.at fun xs z => by rw [hrf] at z; cases z
        have sU : Same H (upd H' r (.dK (kT t))) := fun b o e1 => by
          by_cases hb : b = r
          · rw [hb, upd_same, ← hr', ← hb, e1]
          · rw [upd_ne hb]
            exact fr b o (ne_of_none e1 fpF) (kOL b o hb e1)
        have hpU : (upd H' r (.dK (kT t))) pF = some (.dK (kT tw)) := by rw [upd_ne npr]; exact hpw
        have hWU := hW.imp fun _ _ x => FvV.keep x kU
        generalize upd H' r (.dK (kT t)) = HU at sU hpU hWU
        have lw := oW.len
        refine ⟨.ref pF, rfl, pF, tw, rfl, hpU, oW.nd, by omega, oW.path, fun cs pc HC ndc sc lc hcs npc sC hC => ?_⟩
        have cross : ∀ x, x ∈ cs ↔ CrossM (onM m f) x := fun x => by
          rw [hcs x]
          unfold crossF CrossM
          rw [hW.mem]
          constructor
          · rintro ⟨z1, y, hy, z2⟩
            exact ⟨z1, y, hW.mem.mp hy, z2⟩
          · rintro ⟨z1, y, hy, z2⟩
            exact ⟨z1, y, hW.mem.mpr hy, z2⟩
        have cM : ∀ x ∈ cs, x ∈ MENU := fun x hx => iW x ((cross x).mp hx).1
        refine ⟨.ref pc, rfl, (by show 0 ≤ sizeLine; decide), fun b9 n9 => ?_⟩
        have s9' := same_new (o := .lst []) n9
        refine ne_empty (s9' _ _ hC) upd_same (fun x hx => (menu_ok x (cM x hx)).2.2) ⟨_, rfl, ?_⟩
        have sF := sU.trans (sC.trans s9')
        have hpD := (sC.trans s9') _ _ hpU
        have hWD := hWU.imp fun _ _ x => FvV.keep x (TupKeep.of (sC.trans s9'))
        have hC9 := s9' _ _ hC
        generalize upd HC b9 (.lst []) = HD at sF hpD hWD hC9
        cases cs with
        | cons c0 cr =>
          refine iteT ?_
          have hc : ∃ x, CrossM (onM m f) x := ⟨c0, (cross c0).mp List.mem_cons_self⟩
          refine ⟨.ref pc, rfl, pc, _, rfl, .inl ⟨SqL.of hC9, fun l nl => ⟨(by show 2 ≤ sizeLine; decide), fun pt npt => ty1 sF hC9 sc ndc (by omega) cM cross ?_ l nl pt npt⟩⟩⟩
          unfold dueF
          rw [if_neg notorn]
          exact if_pos hc
        | nil =>
          refine iteF ⟨.ref pF, rfl, q (.ref pF) HD sF ?_⟩
          have hc : ¬ ∃ x, CrossM (onM m f) x := fun ⟨x, z⟩ => by
            have := (cross x).mpr z
            cases this
          have eo : dueF m f = .files (onM m f) := by
            unfold dueF
            rw [if_neg notorn]
            exact if_neg hc
          rw [eo]
          exact ⟨pF, rfl, ⟨tw, hpD, hWD, oW⟩, iW⟩
end

end Fk

set_option maxHeartbeats 4000000
namespace Fk
open PySem PySem.Spec PyProof.Rows L2
theorem RowsOk.put {n : Nat} {t : Tab} {m : Mp Rw} {x : Str} {v : V} {r : Rw} (h : RowsOk n t m) (px : PathOk x) (g : GoodR r) : RowsOk (n + 1) (putK t x v) (putM m x r) := by
  refine ⟨nd_put h.nd x v, Nat.le_trans (length_putK t x v) (by have := h.len; omega), fun y hy => ?_, fun y s e => ?_⟩
  · rcases keys_putF hy with z | z
    · exact h.path y z
    · rw [z]; exact px
  · unfold putM at e
    split at e
    · cases e; exact g
    · exact h.good y s e
section
variable {P : Program} {w : World} {K : PySem.W.Frag} {mg : Str → Option Value} {base : Heap} {C fk cE iF cP cK iK : Addr}
def spChangeL (K : PySem.W.Frag) : Sp := fun vs H Q _ => ∃ (W e : Addr) (c : Int) (f : Mp Fi), vs = [.ref W, .ref e] ∧ Wl H W c ∧ c < 2 ^ 34 ∧ MenuAt K H e f ∧ ∀ d H' c' m, H d = none → Fr W H H' → Wl H' W c' → c ≤ c' → c' ≤ c + 2000 → RowsAt K H' d 16 m → InMenu m → Q (.ref d) H'
theorem c_l_change (T : TopF K mg C fk cE iF cP cK iK) : C8.Cal P w K mg base 5 "_law_change" (spChangeL K) [] := by
  refine cal_of T.d_l_change sc_l_change (fun _ _ _ _ _ _ us hl => match us, hl with | [_, _], _ => rfl) (fun vs H Q E h => ?_) (fun fa cdv A outer s H vs Q E hr h => ?_)
  · obtain ⟨W, e, c, f, rfl, _⟩ := h
    rfl
  · obtain ⟨W, e, c, f, rfl, hw, hc, hF, q⟩ := h
    refine ⟨_, (pss_cons (ps_set (i := 2) sc_l_change.nd rfl (Or.inl rfl) (C8.pe_c (c_l_near T) hr (by decide) (by rfl) (pa_cons (pv 0) (pa_cons (pv 1) pa_nil))))
      (pss_cons (ps_set (i := 3) sc_l_change.nd rfl (Or.inl rfl) pe_dnewK)
      (pss_cons (ps_for PassesOwn.never rfl (pi_list (pe_op op_cat (pe_callB (call_sortedD (by rfl)) (by rfl) T.z_sorted (by decide +kernel) (pa_cons (pv 2) pa_nil)) (pe_callB (call_sortedD (by rfl)) (by rfl) T.z_sorted (by decide +kernel) (pa_cons (pv 1) pa_nil)))) (pg_name (i := 4) sc_l_change.nd rfl (Or.inl rfl))
      (pss_one (ps_if (PW.pt (pw_or (pt_cmpR (op_neFv (K := K) rfl hr.units) (pe_dget1 (hu_of hr) (pv 1) (pv 4) ⟨rfl, rfl, rfl, rfl⟩) (pe_dget1 (hu_of hr) (pv 2) (pv 4) ⟨rfl, rfl, rfl, rfl⟩) (nomark _)) (pw_or1 (pt_cmpR op_eq (C8.pe_c (c_l_draw T.toTop) hr (by decide) (by rfl) (pa_cons (pv 0) (pa_cons pe_int pa_nil))) pe_int (nomark _)))))
      (pss_one (ps_dput (hu_of hr) (pv 3) (pv 4) (pe_tup (pa_cons (pe_dget1 (hu_of hr) (pv 1) (pv 4) ⟨rfl, rfl, rfl, rfl⟩) (pa_cons (pe_dget1 (hu_of hr) (pv 2) (pv 4) ⟨rfl, rfl, rfl, rfl⟩) pa_nil))) rfl))
      pss_nil)))
      (C8.pss_cut (ps_if (PW.pt (pw_and (pt_cmpR (op_neDD (room66 hr)) (pv 3) pe_dnewK (nomark _)) (pw_and1 (pt_cmpR op_eq (C8.pe_c (c_l_draw T.toTop) hr (by decide) (by rfl) (pa_cons (pv 0) (pa_cons pe_int pa_nil))) pe_int (nomark _)))))
      (pss_cons (ps_set (i := 4) sc_l_change.nd rfl (Or.inl rfl) (pe_ix ix_list (pe_callB (call_sortedD (by rfl)) (by rfl) T.z_sorted (by decide +kernel) (pa_cons (pv 3) pa_nil)) (C8.pe_c (c_l_draw T.toTop) hr (by decide) (by rfl) (pa_cons (pv 0) (pa_cons (pe_callB call_lenD (by rfl) T.z_len (by decide +kernel) (pa_cons (pv 3) pa_nil)) pa_nil))) (fun _ _ => rfl)))
      (pss_one (ps_dput (hu_of hr) (pv 3) (pv 4) (pe_tup (pa_cons (pe_tup (pa_cons pe_str (pa_cons (pe_op op_mul_si pe_str pe_int) pa_nil))) (pa_cons (pe_ix ix_tup (pe_dget (hu_of hr) (pv 3) (pv 4) (fun _ _ => rfl)) pe_int (fun _ _ => rfl)) pa_nil))) rfl)))
      pss_nil)
      (pss_one (ps_ret (pv 3))))))), ?_⟩
    refine ⟨.ref W, rfl, .ref e, rfl, W, e, c, f, rfl, hw, by omega, hF, fun e2 H1 c1 g ne2 f1 w1 l1 u1 hG => ?_⟩
    have hF1 := hF.fr f1 hw
    obtain ⟨⟨tf, he, hHf, hOf⟩, hIf⟩ := hF1
    obtain ⟨⟨tg, hg, hHg, hOg⟩, hIg⟩ := hG
    have lf := hOf.len
    have lg := hOg.len
    have eW : e ≠ W := w1.neK he
    have gW : e2 ≠ W := w1.neK hg
    refine fun D hD => ?_
    have wD : D ≠ W := w1.ne hD
    have fD : H D = none := by
      cases h0 : H D with
      | none => rfl
      | some o => rw [f1 _ _ wD h0] at hD; cases hD
    have hD0 := upd_same (H := H1) (a := D) (o := .dK [])
    have F0 : Fr W H1 (upd H1 D (.dK [])) := Fr.new hD
    have w0 := w1.new (o := .dK []) hD
    generalize upd H1 D (.dK []) = H2 at hD0 F0 w0
    refine ⟨.ref e2, rfl, e2, kT tg, tg.map (·.1), rfl, .inl (F0 _ _ gW hg), keys_kT tg, (by rw [List.length_map]; omega), fun ys pa hya hsa npa => ?_⟩
    have sa := same_new (o := .lst (ys.map V.str)) npa
    have ha := upd_same (H := H2) (a := pa) (o := .lst (ys.map V.str))
    generalize upd H2 pa (.lst (ys.map V.str)) = H3 at sa ha
    refine ⟨.ref e, rfl, e, kT tf, tf.map (·.1), rfl, .inl (sa _ _ (F0 _ _ eW he)), keys_kT tf, (by rw [List.length_map]; omega), fun zs pb hyb hsb npb => ?_⟩
    have sb := same_new (o := .lst (zs.map V.str)) npb
    have hb := upd_same (H := H3) (a := pb) (o := .lst (zs.map V.str))
    generalize upd H3 pb (.lst (zs.map V.str)) = H4 at sb hb
    have lys : ys.length ≤ 16 := by rw [hya.length_eq, List.length_map]; omega
    have lzs : zs.length ≤ 16 := by rw [hyb.length_eq, List.length_map]; omega
    refine ⟨pa, pb, _, _, rfl, rfl, sb _ _ ha, hb, small_line (by rw [List.length_map, List.length_map]; omega), fun L nL => ?_⟩
    have sL := same_new (o := .lst (ys.map V.str ++ zs.map V.str)) nL
    have hL : (upd H4 L (.lst (ys.map V.str ++ zs.map V.str))) L = some (.lst ((ys ++ zs).map V.str)) := by rw [upd_same, List.map_append]
    have LW : L ≠ W := ((w0.same sa).same sb).ne nL
    have s24 := sa.trans (sb.trans sL)
    generalize upd H4 L (.lst (ys.map V.str ++ zs.map V.str)) = H5 at sL hL s24
    have hD5 := s24 _ _ hD0
    have w5 := w0.same s24
    have F5 : Fr W H1 H5 := F0.trans (Fr.same s24)
    have men : ∀ x ∈ ys ++ zs, x ∈ MENU := fun x hx => by
      rcases List.mem_append.mp hx with h | h
      · exact hIg x (hHg.mem.mp (hya.mem_iff.mp h))
      · exact hIf x (hHf.mem.mp (hyb.mem_iff.mp h))
    have LD : L ≠ D := fun z => by rw [z, hD5] at hL; cases hL
    refine ⟨L, rfl, ⟨_, SqL.of hL⟩, ?_⟩
    refine forG (items := (ys ++ zs).map V.str) yields_list (fun i σ H' => ∃ (t : Tab) (m : Mp Rw) (c' : Int) (z4 : Option V), σ = [some (.ref W), some (.ref e), some (.ref e2), some (.ref D), z4] ∧ H' D = some (.dK (kT t)) ∧ Holds (RwV K H') t m ∧ RowsOk 16 t m ∧ InMenu m ∧ Fr W H1 H' ∧ Wl H' W c' ∧ c1 ≤ c' ∧ c' ≤ c1 + i ∧ H' L = some (.lst ((ys ++ zs).map V.str)))
      ⟨[], fun _ => none, c1, none, rfl, hD5, .nil, ⟨by unfold Nd; exact List.nodup_nil, Nat.zero_le _, (fun x hx => nomatch hx), (fun x r e => nomatch e)⟩, (fun x h => nomatch h), F5, w5, by omega, by omega, hL⟩ (fun i σ H' I => SqL.of I.choose_spec.choose_spec.choose_spec.choose_spec.2.2.2.2.2.2.2.2.2) (fun i x σ H' hx I => ?_) (fun σ H' I => ?_)
    · obtain ⟨t, m, c', z4, rfl, hDD, hH, hO, hI, fr, w', l', u', hL'⟩ := I
      rw [List.getElem?_map] at hx
      cases hy : (ys ++ zs)[i]? with
      | none => rw [hy] at hx; cases hx
      | some y =>
        rw [hy] at hx
        cases hx
        have hi := (List.getElem?_eq_some_iff.mp hy).1
        rw [List.length_append] at hi
        have hi32 : (i : Int) < 32 := by omega
        have hyM := men y (List.mem_of_getElem? hy)
        have gf : GoodF (f y) := fun p e1 => hOf.good y p e1
        have gg : GoodF (g y) := fun p e1 => hOg.good y p e1
        have put : ∀ {H6 : Hp} {c6 : Int}, Fr W H' H6 → Wl H6 W c6 → c1 ≤ c6 → c6 ≤ c1 + ((i + 1 : Nat) : Int) → ∀ tp, H6 tp = none → ∃ H7, DPut (upd H6 tp (.tup [(valV tf y).getD .non, (valV tg y).getD .non])) D (.str y) (.ref tp) H7 ∧ ∃ (t : Tab) (m : Mp Rw) (c' : Int) (z4 : Option V), ([some (.ref W), some (.ref e), some (.ref e2), some (.ref D), some (.str y)] : L2.St) = [some (.ref W), some (.ref e), some (.ref e2), some (.ref D), z4] ∧ H7 D = some (.dK (kT t)) ∧ Holds (RwV K H7) t m ∧ RowsOk 16 t m ∧ InMenu m ∧ Fr W H1 H7 ∧ Wl H7 W c' ∧ c1 ≤ c' ∧ c' ≤ c1 + ((i + 1 : Nat) : Int) ∧ H7 L = some (.lst ((ys ++ zs).map V.str)) := by
          intro H6 c6 f6 w6 l6 u6 tp ntp
          have st := same_new (o := .tup [(valV tf y).getD .non, (valV tg y).getD .non]) ntp
          have hD6 := st _ _ (f6 _ _ wD hDD)
          have k7 : TupKeep (upd H6 tp (.tup [(valV tf y).getD .non, (valV tg y).getD .non])) (upd (upd H6 tp (.tup [(valV tf y).getD .non, (valV tg y).getD .non])) D (.dK (putK (kT t) (.inr y) (.ref tp)))) := TupKeep.at fun xs z => by rw [hD6] at z; cases z
          have k16 : TupKeep H1 (upd (upd H6 tp (.tup [(valV tf y).getD .non, (valV tg y).getD .non])) D (.dK (putK (kT t) (.inr y) (.ref tp)))) := ((TupKeep.fr (fr.trans f6) w1).trans (TupKeep.of st)).trans k7
          have k6 : TupKeep H' (upd (upd H6 tp (.tup [(valV tf y).getD .non, (valV tg y).getD .non])) D (.dK (putK (kT t) (.inr y) (.ref tp)))) := ((TupKeep.fr f6 w').trans (TupKeep.of st)).trans k7
          have hH7 : Holds (RwV K _) (putK t y (.ref tp)) (putM m y (f y, g y)) := Holds.put (hH.imp fun _ _ x => x.keep k6) ⟨tp, _, _, rfl, .inl (k7 _ _ upd_same), (get_fv hHf y).keep k16, (get_fv hHg y).keep k16⟩
          have hI7 : InMenu (putM m y (f y, g y)) := hI.put hyM
          have lt := hO.len
          exact ⟨_, DPut.k (k := .inr y) hD6 (small_lt (by rw [len_kT]; omega)), putK t y (.ref tp), putM m y (f y, g y), c6, _, rfl, by rw [upd_same, putK_kT], hH7, (hO.put (menu_ok y hyM) ⟨gf, gg⟩).menu hH7 hI7, hI7, ((fr.trans f6).trans (Fr.same st)).mut hD, (w6.same st).mut wD, l6, u6, by rw [upd_ne LD]; exact st _ _ (f6 _ _ LW hL')⟩
        have g1 : ∀ {H6 : Hp}, Fr W H1 H6 → IsD H6 e ∧ DGet H6 e (.str y) (valV tf y) := fun {H6} f6 => ⟨.inl ⟨_, .inl (f6 _ _ eW he)⟩, dget_kT (.inl (f6 _ _ eW he)) y⟩
        have g2 : ∀ {H6 : Hp}, Fr W H1 H6 → IsD H6 e2 ∧ DGet H6 e2 (.str y) (valV tg y) := fun {H6} f6 => ⟨.inl ⟨_, .inl (f6 _ _ gW hg)⟩, dget_kT (.inl (f6 _ _ gW hg)) y⟩
        have k1 := TupKeep.fr fr w1
        refine ⟨.ref e, rfl, e, rfl, (g1 fr).1, .str y, rfl, _, (g1 fr).2, .ref e2, rfl, e2, rfl, (g2 fr).1, .str y, rfl, _, (g2 fr).2, f y, g y, (get_fv hHf y).keep k1, (get_fv hHg y).keep k1, gf, gg, _, rfl, ?_⟩
        by_cases hfg : f y = g y
        · rw [decide_eq_true hfg]
          refine iteF ?_
          refine ⟨.ref W, rfl, do_draw w' (by decide) (by decide) (by omega) fun r6 hr6 H6 c6 f6 w6 l6 m6 => ⟨rfl, _, rfl, ite2 (fun z => ?_) (fun z => ?_)⟩⟩
          · have f16 := fr.trans f6
            refine ⟨.ref e, rfl, e, rfl, (g1 f16).1, .str y, rfl, _, (g1 f16).2, .ref e2, rfl, e2, rfl, (g2 f16).1, .str y, rfl, _, (g2 f16).2, (by show 2 ≤ sizeLine; decide), fun tp ntp => ?_⟩
            obtain ⟨H7, a1, a2⟩ := put f6 w6 (by omega) (by push_cast; omega) tp ntp
            exact ⟨.ref D, rfl, .str y, rfl, D, H7, rfl, a1, a2⟩
          · exact ⟨t, m, c6, _, rfl, f6 _ _ wD hDD, hH.imp fun _ _ x => x.keep (TupKeep.fr f6 w'), hO, hI, fr.trans f6, w6, by omega, by push_cast; omega, f6 _ _ LW hL'⟩
        · rw [decide_eq_false hfg]
          refine iteT ?_
          refine ⟨.ref e, rfl, e, rfl, (g1 fr).1, .str y, rfl, _, (g1 fr).2, .ref e2, rfl, e2, rfl, (g2 fr).1, .str y, rfl, _, (g2 fr).2, (by show 2 ≤ sizeLine; decide), fun tp ntp => ?_⟩
          obtain ⟨H7, a1, a2⟩ := put (Fr.refl W H') w' l' (by push_cast; omega) tp ntp
          exact ⟨.ref D, rfl, .str y, rfl, D, H7, rfl, a1, a2⟩
    · obtain ⟨t, m, c', z4, rfl, hDD, hH, hO, hI, fr, w', l', u', hL'⟩ := I
      rw [List.length_map, List.length_append] at u'
      have uc : c' ≤ c1 + 32 := by push_cast at u'; omega
      refine ⟨fun σ' H6 => ∃ (t : Tab) (m : Mp Rw) (c6 : Int) (z4 : Option V), σ' = [some (.ref W), some (.ref e), some (.ref e2), some (.ref D), z4] ∧ H6 D = some (.dK (kT t)) ∧ Holds (RwV K H6) t m ∧ RowsOk 16 t m ∧ InMenu m ∧ Fr W H1 H6 ∧ Wl H6 W c6 ∧ c1 ≤ c6 ∧ c6 ≤ c1 + 40, ?first, ?rest⟩
      case rest =>
        rintro σ' H6 ⟨t, m, c6, z4, rfl, h1, h2, h3, h4, h5, h6, h7, h8⟩
        exact ⟨_, rfl, q D H6 c6 m fD (f1.trans h5) h6 (by omega) (by omega) ⟨t, h1, h2, h3⟩ h4⟩
      case first =>
        refine ⟨.ref D, rfl, fun b nb => ?_⟩
        have sb9 := same_new (o := .dK []) nb
        have hb9 := upd_same (H := H') (a := b) (o := .dK [])
        have w9 := w'.same sb9
        generalize upd H' b (.dK []) = H9 at sb9 hb9 w9
        have hD9 := sb9 _ _ hDD
        have hH9 := hH.imp fun _ _ x => x.keep (TupKeep.of sb9)
        have F9 : Fr W H1 H9 := fr.trans (Fr.same sb9)
        have lt := hO.len
        refine ⟨D, b, dataM rwD t m, [], rfl, rfl, ⟨_, hD9, hH9.dd (fun _ _ x => x.dp) hO.nd⟩, ⟨[], hb9, .nil⟩, hO.shaped hH9, (fun p hp => nomatch hp), _, rfl, ?_⟩
        cases hq : eqvDict (dataM rwD t m) [] with
        | true => exact iteF ⟨t, m, c', _, rfl, hD9, hH9, hO, hI, F9, w9, by omega, by omega⟩
        | false =>
          refine iteT ?_
          have tne : 0 < t.length := by
            cases t with
            | nil => cases hq
            | cons p l => exact Nat.succ_pos _
          refine ⟨.ref W, rfl, do_draw w9 (by decide) (by decide) (by omega) fun r6 hr6 H6 c6 f6 w6 l6 m6 => ⟨rfl, _, rfl, ite2 (fun z => ?_) (fun z => ?_)⟩⟩
          · have hD6 := f6 _ _ wD hD9
            have k6 := TupKeep.fr f6 w9
            refine ⟨.ref D, rfl, D, kT t, t.map (·.1), rfl, .inl hD6, keys_kT t, (by rw [List.length_map]; omega), fun us pu hpu hsu npu => ?_⟩
            have su := same_new (o := .lst (us.map V.str)) npu
            have hu := upd_same (H := H6) (a := pu) (o := .lst (us.map V.str))
            have puW := w6.ne npu
            have wu := w6.same su
            generalize upd H6 pu (.lst (us.map V.str)) = H7 at su hu wu
            have lus : us.length = t.length := by rw [hpu.length_eq, List.length_map]
            refine ⟨.ref W, rfl, .ref D, rfl, D, kT t, rfl, su _ _ hD6, do_draw wu (by rw [len_kT]; omega) (by rw [len_kT]; omega) (by omega) fun r7 hr7 H8 c8 f8 w8 l8 m8 => ?_⟩
            rw [len_kT] at hr7
            have hr8 : r7 < us.length := by omega
            have hx8 : us[r7]? = some us[r7] := List.getElem?_eq_getElem hr8
            refine ⟨pu, us.map V.str, (r7 : Int), .str us[r7], rfl, rfl, SqL.of (f8 _ _ puW hu), atI_nat (by rw [List.getElem?_map, hx8]; rfl), ?_⟩
            have hxm : us[r7] ∈ t.map (·.1) := hpu.mem_iff.mp (List.getElem_mem hr8)
            generalize us[r7] = y at hxm hx8
            have zm := hH.mem.mp hxm
            have yM := hI y zm
            have hD8 := f8 _ _ wD (su _ _ hD6)
            have k8 : TupKeep H9 H8 := (k6.trans (TupKeep.of su)).trans (TupKeep.fr f8 wu)
            cases em : m y with
            | none => rw [em] at zm; cases zm
            | some rr =>
              obtain ⟨v, hv, q1, v1, v2, rfl, t1, x1, x2⟩ := hH9.at em
              have d1 := dget_kT (.inl hD8) y
              rw [hv] at d1
              refine ⟨("9" : Str), 16, rfl, rfl, by decide, by decide, by decide +kernel, (by show 2 ≤ sizeLine; decide), fun ti nti => ?_⟩
              have si := same_new (o := .tup [V.str "exec", .str (repS ("9" : Str) (Int.toNat 16))]) nti
              have hti := upd_same (H := H8) (a := ti) (o := .tup [V.str "exec", .str (repS ("9" : Str) (Int.toNat 16))])
              generalize upd H8 ti (.tup [V.str "exec", .str (repS ("9" : Str) (Int.toNat 16))]) = HI at si hti ⊢
              have d2 := dget_kT (.inl (si _ _ hD8)) y
              rw [hv] at d2
              refine ⟨.ref D, rfl, .str y, rfl, D, _, rfl, d2, q1, _, 1, v2, rfl, rfl, (t1.keep (k8.trans (TupKeep.of si))).sq, rfl, (by show 2 ≤ sizeLine; decide), fun tp ntp => ?_⟩
              have st := same_new (o := .tup [V.ref ti, v2]) ntp
              have hDt := st _ _ (si _ _ hD8)
              have k9 : TupKeep (upd HI tp (.tup [V.ref ti, v2])) (upd (upd HI tp (.tup [V.ref ti, v2])) D (.dK (putK (kT t) (.inr y) (.ref tp)))) := TupKeep.at fun xs z => by rw [hDt] at z; cases z
              have kI : TupKeep HI (upd (upd HI tp (.tup [V.ref ti, v2])) D (.dK (putK (kT t) (.inr y) (.ref tp)))) := (TupKeep.of st).trans k9
              have k10 : TupKeep H9 (upd (upd HI tp (.tup [V.ref ti, v2])) D (.dK (putK (kT t) (.inr y) (.ref tp)))) := (k8.trans (TupKeep.of si)).trans kI
              have gr : GoodR ((some (("exec" : Str), repS ("9" : Str) 16), rr.2) : Rw) := ⟨GoodP.f ⟨by decide, by decide +kernel⟩, (hO.good y rr em).2⟩
              have hHn : Holds (RwV K (upd (upd HI tp (.tup [V.ref ti, v2])) D (.dK (putK (kT t) (.inr y) (.ref tp))))) (putK t y (.ref tp)) (putM m y (some (("exec" : Str), repS ("9" : Str) 16), rr.2)) := Holds.put (hH9.imp fun _ _ x => x.keep k10) ⟨tp, .ref ti, v2, rfl, .inl (k9 _ _ upd_same), ⟨ti, rfl, .inl (kI _ _ hti)⟩, x2.keep k10⟩
              have hIn : InMenu (putM m y ((some (("exec" : Str), repS ("9" : Str) 16), rr.2) : Rw)) := hI.put yM
              have F8 : Fr W H9 H8 := f6.trans ((Fr.same su).trans f8)
              exact ⟨.ref D, rfl, .str y, rfl, D, _, rfl, DPut.k (k := .inr y) hDt (small_lt (by rw [len_kT]; omega)), putK t y (.ref tp), _, c8, _, rfl, by rw [upd_same, putK_kT], hHn, (hO.put (menu_ok y yM) gr).menu hHn hIn, hIn, ((F9.trans F8).trans (Fr.same (si.trans st))).mut hD, ((w8.same si).same st).mut wD, by omega, by omega⟩
          · exact ⟨t, m, c6, _, rfl, f6 _ _ wD hD9, hH9.imp fun _ _ x => x.keep (TupKeep.fr f6 w9), hO, hI, F9.trans f6, w6, by omega, by omega⟩
end

end Fk

set_option maxHeartbeats 4000000
namespace Fk
open PySem PySem.Spec PyProof.Rows L2
def NearP (x y : Str) : Prop := x = y ∨ Txt.startswith x (y ++ ("/" : Str)) = true ∨ Txt.startswith y (x ++ ("/" : Str)) = true
section
variable {P : Program} {w : World} {K : PySem.W.Frag} {mg : Str → Option Value} {base : Heap} {C fk cE iF cP cK iK : Addr}
def spApL : Sp := fun vs H Q _ => ∃ (a b : Addr) (t u : Tab), vs = [.ref a, .ref b] ∧ H a = some (.dK (kT t)) ∧ H b = some (.dK (kT u)) ∧ a ≠ b ∧ (∀ x ∈ t.map (·.1), PathOk x) ∧ (∀ x ∈ u.map (·.1), PathOk x) ∧ ∀ (c : Bool) H', (c = true ↔ ∀ x ∈ t.map (·.1), ∀ y ∈ u.map (·.1), ¬ NearP x y) → Same H H' → Q (.bl c) H'
theorem c_l_apart (T : TopF K mg C fk cE iF cP cK iK) : C8.Cal P w K mg base 1 "_law_apart" spApL [] := by
  refine cal_of T.d_l_apart sc_l_apart (fun _ _ _ _ _ _ us hl => match us, hl with | [_, _], _ => rfl) (fun vs H Q E h => ?_) (fun fa cdv A outer s H vs Q E hr h => ?_)
  · obtain ⟨a, b, t, u, rfl, _⟩ := h
    rfl
  · obtain ⟨a, b, t, u, rfl, ha, hb, nab, pt, pu, q⟩ := h
    refine ⟨_, (pss_cons (ps_lock (ps_for PassesOwn.never rfl (pi_keys (pv 0)) (pg_name (i := 2) sc_l_apart.nd rfl (Or.inl rfl))
      (pss_one (ps_lock (ps_for PassesOwn.never rfl (pi_keys (pv 1)) (pg_name (i := 3) sc_l_apart.nd rfl (Or.inl rfl))
      (pss_one (ps_if (PW.pt (pw_or (pt_cmpR op_eq (pv 2) (pv 3) (nomark _)) (pw_or (pt_val (pe_bm PySem.F.plainAttrs_str PySem.F.slot_str_startswith PySem.F.type_str_startswith mt_startswith (pv 2) (pa_cons (pe_op op_add_str (pv 3) pe_str) pa_nil))) (pw_or1 (pt_val (pe_bm PySem.F.plainAttrs_str PySem.F.slot_str_startswith PySem.F.type_str_startswith mt_startswith (pv 3) (pa_cons (pe_op op_add_str (pv 2) pe_str) pa_nil)))))))
      (pss_one (ps_ret pe_bl))
      pss_nil)))))))
      (pss_one (ps_ret pe_bl))), ?_⟩
    refine ⟨a, _, ha, trivial, fun od => ⟨.ref a, rfl, a, od, rfl, .inl ⟨kT t, upd_same, ?_⟩⟩⟩
    have Y : Yields (Itk a od (kT t)) ((t.map (·.1)).map V.str) (fun H => H a = some (.frz od (.dK (kT t)))) := by
      rw [← kV_kT]
      exact yields_keys
    have haL := upd_same (H := H) (a := a) (o := .frz od (.dK (kT t)))
    have hbL : (upd H a (.frz od (.dK (kT t)))) b = some (.dK (kT u)) := by rw [upd_ne nab.symm]; exact hb
    have sU : ∀ {H2 : Hp}, Same (upd H a (.frz od (.dK (kT t)))) H2 → Same H (upd H2 a (.dK (kT t))) := fun s => same_unlock s ha
    generalize upd H a (.frz od (.dK (kT t))) = HL at haL hbL sU
    generalize hks : t.map (·.1) = ks at *
    generalize hos : u.map (·.1) = os at *
    refine forG Y (fun i σ H' => Same HL H' ∧ (∃ z2 z3, σ = [some (.ref a), some (.ref b), z2, z3]) ∧ ∀ x ∈ ks.take i, ∀ y ∈ os, ¬ NearP x y) ⟨Same.refl HL, ⟨none, none, rfl⟩, fun x hx => by simp at hx⟩ (fun i σ H' I => I.1 _ _ haL) (fun i x σ H' hx I => ?_) (fun σ H' I => ?_)
    · obtain ⟨s1, ⟨z2, z3, rfl⟩, hno⟩ := I
      rw [List.getElem?_map] at hx
      cases hy : ks[i]? with
      | none => rw [hy] at hx; cases hx
      | some x0 =>
        rw [hy] at hx
        cases hx
        have hxm : x0 ∈ ks := List.mem_of_getElem? hy
        have etk : ks.take (i + 1) = ks.take i ++ [x0] := by
          rw [List.take_add_one, hy]
          rfl
        have hb1 := s1 _ _ hbL
        refine ⟨b, _, hb1, trivial, fun od2 => ⟨.ref b, rfl, b, od2, rfl, .inl ⟨kT u, upd_same, ?_⟩⟩⟩
        have Y2 : Yields (Itk b od2 (kT u)) (os.map V.str) (fun H => H b = some (.frz od2 (.dK (kT u)))) := by
          rw [← hos, ← kV_kT]
          exact yields_keys
        have hbM := upd_same (H := H') (a := b) (o := .frz od2 (.dK (kT u)))
        have sV : ∀ {H2 : Hp}, Same (upd H' b (.frz od2 (.dK (kT u)))) H2 → Same H' (upd H2 b (.dK (kT u))) := fun s => same_unlock s hb1
        generalize upd H' b (.frz od2 (.dK (kT u))) = HM at hbM sV
        refine forG Y2 (fun j σ H2 => Same HM H2 ∧ (∃ z3, σ = [some (.ref a), some (.ref b), some (.str x0), z3]) ∧ ∀ y ∈ os.take j, ¬ NearP x0 y) ⟨Same.refl HM, ⟨z3, rfl⟩, fun x hx => by simp at hx⟩ (fun i σ H' I => I.1 _ _ hbM) (fun j y σ H2 hy2 I => ?_) (fun σ H2 I => ?_)
        · obtain ⟨s2, ⟨z3', rfl⟩, hno2⟩ := I
          rw [List.getElem?_map] at hy2
          cases hz : os[j]? with
          | none => rw [hz] at hy2; cases hy2
          | some y0 =>
            rw [hz] at hy2
            cases hy2
            have hym : y0 ∈ os := List.mem_of_getElem? hz
            have etj : os.take (j + 1) = os.take j ++ [y0] := by
              rw [List.take_add_one, hz]
              rfl
            have lx := (pt x0 hxm).2.1
            have ly := (pu y0 hym).2.1
            have e1 : ("/" : Str).length = 1 := by decide +kernel
            have bad : NearP x0 y0 → H2 b = some (.frz od2 (.dK (kT u))) ∧ (upd H2 b (.dK (kT u))) a = some (.frz od (.dK (kT t))) ∧ Q (.bl false) (upd (upd H2 b (.dK (kT u))) a (.dK (kT t))) := fun hn => by
              have s3 := s1.trans (sV s2)
              refine ⟨s2 _ _ hbM, s3 _ _ haL, q false _ ⟨(fun z => by cases z), fun z => absurd hn (z x0 hxm y0 hym)⟩ (sU s3)⟩
            have ok : ¬ NearP x0 y0 → ∀ y ∈ os.take (j + 1), ¬ NearP x0 y := fun hn y hyy => by
              rw [etj] at hyy
              rcases List.mem_append.mp hyy with z | z
              · exact hno2 y z
              · rw [List.mem_singleton.mp z]; exact hn
            refine ⟨.str x0, rfl, .str y0, rfl, rfl, _, rfl, ?_⟩
            by_cases c1 : x0 = y0
            · rw [decide_eq_true (by rw [c1])]
              exact iteT (bad (.inl c1))
            · rw [decide_eq_false (fun z => c1 (V.str.inj z))]
              refine iteF ?_
              refine ⟨.str x0, rfl, rfl, .str y0, rfl, y0, ("/" : Str), rfl, rfl, small_line (by rw [e1]; omega), x0, _, rfl, rfl, _, rfl, ?_⟩
              cases c2 : Txt.startswith x0 (y0 ++ ("/" : Str)) with
              | true => exact iteT (bad (.inr (.inl c2)))
              | false =>
                refine iteF ?_
                refine ⟨.str y0, rfl, rfl, .str x0, rfl, x0, ("/" : Str), rfl, rfl, small_line (by rw [e1]; omega), y0, _, rfl, rfl, _, rfl, ?_⟩
                cases c3 : Txt.startswith y0 (x0 ++ ("/" : Str)) with
                | true => exact iteT (bad (.inr (.inr c3)))
                | false =>
                  refine iteF ⟨s2, ⟨_, rfl⟩, ok fun z => ?_⟩
                  rcases z with z | z | z
                  · exact c1 z
                  · rw [c2] at z; cases z
                  · rw [c3] at z; cases z
        · obtain ⟨s2, ⟨z3', rfl⟩, hno2⟩ := I
          rw [List.length_map, List.take_length] at hno2
          refine ⟨s2 _ _ hbM, s1.trans (sV s2), ⟨_, _, rfl⟩, fun x hxx => ?_⟩
          rw [etk] at hxx
          rcases List.mem_append.mp hxx with z | z
          · exact hno x z
          · rw [List.mem_singleton.mp z]; exact hno2
    · obtain ⟨s1, ⟨z2, z3, rfl⟩, hno⟩ := I
      rw [List.length_map, List.take_length] at hno
      exact ⟨s1 _ _ haL, q true _ ⟨fun _ => hno, fun _ => rfl⟩ (sU s1)⟩
end

end Fk

set_option maxHeartbeats 4000000
namespace Fk
open PySem PySem.Spec PyProof.Rows L2
/-! ### what is reckoned -/
theorem due_files {m : Mp Rw} {f : Mp Fi} (ht : ∀ x, ¬ TornF m f x) (hc : ∀ x, ¬ CrossM (onM m f) x) : dueF m f = .files (onM m f) := by
  unfold dueF
  rw [if_neg (fun ⟨x, z⟩ => ht x z)]
  exact if_neg fun ⟨x, z⟩ => hc x z
theorem due_torn {m : Mp Rw} {f : Mp Fi} (ht : ∃ x, TornF m f x) : dueF m f = .conf (TornF m f) := by
  unfold dueF
  exact if_pos ht
theorem due_cross {m : Mp Rw} {f : Mp Fi} (ht : ∀ x, ¬ TornF m f x) (hc : ∃ x, CrossM (onM m f) x) : dueF m f = .conf (CrossM (onM m f)) := by
  unfold dueF
  rw [if_neg (fun ⟨x, z⟩ => ht x z)]
  exact if_pos hc
/-- what a change's answer says of it -/
theorem due_is {m : Mp Rw} {f g : Mp Fi} (h : dueF m f = .files g) : (∀ x, ¬ TornF m f x) ∧ (∀ x, ¬ CrossM (onM m f) x) ∧ g = onM m f := by
  have := Classical.propDecidable (∃ x, TornF m f x)
  have := Classical.propDecidable (∃ x, CrossM (onM m f) x)
  by_cases ht : ∃ x, TornF m f x
  · rw [due_torn ht] at h; cases h
  · have ht' : ∀ x, ¬ TornF m f x := fun x z => ht ⟨x, z⟩
    by_cases hc : ∃ x, CrossM (onM m f) x
    · rw [due_cross ht' hc] at h; cases h
    · have hc' : ∀ x, ¬ CrossM (onM m f) x := fun x z => hc ⟨x, z⟩
      rw [due_files ht' hc'] at h
      cases h
      exact ⟨ht', hc', rfl⟩
theorem due_or (m : Mp Rw) (f : Mp Fi) : dueF m f = .files (onM m f) ∨ ∃ S, dueF m f = .conf S := by
  have := Classical.propDecidable (∃ x, TornF m f x)
  have := Classical.propDecidable (∃ x, CrossM (onM m f) x)
  by_cases ht : ∃ x, TornF m f x
  · exact .inr ⟨_, due_torn ht⟩
  · have ht' : ∀ x, ¬ TornF m f x := fun x z => ht ⟨x, z⟩
    by_cases hc : ∃ x, CrossM (onM m f) x
    · exact .inr ⟨_, due_cross ht' hc⟩
    · exact .inl (due_files ht' fun x z => hc ⟨x, z⟩)
/-- a sum on files is one change after the other -/
theorem sum_on {m1 m2 : Mp Rw} {f : Mp Fi} (h1 : ∀ x, ¬ TornF m1 f x) (h2 : ∀ x, ¬ TornF m2 (onM m1 f) x) : fitsM m1 m2 ∧ (∀ x, ¬ TornF (sumM m1 m2) f x) ∧ onM (sumM m1 m2) f = onM m2 (onM m1 f) := by
  have v1 : ∀ {x r}, m1 x = some r → f x = r.1 := fun {x r} e => Classical.byContradiction fun z => h1 x ⟨r, e, z⟩
  have v2 : ∀ {x r}, m2 x = some r → onM m1 f x = r.1 := fun {x r} e => Classical.byContradiction fun z => h2 x ⟨r, e, z⟩
  have o1 : ∀ {x r}, m1 x = some r → onM m1 f x = r.2 := fun {x r} e => by unfold onM; rw [e]
  have o0 : ∀ {x}, m1 x = none → onM m1 f x = f x := fun {x} e => by unfold onM; rw [e]
  refine ⟨fun x r r' e1 e2 => by rw [← o1 e1, v2 e2], fun x ⟨r, e, ne⟩ => ?_, ?_⟩
  · unfold sumM at e
    cases e1 : m1 x with
    | none =>
      rw [e1] at e
      exact ne (by rw [← o0 e1]; exact v2 e)
    | some r1 =>
      cases e2 : m2 x with
      | none =>
        rw [e1, e2] at e
        cases e
        exact ne (v1 e1)
      | some r2 =>
        rw [e1, e2] at e
        cases e
        exact ne (show f x = r1.1 from v1 e1)
  · funext x
    cases e1 : m1 x with
    | none =>
      cases e2 : m2 x with
      | none => simp only [onM, sumM, e1, e2]
      | some r2 => simp only [onM, sumM, e1, e2]
    | some r1 =>
      cases e2 : m2 x with
      | none => simp only [onM, sumM, e1, e2]
      | some r2 => simp only [onM, sumM, e1, e2]
def NoNear (m1 m2 : Mp Rw) : Prop := ∀ x y, (m1 x).isSome = true → (m2 y).isSome = true → ¬ NearP x y
theorem noNear_iff {m1 m2 : Mp Rw} : (¬ BelowM m1 m2 ∧ ¬ BelowM m2 m1) ↔ NoNear m1 m2 := by
  constructor
  · rintro ⟨h1, h2⟩ x y hx hy z
    rcases z with z | z | z
    · exact h1 ⟨x, y, hx, hy, .inl z⟩
    · exact h1 ⟨x, y, hx, hy, .inr z⟩
    · exact h2 ⟨y, x, hy, hx, .inr z⟩
  · intro h
    refine ⟨fun ⟨x, y, hx, hy, z⟩ => h x y hx hy (z.elim .inl fun z => .inr (.inl z)), fun ⟨y, x, hy, hx, z⟩ => h x y hx hy (z.elim (fun z => .inl z.symm) fun z => .inr (.inr z))⟩
theorem NoNear.symm {m1 m2 : Mp Rw} (h : NoNear m1 m2) : NoNear m2 m1 := fun x y hx hy z => h y x hy hx (z.elim (fun z => .inl z.symm) fun z => z.elim (fun z => .inr (.inr z)) fun z => .inr (.inl z))
section
variable {m1 m2 : Mp Rw} {f : Mp Fi}
theorem NoNear.dis (h : NoNear m1 m2) {x : Str} {r : Rw} (e : m1 x = some r) : m2 x = none := by
  cases e2 : m2 x with
  | none => rfl
  | some r2 => exact absurd (.inl rfl) (h x x (by rw [e]; rfl) (by rw [e2]; rfl))
theorem torn_apart (h : NoNear m1 m2) (x : Str) : TornF m2 (onM m1 f) x ↔ TornF m2 f x := by
  unfold TornF
  constructor
  · rintro ⟨r, e, ne⟩
    refine ⟨r, e, ?_⟩
    have : m1 x = none := h.symm.dis e
    unfold onM at ne
    rw [this] at ne
    exact ne
  · rintro ⟨r, e, ne⟩
    refine ⟨r, e, ?_⟩
    have : m1 x = none := h.symm.dis e
    unfold onM
    rw [this]
    exact ne
theorem on_swap (h : NoNear m1 m2) : onM m2 (onM m1 f) = onM m1 (onM m2 f) := by
  funext x
  cases e1 : m1 x with
  | none =>
    cases e2 : m2 x with
    | none => simp only [onM, e1, e2]
    | some r2 => simp only [onM, e1, e2]
  | some r1 =>
    have e2 := h.dis e1
    simp only [onM, e1, e2]
theorem cross_apart (h : NoNear m1 m2) (hf : ∀ x, ¬ CrossM f x) (h12 : ∀ x, ¬ CrossM (onM m2 (onM m1 f)) x) (x : Str) : ¬ CrossM (onM m1 f) x := by
  rintro ⟨hx, y, hy, z⟩
  have near : NearP x y := z.elim (fun z => .inr (.inr z)) fun z => .inr (.inl z)
  have nearS : NearP y x := z.elim (fun z => .inr (.inl z)) fun z => .inr (.inr z)
  have keep : ∀ {a b : Str}, (onM m1 f a).isSome = true → NearP b a → (m1 b).isSome = true → (onM m2 (onM m1 f) a).isSome = true := fun {a b} ha nb hb => by
    have e2 : m2 a = none := by
      cases e : m2 a with
      | none => rfl
      | some r => exact absurd nb (h b a hb (by rw [e]; rfl))
    rw [show onM m2 (onM m1 f) a = onM m1 f a from by simp only [onM, e2]]
    exact ha
  have own : ∀ {a : Str}, (onM m1 f a).isSome = true → (m1 a).isSome = true → (onM m2 (onM m1 f) a).isSome = true := fun {a} ha hb => by
    cases e1 : m1 a with
    | none => rw [e1] at hb; cases hb
    | some r =>
      have e2 := h.dis e1
      rw [show onM m2 (onM m1 f) a = onM m1 f a from by simp only [onM, e2]]
      exact ha
  have old : ∀ {a : Str}, (onM m1 f a).isSome = true → (m1 a).isSome = false → (f a).isSome = true := fun {a} ha hb => by
    cases e1 : m1 a with
    | some r => rw [e1] at hb; cases hb
    | none =>
      rw [show onM m1 f a = f a from by simp only [onM, e1]] at ha
      exact ha
  cases c1 : (m1 x).isSome with
  | true => exact h12 x ⟨own hx c1, y, keep hy near c1, z⟩
  | false =>
    cases c2 : (m1 y).isSome with
    | true => exact h12 x ⟨keep hx nearS c2, y, own hy c2, z⟩
    | false => exact hf x ⟨old hx c1, y, old hy c2, z⟩
theorem exchange (h : NoNear m1 m2) (hf : ∀ x, ¬ CrossM f x) : (∃ g, onO m2 (onO m1 (.files f)) = .files g ∧ onO m1 (onO m2 (.files f)) = .files g) ∨ ((∃ S, onO m2 (onO m1 (.files f)) = .conf S) ∧ ∃ S, onO m1 (onO m2 (.files f)) = .conf S) := by
  have one : ∀ {a b : Mp Rw}, NoNear a b → ((∃ g, onO b (onO a (.files f)) = .files g) ↔ ((∀ x, ¬ TornF a f x) ∧ (∀ x, ¬ TornF b f x) ∧ ∀ x, ¬ CrossM (onM b (onM a f)) x)) := fun {a b} hab => by
    constructor
    · rintro ⟨g, e⟩
      have e : onO b (dueF a f) = .files g := e
      rcases due_or a f with d | ⟨S, d⟩
      · rw [d] at e
        have e : dueF b (onM a f) = .files g := e
        obtain ⟨t1, c1, _⟩ := due_is d
        obtain ⟨t2, c2, _⟩ := due_is e
        exact ⟨t1, fun x z => t2 x ((torn_apart hab x).mpr z), c2⟩
      · rw [d] at e
        cases e
    · rintro ⟨t1, t2, c⟩
      refine ⟨onM b (onM a f), ?_⟩
      show onO b (dueF a f) = _
      rw [due_files t1 (cross_apart hab hf c)]
      exact due_files (fun x z => t2 x ((torn_apart hab x).mp z)) c
  have val : ∀ {a b : Mp Rw} {g : Mp Fi}, onO b (onO a (.files f)) = .files g → g = onM b (onM a f) := fun {a b g} e => by
    have e : onO b (dueF a f) = .files g := e
    rcases due_or a f with d | ⟨S, d⟩
    · rw [d] at e
      exact (due_is e).2.2
    · rw [d] at e
      cases e
  have conf : ∀ {o : Due}, (¬ ∃ g, o = .files g) → ∃ S, o = .conf S := fun {o} n => by
    cases o with
    | files g => exact absurd ⟨g, rfl⟩ n
    | conf S => exact ⟨S, rfl⟩
  have sw : (∃ g, onO m2 (onO m1 (.files f)) = .files g) ↔ ∃ g, onO m1 (onO m2 (.files f)) = .files g := by
    rw [one h, one h.symm, on_swap h]
    exact ⟨fun ⟨a, b, c⟩ => ⟨b, a, c⟩, fun ⟨a, b, c⟩ => ⟨b, a, c⟩⟩
  have := Classical.propDecidable (∃ g, onO m2 (onO m1 (.files f)) = .files g)
  by_cases w : ∃ g, onO m2 (onO m1 (.files f)) = .files g
  · obtain ⟨g, e⟩ := w
    obtain ⟨g', e'⟩ := sw.mp ⟨g, e⟩
    refine .inl ⟨g, e, ?_⟩
    rw [e', val e, val e', on_swap h]
  · exact .inr ⟨conf w, conf fun z => w (sw.mpr z)⟩
end

end Fk

set_option maxHeartbeats 4000000
namespace Fk
open PySem PySem.Spec PyProof.Rows L2
theorem DueV.isD {K : PySem.W.Frag} {H : Hp} {v : V} {o : Due} (h : DueV K H v o) {R : VK} (r : ∀ b : Bool, (b = true ↔ ∃ g, o = .files g) → R (.bl b) H) : rIsi K [v, .ty "dict"] H R := by
  cases o with
  | files g =>
    obtain ⟨e, rfl, ⟨t, he, _⟩, _⟩ := h
    exact ⟨_, _, .type "dict", .type "dict", true, rfl, .ty "dict", .base (.dK he), kit_ty (by decide +kernel), r true ⟨fun _ => ⟨g, rfl⟩, fun _ => rfl⟩⟩
  | conf S =>
    obtain ⟨p, q, ys, rfl, hp, _⟩ := h
    exact noDict_isi ⟨"tuple", by decide, .base (.tup hp)⟩ (r false ⟨(fun z => by cases z), fun ⟨g, z⟩ => by cases z⟩)
def fiD (p : Fi) : PyData := .tuple [.str p.1, .str p.2]
theorem FiV.dp {K : PySem.W.Frag} {H : Hp} {v : V} {p : Fi} (h : FiV K H v p) : Dp K H v (fiD p) := by
  obtain ⟨q, rfl, t⟩ := h
  exact dp_head t
theorem eqv_fi (a b : Fi) : PyData.eqv (fiD a) (fiD b) = true ↔ a = b := by
  have := eqv_fv (some a) (some b)
  rw [show fvD (some a) = fiD a from rfl, show fvD (some b) = fiD b from rfl] at this
  rw [this, decide_eq_true_eq]
  exact ⟨fun h => Option.some.inj h, fun h => by rw [h]⟩
theorem FilesOk.shaped {K : PySem.W.Frag} {H : Hp} {n : Nat} {t : Tab} {m : Mp Fi} (h : FilesOk n t m) (hh : Holds (FiV K H) t m) : shapedAll (dataM fiD t m) := fun p hp => by
  unfold dataM at hp
  obtain ⟨x, hx, rfl⟩ := List.mem_map.mp hp
  have z := hh.mem.mp hx
  cases y : m x with
  | none => rw [y] at z; cases z
  | some r => exact shaped_fv (h.good x r y).f
theorem files_eq {K : PySem.W.Frag} {H : Hp} {a b : Addr} {n n' : Nat} {f g : Mp Fi} {Q : VK} {c : Bool} (h : FilesAt K H a n f) (k : FilesAt K H b n' g) (hc : c = true ↔ f = g) (q : Q (.bl c) H) : rEqDD K (.ref a) (.ref b) H Q := by
  obtain ⟨t, ha, hh, ho⟩ := h
  obtain ⟨u, hb, kk, ko⟩ := k
  refine ⟨a, b, dataM fiD t f, dataM fiD u g, rfl, rfl, ⟨_, ha, hh.dd (fun _ _ x => FiV.dp x) ho.nd⟩, ⟨_, hb, kk.dd (fun _ _ x => FiV.dp x) ko.nd⟩, ho.shaped hh, ko.shaped kk, ?_⟩
  have e : eqvDict (dataM fiD t f) (dataM fiD u g) = c := by
    rw [Bool.eq_iff_iff, eqv_data (fun a b => eqv_fi a b) hh kk ho.nd ko.nd, hc]
  rw [e]
  exact q
theorem ChAt.fr {K : PySem.W.Frag} {C W a dx d : Addr} {H H' : Hp} {c : Int} {n : Nat} {m : Mp Rw} (h : ChAt K C H a dx d n m) (f : Fr W H H') (w : Wl H W c) : ChAt K C H' a dx d n m := by
  obtain ⟨h0, t, h1, h2, h3⟩ := h
  refine ⟨f _ _ (fun z => ?_) h0, t, f _ _ (w.neK h1) h1, h2.imp fun _ _ x => x.keep (TupKeep.fr f w), h3⟩
  obtain ⟨_, x, y, h'⟩ := w
  rw [z, h'] at h0
  cases h0
theorem ChAt.menu {K : PySem.W.Frag} {C : Addr} {H : Hp} {a dx d : Addr} {n : Nat} {m : Mp Rw} (h : ChAt K C H a dx d n m) (im : InMenu m) : ChAt K C H a dx d 16 m := let ⟨h0, t, h1, h2, h3, h4⟩ := h; ⟨h0, t, h1, h2, h3.menu h2 im, h4⟩
/-- Change(a dict of rows), what is said of it by its address -/
theorem do_changeA {K : PySem.W.Frag} {C : Addr} {H : Hp} {p : Addr} {n : Nat} {m : Mp Rw} {Q : Addr → Hp → Prop} (hp : RowsAt K H p n m) (hn : n ≤ 60) (q : ∀ c dx3 d3 H', H c = none → H d3 = none → Same H H' → ChAt K C H' c dx3 d3 n m → Q c H') :
    ∀ x dx, H x = none → H dx = none → dx ≠ x → spChI K C (.ref x :: ([.ref p] ++ [])) (upd (upd H dx (.own x)) x (.ins C dx [])) (fun v H2 => v = .non ∧ Q x H2) C8.E0 := by
  intro A0 dx0 hA hdx ndx
  refine ⟨A0, p, dx0, n, m, rfl, upd_same, ?_, hn, fun d3 H7 hd3 f7 k7 => ⟨rfl, ?_⟩⟩
  · exact hp.same fun b q z => by
      rw [upd_ne (ne_of_none z hA), upd_ne (ne_of_none z hdx)]
      exact z
  · have s67 := made_same hA hdx f7
    have fd3 : H d3 = none := by
      have := hd3
      by_cases z : d3 = A0
      · rw [z]; exact hA
      · rw [upd_ne z] at this
        by_cases z2 : d3 = dx0
        · rw [z2]; exact hdx
        · rwa [upd_ne z2] at this
    exact q A0 dx0 d3 H7 hA fd3 s67 k7
/-- files without the paths that clash -/
noncomputable def clearM (f : Mp Fi) : Mp Fi := fun x => by classical exact if CrossM f x then none else f x
theorem clear_no (f : Mp Fi) (x : Str) : ¬ CrossM (clearM f) x := by
  rintro ⟨hx, y, hy, z⟩
  have un : ∀ {a : Str}, (clearM f a).isSome = true → ¬ CrossM f a ∧ (f a).isSome = true := fun {a} ha => by
    unfold clearM at ha
    split at ha
    · cases ha
    · rename_i h; exact ⟨h, ha⟩
  exact (un hx).1 ⟨(un hx).2, y, (un hy).2, z⟩
theorem inV_strs {x : Str} {ys : List Str} : inV (V.str x) (ys.map V.str) = true ↔ x ∈ ys := by
  unfold inV
  rw [List.any_eq_true]
  constructor
  · rintro ⟨v, hv, e⟩
    obtain ⟨y, hy, rfl⟩ := List.mem_map.mp hv
    have e : y = x := eq_of_beq (show (y == x) = true from e)
    rw [← e]
    exact hy
  · intro h
    exact ⟨.str x, List.mem_map.mpr ⟨x, h, rfl⟩, by show (x == x) = true; exact beq_self_eq_true _⟩
section
variable {P : Program} {w : World} {K : PySem.W.Frag} {mg : Str → Option Value} {base : Heap} {C fk cE iF cP cK iK : Addr}
def spExch (K : PySem.W.Frag) (C : Addr) : Sp := fun vs H Q _ => ∃ (W a dx d r e : Addr) (c : Int) (m : Mp Rw) (f : Mp Fi), vs = [.ref W, .ref a, .ref r, .ref e] ∧ Wl H W c ∧ c < 2 ^ 33 ∧ ChAt K C H a dx d 16 m ∧ RowsAt K H r 16 m ∧ InMenu m ∧ MenuAt K H e f ∧
  ∀ H' c', Fr W H H' → Wl H' W c' → c ≤ c' → c' ≤ c + 2000 → Q (.bl true) H'
theorem c_l_exchange_right (T : TopF K mg C fk cE iF cP cK iK) : C8.Cal P w K mg base 11 "_law_exchange_right" (spExch K C) [] := by
  refine cal_of T.d_l_exchange_right sc_l_exchange_right (fun _ _ _ _ _ _ us hl => match us, hl with | [_, _, _, _], _ => rfl) (fun vs H Q E h => ?_) (fun fa cdv A outer s H vs Q E hr h => ?_)
  · obtain ⟨W, a, dx, d, r, e, c, m, f, rfl, _⟩ := h
    rfl
  · obtain ⟨W, a, dx, d, r, e, c, m, f, rfl, hw, hc, hA, hR, hM, ⟨⟨u, he, hF, oF⟩, hI⟩, q⟩ := h
    have lu := oF.len
    refine ⟨_, (pss_cons (ps_set (i := 4) sc_l_exchange_right.nd rfl (Or.inr rfl) (C8.pe_c (c_l_clashes T) hr (by decide) (by rfl) (pa_cons (pv 3) pa_nil)))
      (pss_cons (ps_set (i := 3) sc_l_exchange_right.nd rfl (Or.inl rfl) (pe_callTy (call_dictP rfl) (by rfl) T.z_dict (by decide +kernel) (pa_cons (pe_lock (pe_lc (own := [("_law_path", 5), ("_law_value", 6)]) (g := _) (by rfl) sc_l_exchange_right.nd (pi_items (pv 3)) (blkOk_by (own := [("_law_path", 5), ("_law_value", 6)]) (N := ["_law_well_here", "_law_c", "_law_first", "_law_files", "_law_bad", "_law_path", "_law_value", "_law_other", "_law_apart_here", "_law_one", "_law_last"]) (sc := C8.fnScope s_l_exchange_right) (by decide +kernel)) (fun _ _ _ _ _ => (pg_tupK (K := K) (n := 2) rfl rfl (pgs_cons (pg_name (i := 5) sc_l_exchange_right.nd rfl (Or.inl rfl)) (pgs_cons (pg_name (i := 6) sc_l_exchange_right.nd rfl (Or.inl rfl)) pgs_nil)))) (fun _ _ _ _ _ => pts_one (pt_cmpR (notInK (K := K) rfl) (pv 5) (pv 4) rfl)) (fun _ _ _ _ _ => (pe_tup (pa_cons (pv 5) (pa_cons (pv 6) pa_nil)))))) pa_nil)))
      (pss_cons (ps_set (i := 7) sc_l_exchange_right.nd rfl (Or.inl rfl) (C8.pe_mk (k_Change T.toTopC) hr (by decide) (by rfl) (pa_cons (C8.pe_c (c_l_change T) hr (by decide) (by rfl) (pa_cons (pv 0) (pa_cons (pv 3) pa_nil))) pa_nil)))
      (pss_cons (ps_set (i := 8) sc_l_exchange_right.nd rfl (Or.inl rfl) (C8.pe_c (c_l_apart T) hr (by decide) (by rfl) (pa_cons (pv 2) (pa_cons (pe_pr (p_Change_rows T.toTopC) hr (by decide) (pv 7)) pa_nil))))
      (pss_cons (ps_if (PW.pt (pw_or (pt_cmpR op_ne (pe_mx (mx_Change_is_apartG T) hr (by decide) (fun _ => passAt takes_none5 _) (pv 1) (pa_cons (pv 7) pa_nil)) (pv 8) (nomark _)) (pw_or1 (pt_cmpR op_ne (pe_mx (mx_Change_is_apartG T) hr (by decide) (fun _ => passAt takes_none5 _) (pv 7) (pa_cons (pv 1) pa_nil)) (pv 8) (nomark _)))))
      (pss_one (ps_ret pe_bl))
      pss_nil)
      (pss_cons (ps_if (pt_not (pt_val (pv 8)))
      (pss_one (ps_ret pe_bl))
      pss_nil)
      (pss_cons (ps_par (i := 9) (j := 10) rfl sc_l_exchange_right.nd rfl rfl (by decide) rfl rfl (pa_cons (C8.pe_c (c_l_on T) hr (by decide) (by rfl) (pa_cons (pv 7) (pa_cons (C8.pe_c (c_l_on T) hr (by decide) (by rfl) (pa_cons (pv 1) (pa_cons (pv 3) pa_nil))) pa_nil))) (pa_cons (C8.pe_c (c_l_on T) hr (by decide) (by rfl) (pa_cons (pv 1) (pa_cons (C8.pe_c (c_l_on T) hr (by decide) (by rfl) (pa_cons (pv 7) (pa_cons (pv 3) pa_nil))) pa_nil))) pa_nil)) rfl)
      (pss_one (ps_ret (pe_and (pe_cmpR op_eq (pe_callB call_isi (by rfl) T.z_isinstance (by decide +kernel) (pa_cons (pv 9) (pa_cons (pe_bltn (v := .ty "dict") (by rfl) T.z_dict (by decide +kernel) rfl) pa_nil))) (pe_callB call_isi (by rfl) T.z_isinstance (by decide +kernel) (pa_cons (pv 10) (pa_cons (pe_bltn (v := .ty "dict") (by rfl) T.z_dict (by decide +kernel) rfl) pa_nil))) (nomark _)) (pe_one (pe_or (pe_not (pe_callB call_isi (by rfl) T.z_isinstance (by decide +kernel) (pa_cons (pv 9) (pa_cons (pe_bltn (v := .ty "dict") (by rfl) T.z_dict (by decide +kernel) rfl) pa_nil)))) (pe_one (pe_cmpR (op_eqDD (room66 hr)) (pv 9) (pv 10) (nomark _))))))))))))))), ?_⟩
    refine ⟨.ref e, rfl, e, u, rfl, he, oF.nd, by omega, oF.path, fun ys p H1 ndy sy ly hys npp s1 hp1 => ?_⟩
    have cross : ∀ x, x ∈ ys ↔ CrossM f x := fun x => by
      rw [hys x]
      unfold crossF CrossM
      rw [hF.mem]
      constructor
      · rintro ⟨z1, y, hy, z2⟩
        exact ⟨z1, y, hF.mem.mp hy, z2⟩
      · rintro ⟨z1, y, hy, z2⟩
        exact ⟨z1, y, hF.mem.mpr hy, z2⟩
    have he1 := s1 _ _ he
    refine ⟨e, _, he1, trivial, fun od => ⟨.ref e, rfl, e, od, _, rfl, upd_same, fun D2 hD2 => ?_⟩⟩
    have nDe : D2 ≠ e := lock_ne hD2
    have npe : p ≠ e := fun z => by rw [z, he1] at hp1; cases hp1
    have k1 : TupKeep H1 (upd H1 e (.frz od (.dK (kT u)))) := TupKeep.at fun xs z => by rw [he1] at z; cases z
    have hpL : (upd H1 e (.frz od (.dK (kT u)))) p = some (.lst (ys.map V.str)) := by rw [upd_ne npe]; exact hp1
    have lk : (kT u).length = u.length := len_kT u
    have fu : ∀ q ∈ u, ∃ p, f q.1 = some p ∧ FiV K H q.2 p := fun q hq => hF.at' (val_memE oF.nd hq)
    refine lc_pairsS (us := u) (G := fun H5 => H5 e = some (.frz od (.dK (kT u)))) (fun k H5 g hk => ⟨g, by rw [lk]; exact hk⟩) (fun H5 g => ⟨g, Nat.le_of_eq lk⟩) (fun q => q.1) (FiV K) (fun q => (f q.1).getD ("", "")) (fun q => !inV (V.str q.1) (ys.map V.str)) (fun q => [some (.ref W), some (.ref a), some (.ref r), some (.ref e), some (.ref p), some (.str q.1), some q.2, none, none, none, none]) hD2 (fun H5 s5 => s5 _ _ upd_same) (fun _ _ => rfl)
      (fun k H5 q x H7 s5 hu hy => ?_) (fun H5 q s5 hu S k => ?_) (fun _ _ _ _ k h => FvV.keep h k) (fun H5 q s5 hu _ S k => ?_) (by omega) (fun as H7 s7 h7 pr => ?_)
    · obtain ⟨T0, k', v, hkv, rfl, nT, rfl⟩ := hy
      have sT := same_new (o := .tup [kV k', v]) nT
      refine ⟨sT, fun S hS => ?_⟩
      have e2 : (kT u)[k]? = some (.inr q.1, q.2) := by
        unfold kT
        rw [List.getElem?_map, hu]
        rfl
      rw [e2] at hkv
      cases hkv
      exact ⟨T0, _, rfl, SqT.of upd_same, rfl, _, _, rfl, _, _, rfl, rfl, hS⟩
    · exact ⟨.str q.1, rfl, .ref p, rfl, p, _, rfl, .inl (SqL.of (s5 _ _ hpL)), rfl, flat_strs _, _, rfl, k H5 (Same.refl H5)⟩
    · obtain ⟨p0, e1, fp⟩ := fu q hu
      refine ⟨_, rfl, _, rfl, (by show 2 ≤ sizeLine; decide), fun tp ntp => ?_⟩
      have st := same_new (o := .tup [V.str q.1, q.2]) ntp
      refine k tp q.2 _ st upd_same ?_
      rw [e1]
      exact FvV.keep fp (((TupKeep.of s1).trans k1).trans (TupKeep.of (s5.trans st)))
    refine ⟨s7 _ _ upd_same, ?_⟩
    have s18 : Same H1 (upd H7 e (.dK (kT u))) := same_unlock s7 he1
    have k8 : TupKeep H7 (upd H7 e (.dK (kT u))) := TupKeep.at fun xs z => by rw [s7 _ _ upd_same] at z; cases z
    have h8 : (upd H7 e (.dK (kT u))) D2 = some (.lst (as.map V.ref)) := by rw [upd_ne nDe]; exact h7
    have pq : ∀ x, (!inV (V.str x) (ys.map V.str)) = true ↔ ¬ CrossM f x := fun x => by
      rw [Bool.not_eq_true', ← Bool.not_eq_true, inV_strs, cross]
    obtain ⟨tab, p1, p2⟩ := files_pairs (K := K) (g := clearM f) (n := 16) (kf := fun q : Str × V => q.1) (nd_filter oF.nd _) (fun q hq => by
        obtain ⟨q1, q2⟩ := List.mem_filter.mp hq
        obtain ⟨p0, e1, _⟩ := fu q q1
        unfold clearM
        rw [if_neg ((pq q.1).mp q2), e1]
        rfl) (fun x hx => by
        unfold clearM
        split
        · rfl
        · rename_i nc
          cases e1 : f x with
          | none => rfl
          | some p0 =>
            obtain ⟨q, hq, rfl⟩ := List.mem_map.mp (hF.mem.mpr (show (f x).isSome = true by rw [e1]; rfl))
            exact absurd (List.mem_map.mpr ⟨q, List.mem_filter.mpr ⟨hq, (pq q.1).mpr nc⟩, rfl⟩) hx) (Paired.mapP pr fun b x ⟨v, z1, z2⟩ => ⟨v, k8 _ _ z1, FvV.keep z2 k8⟩) (fun q hq => oF.path q.1 (List.mem_map.mpr ⟨q, (List.mem_filter.mp hq).1, rfl⟩)) (fun q hq => by
        obtain ⟨p0, e1, _⟩ := fu q (List.mem_filter.mp hq).1
        rw [e1]
        exact oF.good q.1 p0 e1) (Nat.le_trans (List.length_filter_le _ _) lu)
    refine ⟨D2, as, kT tab, rfl, .inl (.inl h8), p1, fun pF npF => ?_⟩
    have hFF := p2 pF npF
    have s09 := (s1.trans s18).trans (same_new (o := .dK (mergeK [] (kT tab))) npF)
    generalize upd (upd H7 e (.dK (kT u))) pF (.dK (mergeK [] (kT tab))) = H9 at s09 hFF
    have hIc : InMenu (clearM f) := fun x hx => by
      unfold clearM at hx
      split at hx
      · cases hx
      · exact hI x hx
    have w9 := hw.same s09
    have hA9 := hA.same s09
    have hR9 := hR.same s09
    refine ⟨.ref W, rfl, .ref pF, rfl, W, pF, c, clearM f, rfl, w9, by omega, ⟨hFF, hIc⟩, fun d2 HA cA m2 nd2 fA wA lA uA hR2 hI2 => ?_⟩
    have hAA := hA9.fr fA w9
    have hRA := hR9.fr fA w9
    have hFA := hFF.fr fA w9
    have F0A : Fr W H HA := (Fr.same s09).trans fA
    refine do_changeA hR2 (by decide) fun oc ocx ocd HB _ _ sB hOB => ?_
    have hAB := hAA.same sB
    have hRB := hRA.same sB
    have hFB := hFA.same sB
    refine ⟨.ref r, rfl, .ref oc, rfl, oc, ocx, _, rfl, hOB.1, oc, ocx, ocd, 16, m2, rfl, hOB, fun pr' HC tp npr sC hpr hHp hOp hsp => ?_⟩
    obtain ⟨tr, hrC, hHr, hOr⟩ := hRB.same sC
    have nrp : r ≠ pr' := fun z => by
      obtain ⟨t', h', _⟩ := hRB
      rw [z] at h'
      rw [h'] at npr
      cases npr
    refine ⟨r, pr', tr, tp, rfl, hrC, hpr, nrp, hOr.path, hOp.path, fun c0 HD hc0 sD => ?_⟩
    have hc0 : c0 = true ↔ NoNear m m2 := by
      rw [hc0]
      unfold NoNear
      constructor
      · intro z x y hx hy
        exact z x (hHr.mem.mpr hx) y (hHp.mem.mpr hy)
      · intro z x hx y hy
        exact z x y (hHr.mem.mp hx) (hHp.mem.mp hy)
    have hAD := (hAB.same sC).same sD
    have hOD := (hOB.same sC).same sD
    have hFD := (hFB.same sC).same sD
    have FD : Fr W H HD := F0A.trans (Fr.same ((sB.trans sC).trans sD))
    have wD := ((wA.same sB).same sC).same sD
    refine ⟨.ref a, rfl, a, dx, _, rfl, hAD.1, rfl, .ref oc, rfl, a, dx, d, oc, ocx, ocd, 16, 16, m, m2, rfl, hAD, hOD, by decide, by decide, fun c1 HE hc1 sE => ?_⟩
    have e10 : c1 = c0 := by rw [Bool.eq_iff_iff, hc1, noNear_iff, hc0]
    subst e10
    refine ⟨.bl c1, rfl, (by cases c1 <;> rfl), _, rfl, ?_⟩
    rw [decide_eq_true rfl]
    refine iteF ?_
    have hAE := hAD.same sE
    have hOE := hOD.same sE
    refine ⟨.ref oc, rfl, oc, ocx, _, rfl, hOE.1, rfl, .ref a, rfl, oc, ocx, ocd, a, dx, d, 16, 16, m2, m, rfl, hOE, hAE, by decide, by decide, fun c2 HG hc2 sG => ?_⟩
    have e20 : c2 = c1 := by
      rw [Bool.eq_iff_iff, hc2, noNear_iff, hc0]
      exact ⟨NoNear.symm, NoNear.symm⟩
    subst e20
    refine ⟨.bl c2, rfl, (by cases c2 <;> rfl), _, rfl, ?_⟩
    rw [decide_eq_true rfl]
    refine iteF ?_
    have sDG := sE.trans sG
    have fin : ∀ HZ, Same HG HZ → Q (.bl true) HZ := fun HZ sZ => q HZ cA (FD.trans (Fr.same (sDG.trans sZ))) ((wD.same sDG).same sZ) (by omega) (by omega)
    cases c2 with
    | false => exact ⟨_, rfl, _, rfl, iteT (fin HG (Same.refl HG))⟩
    | true =>
      have nn := hc0.mp rfl
      refine ⟨_, rfl, _, rfl, iteF ?_⟩
      have hAG := hAE.same sG
      have hOG := hOE.same sG
      have hFG : DueV K HG (.ref pF) (.files (clearM f)) := ⟨pF, rfl, hFD.same sDG, hIc⟩
      refine ⟨.ref oc, rfl, .ref a, rfl, .ref pF, rfl, a, dx, d, m, .ref pF, .files (clearM f), rfl, hAG, hM, hFG, fun r1 H11 s11 hr1 _ => ?_⟩
      refine ⟨oc, ocx, ocd, m2, r1, onO m (.files (clearM f)), rfl, hOG.same s11, hI2, hr1, fun r2 H12 s12 hr2 _ => ?_⟩
      have s02 := s11.trans s12
      refine ⟨.ref a, rfl, .ref oc, rfl, .ref pF, rfl, oc, ocx, ocd, m2, .ref pF, .files (clearM f), rfl, hOG.same s02, hI2, hFG.same s02, fun r3 H13 s13 hr3 _ => ?_⟩
      refine ⟨a, dx, d, m, r3, onO m2 (.files (clearM f)), rfl, (hAG.same s02).same s13, hM, hr3, fun r4 H14 s14 hr4 _ => ?_⟩
      have s04 := s02.trans (s13.trans s14)
      have hr2' := hr2.same (s13.trans s14)
      refine ⟨r2, r4, rfl, ?_⟩
      have ex := exchange (f := clearM f) nn (clear_no f)
      refine ⟨r2, rfl, ?_⟩
      dsimp only [tCons, tC, tNil]
      refine hr2'.isD fun b1 hb1 => ⟨r4, rfl, ?_⟩
      dsimp only [tCons, tC, tNil]
      refine hr4.isD fun b2 hb2 => ?_
      have e12 : b1 = b2 := by
        rw [Bool.eq_iff_iff, hb1, hb2]
        rcases ex with ⟨g, x1, x2⟩ | ⟨⟨S1, x1⟩, ⟨S2, x2⟩⟩
        · exact ⟨fun _ => ⟨g, x2⟩, fun _ => ⟨g, x1⟩⟩
        · exact ⟨(fun ⟨g, z⟩ => by rw [x1] at z; cases z), (fun ⟨g, z⟩ => by rw [x2] at z; cases z)⟩
      subst e12
      refine ⟨(by cases b1 <;> rfl), _, rfl, ?_⟩
      rw [decide_eq_true rfl]
      refine iteT ?_
      refine ⟨r2, rfl, ?_⟩
      dsimp only [tCons, tC, tNil]
      refine hr2'.isD fun b3 hb3 => ⟨_, rfl, _, rfl, ?_⟩
      rcases ex with ⟨g, x1, x2⟩ | ⟨⟨S1, x1⟩, ⟨S2, x2⟩⟩
      · rw [show b3 = true from hb3.mpr ⟨g, x1⟩]
        refine iteF ?_
        rw [x1] at hr2'
        rw [x2] at hr4
        obtain ⟨z1, rfl, y1, _⟩ := hr2'
        obtain ⟨z2, rfl, y2, _⟩ := hr4
        exact ⟨.ref z1, rfl, .ref z2, rfl, files_eq (c := true) y1 y2 ⟨fun _ => rfl, fun _ => rfl⟩ (fin H14 s04)⟩
      · have : b3 = false := by
          cases hb : b3 with
          | false => rfl
          | true =>
            obtain ⟨g, z⟩ := hb3.mp hb
            rw [x1] at z
            cases z
        rw [this]
        exact iteT (fin H14 s04)
end

end Fk

set_option maxHeartbeats 4000000
namespace Fk
open PySem PySem.Spec PyProof.Rows L2
theorem pe_ownAddK {X : Cx} {K : PySem.W.Frag} {CX : CXT} {k : Nat} {C : Addr} {sp : Sp} {E : L2.St → XK} {a b : Expr} {ta tb : TE} {pos : Pos} (e : X.K = K) (M : OwnM X.prog X.w K X.mg X.base CX k C "__add__" sp) (T : AddF K C) (hr : Room k X.A) (hx : ∀ σ, PassesAt CX X σ (E σ)) (ha : PE X a ta) (hb : PE X b tb) :
    PE X (.BinOp a .Add b pos) (tOwnAdd K C sp E ta tb) := by
  subst e
  exact pe_ownAdd M T hr hx ha hb
/-- pairs taken into a table, the later ones over the earlier -/
theorem merge_rel {α : Type} {R : V → α → Prop} {rf : Str → α} : ∀ (u t : Tab) (g : Mp α), Nd t → Holds R t g → (∀ p ∈ u, R p.2 (rf p.1)) → ∃ m : Tab, mergeK (kT t) (kT u) = kT m ∧ Nd m ∧ Holds R m (fun x => if x ∈ u.map (·.1) then some (rf x) else g x)
  | [], t, g, nt, h, _ => ⟨t, rfl, nt, fun x => by
      have e : (if x ∈ ([] : Tab).map (·.1) then some (rf x) else g x) = g x := if_neg (fun z => nomatch z)
      dsimp only
      rw [e]
      exact h x⟩
  | p :: l, t, g, nt, h, hr => by
    obtain ⟨m, e, nm, hm⟩ := merge_rel l (putK t p.1 p.2) (putM g p.1 (rf p.1)) (nd_put nt _ _) (h.put (hr p List.mem_cons_self)) fun q hq => hr q (List.mem_cons_of_mem _ hq)
    refine ⟨m, ?_, nm, fun x => ?_⟩
    · show mergeK (putK (kT t) (.inr p.1) p.2) (kT l) = _
      rw [putK_kT, e]
    · have := hm x
      dsimp only at this ⊢
      have eq : (if x ∈ (p :: l).map (·.1) then some (rf x) else g x) = (if x ∈ l.map (·.1) then some (rf x) else putM g p.1 (rf p.1) x) := by
        rw [List.map_cons]
        by_cases c : x ∈ l.map (·.1)
        · rw [if_pos c, if_pos (List.mem_cons_of_mem _ c)]
        · rw [if_neg c]
          unfold putM
          by_cases c2 : x = p.1
          · rw [if_pos c2, if_pos (by rw [c2]; exact List.mem_cons_self), c2]
          · rw [if_neg c2, if_neg (fun z => (List.mem_cons.mp z).elim c2 c)]
      rw [eq]
      exact this
theorem diff_on (f g : Mp Fi) : (∀ x, ¬ TornF (diffM f g) f x) ∧ onM (diffM f g) f = g := by
  refine ⟨fun x ⟨r, e, ne⟩ => ?_, ?_⟩
  · unfold diffM at e
    split at e
    · cases e
    · cases e
      exact ne rfl
  · funext x
    unfold onM diffM
    by_cases h : f x = g x
    · rw [if_pos h]
      exact h
    · rw [if_neg h]
theorem diff_plain (f g : Mp Fi) : plainM (diffM f g) = diffM f g := by
  funext x
  unfold plainM diffM
  by_cases h : f x = g x
  · rw [if_pos h]
    rfl
  · rw [if_neg h]
    show (if f x = g x then none else some (f x, g x)) = _
    rw [if_neg h]
theorem files_ne {K : PySem.W.Frag} {H : Hp} {a b : Addr} {n n' : Nat} {f g : Mp Fi} {Q : VK} {c : Bool} (h : FilesAt K H a n f) (k : FilesAt K H b n' g) (hc : c = true ↔ f = g) (q : Q (.bl (!c)) H) : rNeDD K (.ref a) (.ref b) H Q := by
  obtain ⟨t, ha, hh, ho⟩ := h
  obtain ⟨u, hb, kk, ko⟩ := k
  refine ⟨a, b, dataM fiD t f, dataM fiD u g, rfl, rfl, ⟨_, ha, hh.dd (fun _ _ x => FiV.dp x) ho.nd⟩, ⟨_, hb, kk.dd (fun _ _ x => FiV.dp x) ko.nd⟩, ho.shaped hh, ko.shaped kk, ?_⟩
  have e : eqvDict (dataM fiD t f) (dataM fiD u g) = c := by
    rw [Bool.eq_iff_iff, eqv_data (fun a b => eqv_fi a b) hh kk ho.nd ko.nd, hc]
  rw [e]
  exact q
theorem rows_ne {K : PySem.W.Frag} {H : Hp} {a b : Addr} {n n' : Nat} {f g : Mp Rw} {Q : VK} {c : Bool} (h : RowsAt K H a n f) (k : RowsAt K H b n' g) (hc : c = true ↔ f = g) (q : Q (.bl (!c)) H) : rNeDD K (.ref a) (.ref b) H Q := by
  obtain ⟨t, ha, hh, ho⟩ := h
  obtain ⟨u, hb, kk, ko⟩ := k
  refine ⟨a, b, dataM rwD t f, dataM rwD u g, rfl, rfl, ⟨_, ha, hh.dd (fun _ _ x => x.dp) ho.nd⟩, ⟨_, hb, kk.dd (fun _ _ x => x.dp) ko.nd⟩, ho.shaped hh, ko.shaped kk, ?_⟩
  have e : eqvDict (dataM rwD t f) (dataM rwD u g) = c := by
    rw [Bool.eq_iff_iff, eqv_data (fun a b => by rw [eqv_rw, decide_eq_true_eq]) hh kk ho.nd ko.nd, hc]
  rw [e]
  exact q
/-- the rows that a list of pairs makes -/
theorem rows_pairs41 {α : Type} {K : PySem.W.Frag} {H : Hp} {kf : α → Str} {rf : α → Rw} {g : Mp Rw} {n : Nat} {as : List Addr} {us : List α} (nd : (us.map kf).Nodup) (hg : ∀ u ∈ us, g (kf u) = some (rf u)) (hn : ∀ x, x ∉ us.map kf → g x = none)
    (pr : Paired (fun (a : Addr) u => ∃ v, H a = some (.tup [.str (kf u), v]) ∧ RwV K H v (rf u)) as us) (path : ∀ u ∈ us, PathOk (kf u)) (good : ∀ u ∈ us, GoodR (rf u)) (len : us.length ≤ n) :
    ∃ tab : Tab, Paired (fun p kv => SqT K H p [kV kv.1, kv.2]) as (kT tab) ∧ ∀ p, H p = none → RowsAt K (upd H p (.dK (mergeK [] (kT tab)))) p n g := by
  obtain ⟨tab, p1, p2⟩ := pairs_tab (K := K) pr
  have ek : tab.map (·.1) = us.map kf := paired_keys (R := fun v u => RwV K H v (rf u)) p2
  have ndt : Nd tab := by unfold Nd; rw [ek]; exact nd
  have jH : Holds (RwV K H) tab g := holds_paired p2 nd hg hn
  have em : mergeK [] (kT tab) = kT tab := mergeK_nd [] tab ndt fun x _ z => nomatch z
  refine ⟨tab, p1, fun p np => ⟨tab, by rw [upd_same, em], jH.imp fun _ _ x => x.keep (TupKeep.of (same_new np)), ndt, ?_, fun x hx => ?_, fun x r e => ?_⟩⟩
  · have := congrArg List.length ek
    rw [List.length_map, List.length_map] at this
    omega
  · rw [ek] at hx
    obtain ⟨u, hu, rfl⟩ := List.mem_map.mp hx
    exact path u hu
  · by_cases hx : x ∈ us.map kf
    · obtain ⟨u, hu, rfl⟩ := List.mem_map.mp hx
      rw [hg u hu] at e
      cases e
      exact good u hu
    · rw [hn x hx] at e
      cases e
section
variable {P : Program} {w : World} {K : PySem.W.Frag} {mg : Str → Option Value} {base : Heap} {C fk cE iF cP cK iK : Addr}
def spSumR (K : PySem.W.Frag) (C : Addr) : Sp := fun vs H Q _ => ∃ (W a dx d e : Addr) (c : Int) (m : Mp Rw) (f : Mp Fi) (v : V), vs = [.ref W, .ref a, .ref e, v] ∧ Wl H W c ∧ c < 2 ^ 32 ∧ ChAt K C H a dx d 16 m ∧ InMenu m ∧ MenuAt K H e f ∧ DueV K H v (dueF m f) ∧
  ∀ H' c', Fr W H H' → Wl H' W c' → c ≤ c' → c' ≤ c + 4000 → Q (.bl true) H'
theorem c_l_sum_right (T : TopF K mg C fk cE iF cP cK iK) : C8.Cal P w K mg base 11 "_law_sum_right" (spSumR K C) [] := by
  obtain ⟨pB, gB, fdB, mcB, RD, CM, FB, dfB⟩ := T.bt
  have BT : FnR P w K mg base (L2.CX P w) 8 gB (spBetw K C) := (FnOk.raw (ok_between T FB) (FB.binds dfB (fun _ _ _ _ _ _ us hl => match us, hl with | [_, _, _], _ => rfl)) .nil).imp fun vs H Q E h => by rw [List.append_nil]; exact h
  refine cal_of T.d_l_sum_right sc_l_sum_right (fun _ _ _ _ _ _ us hl => match us, hl with | [_, _, _, _], _ => rfl) (fun vs H Q E h => ?_) (fun fa cdv A outer s H vs Q E hr h => ?_)
  · obtain ⟨W, a, dx, d, e, c, m, f, v, rfl, _⟩ := h
    rfl
  · obtain ⟨W, a, dx, d, e, c, m, f, v, rfl, hw, hc, hA, hM, hF, hv, q⟩ := h
    refine ⟨_, (pss_cons (ps_set (i := 4) sc_l_sum_right.nd rfl (Or.inl rfl) (pe_ix ix_list (pe_lst (pa_cons (pv 2) (pa_cons (pv 3) pa_nil))) (pe_callTy call_int1 (by rfl) T.z_int (by decide +kernel) (pa_cons (pe_callB call_isi (by rfl) T.z_isinstance (by decide +kernel) (pa_cons (pv 3) (pa_cons (pe_bltn (v := .ty "dict") (by rfl) T.z_dict (by decide +kernel) rfl) pa_nil))) pa_nil)) (fun _ _ => rfl)))
      (pss_cons (ps_set (i := 5) sc_l_sum_right.nd rfl (Or.inl rfl) (C8.pe_c (c_l_change T) hr (by decide) (by rfl) (pa_cons (pv 0) (pa_cons (pv 4) pa_nil))))
      (pss_cons (ps_set (i := 6) sc_l_sum_right.nd rfl (Or.inl rfl) (C8.pe_mk (k_Change T.toTopC) hr (by decide) (by rfl) (pa_cons (pv 5) pa_nil)))
      (C8.pss_cut (ps_if (PW.pt (pw_and (pt_val (pe_callB call_isi (by rfl) T.z_isinstance (by decide +kernel) (pa_cons (pv 3) (pa_cons (pe_bltn (v := .ty "dict") (by rfl) T.z_dict (by decide +kernel) rfl) pa_nil)))) (pw_and1 (pt_val (pe_callB call_isi (by rfl) T.z_isinstance (by decide +kernel) (pa_cons (C8.pe_c (c_l_on T) hr (by decide) (by rfl) (pa_cons (pv 6) (pa_cons (pv 3) pa_nil))) (pa_cons (pe_bltn (v := .ty "dict") (by rfl) T.z_dict (by decide +kernel) rfl) pa_nil)))))))
      (pss_one (ps_if (pt_cmpR (op_neDD (room66 hr)) (C8.pe_c (c_l_on T) hr (by decide) (by rfl) (pa_cons (pe_ownAddK (K := K) rfl (ownX_of (mx_Change_add T.toTopC)) T.addF (hr.mono (by decide)) (fun σ => passAt takes_none5 σ) (pv 1) (pv 6)) (pa_cons (pv 2) pa_nil))) (C8.pe_c (c_l_due T) hr (by decide) (by rfl) (pa_cons (pv 5) (pa_cons (pv 3) pa_nil))) (nomark _))
      (pss_one (ps_ret pe_bl))
      pss_nil))
      pss_nil)
      (pss_cons (ps_set (i := 7) sc_l_sum_right.nd rfl (Or.inr rfl) (C8.pe_c (c_l_near T) hr (by decide) (by rfl) (pa_cons (pv 0) (pa_cons (pv 2) pa_nil))))
      (pss_cons (ps_set (i := 8) sc_l_sum_right.nd rfl (Or.inl rfl) (ClX.pe_cmeth (C8.pe_gc (by rfl) T.g_Change) RD CM BT (hr.mono (by decide)) (passes_call takes_none5 fun _ _ _ _ h => h) (pa_cons (pv 2) (pa_cons (pv 7) pa_nil))))
      (pss_cons (ps_set (i := 9) sc_l_sum_right.nd rfl (Or.inl rfl) (pe_callTy (call_dictP rfl) (by rfl) T.z_dict (by decide +kernel) (pa_cons (pe_lc (own := [("_law_path", 10)]) (g := gName 10) (by rfl) sc_l_sum_right.nd (pi_list (pe_op op_cat (pe_callB (call_sortedD (by rfl)) (by rfl) T.z_sorted (by decide +kernel) (pa_cons (pv 2) pa_nil)) (pe_callB (call_sortedD (by rfl)) (by rfl) T.z_sorted (by decide +kernel) (pa_cons (pv 7) pa_nil)))) (blkOk_by (own := [("_law_path", 10)]) (N := ["_law_well_here", "_law_c", "_law_files", "_law_due_here", "_law_base", "_law_second", "_law_d", "_law_goal", "_law_both", "_law_rows", "_law_path", "_law_row"]) (sc := C8.fnScope s_l_sum_right) (by decide +kernel)) (fun _ _ _ _ _ => (pg_name (i := 10) sc_l_sum_right.nd rfl (Or.inl rfl))) (fun _ _ _ _ _ => pts_nil) (fun _ _ _ _ _ => (pe_tup (pa_cons (pv 10) (pa_cons (pe_tup (pa_cons (pe_dget1 (hu_of hr) (pv 2) (pv 10) ⟨rfl, rfl, rfl, rfl⟩) (pa_cons (pe_dget1 (hu_of hr) (pv 7) (pv 10) ⟨rfl, rfl, rfl, rfl⟩) pa_nil))) pa_nil))))) pa_nil)))
      (pss_cons (ps_if (pt_cmpR (op_neDD (room66 hr)) (pe_pr (p_Change_rows T.toTopC) hr (by decide) (pv 8)) (pe_callTy (call_dictP rfl) (by rfl) T.z_dict (by decide +kernel) (pa_cons (pe_lock (pe_lc (own := [("_law_path", 10), ("_law_row", 11)]) (g := _) (by rfl) sc_l_sum_right.nd (pi_items (pv 9)) (blkOk_by (own := [("_law_path", 10), ("_law_row", 11)]) (N := ["_law_well_here", "_law_c", "_law_files", "_law_due_here", "_law_base", "_law_second", "_law_d", "_law_goal", "_law_both", "_law_rows", "_law_path", "_law_row"]) (sc := C8.fnScope s_l_sum_right) (by decide +kernel)) (fun _ _ _ _ _ => (pg_tupK (K := K) (n := 2) rfl rfl (pgs_cons (pg_name (i := 10) sc_l_sum_right.nd rfl (Or.inl rfl)) (pgs_cons (pg_name (i := 11) sc_l_sum_right.nd rfl (Or.inl rfl)) pgs_nil)))) (fun _ _ _ _ _ => pts_one (pt_cmpR (op_neFv (K := K) rfl hr.units) (pe_ix (ixK_tup (K := K) rfl) (pv 11) pe_int (fun _ _ => rfl)) (pe_ix (ixK_tup (K := K) rfl) (pv 11) pe_int (fun _ _ => rfl)) (nomark _))) (fun _ _ _ _ _ => (pe_tup (pa_cons (pv 10) (pa_cons (pv 11) pa_nil)))))) pa_nil)) (nomark _))
      (pss_one (ps_ret pe_bl))
      pss_nil)
      (pss_one (ps_ret (pe_or (pe_cmpR (op_neD hr.units) (C8.pe_c (c_l_clashes T) hr (by decide) (by rfl) (pa_cons (pv 7) pa_nil)) (pe_lst pa_nil) (nomark _)) (pe_one (pe_and (pe_cmpR (op_eqDD (room66 hr)) (C8.pe_c (c_l_on T) hr (by decide) (by rfl) (pa_cons (pv 8) (pa_cons (pv 2) pa_nil))) (pv 7) (nomark _)) (pe_one (pe_cmpR (op_ownEq (ownM_of (m_Change_eq T.toTopC)) (hr.mono (by decide)) noEx0) (C8.pe_mt0 (m_Change_plain T.toTopC) hr (by decide) (pv 8)) (pv 8) (nomark _)))))))))))))))), ?_⟩
    refine ⟨.ref e, rfl, v, rfl, (by show 2 ≤ sizeLine; decide), fun bL nL => ?_⟩
    have sL := same_new (o := .lst [V.ref e, v]) nL
    have hbL := upd_same (H := H) (a := bL) (o := .lst [V.ref e, v])
    generalize upd H bL (.lst [V.ref e, v]) = H1 at sL hbL
    have hv1 := hv.same sL
    refine ⟨v, rfl, ?_⟩
    dsimp only [tCons, tC, tNil]
    refine hv1.isD fun b hb => .inr ⟨b, rfl, ?_⟩
    obtain ⟨eB, fB, hat, hMB, hbT⟩ : ∃ eB fB, atI [V.ref e, v] (if b = true then 1 else 0) = some (.ref eB) ∧ MenuAt K H1 eB fB ∧ (b = true → dueF m f = .files fB ∧ v = .ref eB) := by
      cases b with
      | false => exact ⟨e, f, rfl, hF.same sL, fun z => by cases z⟩
      | true =>
        obtain ⟨g, eg⟩ := hb.mp rfl
        rw [eg] at hv1
        obtain ⟨eB, rfl, hB⟩ := hv1
        exact ⟨eB, g, rfl, hB, fun _ => ⟨eg, rfl⟩⟩
    refine ⟨bL, _, (if b = true then 1 else 0), .ref eB, rfl, rfl, SqL.of hbL, hat, ?_⟩
    have w1 := hw.same sL
    refine ⟨.ref W, rfl, .ref eB, rfl, W, eB, c, fB, rfl, w1, by omega, hMB, fun d2 H2 c2 m2 nd2 f2 w2 l2 u2 hR2 hI2 => ?_⟩
    have hA2 := (hA.same sL).fr f2 w1
    have hF2 := (hF.same sL).fr f2 w1
    have hMB2 := hMB.fr f2 w1
    refine ⟨.ref d2, rfl, do_changeA hR2 (by decide) fun oc ocx ocd H3 _ _ s3 hO => ?_⟩
    have hA3 := hA2.same s3
    have hF3 := hF2.same s3
    have hMB3 := hMB2.same s3
    have hR3 := hR2.same s3
    have w3 := w2.same s3
    have F3 : Fr W H H3 := (Fr.same sL).trans (f2.trans (Fr.same s3))
    refine ⟨fun σ' H' => σ' = [some (.ref W), some (.ref a), some (.ref e), some v, some (.ref eB), some (.ref d2), some (.ref oc), none, none, none, none, none] ∧ Same H3 H', ?first, ?rest⟩
    case first =>
      cases b with
      | false =>
        refine ⟨v, rfl, ?_⟩
        dsimp only [tCons, tC, tNil]
        have hv3 : DueV K H3 v (dueF m f) := by
          rcases due_or m f with d1 | ⟨S, d1⟩
          · exact absurd (hb.mpr ⟨_, d1⟩) Bool.false_ne_true
          · rw [d1] at hv1 ⊢
            obtain ⟨p, q', ys, z1, z2, z3, z4⟩ := hv1
            refine ⟨p, q', ys, z1, s3 _ _ ((TupKeep.fr f2 w1) _ _ z2), s3 _ _ ((TupKeep.fr f2 w1) _ _ z3), z4⟩
        refine hv3.isD fun b2 hb2 => ?_
        have : b2 = false := by
          cases h2 : b2 with
          | false => rfl
          | true => exact absurd (hb.mpr (hb2.mp h2)) Bool.false_ne_true
        rw [this]
        exact ⟨_, rfl, iteF ⟨rfl, Same.refl H3⟩⟩
      | true =>
        obtain ⟨ed, rfl⟩ := hbT rfl
        refine ⟨.ref eB, rfl, ?_⟩
        dsimp only [tCons, tC, tNil]
        have hv3 : DueV K H3 (.ref eB) (.files fB) := ⟨eB, rfl, hMB3⟩
        refine hv3.isD fun b2 hb2 => ?_
        rw [show b2 = true from hb2.mpr ⟨fB, rfl⟩]
        refine ⟨_, rfl, iteT ?_⟩
        refine ⟨.ref oc, rfl, .ref eB, rfl, oc, ocx, ocd, m2, .ref eB, .files fB, rfl, hO, hI2, hv3, fun r4 H4 s4 hr4 _ => ?_⟩
        dsimp only [tCons, tC, tNil]
        refine hr4.isD fun b4 hb4 => ?_
        cases b4 with
        | false => exact ⟨_, rfl, iteF ⟨rfl, s4⟩⟩
        | true =>
          refine ⟨_, rfl, iteT ?_⟩
          obtain ⟨g4, eg4⟩ := hb4.mp rfl
          obtain ⟨t1, c1, rfl⟩ := due_is ed
          obtain ⟨t2, c2', rfl⟩ := due_is (show dueF m2 (onM m f) = .files g4 from eg4)
          obtain ⟨fit, t3, eon⟩ := sum_on t1 t2
          have hA4 := hA3.same s4
          have hO4 := hO.same s4
          have im : InMenu (sumM m m2) := fun x hx => by
            unfold sumM at hx
            cases e1 : m x with
            | some r1 => exact hM x (by rw [e1]; rfl)
            | none =>
              rw [e1] at hx
              exact hI2 x hx
          refine ⟨.ref a, rfl, .ref oc, rfl, a, dx, _, rfl, hA4.1, .ins hO4.1, a, dx, d, 16, m, .ref oc, rfl, hA4, .inl ⟨oc, ocx, ocd, 16, m2, rfl, hO4, by decide, .inl ⟨fit, fun cs csx csd H5 _ _ s5 hS => ⟨cs, rfl, ?_⟩⟩⟩⟩
          have s35 := s4.trans s5
          refine ⟨.ref e, rfl, cs, csx, csd, sumM m m2, .ref e, .files f, rfl, hS.menu im, im, ⟨e, rfl, hF3.same s35⟩, fun r5 H6 s6 hr5 _ => ?_⟩
          have s36 := s35.trans s6
          refine ⟨.ref d2, rfl, .ref eB, rfl, d2, eB, m2, onM m f, rfl, hR3.same s36, hI2, hMB3.same s36, fun r6 H7 s7 hr6 => ?_⟩
          have hr5 := hr5.same s7
          have e5 : onO (sumM m m2) (.files f) = .files (onM m2 (onM m f)) := by
            show dueF (sumM m m2) f = _
            rw [due_files t3 (by rw [eon]; exact c2'), eon]
          rw [e5] at hr5
          rw [due_files t2 c2'] at hr6
          obtain ⟨z5, rfl, y5, _⟩ := hr5
          obtain ⟨z6, rfl, y6, _⟩ := hr6
          exact files_ne (c := true) y5 y6 ⟨fun _ => rfl, fun _ => rfl⟩ ⟨_, rfl, iteF ⟨rfl, s36.trans s7⟩⟩
    case rest =>
      rintro σ' H8 ⟨rfl, s8⟩
      have hF8 := hF3.same s8
      have w8 := w3.same s8
      have F8 : Fr W H H8 := F3.trans (Fr.same s8)
      refine ⟨.ref W, rfl, .ref e, rfl, W, e, c2, f, rfl, w8, by omega, hF8, fun gd H9 c9 g ng f9 w9 l9 u9 hG => ?_⟩
      have hF9 := hF8.fr f9 w8
      refine ⟨rfl, .ref e, rfl, .ref gd, rfl, e, gd, 16, 16, f, g, rfl, hF9.1, hG.1, by decide, fun cb cbx cbd H10 _ _ s10 hCb => ?_⟩
      have hF10 := hF9.same s10
      have hG10 := hG.same s10
      have F10 : Fr W H H10 := F8.trans (f9.trans (Fr.same s10))
      have w10 := w9.same s10
      have imD : InMenu (diffM f g) := fun x hx => by
        unfold diffM at hx
        by_cases c : f x = g x
        · rw [if_pos c] at hx; cases hx
        · cases e1 : f x with
          | some p0 => exact hF10.2 x (by rw [e1]; rfl)
          | none =>
            cases e2 : g x with
            | some p0 => exact hG10.2 x (by rw [e2]; rfl)
            | none => exact absurd (by rw [e1, e2]) c
      have hCb := hCb.menu imD
      obtain ⟨⟨tf, he, hHf, hOf⟩, hIf⟩ := id hF10
      obtain ⟨⟨tg, hg, hHg, hOg⟩, hIg⟩ := id hG10
      have lf := hOf.len
      have lg := hOg.len
      refine ⟨.ref e, rfl, e, kT tf, tf.map (·.1), rfl, .inl he, keys_kT tf, (by rw [List.length_map]; omega), fun ys pa hya hsa npa => ?_⟩
      have sa := same_new (o := .lst (ys.map V.str)) npa
      have ha := upd_same (H := H10) (a := pa) (o := .lst (ys.map V.str))
      generalize upd H10 pa (.lst (ys.map V.str)) = H11 at sa ha
      refine ⟨.ref gd, rfl, gd, kT tg, tg.map (·.1), rfl, .inl (sa _ _ hg), keys_kT tg, (by rw [List.length_map]; omega), fun zs pb hyb hsb npb => ?_⟩
      have sb := same_new (o := .lst (zs.map V.str)) npb
      have hb' := upd_same (H := H11) (a := pb) (o := .lst (zs.map V.str))
      generalize upd H11 pb (.lst (zs.map V.str)) = H12 at sb hb'
      have lys : ys.length ≤ 16 := by rw [hya.length_eq, List.length_map]; omega
      have lzs : zs.length ≤ 16 := by rw [hyb.length_eq, List.length_map]; omega
      refine ⟨pa, pb, _, _, rfl, rfl, sb _ _ ha, hb', small_line (by rw [List.length_map, List.length_map]; omega), fun L nL => ⟨L, rfl, ⟨_, SqL.of upd_same⟩, fun D hD => ?_⟩⟩
      have hL : (upd H12 L (.lst (ys.map V.str ++ zs.map V.str))) L = some (.lst ((ys ++ zs).map V.str)) := by rw [upd_same, List.map_append]
      have s13 := (sa.trans sb).trans (same_new (o := .lst (ys.map V.str ++ zs.map V.str)) nL)
      rw [← List.map_append]
      rw [← List.map_append] at hL s13 hD
      generalize upd H12 L (.lst ((ys ++ zs).map V.str)) = H13 at hL s13 hD ⊢
      have gf : ∀ x, GoodF (f x) := fun x p e1 => hOf.good x p e1
      have gg : ∀ x, GoodF (g x) := fun x p e1 => hOg.good x p e1
      have men : ∀ x ∈ ys ++ zs, x ∈ MENU := fun x hx => by
        rcases List.mem_append.mp hx with h | h
        · exact hIf x (hHf.mem.mp (hya.mem_iff.mp h))
        · exact hIg x (hHg.mem.mp (hyb.mem_iff.mp h))
      refine lc_pairs (us := ys ++ zs) (val := V.str) yields_list (fun x => x) (RwV K) (fun x => (f x, g x)) (fun _ => true) (fun x => [some (.ref W), some (.ref a), some (.ref e), some v, some (.ref eB), some (.ref d2), some (.ref oc), some (.ref gd), some (.ref cb), none, some (.str x), none]) hD (fun H5 s5 => SqL.of (s5 _ _ hL)) (fun _ _ => rfl)
        (fun H5 x _ _ S k => k) (fun H5 x _ _ S k => k H5 (Same.refl H5)) (fun _ _ _ _ k h => h.keep k) (fun H5 x s5 hx _ S k => ?_) (by rw [List.length_append]; omega) (fun as H14 s14 h14 pr => ?_)
      · have s15 := s13.trans s5
        have d1 := dget_kT (.inl (s15 _ _ he)) x
        have d2' := dget_kT (.inl (s15 _ _ hg)) x
        refine ⟨.str x, rfl, .ref e, rfl, e, rfl, .inl ⟨_, .inl (s15 _ _ he)⟩, .str x, rfl, _, d1, .ref gd, rfl, gd, rfl, .inl ⟨_, .inl (s15 _ _ hg)⟩, .str x, rfl, _, d2', (by show 2 ≤ sizeLine; decide), fun tr ntr => ⟨(by show 2 ≤ sizeLine; decide), fun tp ntp => ?_⟩⟩
        have sr := same_new (o := .tup [(valV tf x).getD .non, (valV tg x).getD .non]) ntr
        have st := same_new (o := .tup [V.str x, .ref tr]) ntp
        have kk := TupKeep.of (s15.trans (sr.trans st))
        exact k tp (.ref tr) _ (sr.trans st) upd_same ⟨tr, _, _, rfl, .inl (st _ _ upd_same), (get_fv hHf x).keep kk, (get_fv hHg x).keep kk⟩
      rw [filt_all] at pr
      obtain ⟨tab, p1, p2⟩ := pairs_tab (K := K) pr
      have etab : tab.map (·.1) = ys ++ zs := by
        have := paired_keys (R := fun v x => RwV K H14 v (f x, g x)) p2
        rwa [List.map_id'] at this
      have rtab : ∀ q ∈ tab, RwV K H14 q.2 (f q.1, g q.1) := fun q hq => by
        have key : ∀ {tab : Tab} {us : List Str}, Paired (fun (e : Str × V) u => e.1 = u ∧ RwV K H14 e.2 (f u, g u)) tab us → ∀ q ∈ tab, RwV K H14 q.2 (f q.1, g q.1) := by
          intro tab us h
          induction h with
          | nil => exact fun q hq => nomatch hq
          | cons a r ih =>
            intro q hq
            rcases List.mem_cons.mp hq with z | z
            · rw [z, a.1]; exact a.2
            · exact ih q z
        exact key p2 q hq
      obtain ⟨mt, em, nm, hm⟩ := merge_rel (R := RwV K H14) (rf := fun x => (f x, g x)) tab [] (fun _ => none) (by unfold Nd; exact List.nodup_nil) .nil rtab
      refine ⟨D, as, kT tab, rfl, .inl (.inl h14), p1, fun pD npD => ?_⟩
      rw [show mergeK [] (kT tab) = kT mt from em]
      have s0D := (s13.trans s14).trans (same_new (o := .dK (kT mt)) npD)
      have hpD := upd_same (H := H14) (a := pD) (o := .dK (kT mt))
      have hmD : Holds (RwV K (upd H14 pD (.dK (kT mt)))) mt (fun x => if x ∈ ys ++ zs then some (f x, g x) else none) := by
        rw [← etab]
        exact hm.imp fun _ _ x => x.keep (TupKeep.of (same_new npD))
      generalize upd H14 pD (.dK (kT mt)) = H15 at s0D hpD hmD
      have lmt : mt.length ≤ 16 := by
        have := len_of_sub nm (m := MENU) fun x hx => by
          have z := hmD.mem.mp hx
          by_cases c : x ∈ ys ++ zs
          · exact men x c
          · rw [if_neg c] at z
            cases z
        rw [List.length_map] at this
        exact this
      have hCD := hCb.same s0D
      refine ⟨.ref cb, rfl, cb, cbx, _, rfl, hCD.1, cb, cbx, cbd, 16, diffM f g, rfl, hCD, fun pr' HR tr npr sR hpr hHr hOr hsr => ?_⟩
      have hpR := sR _ _ hpD
      refine ⟨pD, _, hpR, trivial, fun od => ⟨.ref pD, rfl, pD, od, _, rfl, upd_same, fun D3 hD3 => ?_⟩⟩
      have nD3 : D3 ≠ pD := lock_ne hD3
      have kR : TupKeep HR (upd HR pD (.frz od (.dK (kT mt)))) := TupKeep.at fun xs z => by rw [hpR] at z; cases z
      have lk : (kT mt).length = mt.length := len_kT mt
      have fq : ∀ q ∈ mt, q.1 ∈ ys ++ zs ∧ RwV K H15 q.2 (f q.1, g q.1) := fun q hq => by
        obtain ⟨r0, e1, rv⟩ := hmD.at' (val_memE nm hq)
        by_cases c : q.1 ∈ ys ++ zs
        · rw [if_pos c] at e1
          cases e1
          exact ⟨c, rv⟩
        · rw [if_neg c] at e1
          cases e1
      refine lc_pairsS (us := mt) (G := fun H5 => H5 pD = some (.frz od (.dK (kT mt)))) (fun k H5 g hk => ⟨g, by rw [lk]; exact hk⟩) (fun H5 g => ⟨g, Nat.le_of_eq lk⟩) (fun q => q.1) (RwV K) (fun q => (f q.1, g q.1)) (fun q => !decide (f q.1 = g q.1)) (fun q => [some (.ref W), some (.ref a), some (.ref e), some v, some (.ref eB), some (.ref d2), some (.ref oc), some (.ref gd), some (.ref cb), some (.ref pD), some (.str q.1), some q.2]) hD3 (fun H5 s5 => s5 _ _ upd_same) (fun _ _ => rfl)
        (fun k H5 q x H7 s5 hu hy => ?_) (fun H5 q s5 hu S k => ?_) (fun _ _ _ _ k h => h.keep k) (fun H5 q s5 hu _ S k => ?_) (by omega) (fun as2 H16 s16 h16 pr2 => ?_)
      · obtain ⟨T0, k', v', hkv, rfl, nT, rfl⟩ := hy
        have sT := same_new (o := .tup [kV k', v']) nT
        refine ⟨sT, fun S hS => ?_⟩
        have e2 : (kT mt)[k]? = some (.inr q.1, q.2) := by
          unfold kT
          rw [List.getElem?_map, hu]
          rfl
        rw [e2] at hkv
        cases hkv
        exact ⟨T0, _, rfl, SqT.of upd_same, rfl, _, _, rfl, _, _, rfl, rfl, hS⟩
      · obtain ⟨q1, v1, v2, eq2, t1, x1, x2⟩ := (fq q hu).2.keep (((TupKeep.of sR).trans kR).trans (TupKeep.of s5))
        exact ⟨q.2, rfl, q1, _, 0, v1, eq2, rfl, t1.sq, rfl, q.2, rfl, q1, _, 1, v2, eq2, rfl, t1.sq, rfl, f q.1, g q.1, x1, x2, gf q.1, gg q.1, _, rfl, k H5 (Same.refl H5)⟩
      · refine ⟨_, rfl, _, rfl, (by show 2 ≤ sizeLine; decide), fun tp ntp => ?_⟩
        have st := same_new (o := .tup [V.str q.1, q.2]) ntp
        exact k tp q.2 _ st upd_same ((fq q hu).2.keep (((TupKeep.of sR).trans kR).trans (TupKeep.of (s5.trans st))))
      refine ⟨s16 _ _ upd_same, ?_⟩
      have sRU : Same HR (upd H16 pD (.dK (kT mt))) := same_unlock s16 hpR
      have k17 : TupKeep H16 (upd H16 pD (.dK (kT mt))) := TupKeep.at fun xs z => by rw [s16 _ _ upd_same] at z; cases z
      have h17 : (upd H16 pD (.dK (kT mt))) D3 = some (.lst (as2.map V.ref)) := by rw [upd_ne nD3]; exact h16
      obtain ⟨tab2, p3, p4⟩ := rows_pairs41 (K := K) (g := diffM f g) (n := 16) (kf := fun q : Str × V => q.1) (nd_filter nm _) (fun q hq => by
          have z := (List.mem_filter.mp hq).2
          unfold diffM
          rw [if_neg (fun c => by rw [decide_eq_true c] at z; cases z)]) (fun x hx => by
          unfold diffM
          by_cases c : f x = g x
          · rw [if_pos c]
          · exfalso
            have hxx : x ∈ ys ++ zs := by
              cases e1 : f x with
              | some p0 => exact List.mem_append_left _ (hya.mem_iff.mpr (hHf.mem.mpr (by rw [e1]; rfl)))
              | none =>
                cases e2 : g x with
                | some p0 => exact List.mem_append_right _ (hyb.mem_iff.mpr (hHg.mem.mpr (by rw [e2]; rfl)))
                | none => exact absurd (by rw [e1, e2]) c
            obtain ⟨q, hq, rfl⟩ := List.mem_map.mp (hmD.mem.mpr (show ((fun x => if x ∈ ys ++ zs then some (f x, g x) else none) x).isSome = true by dsimp only; rw [if_pos hxx]; rfl))
            exact hx (List.mem_map.mpr ⟨q, List.mem_filter.mpr ⟨hq, by rw [decide_eq_false c]; rfl⟩, rfl⟩)) (Paired.mapP pr2 fun b x ⟨v, z1, z2⟩ => ⟨v, k17 _ _ z1, z2.keep k17⟩) (fun q hq => menu_ok _ (men _ (fq q (List.mem_filter.mp hq).1).1)) (fun q hq => ⟨gf q.1, gg q.1⟩) (Nat.le_trans (List.length_filter_le _ _) lmt)
      refine ⟨D3, as2, kT tab2, rfl, .inl (.inl h17), p3, fun pE npE => ?_⟩
      have hRE := p4 pE npE
      have sRE := sRU.trans (same_new (o := .dK (mergeK [] (kT tab2))) npE)
      have s0E := s0D.trans (sR.trans sRE)
      have hR1 : RowsAt K (upd (upd H16 pD (.dK (kT mt))) pE (.dK (mergeK [] (kT tab2)))) pr' 16 (diffM f g) := RowsAt.same ⟨tr, hpr, hHr, hOr⟩ sRE
      generalize upd (upd H16 pD (.dK (kT mt))) pE (.dK (mergeK [] (kT tab2))) = HE at hRE sRE s0E hR1
      refine rows_ne (c := true) hR1 hRE ⟨fun _ => rfl, fun _ => rfl⟩ ⟨_, rfl, iteF ?_⟩
      have hCE := hCb.same s0E
      have hFE := hF10.same s0E
      have hGE := hG10.same s0E
      have fin : ∀ HZ, Same HE HZ → Q (.bl true) HZ := fun HZ sZ => q HZ c9 (F10.trans (Fr.same (s0E.trans sZ))) ((w10.same s0E).same sZ) (by omega) (by omega)
      refine ⟨.ref gd, rfl, gd, tg, rfl, s0E _ _ hg, hOg.nd, by omega, hOg.path, fun cs pc HC ndc sc lc hcs npc sC hC => ⟨(by show 0 ≤ sizeLine; decide), fun b9 n9 => ?_⟩⟩
      have s9 := same_new (o := .lst []) n9
      have cross : ∀ x, x ∈ cs ↔ CrossM g x := fun x => by
        rw [hcs x]
        unfold crossF CrossM
        rw [hHg.mem]
        constructor
        · rintro ⟨z1, y, hy, z2⟩
          exact ⟨z1, y, hHg.mem.mp hy, z2⟩
        · rintro ⟨z1, y, hy, z2⟩
          exact ⟨z1, y, hHg.mem.mpr hy, z2⟩
      refine ne_empty (s9 _ _ hC) upd_same (fun x hx => (menu_ok x (hIg x ((cross x).mp hx).1)).2.2) ⟨_, rfl, ?_⟩
      have sEF := sC.trans s9
      generalize upd HC b9 (.lst []) = HF at sEF s9
      cases cs with
      | cons c0 cr => exact iteT (fin HF sEF)
      | nil =>
        refine iteF ?_
        obtain ⟨td, eon⟩ := diff_on f g
        have nc : ∀ x, ¬ CrossM (onM (diffM f g) f) x := fun x z => by
          rw [eon] at z
          have := (cross x).mpr z
          cases this
        have eo : onO (diffM f g) (.files f) = .files g := by
          show dueF (diffM f g) f = _
          rw [due_files td nc, eon]
        have hCF := hCE.same sEF
        refine ⟨.ref cb, rfl, .ref e, rfl, cb, cbx, cbd, diffM f g, .ref e, .files f, rfl, hCF, imD, ⟨e, rfl, hFE.same sEF⟩, fun r HX sX hr _ => ?_⟩
        rw [eo] at hr
        obtain ⟨er, rfl, hr1, _⟩ := hr
        have hCX := hCF.same sX
        refine ⟨.ref gd, rfl, files_eq (c := true) hr1 ((hGE.same sEF).same sX).1 ⟨fun _ => rfl, fun _ => rfl⟩ ⟨_, rfl, iteT ?_⟩⟩
        refine ⟨.ref cb, rfl, cb, cbx, _, rfl, hCX.1, rfl, cb, cbx, cbd, 16, diffM f g, rfl, hCX, by decide, fun cp cpx cpd HY _ _ sY hP => ?_⟩
        rw [diff_plain] at hP
        have hCY := hCX.same sY
        refine ⟨.ref cb, rfl, cp, cpx, _, .ref C, rfl, hP.1, .base (.ins hCY.1 T.insC.cl T.insC.ha T.insC.hn T.insC.htk T.insC.hm), T.notC, cp, cpx, cpd, 16, diffM f g, .ref cb, rfl, hP, .inl ⟨cb, cbx, cbd, 16, diffM f g, rfl, hCY, fun bz hbz => ?_⟩⟩
        rw [show bz = true from hbz.mpr rfl]
        exact ⟨_, rfl, fin HY (sEF.trans (sX.trans sY))⟩
end

end Fk

set_option maxHeartbeats 4000000
/-! text.encode("ascii") of a text below 128 -/
namespace Fk
open PySem PySem.Spec PySem.Calls PyProof.Rows L2
open Builtin PySem.W
def AsX (x : PySem.Str) : Prop := ∀ c ∈ x.cps.toList, c < 128
def byts (x : PySem.Str) : Array UInt8 := ⟨x.cps.toList.map (·.toUInt8)⟩
theorem byts_size (x : PySem.Str) : (byts x).size = x.length := by simp only [byts, List.size_toArray, List.length_map, Array.length_toList]; rfl
theorem fold_b (l : List Nat) : ∀ acc : Array UInt8, l.foldl (fun a y => a ++ ([y.toUInt8] : List UInt8).toArray) acc = acc ++ (⟨l.map (·.toUInt8)⟩ : Array UInt8) := by
  induction l with
  | nil => intro acc; simp
  | cons c r ih => intro acc; rw [List.foldl_cons, ih]; apply Array.toList_inj.mp; simp
theorem none_bad {x : PySem.Str} (h : AsX x) : x.cps.findIdx? (fun c => decide (c ≥ 128)) = none := by
  refine Array.findIdx?_eq_none_iff.mpr fun c hc => decide_eq_false ?_
  have := h c (Array.mem_toList_iff.mpr hc); omega
section
variable {M : Model} {A : Around} {E : Value → Shared → Prop} {s : Shared} {x : PySem.Str} {id : String} {self : Value}
theorem all_of (y : Array Nat) : y.extract 0 y.size = y := by simp
theorem wp_narrow {Q : Array UInt8 → Shared → Prop} (ha : AsX x) (hz : x.length ≤ 16777216) (h : Q (byts x) s) : wpAny M A (_codecs.encodeNarrow id _codecs.asciiCodec none self x) Q E s := by
  have z0 : ¬ sizeLine < (#[] : Array UInt8).size := by rw [sizeLine_eq]; decide
  have z1 : ¬ sizeLine < (byts x).size := by rw [byts_size, sizeLine_eq]; omega
  have out : ((x.cps.extract 0 x.cps.size).extract 0 x.cps.size).foldl (fun a y => a ++ (_codecs.asciiCodec.bytesOf y).toArray) #[] = byts x := by
    rw [all_of, all_of, ← Array.foldl_toList]; exact (fold_b x.cps.toList #[]).trans (by simp [byts])
  unfold _codecs.encodeNarrow; refine wpAny_bind ?_; rw [KPc.range_list]
  cases hn : x.length with
  | zero =>
    have e : byts x = #[] := Array.eq_empty_of_size_eq_zero ((byts_size x).trans hn)
    rw [e] at h; show wpAny M A (forIn ([] : List Nat) _ _) _ E s; rw [List.forIn_nil]
    exact wpAny_pure (wpAny_pure h)
  | succ n =>
    have h0 : 0 < x.cps.size := by have : x.cps.size = n + 1 := hn; omega
    have hg : x.cps[0]? = some (x.cps[0]'h0) := Array.getElem?_eq_getElem h0
    have hb : _codecs.asciiCodec.bad (x.cps[0]'h0) = false := decide_eq_false (by have := ha _ (Array.mem_toList_iff.mpr (Array.getElem_mem h0)); omega)
    have hc : (((x.cps.extract 0 x.cps.size).findIdx? _codecs.asciiCodec.bad).getD (x.cps.extract 0 x.cps.size).size) = x.cps.size := by
      rw [all_of]; show ((x.cps.findIdx? (fun c => decide (c ≥ 128))).getD x.cps.size) = _; rw [none_bad ha]; rfl
    rw [List.range'_succ]; refine KPc.turn (wpAny_ite (KBy.ite_no z0 ?_)); (try dsimp only); rw [hg]; (try dsimp only)
    refine wpAny_ite (KBc.ite_yes (by rw [hb]; rfl) ?_); rw [hc, out]; (try dsimp only)
    cases n with
    | zero =>
      refine wpAny_pure ?_; show wpAny M A (forIn ([] : List Nat) _ _) _ E s; rw [List.forIn_nil]
      exact wpAny_pure (wpAny_pure h)
    | succ m =>
      refine wpAny_pure ?_; rw [List.range'_succ]; refine KPc.turn (wpAny_ite (KBy.ite_no z1 ?_)); (try dsimp only)
      have he : x.cps[0 + x.cps.size]? = none := Array.getElem?_eq_none (by omega)
      rw [he]; (try dsimp only); exact wpAny_pure (wpAny_pure h)
end
theorem enc_tree2 (x : PySem.Str) (t t2 : Tok) : «str.encode» ⟨[.str x t, .str (Str.ofString "ascii") t2], []⟩ = (do ret (← _codecs.encodeRoad "str.encode" (.str x t) x (Str.ofString "ascii") none)) := by
  first | rfl | kernel_rfl
theorem road_ascii (id : String) (self : Value) (x : PySem.Str) : _codecs.encodeRoad id self x (Str.ofString "ascii") none = (do mkBytes (← _codecs.encodeNarrow id _codecs.asciiCodec none self x)) := by
  first | rfl | (unfold _codecs.encodeRoad; rfl) | (unfold _codecs.encodeRoad; simp only []; rfl)
theorem meets_ascii {x : PySem.Str} {t t2 : Tok} (ha : AsX x) (hz : x.length ≤ 16777216) : Meets («str.encode» ⟨[.str x t, .str (Str.ofString "ascii") t2], []⟩) (fun _ R s => ∀ t' k, R (.ok (.ret (.bytes (byts x) t'))) { s with toks := k }) := by
  refine .of_wp fun prog w A R s h => ?_
  rw [enc_tree2, road_ascii]
  refine wpAny_bind (wpAny_bind (wp_narrow ha hz (wpAny_mkBytes ?_ (by rw [byts_size, sizeLine_eq]; exact hz))))
  exact wpAny_pure ⟨_, rfl, h _ _⟩
/-- text.encode("ascii") -/
theorem mt_ascii {X : Cx} : MtR X "str.encode" (fun x xs H Q => ∃ a : Str, x = .str a ∧ xs = [.str (Str.ofString "ascii")] ∧ AsX a ∧ a.length ≤ 16777216 ∧ Q (.byt (byts a)) H) := by
  intro pins s σ H x xs v us Q I rx rs h
  obtain ⟨a, rfl, rfl, ha, hz, q⟩ := h
  obtain ⟨t, rfl⟩ := rx
  cases rs with
  | cons r1 r2 =>
    cases r2
    obtain ⟨t2, rfl⟩ := r1
    exact call_meets F.slot_str_encode (typeIs_str s a t) F.entry_str_encode (F.args_str_encode_2 _ _) (meets_ascii ha hz) fun t' k => ⟨.byt (byts a), H, I.tok k, ⟨t', rfl⟩, q⟩
end Fk

set_option maxHeartbeats 4000000
/-! f"{n:016x}" of a number that is not negative -/
namespace Fk
open PySem PySem.Spec PySem.Calls PyProof.Rows L2
open Builtin PySem.W
def figs (n : Nat) : List Nat := (Nat.toDigits 16 n).map Char.toNat
def hex16 (n : Nat) : PySem.Str := ⟨(List.replicate (16 - (figs n).length) 48 ++ figs n).toArray⟩
def spec16 : Float.FormatSpec := match Float.parseFormatSpec (Str.ofString "016x").cps.toList "int" 62 with
  | .ok f => f
  | .error _ => ⟨0, 0, none, false, false, none, none, none, none⟩
def text16 (a : Int) : PySem.Str := intField' spec16 (decide (a < 0)) [] ((Nat.toDigits 16 a.natAbs).map fun c => (if (120 : Nat) == 88 then c.toUpper else c).toNat) [] 4
theorem spec_is : spec16.fill = 48 ∧ spec16.align = 61 ∧ spec16.width = some 16 ∧ spec16.grouping = none ∧ spec16.sign = none := by decide +kernel
theorem meets_hex {a : Int} {t : Tok} (hl : (text16 a).length ≤ sizeLine) : ∀ u, Meets («int.__format__» ⟨[.int a t, .str (Str.ofString "016x") u], []⟩) (fun _ R s => ∀ t' k, R (.ok (.ret (.str (text16 a) t'))) { s with toks := k }) := by
  intro _
  apply KPc.meets_of
  intro _ _ _ _ _ _ hq
  unfold Builtin.«int.__format__»; refine wpAny_bind (wpAny_of_eq (a := (_, _)) rfl ?_); refine wpAny_bind (wpAny_of_eq (a := _) rfl ?_)
  kxf_if
  refine wpAny_bind (wpAny_typeNameOf (T := "str") (typeIs_str _ _ _) (by decide) fun _ => ?_); refine wpAny_bind (wpAny_of_eq (a := some _) rfl ?_)
  kxf_if; kxf_if
  refine wpAny_bind (wpAny_typeNameOfCut_int ?_)
  repeat kxf_if
  refine KXf.ret_text (T := text16 a) ?_ ?_ hq
  · first | rfl | kernel_rfl
  · exact hl
theorem core_len (b : Nat) (hb : 1 < b) : ∀ (k fuel n : Nat) (ds : List Char), 1 ≤ k → n < b ^ k → (Nat.toDigitsCore b fuel n ds).length ≤ ds.length + k
  | _, 0, _, ds, _, _ => by unfold Nat.toDigitsCore; omega
  | k, fuel + 1, n, ds, hk, hn => by
    unfold Nat.toDigitsCore; simp only
    split
    · simp only [List.length_cons]; omega
    · rename_i h0
      cases k with
      | zero => omega
      | succ j =>
        cases j with
        | zero => exact absurd (Nat.div_eq_of_lt (by simpa using hn)) h0
        | succ i =>
          have h1 : n / b < b ^ (i + 1) := Nat.div_lt_of_lt_mul (by rw [Nat.pow_succ, Nat.mul_comm] at hn; exact hn)
          have := core_len b hb (i + 1) fuel (n / b) (Nat.digitChar (n % b) :: ds) (by omega) h1
          simp only [List.length_cons] at this; omega
theorem figs_len {n : Nat} (h : n < 16 ^ 16) : (figs n).length ≤ 16 := by
  have := core_len 16 (by decide) 16 (n + 1) n [] (by decide) h
  unfold figs; rw [List.length_map]; simpa [Nat.toDigits] using this
theorem figs_ne (n : Nat) : (figs n).isEmpty = false := by
  have := tDigits_len_ge 16 n
  cases e : figs n with
  | nil => have h2 : (figs n).length = 0 := by rw [e]; rfl
           unfold figs at h2; rw [List.length_map] at h2; omega
  | cons c r => rfl
theorem text_hex {n : Nat} (h : n < 16 ^ 16) : text16 (n : Int) = hex16 n := by
  obtain ⟨f1, f2, f3, f4, f5⟩ := spec_is
  have hl := figs_len h
  have hn := figs_ne n
  have e0 : decide ((n : Int) < 0) = false := decide_eq_false (by omega)
  have e1 : ((Nat.toDigits 16 (n : Int).natAbs).map fun c => (if (120 : Nat) == 88 then c.toUpper else c).toNat) = figs n := rfl
  unfold text16 intField' hex16
  rw [e0, e1]
  simp only [f1, f2, f3, f4, f5, hn, Bool.false_eq_true, if_false, List.length_nil, List.append_nil, List.nil_append, List.length_append, List.length_replicate, beq_self_eq_true, Bool.and_true, if_true]
  simp
  omega
theorem hex_len {n : Nat} (h : n < 16 ^ 16) : (hex16 n).length = 16 := by
  have := figs_len h
  show ((List.replicate (16 - (figs n).length) 48 ++ figs n).toArray).size = 16
  rw [List.size_toArray, List.length_append, List.length_replicate]; omega
def HX : List Nat := [48, 49, 50, 51, 52, 53, 54, 55, 56, 57, 97, 98, 99, 100, 101, 102]
theorem dig_in : ∀ d : Fin 16, (Nat.digitChar d).toNat ∈ HX := by decide +kernel
theorem core_in : ∀ (fuel n : Nat) (ds : List Char), (∀ c ∈ ds, c.toNat ∈ HX) → ∀ c ∈ Nat.toDigitsCore 16 fuel n ds, c.toNat ∈ HX
  | 0, _, ds, h => by unfold Nat.toDigitsCore; exact h
  | fuel + 1, n, ds, h => by
    have h2 : ∀ c ∈ Nat.digitChar (n % 16) :: ds, c.toNat ∈ HX := fun c hc => by
      rcases List.mem_cons.mp hc with rfl | hc
      · exact dig_in ⟨n % 16, Nat.mod_lt _ (by decide)⟩
      · exact h c hc
    unfold Nat.toDigitsCore; simp only
    split
    · exact h2
    · exact core_in fuel (n / 16) _ h2
theorem hex_in {n c : Nat} (h : c ∈ (hex16 n).cps.toList) : c ∈ HX := by
  have h : c ∈ List.replicate (16 - (figs n).length) 48 ++ figs n := h
  rcases List.mem_append.mp h with h | h
  · rw [(List.mem_replicate.mp h).2]; decide
  · obtain ⟨d, hd, rfl⟩ := List.mem_map.mp h
    exact core_in (n + 1) n [] (fun c hc => by cases hc) d hd
/-- {n:016x} -/
def tHex (te : TE) : TE := fun σ H Q => te σ H fun x H1 => ∃ n : Nat, x = .int n ∧ n < 16 ^ 16 ∧ Q (.str (hex16 n)) H1
theorem pe_hex {X : Cx} {e sp : Expr} {te : TE} {pos : Pos} (he : PE X e te) (hs : PE X sp (tC (.str (Str.ofString "016x")))) : PE X (.FormattedValue e (-1) (some sp) pos) (tHex te) := by
  refine ⟨fun pins s σ H Q I h => wpAny_FormattedValue_spec (thn (he.run pins s σ H _ I h) fun v s1 hv => ?_)⟩
  obtain ⟨x, H1, I1, r1, n, rfl, hn, q⟩ := hv
  obtain ⟨t, rfl⟩ := r1
  refine thn (hs.run pins s1 σ H1 (fun y H2 => y = .str (Str.ofString "016x") ∧ H2 = H1) I1 ⟨rfl, rfl⟩) fun u s2 hu => ?_
  obtain ⟨y, H2, I2, r2, rfl, rfl⟩ := hu
  obtain ⟨t2, rfl⟩ := r2
  have hz : (text16 (n : Int)).length ≤ sizeLine := by rw [text_hex hn, hex_len hn]; decide
  refine ⟨_, t2, rfl, KXf.field_int (y := text16 (n : Int)) rfl (by decide) (by decide) (fun u => meets_hex hz u) fun t' k => ?_⟩
  rw [text_hex hn]
  exact ⟨.str (hex16 n), H2, I2.tok k, ⟨t', rfl⟩, q⟩
end Fk

set_option maxHeartbeats 4000000
/-! The four kinds of objects: what they are, where they stand, their texts. -/
namespace Fk
open PySem PySem.Spec PyProof.Rows L2
inductive Ob where
  | blob (x : Str)
  | tree (es : List (Str × Str × Str))
  | commit (t : Str) (ps : List Str) (au : Str) (tm : Int) (msg : Str)
  | tag (tg lb msg : Str)
  deriving DecidableEq
def Ob.kd : Ob → Nat
  | .blob _ => 0
  | .tree _ => 1
  | .commit .. => 2
  | .tag .. => 3
theorem Ob.kd_lt (o : Ob) : o.kd < 4 := by cases o <;> simp [Ob.kd]
/-- the classes -/
structure C4 where
  B : Addr
  T : Addr
  C : Addr
  G : Addr
def C4.at (c : C4) : Nat → Addr
  | 0 => c.B
  | 1 => c.T
  | 2 => c.C
  | _ => c.G
abbrev Ent := Str × Str × Str
def entL (e : Ent) : List V := [.str e.2.1, .str e.2.2]
def KINDS : List Str := ["file", "exec", "dir"]
def EntOk (e : Ent) : Prop := isSegF e.1 = true ∧ e.2.1 ∈ KINDS ∧ isIdF e.2.2 = true
def EntsOk (es : List Ent) : Prop := es.length ≤ 30 ∧ (es.map (·.1)).Nodup ∧ sortedS (es.map (·.1)) = true ∧ ∀ e ∈ es, EntOk e
def Ob.ok : Ob → Prop
  | .blob x => isTextF x = true
  | .tree es => EntsOk es
  | .commit t ps au tm msg => isIdF t = true ∧ ps.length ≤ 6 ∧ ps.Nodup ∧ (∀ p ∈ ps, isIdF p = true) ∧ isWordF LET au = true ∧ 0 ≤ tm ∧ tm ≤ 1000000000000 ∧ isTextF msg = true ∧ msg.length ≤ 200
  | .tag tg lb msg => isIdF tg = true ∧ isSegF lb = true ∧ isTextF msg = true ∧ msg.length ≤ 200
/-- a table's entries -/
def EntsAt (K : PySem.W.Frag) (H : Hp) (t : Tab) (es : List Ent) : Prop := Paired (fun p e => p.1 = e.1 ∧ ∃ q, p.2 = V.ref q ∧ TupK K H q (entL e)) t es
def cmF (t : Str) (p : Addr) (au : Str) (tm : Int) (msg : Str) : List (Str × V) := [("_tree", .str t), ("_parents", .ref p), ("_author", .str au), ("_time", .int tm), ("_message", .str msg)]
def tgF (tg lb msg : Str) : List (Str × V) := [("_target", .str tg), ("_label", .str lb), ("_message", .str msg)]
/-- at a stands the object o; d: the dict of a tree -/
def ObAt (K : PySem.W.Frag) (c : C4) (H : Hp) (a d : Addr) : Ob → Prop
  | .blob x => ∃ dx, H a = some (.ins c.B dx [("_text", .str x)])
  | .tree es => ∃ dx t, H a = some (.ins c.T dx [("_entries", .ref d)]) ∧ H d = some (.dK (kT t)) ∧ EntsAt K H t es
  | .commit t ps au tm msg => ∃ dx p, H a = some (.ins c.C dx (cmF t p au tm msg)) ∧ TupK K H p (ps.map V.str)
  | .tag tg lb msg => ∃ dx, H a = some (.ins c.G dx (tgF tg lb msg))
theorem EntsAt.keep {K : PySem.W.Frag} {H H' : Hp} {t : Tab} {es : List Ent} (h : EntsAt K H t es) (k : TupKeep H H') : EntsAt K H' t es := Paired.mapP h fun _ _ ⟨e, q, e1, e2⟩ => ⟨e, q, e1, e2.keep k⟩
/-- instances and tuples stay -/
def InsKeep (H H' : Hp) : Prop := ∀ b C dx fs, H b = some (.ins C dx fs) → H' b = some (.ins C dx fs)
theorem InsKeep.of {H H' : Hp} (s : Same H H') : InsKeep H H' := fun b _ _ _ e => s b _ e
theorem InsKeep.trans {H H1 H2 : Hp} (a : InsKeep H H1) (b : InsKeep H1 H2) : InsKeep H H2 := fun c _ _ _ e => b c _ _ _ (a c _ _ _ e)
theorem InsKeep.at {a : Addr} {H : Hp} {o : HO} (n : ∀ C dx fs, H a ≠ some (.ins C dx fs)) : InsKeep H (upd H a o) := fun b C dx fs e => by
  have z : b ≠ a := fun z => n C dx fs (by rw [← z]; exact e)
  rw [upd_ne z]
  exact e
theorem ObAt.keep {K : PySem.W.Frag} {c : C4} {H H' : Hp} {a d : Addr} {o : Ob} (h : ObAt K c H a d o) (k : TupKeep H H') (i : InsKeep H H') (e : ∀ u, H d = some (.dK u) → H' d = some (.dK u)) : ObAt K c H' a d o := by
  cases o with
  | blob x => obtain ⟨dx, h⟩ := h; exact ⟨dx, i _ _ _ _ h⟩
  | tree es => obtain ⟨dx, t, h, h2, h3⟩ := h; exact ⟨dx, t, i _ _ _ _ h, e _ h2, h3.keep k⟩
  | commit t ps au tm msg => obtain ⟨dx, p, h, h2⟩ := h; exact ⟨dx, p, i _ _ _ _ h, h2.keep k⟩
  | tag tg lb msg => obtain ⟨dx, h⟩ := h; exact ⟨dx, i _ _ _ _ h⟩
theorem ObAt.same {K : PySem.W.Frag} {c : C4} {H H' : Hp} {a d : Addr} {o : Ob} (h : ObAt K c H a d o) (s : Same H H') : ObAt K c H' a d o := h.keep (TupKeep.of s) (InsKeep.of s) fun _ e => s _ _ e
/-- only the list at a changed -/
theorem Fr.tups {a : Addr} {H H' : Hp} {l : List V} (f : Fr a H H') (h : H a = some (.lst l)) : TupKeep H H' := fun b xs e => f b _ (fun z => by rw [z, h] at e; cases e) e
theorem Fr.inss {a : Addr} {H H' : Hp} {l : List V} (f : Fr a H H') (h : H a = some (.lst l)) : InsKeep H H' := fun b C dx fs e => f b _ (fun z => by rw [z, h] at e; cases e) e
theorem Fr.dict {a d : Addr} {H H' : Hp} {l : List V} {u : List (Key × V)} (f : Fr a H H') (h : H a = some (.lst l)) (e : H d = some (.dK u)) : H' d = some (.dK u) := f d _ (fun z => by rw [z, h] at e; cases e) e
theorem ObAt.wl {K : PySem.W.Frag} {cl : C4} {H H' : Hp} {a d w : Addr} {c : Int} {o : Ob} (h : ObAt K cl H a d o) (hw : Wl H w c) (f : Fr w H H') : ObAt K cl H' a d o := by
  obtain ⟨_, x, y, e⟩ := hw
  exact h.keep (f.tups e) (f.inss e) fun _ z => f.dict e z
/-- where an object stands -/
theorem ObAt.ins {K : PySem.W.Frag} {c : C4} {H : Hp} {a d : Addr} {o : Ob} (h : ObAt K c H a d o) : ∃ dx fs, H a = some (.ins (c.at o.kd) dx fs) := by
  cases o with
  | blob x => obtain ⟨dx, h⟩ := h; exact ⟨dx, _, h⟩
  | tree es => obtain ⟨dx, t, h, _⟩ := h; exact ⟨dx, _, h⟩
  | commit t ps au tm msg => obtain ⟨dx, p, h, _⟩ := h; exact ⟨dx, _, h⟩
  | tag tg lb msg => obtain ⟨dx, h⟩ := h; exact ⟨dx, _, h⟩
/-! ### trees that are equal -/
def datE (es : List Ent) : List (Key × PyData) := es.map fun e => (.inr e.1, .tuple [.str e.2.1, .str e.2.2])
theorem dat_at {K : PySem.W.Frag} {H : Hp} : ∀ {t : Tab} {es : List Ent}, EntsAt K H t es → DD K H (kT t) (datE es)
  | _, _, .nil => .nil
  | _, _, .cons (a := p) (b := e) ⟨e1, q, e2, e3⟩ r => by
    refine .cons ⟨by show Sum.inr p.1 = Sum.inr e.1; rw [e1], ?_⟩ (dat_at r)
    show Dp K H p.2 _
    rw [e2]
    exact dp_head e3
theorem kinds_ok : ∀ k ∈ KINDS, OkS k := fun k hk => by
  have : ∀ k ∈ KINDS, ((TL.tl k).all fun u => decide (u < 1114112)) = true := by decide +kernel
  exact ok_by (this k hk)
theorem id_ok {x : Str} (h : isIdF x = true) : OkS x := by
  unfold isIdF at h
  exact ok_sub (only_sub (Bool.and_eq_true_iff.mp h).2) ok_hex
theorem shaped_ents {es : List Ent} (h : ∀ e ∈ es, EntOk e) : shapedAll (datE es) := fun p hp => by
  obtain ⟨e, he, rfl⟩ := List.mem_map.mp hp
  exact shaped_head (kinds_ok _ (h e he).2.1) (id_ok (h e he).2.2)
theorem valD_ents {es : List Ent} (nd : (es.map (·.1)).Nodup) {e : Ent} (he : e ∈ es) : valD (datE es) (.inr e.1) = some (.tuple [.str e.2.1, .str e.2.2]) := by
  induction es with
  | nil => exact absurd he (by simp)
  | cons f r ih =>
    obtain ⟨n1, n2⟩ := List.nodup_cons.mp (show (f.1 :: r.map (·.1)).Nodup from nd)
    show valD ((.inr f.1, _) :: datE r) _ = _
    rcases List.mem_cons.mp he with z | z
    · rw [z]
      exact valD_pos rfl
    · rw [valD_neg (fun q => n1 (by rw [show f.1 = e.1 from Sum.inr.inj q]; exact List.mem_map.mpr ⟨e, z, rfl⟩))]
      exact ih n2 z
theorem valD_mem {es : List Ent} {k : Str} {d : PyData} (h : valD (datE es) (.inr k) = some d) : ∃ e ∈ es, e.1 = k ∧ d = .tuple [.str e.2.1, .str e.2.2] := by
  induction es with
  | nil => cases h
  | cons f r ih =>
    have h : valD ((.inr f.1, .tuple [.str f.2.1, .str f.2.2]) :: datE r) (.inr k) = some d := h
    by_cases c : f.1 = k
    · rw [valD_pos (by rw [c])] at h
      exact ⟨f, List.mem_cons_self, c, (Option.some.inj h).symm⟩
    · rw [valD_neg (fun q => c (Sum.inr.inj q))] at h
      obtain ⟨e, he, r⟩ := ih h
      exact ⟨e, List.mem_cons_of_mem _ he, r⟩
theorem nodup_inj {α : Type} {l : List α} (h : l.Nodup) {i j : Nat} (hi : i < l.length) (hj : j < l.length) (e : l[i] = l[j]) : i = j := by
  have p := List.pairwise_iff_getElem.mp h
  rcases Nat.lt_trichotomy i j with c | c | c
  · exact absurd e (p i j hi hj c)
  · exact c
  · exact absurd e.symm (p j i hj hi c)
theorem sub_perm {α : Type} [DecidableEq α] : ∀ {l m : List α}, l.Nodup → (∀ x ∈ l, x ∈ m) → m.length ≤ l.length → l.Perm m
  | [], m, _, _, h => by rw [List.eq_nil_of_length_eq_zero (Nat.le_zero.mp h)]
  | x :: r, m, nd, hs, h => by
    obtain ⟨n1, n2⟩ := List.nodup_cons.mp nd
    have hx := hs x List.mem_cons_self
    have hl := List.length_erase_of_mem hx
    have h : m.length ≤ r.length + 1 := h
    exact ((sub_perm n2 (fun y hy => (List.mem_erase_of_ne (fun (z : y = x) => n1 (by rw [← z]; exact hy))).mpr (hs y (List.mem_cons_of_mem _ hy))) (by omega)).cons x).trans (List.perm_cons_erase hx).symm
theorem ents_eq {es fs : List Ent} (he : es.map (·.1) = fs.map (·.1)) (nd : (fs.map (·.1)).Nodup) (hm : ∀ e ∈ es, e ∈ fs) : es = fs := by
  have hl : es.length = fs.length := by
    have := congrArg List.length he
    rwa [List.length_map, List.length_map] at this
  refine List.ext_getElem hl fun i h1 h2 => ?_
  obtain ⟨j, hj, e⟩ := List.mem_iff_getElem.mp (hm _ (List.getElem_mem h1))
  have k1 : (fs.map (·.1))[j]'(by rw [List.length_map]; exact hj) = (fs.map (·.1))[i]'(by rw [List.length_map]; exact h2) := by
    rw [List.getElem_map, e]
    have := List.getElem_of_eq he (i := i) (by rw [List.length_map]; exact h1)
    rw [List.getElem_map, List.getElem_map] at this
    rw [this, List.getElem_map]
  have : j = i := nodup_inj nd _ _ k1
  subst this
  exact e.symm
theorem eqv_ents2 {es fs : List Ent} (h : EntsOk es) (k : EntsOk fs) : eqvDict (datE es) (datE fs) = decide (es = fs) := by
  obtain ⟨_, n1, s1, _⟩ := h
  obtain ⟨_, n2, s2, _⟩ := k
  by_cases c : es = fs
  · subst c
    rw [decide_eq_true rfl]
    unfold eqvDict
    rw [decide_eq_true rfl, Bool.true_and, List.all_eq_true]
    intro p hp
    obtain ⟨e, he, rfl⟩ := List.mem_map.mp hp
    unfold hitD
    show (match valD (datE es) (.inr e.1) with | none => false | some d => PyData.eqv _ d) = true
    rw [valD_ents n1 he]
    show PyData.eqv _ _ = true
    rw [eqv_head, decide_eq_true rfl]
  · rw [decide_eq_false c]
    refine Bool.eq_false_iff.mpr fun z => c ?_
    unfold eqvDict at z
    obtain ⟨z1, z2⟩ := Bool.and_eq_true_iff.mp z
    have hl : es.length = fs.length := by
      have := of_decide_eq_true z1
      unfold datE at this
      rwa [List.length_map, List.length_map] at this
    have hm : ∀ e ∈ es, e ∈ fs := fun e he => by
      have q := List.all_eq_true.mp z2 _ (List.mem_map.mpr ⟨e, he, rfl⟩)
      unfold hitD at q
      cases v : valD (datE fs) (.inr e.1) with
      | none =>
        have q : (match valD (datE fs) (.inr e.1) with | none => false | some d => PyData.eqv _ d) = true := q
        rw [v] at q
        cases q
      | some d =>
        obtain ⟨f, hf, e1, e2⟩ := valD_mem v
        have q : (match valD (datE fs) (.inr e.1) with | none => false | some d => PyData.eqv _ d) = true := q
        rw [v] at q
        rw [e2] at q
        have q : PyData.eqv _ _ = true := q
        rw [eqv_head] at q
        have q := of_decide_eq_true q
        have : e = f := by
          obtain ⟨a, b, d⟩ := e
          obtain ⟨a', b', d'⟩ := f
          simp only [Prod.mk.injEq] at q e1 ⊢
          exact ⟨e1.symm, by first | exact q.1 | exact q.1.symm, by first | exact q.2 | exact q.2.symm⟩
        rw [this]
        exact hf
    have kp : (es.map (·.1)).Perm (fs.map (·.1)) := by
      refine sub_perm n1 (fun k hk => ?_) (by rw [List.length_map, List.length_map, hl]; exact Nat.le_refl _)
      obtain ⟨e, he, rfl⟩ := List.mem_map.mp hk
      exact List.mem_map.mpr ⟨e, hm e he, rfl⟩
    exact ents_eq (sort_uniq s1 s2 kp) n2 hm
/-! ### operators by one of two rules -/
theorem op_or {X : Cx} {f : Value → Value → Sem Value} {r1 r2 : R2} (h1 : OpR X f r1) (h2 : OpR X f r2) : OpR X f (fun x y H Q => r1 x y H Q ∨ r2 x y H Q) := fun pins s σ H x y v u Q I rx ry h => h.elim (h1 pins s σ H x y v u Q I rx ry) (h2 pins s σ H x y v u Q I rx ry)
theorem op_mono {X : Cx} {f : Value → Value → Sem Value} {r1 r2 : R2} (h : OpR X f r1) (k : ∀ x y H Q, r2 x y H Q → r1 x y H Q) : OpR X f r2 := fun pins s σ H x y v u Q I rx ry q => h pins s σ H x y v u Q I rx ry (k x y H Q q)
end Fk

set_option maxHeartbeats 4000000
namespace Fk
open PySem PySem.Spec PyProof.Rows L2
theorem eqv_selfL : ∀ ys : List Str, PyData.eqvAll (ys.map PyData.str) (ys.map PyData.str) = true
  | [] => rfl
  | y :: l => by
    show (PyData.eqv (.str y) (.str y) && PyData.eqvAll (l.map PyData.str) (l.map PyData.str)) = true
    rw [eqv_selfL l, Bool.and_true]
    show decide (y = y) = true
    exact decide_eq_true rfl
def confD (ys : List Str) : PyData := .tuple [.str "conflict", .tuple (ys.map PyData.str)]
theorem eqv_conf (ys : List Str) : PyData.eqv (confD ys) (confD ys) = true := by
  show (PyData.eqv (.str "conflict") (.str "conflict") && (PyData.eqvAll (ys.map PyData.str) (ys.map PyData.str) && true)) = true
  rw [eqv_selfL]
  rfl
theorem shaped_conf {ys : List Str} (h : ∀ y ∈ ys, OkS y) : SeqAt.shaped (confD ys) = true := by
  have d : PyData.depthAll (ys.map PyData.str) = 0 := by
    clear h
    induction ys with
    | nil => rfl
    | cons y l ih =>
      show max (PyData.depth (.str y)) (PyData.depthAll (l.map PyData.str)) = 0
      rw [ih]
      rfl
  have c : PyData.canLay0 (confD ys) = true := by
    have oc : OkS "conflict" := ok_by (by decide +kernel)
    have l1 : PyData.strOk "conflict" = true := strOk_of oc
    have l2 := lay_strs ys h
    simp only [confD, PyData.canLay0, PyData.canLayAll0, l1, l2, Bool.and_true]
  unfold SeqAt.shaped
  rw [c, Bool.true_and]
  simp [confD, PyData.depth, PyData.depthAll, d]
def rNeDue (K : PySem.W.Frag) : R2 := fun x y H Q => ∃ o, DueV K H x o ∧ DueV K H y o ∧ Q (.bl false) H
theorem op_neDue {X : Cx} {K : PySem.W.Frag} (e : X.K = K) (hu : X.A.units + 66 < cLine) : OpR X (compareOp .NotEq) (rNeDue K) := by
  subst e
  refine op_mono (op_or (op_neDD hu) (op_neD (by omega))) fun x y H Q h => ?_
  obtain ⟨o, a, b, q⟩ := h
  cases o with
  | files g =>
    obtain ⟨e1, rfl, a, _⟩ := a
    obtain ⟨e2, rfl, b, _⟩ := b
    exact .inl (files_ne (c := true) a b ⟨fun _ => rfl, fun _ => rfl⟩ q)
  | conf S =>
    obtain ⟨p1, q1, ys, rfl, h1, h2, s1, n1, l1, m1, k1⟩ := a
    obtain ⟨p2, q2, zs, rfl, g1, g2, s2, n2, l2, m2, k2⟩ := b
    have pz : ys.Perm zs := (List.perm_ext_iff_of_nodup n1 n2).mpr fun x => (k1 x).trans (k2 x).symm
    obtain rfl := sort_uniq s1 s2 pz
    have ok : ∀ y ∈ ys, OkS y := fun y hy => (menu_ok y (m1 y hy)).2.2
    refine .inr ⟨confD ys, confD ys, .tup (SqT.of h1) (.cons (.str _) (.cons (.tup (SqT.of h2) (dp_strs ys)) .nil)), .tup (SqT.of g1) (.cons (.str _) (.cons (.tup (SqT.of g2) (dp_strs ys)) .nil)), shaped_conf ok, shaped_conf ok, ?_⟩
    rw [eqv_conf]
    exact q

end Fk

set_option maxHeartbeats 4000000
/-! Where an exception is handled: errors whose context is told, classes made, methods, properties, an empty dict's comprehension. -/
namespace Fk
open PySem PySem.Spec PyProof.Rows L2
open L2H (RoomH HotC FnH Hot1 PinOk cxH)
/-! ### an error made to be raised, its context told -/
section
variable {X : Cx} {nm f : Str} {C fI : Addr} {e : Expr} {es : List Expr} {t : TA} {p pos : Pos}
theorem rs_ofN (T : ErrC X.K X.mg nm f C fI) (hr : Room 2 X.A) (hg : Gl X nm) (ha : PA X (e :: es) t) (hdb : (nm == ("__debug__" : Str)) = false := by decide)
    (he : starEach (e :: es) X.env = (false, eval e X.env) :: starEach es X.env := by rfl) (hpl : (backTo pos (starEach es X.env)).any (·.1) = false := by rfl) :
    L2N.PMk X (.Call (.Name nm p) (e :: es) [] pos) (tMkO C (spErr X.K f) [] t) := by
  obtain ⟨fd, FI, bI⟩ := T.ini
  have F1 := FI X.prog X.w X.base
  intro pn s σ H Q I h
  obtain ⟨B, newId, initId, bmB, cn, cq, N, bs, bm, sn, sub, ab, col, dd, k0, k1, k2, k3, k5, FB, ok, _, _, hC⟩ := T.xc.cls
  refine wpAny_Call_Name_kw (ld_glob I hg T.mgc ?_ hdb)
  refine PySem.W.callWith_K (h₀ := X.base) I.ok.mod.kin T.xc.kC (thn (ha.run pos pn s σ H _ I h) fun us sA ⟨vs, HA, IA, rA, zA, qA⟩ => ⟨IA.kIn, ?_⟩) he hpl
  show wpAny _ _ (call (.ref C) us) _ _ _
  obtain ⟨hp, g, dr, tk, os⟩ := sA
  have szE : hp.objs.size ≤ hp.objs.size + 1 := Nat.le_succ _
  have noE : HA (hp.objs.size + 1) = none := IA.hok.fresh szE
  have qE := qA (hp.objs.size + 1) noE
  rw [List.append_nil] at qE
  have stays : ∀ b o, hp.get? b = some o → ((hp.push (PySem.W.kdv_tup us)).push (PySem.HandSPX.excO C hp.objs.size)).get? b = some o := fun b o z => Heap.get?_push_of_some _ (Heap.get?_push_of_some _ z)
  have atE : ((hp.push (PySem.W.kdv_tup us)).push (PySem.HandSPX.excO C hp.objs.size)).get? (hp.objs.size + 1) = some (PySem.HandSPX.excO C hp.objs.size) := by heap_get
  have IB : Inv X pn σ (upd HA (hp.objs.size + 1) (exo (hp.objs.size + 1) C none)) ⟨(hp.push (PySem.W.kdv_tup us)).push (PySem.HandSPX.excO C hp.objs.size), g, dr, tk, os⟩ :=
    IA.laid (t' := tk) (a := hp.objs.size + 1) (o := exo (hp.objs.size + 1) C none) (h' := (hp.push (PySem.W.kdv_tup us)).push (PySem.HandSPX.excO C hp.objs.size)) stays szE (exo_ok atE)
  have rB : Vals (V.ref (hp.objs.size + 1) :: vs) (Value.ref (hp.objs.size + 1) :: us) := .cons rfl rA
  have lB : (Value.ref (hp.objs.size + 1) :: us ++ []).length = [("self" : Str), f].length := by
    rw [List.append_nil, ← F1.len _ _ _ _ qE]
    exact rB.length.symm
  have usz : us.length ≤ sizeLine := by
    rw [← Paired.length rA, sizeLine_eq]; omega
  have bB := bI _ (Value.ref (hp.objs.size + 1) :: us) IB.kIn lB
  rw [List.append_nil] at bB
  refine wpAny_call (xcall FB ok (IA.kIn _ _ hC) (PySem.W.looks_findIn IA.kIn T.xc.iC) (fun self => PySem.W.bind_fn IA.kIn self T.xc.tI) usz
    (codeAny_mono (F1.run _ X.stack _ _ ⟨Value.ref (hp.objs.size + 1) :: us, []⟩ (Value.ref (hp.objs.size + 1) :: us) _ _ (fun _ _ _ => False) (hr.make C us []) (IB.env0.make C us []) bB rB qE) fun r s' z => ?_))
  rcases r with er | (_ | _ | _ | u)
  · exact absurd z id
  · exact z.elim
  · exact z.elim
  · exact z.elim
  · obtain ⟨v, HB, osB, bareB, unB, okB, rvB, ev, d, fs, ea, ed, nd, qB⟩ := z
    subst ev
    obtain ⟨hB, gB, dB, tB, osC⟩ := s'
    obtain ⟨t0, G, J, kG, ge, hoe, na⟩ := mk_end0 (d2 := dB) (t2 := tB) IA szE stays unB okB osB bareB ea ed nd
    exact ⟨rvB, hp.objs.size + 1, _, _, ⟨G, gB, dB, tB, osC⟩, _, .ref C, some d, rfl, J, kG, ge, hoe, ⟨rfl, rfl, fun ws hw => by cases hw; rfl⟩, rfl, rfl, na, rfl, bareB, raises_own T.ox.exC T.ox.tyC, qB⟩
end
/-- a method that may let errors out whose context is None -/
theorem metN_of {P : Program} {w : World} {K : PySem.W.Frag} {mg : Str → Option Value} {base : Heap} {m qual : Str} {C : Addr} {st : Stmt} {N ps : List Str} {k : Nat} {sp : Sp} (c : Cls K C) (D : MDef K C m qual st) (S : FnScope N ps (C8.fnScope st))
    (hb : ∀ (kV doc pm : Value) (an : Option Addr) (cdv ct : Value) (us : List Value), us.length = ps.length → bindArgs (PySem.W.fnOf m qual (C8.fnArgs st) (C8.fnBody st) (C8.fnScope st) .none kV doc pm an cdv ct) ⟨us, []⟩ = pure (ps.zip us))
    (len : ∀ vs H Q E, sp vs H Q E → vs.length = ps.length)
    (hbody : ∀ (f : Addr) (cdv : Value) (A : Around) (outer : List Env) (s : Shared) (H : Hp) (vs : List V) (Q : VK) (E : XK), Room k (A.deeper (envOfC qual (C8.fnScope st) s.heap.objs.size f cdv)) → sp vs H Q E →
      ∃ t, PSs (cxOf (L2N.CX P w) P w K mg base N qual (C8.fnScope st) f cdv A outer s H E) (C8.fnBody st) t ∧ t { nx := fun _ H' => Q .non H', rt := Q } (start N vs) H) : MetX P w K mg base (L2N.CX P w) (k + 1) C m sp [] := by
  obtain ⟨f, fd, F, M, df⟩ := D.ex
  obtain ⟨oc, od, dV, kV, doc, pm, an, cdv, ct, osl, rfl, lk, hcd⟩ := F.ex
  exact ⟨f, _, ps, [], c, M, fn_of lk hcd S len fun A outer s H vs Q E hr hsp => hbody f cdv A outer s H vs Q E hr hsp, F.binds df hb, .nil⟩
/-! ### rooms -/
theorem RoomH.in1 {k : Nat} {A : Around} (r : RoomH (k + 1) A) : RoomH k A.in1 := ⟨by have := r.dp; show A.depth + 3 * k + 5 < _; omega, by have := r.un; show A.units + 1 + 16 * k + 200 < _; omega⟩
theorem RoomH.units {k : Nat} {A : Around} (r : RoomH k A) : A.units + 64 < cLine := by have := r.un; omega
/-! ### what may be called there -/
structure CalH (P : Program) (w : World) (K : PySem.W.Frag) (mg : Str → Option Value) (base : Heap) (k : Nat) (x : Str) (sp : Sp) : Prop where
  ex : ∃ (f : Addr) (fd : FuncData) (ps : List Str), FnH P w K mg base C8.CX0 k f fd ps sp ∧ mg x = some (.ref f) ∧ PySem.W.keepIn K (.ref f) = true ∧ Binds K fd ps []
structure MetH (P : Program) (w : World) (K : PySem.W.Frag) (mg : Str → Option Value) (base : Heap) (k : Nat) (C : Addr) (m : Str) (sp : Sp) : Prop where
  ex : ∃ (f : Addr) (fd : FuncData) (ps : List Str), Cls K C ∧ Meth K C m f ∧ FnH P w K mg base C8.CX0 k f fd ps sp ∧ Binds K fd ps []
structure MakH (P : Program) (w : World) (K : PySem.W.Frag) (mg : Str → Option Value) (base : Heap) (k : Nat) (x : Str) (C : Addr) (sp : Sp) (dvs : List V) : Prop where
  ex : ∃ (f : Addr) (fd : FuncData) (ps : List Str) (ds : List Value), Mk K C f ∧ FnH P w K mg base C8.CX0 k f fd ps sp ∧ mg x = some (.ref C) ∧ Binds K fd ps ds ∧ Vals dvs ds
structure PrpH (P : Program) (w : World) (K : PySem.W.Frag) (mg : Str → Option Value) (base : Heap) (k : Nat) (C : Addr) (f : Str) (sp : Sp) : Prop where
  ex : ∃ (p g : Addr) (fd : FuncData) (ps : List Str), Cls K C ∧ PropOf K C f p g ∧ FnH P w K mg base C8.CX0 k g fd ps sp ∧ Binds K fd ps []
section
variable {P : Program} {w : World} {K : PySem.W.Frag} {mg : Str → Option Value} {base : Heap}
/-- a def by its body, run while an exception is handled -/
theorem fnH1 {x qual : Str} {st : Stmt} {f : Addr} {fd : FuncData} {N ps : List Str} {k : Nat} {sp : Sp} (F : C8.Fun K x qual st f fd) (S : FnScope N ps (C8.fnScope st)) (len : ∀ vs H Q E, sp vs H Q E → vs.length = ps.length)
    (hbody : ∀ (cdv : Value) (A : Around) (outer : List Env) (s : Shared) (H : Hp) (vs : List V) (Q : VK) (E : XK) (p : Addr × Obj), RoomH k (A.deeper (envOfC qual (C8.fnScope st) s.heap.objs.size f cdv)) →
      HotC (cxH C8.CX0 P w K mg base N qual (C8.fnScope st) f cdv A outer s H E p) → sp vs H Q E →
      ∃ t, PSs (cxH C8.CX0 P w K mg base N qual (C8.fnScope st) f cdv A outer s H E p) (C8.fnBody st) t ∧ t { nx := fun _ H' => Q .non H', rt := Q } (L2.start N vs) H) : FnH P w K mg base C8.CX0 (k + 1) f fd ps sp := by
  obtain ⟨oc, od, dV, kV, doc, pm, an, cdv, ct, osl, rfl, lk, hcd⟩ := F.ex
  exact L2H.fn_ofH lk hcd S len fun A outer s H vs Q E p hot hr hsp => hbody cdv A outer s H vs Q E p hr ⟨p, ⟨hot.1, hot.2⟩, List.mem_cons_self⟩ hsp
theorem calH_of {x : Str} {st : Stmt} {N ps : List Str} {k : Nat} {sp : Sp} (D : IsDef K mg x st) (S : FnScope N ps (C8.fnScope st))
    (hb : ∀ (kV doc pm : Value) (an : Option Addr) (cdv ct : Value) (us : List Value), us.length = ps.length → bindArgs (PySem.W.fnOf x x (C8.fnArgs st) (C8.fnBody st) (C8.fnScope st) .none kV doc pm an cdv ct) ⟨us, []⟩ = pure (ps.zip us))
    (len : ∀ vs H Q E, sp vs H Q E → vs.length = ps.length)
    (hbody : ∀ (f : Addr) (cdv : Value) (A : Around) (outer : List Env) (s : Shared) (H : Hp) (vs : List V) (Q : VK) (E : XK) (p : Addr × Obj), RoomH k (A.deeper (envOfC x (C8.fnScope st) s.heap.objs.size f cdv)) →
      HotC (cxH C8.CX0 P w K mg base N x (C8.fnScope st) f cdv A outer s H E p) → sp vs H Q E →
      ∃ t, PSs (cxH C8.CX0 P w K mg base N x (C8.fnScope st) f cdv A outer s H E p) (C8.fnBody st) t ∧ t { nx := fun _ H' => Q .non H', rt := Q } (L2.start N vs) H) : CalH P w K mg base (k + 1) x sp := by
  obtain ⟨f, fd, D, df⟩ := D
  exact ⟨f, fd, ps, fnH1 D.fn S len (hbody f), D.mgf, D.kp, D.fn.binds df hb⟩
theorem metH_of {m qual : Str} {C : Addr} {st : Stmt} {N ps : List Str} {k : Nat} {sp : Sp} (c : Cls K C) (D : MDef K C m qual st) (S : FnScope N ps (C8.fnScope st))
    (hb : ∀ (kV doc pm : Value) (an : Option Addr) (cdv ct : Value) (us : List Value), us.length = ps.length → bindArgs (PySem.W.fnOf m qual (C8.fnArgs st) (C8.fnBody st) (C8.fnScope st) .none kV doc pm an cdv ct) ⟨us, []⟩ = pure (ps.zip us))
    (len : ∀ vs H Q E, sp vs H Q E → vs.length = ps.length)
    (hbody : ∀ (f : Addr) (cdv : Value) (A : Around) (outer : List Env) (s : Shared) (H : Hp) (vs : List V) (Q : VK) (E : XK) (p : Addr × Obj), RoomH k (A.deeper (envOfC qual (C8.fnScope st) s.heap.objs.size f cdv)) →
      HotC (cxH C8.CX0 P w K mg base N qual (C8.fnScope st) f cdv A outer s H E p) → sp vs H Q E →
      ∃ t, PSs (cxH C8.CX0 P w K mg base N qual (C8.fnScope st) f cdv A outer s H E p) (C8.fnBody st) t ∧ t { nx := fun _ H' => Q .non H', rt := Q } (L2.start N vs) H) : MetH P w K mg base (k + 1) C m sp := by
  obtain ⟨f, fd, F, M, df⟩ := D.ex
  exact ⟨f, fd, ps, c, M, fnH1 F S len (hbody f), F.binds df hb⟩
theorem prpH_of {f qual : Str} {C : Addr} {st : Stmt} {N ps : List Str} {k : Nat} {sp : Sp} (c : Cls K C) (D : PDef K C f qual st) (S : FnScope N ps (C8.fnScope st))
    (hb : ∀ (kV doc pm : Value) (an : Option Addr) (cdv ct : Value) (us : List Value), us.length = ps.length → bindArgs (PySem.W.fnOf f qual (C8.fnArgs st) (C8.fnBody st) (C8.fnScope st) .none kV doc pm an cdv ct) ⟨us, []⟩ = pure (ps.zip us))
    (len : ∀ vs H Q E, sp vs H Q E → vs.length = ps.length)
    (hbody : ∀ (g : Addr) (cdv : Value) (A : Around) (outer : List Env) (s : Shared) (H : Hp) (vs : List V) (Q : VK) (E : XK) (p : Addr × Obj), RoomH k (A.deeper (envOfC qual (C8.fnScope st) s.heap.objs.size g cdv)) →
      HotC (cxH C8.CX0 P w K mg base N qual (C8.fnScope st) g cdv A outer s H E p) → sp vs H Q E →
      ∃ t, PSs (cxH C8.CX0 P w K mg base N qual (C8.fnScope st) g cdv A outer s H E p) (C8.fnBody st) t ∧ t { nx := fun _ H' => Q .non H', rt := Q } (L2.start N vs) H) : PrpH P w K mg base (k + 1) C f sp := by
  obtain ⟨p, g, fd, hp, F, df⟩ := D.ex
  exact ⟨p, g, fd, ps, c, hp, fnH1 F S len (hbody g), F.binds df hb⟩
end
/-! ### the rules -/
section
variable {X : Cx} {k j : Nat} {f g C a : Addr} {fd : FuncData} {ps : List Str} {sp : Sp} {dvs : List V} {ds : List Value} {x m n : Str} {p pos apos : Pos} {e o : Expr} {es : List Expr} {ta : TE} {t : TA}
theorem pin_of {pn : List (Addr × Obj)} {σ : L2.St} {H : Hp} {s : Shared} {q : Addr × Obj} (I : Inv X pn σ H s) (hq : q ∈ X.pn) : PinOk X.stack H s q := by
  have z := I.pin q (List.mem_append_left _ hq)
  exact ⟨z.1, z.2.1, fun y => (List.mem_cons.mp (I.stkSub q.1 y)).elim z.2.2.1 z.2.2.2.1, z.2.2.2.2⟩
/-- the callee runs, an exception handled around it -/
theorem run_hot {pn : List (Addr × Obj)} {σ : L2.St} {H : Hp} {s : Shared} {Q : VK} {A' : Around} {us : List Value} {vs : List V} (F : FnH X.prog X.w X.K X.mg X.base C8.CX0 k f fd ps sp) (hr : RoomH k A') (hc : HotC X) (hA : A'.handled = X.A.handled) (e0 : Env0 X.prog X.w X.K X.mg X.base A' X.stack s H)
    (hb : Binds X.K fd ps ds) (hd : Vals dvs ds) (I : Inv X pn σ H s) (r : Vals vs us) (h : sp (vs ++ dvs) H Q C8.E0) : codeAny (model X.prog X.w) A' (.call (.ref f) ⟨us, []⟩) (fun r s' => ∃ u, r = .ok (.ret u) ∧ EP X pn σ Q u s') s := by
  obtain ⟨q, hot, hq⟩ := hc
  have r2 : Vals (vs ++ dvs) (us ++ ds) := r.append hd
  have hl : (us ++ ds).length = ps.length := r2.length.symm.trans (F.len _ _ _ _ h)
  refine codeAny_mono (F.run A' X.stack s H ⟨us, []⟩ (us ++ ds) (vs ++ dvs) Q C8.E0 q hr ⟨hA.trans hot.1, hot.2⟩ (pin_of I hq) e0 (hb s us I.kIn hl) r2 h) fun r s' z => ?_
  rcases r with er | (_ | _ | _ | u)
  · exact absurd z id
  · exact z.elim
  · exact z.elim
  · exact z.elim
  · exact ⟨u, rfl, I.after z⟩
theorem call_hot {pn : List (Addr × Obj)} {σ : L2.St} {H : Hp} {s : Shared} {Q : VK} {E : Value → Shared → Prop} {us : List Value} {vs : List V} (F : FnH X.prog X.w X.K X.mg X.base C8.CX0 k f fd ps sp) (hr : RoomH k X.A) (hc : HotC X)
    (hb : Binds X.K fd ps ds) (hd : Vals dvs ds) (I : Inv X pn σ H s) (r : Vals vs us) (h : sp (vs ++ dvs) H Q C8.E0) : wpAny (model X.prog X.w) X.A (call (.ref f) us) (EP X pn σ Q) E s := by
  refine wpAny_call (codeAny_mono (run_hot F hr hc rfl I.env0 hb hd I r h) fun r s' z => ?_)
  obtain ⟨u, rfl, z⟩ := z
  exact z
theorem pe_cH (c : CalH X.prog X.w X.K X.mg X.base k x sp) (hr : RoomH j X.A) (hk : k ≤ j) (hc : HotC X) (hg : Gl X x) (ha : PA X (e :: es) t)
    (hdb : (x == ("__debug__" : Str)) = false := by decide) (he : starEach (e :: es) X.env = (false, eval e X.env) :: starEach es X.env := by rfl) (hpl : (backTo pos (starEach es X.env)).any (·.1) = false := by rfl) :
    PE X (.Call (.Name x p) (e :: es) [] pos) (tCall sp [] C8.E0 t) := by
  obtain ⟨f, fd, ps, F, hm, kp, b⟩ := c.ex
  refine ⟨fun pn s σ H Q I h => wpAny_Call_Name_kw (ld_glob I hg hm ?_ hdb)⟩
  refine PySem.W.callWith_K (h₀ := X.base) I.ok.mod.kin kp (thn (ha.run pos pn s σ H _ I h) fun us sA ⟨vs, HA, IA, rA, qA⟩ => ⟨IA.kIn, ?_⟩) he hpl
  exact call_hot F (hr.mono hk) hc b .nil IA rA qA
theorem pe_mtH0 {pl : Sem Bool} (c : MetH X.prog X.w X.K X.mg X.base k C m sp) (hr : RoomH j X.A) (hk : k ≤ j) (hc : HotC X) (he : PE X o ta)
    (ht : eval (.Call (.Attribute o m apos) [] [] pos) X.env = (do
      let ov ← eval o X.env
      standAt apos.atName
      let (f, first) ← holding [ov] (getMethod ov m pl)
      callWith pos f first (backTo pos (starEach [] X.env)) (backToKw pos (keywordEach [] X.env))) := by rfl) :
    PE X (.Call (.Attribute o m apos) [] [] pos) (tMeth C m sp [] C8.E0 ta tNil) := by
  obtain ⟨f, fd, ps, cl, hm, F, b⟩ := c.ex
  refine ⟨fun pn s σ H Q I h => ?_⟩
  refine PySem.W.methodCall_KW (pl := pl) (thn (he.run pn s σ H _ I h) fun u sA ⟨y, HA, IA, rA, a, dx, fs, ex, ea, l, q⟩ => ?_) ht
  subst ex
  obtain rfl : u = Value.ref a := rA
  refine getmeth_ok IA ea cl hm l (PySem.W.callWith_K0 (first := [.ref a]) IA.kIn hm.kp ?_)
  exact call_hot (us := [.ref a]) (vs := [.ref a]) F (hr.mono hk) hc b .nil IA (.cons rfl .nil) q
theorem pe_mkH0 (c : MakH X.prog X.w X.K X.mg X.base k x C sp dvs) (hr : RoomH j X.A) (hk : k + 1 ≤ j) (hc : HotC X) (hg : Gl X x) (hdb : (x == ("__debug__" : Str)) = false := by decide) : PE X (.Call (.Name x p) [] [] pos) (tMake C sp dvs C8.E0 tNil) := by
  obtain ⟨f, fd, ps, ds, M, F, hm, b, d⟩ := c.ex
  refine ⟨fun pn s σ H Q I h => wpAny_Call_Name_kw (ld_glob I hg hm (PySem.W.callWith_K0 I.kIn M.kp ?_) hdb)⟩
  have qN := h (s.heap.objs.size + 1) s.heap.objs.size (I.hok.fresh (Nat.le_succ _)) (I.hok.fresh (Nat.le_refl _)) (Nat.ne_of_lt (Nat.lt_succ_self _))
  have IM := Inv.made (C := C) I
  refine wpAny_call (make_map (f := f) I.kIn M.makes M.init (beq_iff_eq.mp M.fn) (codeAny_mono (run_hot (us := [Value.ref (s.heap.objs.size + 1)]) (vs := [V.ref (s.heap.objs.size + 1)]) F ((hr.mono hk).make C [] []) hc rfl (IM.env0.make C [] []) b d IM (.cons rfl .nil) qN) fun r s' z => ?_))
  obtain ⟨u, rfl, v, HB, IB, rv, ev, q⟩ := z
  subst ev
  exact ⟨rv, V.ref (s.heap.objs.size + 1), HB, IB, rfl, q⟩
theorem pe_prH (c : PrpH X.prog X.w X.K X.mg X.base k C n sp) (hr : RoomH j X.A) (hk : k + 1 ≤ j) (hc : HotC X) (he : PE X e ta) (hab : attributeBase e n X.env (eval e X.env) = eval e X.env := by rfl) : PE X (.Attribute e n pos) (tProp C sp [] C8.E0 ta) := by
  obtain ⟨pa, g, fd, ps, cl, hp, F, b⟩ := c.ex
  refine ⟨fun pn s σ H Q I h => attr_of hab (thn (he.run pn s σ H _ I h) fun u sA ⟨y, HA, IA, rA, a, dx, fs, ex, ea, q⟩ => ?_)⟩
  subst ex
  obtain rfl : u = Value.ref a := rA
  obtain ⟨mA, O, _, _, _, _⟩ := ins_get IA.hok ea
  obtain ⟨od, J, _⟩ := O.look
  obtain ⟨rest, hrec⟩ := hp.rec_
  have IT := IA.tok (sA.toks + 1)
  have hcl : (PySem.W.clsIn X.K C).isSome = true := by
    obtain ⟨cd, hcd, _⟩ := PySem.W.any_some cl.hd
    rw [hcd] <;> rfl
  refine PySem.W.get_bind IA.kIn J (PySem.W.plainGet_of (cl.get n)).1 (PySem.W.findObj_data hcl hp.at_ hp.get hp.tak) (PySem.W.plainGet_of (cl.get n)).2 (wpAny_call (PySem.W.prop_get (s := { sA with toks := sA.toks + 1 }) IA.kIn hrec ?_))
  refine codeAny_mono (run_hot (A' := X.A.in1) (us := [.ref a]) (vs := [.ref a]) F (RoomH.in1 (hr.mono hk)) hc rfl IT.env0.in1 b .nil IT (.cons rfl .nil) q) fun r s' z => ?_
  obtain ⟨v, rfl, w, HB, IB, rv, qB⟩ := z
  show wpAny _ _ (handedOut v) _ _ _
  rw [PySem.W.handedOut_of (handed_of rv)]
  exact wpAny_pure ⟨w, HB, IB, rv, qB⟩
end
end Fk

set_option maxHeartbeats 4000000
/-! A comprehension over an empty dict where an exception is handled. -/
namespace Fk
open PySem PySem.Spec PyProof.Rows L2
open L2H (RoomH HotC FnH Hot1 PinOk cxH)
section
variable {prog : Program} {w : World} {A : Around} {E : Value → Shared → Prop} {s : Shared}
theorem keys_end_hot {it d x1 : Addr} {i n ep : Nat} {od : Obj} {es : Array DictEntry} {Q : Option Value → Shared → Prop} (hot : HotX.HotAt A x1 s.heap) (hne : x1 ≠ it) (hit : s.heap.IsKeyIter it d i n ep) (hod : s.heap.get? d = some od) (hdd : od.data = .dict es ep)
    (hsz : es.size = n) (hge : n ≤ i) (hQ : ∀ h', (∀ b o, b ≠ it → s.heap.get? b = some o → h'.get? b = some o) → Q none { s with heap := h' }) : wpAny (model prog w) A (pyNext (.ref it)) Q E s := by
  obtain ⟨hh, o1, vs1, g1, d1, c1⟩ := hot
  obtain ⟨oi, goi, coi, doi⟩ := id hit
  have hge' : es.size ≤ i := by omega
  unfold pyNext
  refine wpAny_bind (wpAny_attempt (wpAny_callSpecial?_slot (name := Str.ofString "__next__") hit.typeIs F.slot_dict_keyiterator_next (wpAny_call_entry F.slot_dict_keyiterator_next hit.typeIs F.entry_dict_keyiterator_next ?_ (F.args_dict_keyiterator_next_1 _))))
  refine wpAny_bind (wpAny_pure (wpAny_bind (wpAny_bind ?_)))
  first | refine wpAny_bind (wpAny_typeNameOfWhole_keyiter hit.typeIs (wpAny_pure (wpAny_bind (wpAny_fieldsOf goi doi ?_)))) | refine wpAny_bind (wpAny_typeNameOf_keyiter hit.typeIs (wpAny_pure (wpAny_bind (wpAny_fieldsOf goi doi ?_))))
  simp only [show Builtin.Dict_items.ownsTuple "dict_keyiterator" = false from by decide, Bool.false_eq_true, if_false]
  show wpAny _ _ (if (Value.ref d == Value.none) = true then _ else _) _ _ s
  rw [if_neg (show ¬ ((Value.ref d == Value.none) = true) from Bool.false_ne_true)]
  refine wpAny_bind (wpAny_pure (wpAny_bind (wpAny_dictEntries hod hdd ?_)))
  rw [if_neg (by rw [hsz]; simp)]
  refine wpAny_bind (wpAny_pure (wpAny_bind (wpAny_dictEpoch hod hdd ?_)))
  rw [if_neg (by simp)]
  refine wpAny_pure ?_
  simp only [show ¬ ((i : Int) < 0) from by omega, if_false, Int.toNat_natCast, Array.getElem?_eq_none hge']
  refine wpAny_bind ?_
  first | refine wpAny_bind (wpAny_typeNameOfWhole_keyiter hit.typeIs (wpAny_pure ?_)) | refine wpAny_bind (wpAny_typeNameOf_keyiter hit.typeIs (wpAny_pure ?_))
  show wpAny _ _ (setField (.ref it) 0 .none >>= fun _ => _) _ _ s
  refine wpAny_bind (wpAny_setField goi doi (by simp) ?_)
  show wpAny _ _ (newExc (.type "StopIteration") [] >>= fun _ => _) _ _ _
  refine wpAny_bind ?_
  simp only [newExc, newTuple]
  refine wpAny_bind (wpAny_newObj_type ?_ (by size_fits))
  refine wpAny_bind (m := firstArgMember _ _) (wpAny_of_eq (a := Value.none) (by first | rfl | (simp only [firstArgMember]; rfl)) ?_)
  refine wpAny_newObj_type ?_ (by size_fits)
  have k1 : ∀ {b : Addr} {o : Obj} {h : Heap} {f : Obj → Obj}, b ≠ it → h.get? b = some o → (h.update it f).get? b = some o := fun {b o h f} nb e => by
    rw [Heap.get?_update_other _ _ (Ne.symm nb)]
    exact e
  have gx := k1 (f := (Obj.mapFields (·.setIfInBounds 0 .none))) hne g1
  refine HotX.raiseNew_hot ⟨hh, o1, vs1, Heap.get?_push_of_some _ (Heap.get?_push_of_some _ gx), d1, c1⟩ (Nat.ne_of_lt (Heap.lt_size (Heap.get?_push_of_some _ gx))) (Heap.get?_push_size _ rfl) rfl (by first | (simp; done) | (simp; omega)) ?_
  refine wpAny_bind (wpAny_isInstance (T := "StopIteration") (b := true) ⟨_, Heap.get?_update_self _ (Heap.get?_push_size _ rfl) rfl, rfl⟩ isSubtype_stop (wpAny_pure (hQ _ fun b o nb e => ?_)))
  have gb := k1 (f := (Obj.mapFields (·.setIfInBounds 0 .none))) nb e
  rw [Heap.get?_update_other _ _ (Nat.ne_of_gt (Heap.lt_size (Heap.get?_push_of_some _ gb)))]
  exact Heap.get?_push_of_some _ (Heap.get?_push_of_some _ gb)
end
section
variable {X : Cx}
/-- a list comprehension over a locked dict that is empty -/
def tLc0 (td : TE) : TE := fun σ H Q => td σ H fun x H1 => ∃ (d : Addr) (o : Obj), x = .ref d ∧ H1 d = some (.frz o (.dK [])) ∧ ∀ D, H1 D = none → Q (.ref D) (upd H1 D (.lst []))
theorem pe_lc0H {elt tg iter : Expr} {ifs : List Expr} {scope : Scope} {own : List (Str × Nat)} {pos : Pos} {td : TE} (hc : HotC X) (he : PE X iter td) (ok : BlkOk X.N X.env.scope scope own)
    (hs : ∀ x, foldedSetIterable iter X.env x = pure x := by intro _; rfl) : PE X (.ListComp elt [⟨tg, iter, ifs, 0⟩] scope pos) (tLc0 td) := by
  refine ⟨fun pn s σ H Q I h => ?_⟩
  rw [eval_ListComp]
  obtain ⟨p, ⟨hh, v1, e1, c1⟩, hp⟩ := hc
  have clo : ∀ y ∈ scope.names, y.2 = .free → ∃ c, X.env.cells.lookup y.1 = some c := fun y hy e => (ok.free y hy e).elim (fun k => I.ok.has _ (.inl k)) (fun k => I.ok.has _ (.inr k))
  refine wpAny_comprehension_free (use := none) rfl hs (closure_ok clo) ok.kind (fun y hy e => by rw [ok.uniq y hy, e]) (thn (he.run pn s σ H _ I h) fun xv sA ⟨x, HA, IA, rA, d, o, ex, hd, q⟩ => ?_)
  subst ex
  obtain rfl : xv = Value.ref d := rA
  obtain ⟨nsys, gd, hx, es, ep, vs, hdt, hsz, kv, hm⟩ := IA.frzK hd
  refine iter_keys nsys gd hx hdt (wpAny_newObj_type (newEnv_comp ?_) (by show 0 ≤ sizeLine; decide))
  have szE : es.size = 0 := hsz
  generalize hi : sA.heap.objs.size = it
  generalize h2e : sA.heap.push { cls := .type "dict_keyiterator", data := .fields #[.ref d, .int 0 0, .int es.size 0, .int ep 0] } = h2
  have s2 : h2.objs.size = it + 1 := by rw [← h2e, Heap.size_push, hi]
  have k2 : ∀ b u, sA.heap.get? b = some u → h2.get? b = some u := fun b u e => by rw [← h2e]; exact Heap.get?_push_of_some _ e
  have it2 : h2.get? it = some { cls := .type "dict_keyiterator", data := .fields #[.ref d, .int 0 0, .int es.size 0, .int ep 0] } := by rw [← h2e, ← hi]; exact Heap.get?_push_size _ rfl
  have nIt : HA it = none := IA.hok.fresh (Nat.le_of_eq hi)
  have I2 : Inv X pn σ HA { sA with heap := h2 } := IA.kept (t' := sA.toks) k2
  have q1 := q (it + 1) (IA.hok.fresh (by rw [hi]; exact Nat.le_succ _))
  have eD : ({ sA with heap := h2 } : Shared).heap.objs.size = it + 1 := s2
  rw [eD]
  generalize h3e : h2.push { cls := .type "list", data := .seq ([] : List Value).toArray } = h3
  have s3 : h3.objs.size = it + 2 := by rw [← h3e, Heap.size_push, s2]
  have k3 : ∀ b u, h2.get? b = some u → h3.get? b = some u := fun b u e => by rw [← h3e]; exact Heap.get?_push_of_some _ e
  have I3 : Inv X pn σ (upd HA (it + 1) (.lst [])) { sA with heap := h3 } := I2.laid (t' := sA.toks) k3 (Nat.le_of_eq s2) ⟨Nat.zero_le _, [], 0, .nil, by rw [← h3e, ← s2]; exact Heap.get?_push_size _ rfl⟩
  have eC : ({ sA with heap := h3 } : Shared).heap.objs.size = it + 2 := s3
  generalize h4e : pushCells (h3.push { cls := .type "dict", data := .dict #[] }) scope.names = h4
  have k4 : ∀ b u, h3.get? b = some u → h4.get? b = some u := fun b u e => by rw [← h4e]; exact pushCells_keeps _ _ _ _ (Heap.get?_push_of_some _ e)
  have nsC : h4.Ns (it + 2) fun _ => none := by
    rw [← h4e, ← s3]
    exact Heap.Ns.keeps (Heap.Ns.new ..) fun b u e => pushCells_keeps _ _ _ _ e
  have I4 : Inv X pn σ (upd HA (it + 1) (.lst [])) { sA with heap := h4 } := I3.kept (t' := sA.toks) k4
  have nIt4 : (upd HA (it + 1) (.lst [])) it = none := by rw [upd_ne (Nat.ne_of_lt (Nat.lt_succ_self _))]; exact nIt
  have nC4 : (upd HA (it + 1) (.lst [])) (it + 2) = none := I3.hok.fresh (Nat.le_of_eq s3)
  obtain ⟨f0, f1, f2, f3, f4, f5⟩ := IA.fpOk (b := it) (Nat.le_of_eq hi) nIt4
  obtain ⟨g0, g1, g2, g3, g4, g5⟩ := I3.fpOk (b := it + 2) (Nat.le_of_eq s3) nC4
  have ki : h4.IsKeyIter it d 0 0 ep := ⟨_, k4 _ _ (k3 _ _ it2), rfl, by rw [szE] <;> rfl⟩
  have neit : p.1 ≠ it := f5 p (List.mem_append_left _ hp)
  have loop : ∀ (env : Env) (C' : Addr), C' = it + 2 → codeAny (model X.prog X.w) X.A (.compLoop (.ListComp elt [⟨tg, iter, ifs, 0⟩] scope pos) 0 (.ref it) (.ref (it + 1)) env) (compPost (model X.prog X.w) X.A X.xe none (EP X pn σ Q) (.ref (it + 1)) C') { sA with heap := h4 } := by
    intro env C' hC'
    rw [hC']
    refine compLoop_any (fun _ s' => s' = { sA with heap := h4 }) (fun n s' e => ?_) 0 rfl
    subst e
    refine keys_end_hot (x1 := p.1) ⟨hh, p.2, v1, (I4.pin p (List.mem_append_left _ hp)).1, e1, c1⟩ neit ki (k4 _ _ (k3 _ _ (k2 _ _ gd))) hdt szE (Nat.le_refl _) fun h5 k5 => ?_
    have I5 : Inv X pn σ (upd HA (it + 1) (.lst [])) { sA with heap := h5 } := Inv.turned (s := { sA with heap := h4 }) (t' := sA.toks) (it := it) I4 (fun b u hb e => k5 b u hb e) f0 f1 f3 f4 f5
    obtain ⟨oc, ec, pc, gc, rc⟩ := nsC
    refine ⟨fun _ => none, ⟨oc, ec, pc, k5 (it + 2) oc (Nat.ne_of_gt (Nat.lt_add_of_pos_right (by decide))) gc, rc⟩, fun h6 k6 => ?_⟩
    exact ⟨.ref (it + 1), _, Inv.turned (s := { sA with heap := h5 }) (t' := sA.toks) (it := it + 2) I5 (fun b u hb e => (k6.2 b hb).trans e) g0 g1 g3 g4 g5, rfl, q1⟩
  exact codeAny_compStart_list (loop _ _ eC) (wpAny_pyIter_keyiter ki (loop _ _ eC))
end
end Fk

set_option maxHeartbeats 4000000
/-! The end of a walk over a list where an exception is handled. -/
namespace Fk
open PySem PySem.Spec PyProof.Rows L2
open L2H (RoomH HotC FnH Hot1 PinOk cxH)
section
variable {prog : Program} {w : World} {A : Around} {E : Value → Shared → Prop} {s : Shared}
theorem list_end_hot {it l x1 : Addr} {i : Nat} {items : Array Value} {Q : Option Value → Shared → Prop} (hot : HotX.HotAt A x1 s.heap) (hne : x1 ≠ it) (hit : s.heap.IsListIter it l i) (hl : s.heap.IsList l items)
    (hge : items.size ≤ i) (hQ : ∀ h', (∀ b o, b ≠ it → s.heap.get? b = some o → h'.get? b = some o) → Q none { s with heap := h' }) : wpAny (model prog w) A (pyNext (.ref it)) Q E s := by
  obtain ⟨hh, o1, vs1, g1, d1, c1⟩ := hot
  obtain ⟨oi, goi, coi, doi⟩ := id hit
  obtain ⟨ol, gol, _, nl, dol⟩ := hl
  unfold pyNext
  refine wpAny_bind (wpAny_attempt (wpAny_callSpecial?_slot (name := Str.ofString "__next__") hit.typeIs slot_listiter_next (wpAny_call_entry slot_listiter_next hit.typeIs entry_listiter_next ?_ (args_listiter_next _))))
  show wpAny _ _ (field (.ref it) 0 >>= _) _ _ s
  refine wpAny_bind (wpAny_field goi doi (x := .ref l) rfl ?_)
  show wpAny _ _ (if (Value.ref l == Value.none) = true then _ else _) _ _ s
  rw [if_neg (show ¬ ((Value.ref l == Value.none) = true) from Bool.false_ne_true)]
  show wpAny _ _ (field (.ref it) 1 >>= _) _ _ s
  refine wpAny_bind (wpAny_field goi doi (x := .int i 0) rfl ?_)
  show wpAny _ _ (seqItems? (.ref l) >>= _) _ _ s
  refine wpAny_bind (wpAny_seqItems gol dol ?_)
  simp only [Int.toNat_natCast, Array.getElem?_eq_none hge]
  refine wpAny_bind (wpAny_rule (wpAny_bind (wpAny_setField goi doi (by simp) ?_)))
  show wpAny _ _ (newExc (.type "StopIteration") [] >>= _) _ _ _
  refine wpAny_bind ?_
  simp only [newExc, newTuple]
  refine wpAny_bind (wpAny_newObj_type ?_ (by size_fits))
  refine wpAny_bind (m := firstArgMember _ _) (wpAny_of_eq (a := Value.none) (by first | rfl | (simp only [firstArgMember]; rfl)) ?_)
  refine wpAny_newObj_type ?_ (by size_fits)
  have k1 : ∀ {b : Addr} {o : Obj} {h : Heap} {f : Obj → Obj}, b ≠ it → h.get? b = some o → (h.update it f).get? b = some o := fun {b o h f} nb e => by
    rw [Heap.get?_update_other _ _ (Ne.symm nb)]
    exact e
  refine HotX.raiseNew_hot ⟨hh, o1, vs1, Heap.get?_push_of_some _ (Heap.get?_push_of_some _ (k1 hne g1)), d1, c1⟩ (Nat.ne_of_lt (Heap.lt_size (Heap.get?_push_of_some _ (k1 hne g1)))) (Heap.get?_push_size _ rfl) rfl (by first | (simp; done) | (simp; omega)) ?_
  refine wpAny_bind (wpAny_isInstance (T := "StopIteration") (b := true) ⟨_, Heap.get?_update_self _ (Heap.get?_push_size _ rfl) rfl, rfl⟩ isSubtype_stop (wpAny_pure (hQ _ fun b o nb e => ?_)))
  rw [Heap.get?_update_other _ _ (Nat.ne_of_gt (Heap.lt_size (Heap.get?_push_of_some _ (k1 nb e))))]
  exact Heap.get?_push_of_some _ (Heap.get?_push_of_some _ (k1 nb e))
end
/-- a list's turns where an exception is handled: nothing of a turn but its end speaks of what is handled -/
theorem turn_listH {P : Program} {w : World} {K : PySem.W.Frag} {tg : Expr} (a it : Addr) : L2H.TurnH P w K tg (Itl K a) [it] it (fun i h => h.IsListIter it a i) where
  mem := (turn_list (P := P) (w := w) (K := K) (tg := tg) a it).mem
  obj := (turn_list (P := P) (w := w) (K := K) (tg := tg) a it).obj
  keep := (turn_list (P := P) (w := w) (K := K) (tg := tg) a it).keep
  self := (turn_list (P := P) (w := w) (K := K) (tg := tg) a it).self
  item := by
    intro X hP hw hK _ i pins s σ H E I hf st hg
    subst hP hw hK
    obtain ⟨xs, x, hq, hx⟩ := hg
    obtain ⟨its, rv, p, hz⟩ := I.list hq
    obtain ⟨u, hu, ru⟩ := rv.get hx
    obtain ⟨f0, f1, f2, f3, f4, f5⟩ := hf it List.mem_cons_self
    refine wpAny_pyNext_list_item st p.isList (x := u) (by simpa using hu) fun h' st' sb => ?_
    have I1 : Inv X pins σ H { s with heap := h' } := I.turned (t' := s.toks) (fun b o hb e => (sb.2 b hb).trans e) f0 f1 f3 f4 f5
    obtain ⟨o, e, c, d⟩ := id st'
    exact ⟨u, rfl, go_of (s := { s with heap := h' }) e c d (by decide) ⟨x, H, I1, ru, ⟨rfl, fun ys hy => by rw [I.list_inj hy hq]; exact hx⟩, st', fun b hb => (hf b hb).1⟩⟩
  done := by
    intro X hP hw hK hc i pins s σ H E I hf st hg
    subst hP hw hK
    obtain ⟨xs, hq, hx⟩ := hg
    obtain ⟨its, rv, p, hz⟩ := I.list hq
    obtain ⟨f0, f1, f2, f3, f4, f5⟩ := hf it List.mem_cons_self
    obtain ⟨q, ⟨hh, v1, e1, c1⟩, hp⟩ := hc
    have hl := rv.length
    have hq' := List.mem_append_left pins hp
    exact list_end_hot (x1 := q.1) ⟨hh, q.2, v1, (I.pin q hq').1, e1, c1⟩ (f5 q hq') st p.isList (by simp; omega) fun h' eb => ⟨rfl, I.turned (t' := s.toks) (fun b o hb e => eb b o hb e) f0 f1 f3 f4 f5⟩
/-- the keys of a locked dict -/
theorem turn_keysH {P : Program} {w : World} {K : PySem.W.Frag} {tg : Expr} {d : Addr} {o : Obj} {es : Array DictEntry} {ep : Nat} {kvs : List (Key × V)} (it : Addr) (hod : o.data = .dict es ep) : L2H.TurnH P w K tg (Itk d o kvs) [it] it (fun i h => h.IsKeyIter it d i kvs.length ep) where
  mem := List.mem_cons_self
  obj := (turn_keys (P := P) (w := w) (K := K) (tg := tg) (d := d) (kvs := kvs) it hod).obj
  keep := (turn_keys (P := P) (w := w) (K := K) (tg := tg) (d := d) (kvs := kvs) it hod).keep
  self := (turn_keys (P := P) (w := w) (K := K) (tg := tg) (d := d) (kvs := kvs) it hod).self
  item := by
    intro X hP hw hK _ i pins s σ H E I hf st hg
    subst hP hw hK
    obtain ⟨hd, hi⟩ := hg
    obtain ⟨f0, f1, f2, f3, f4, f5⟩ := hf it List.mem_cons_self
    obtain ⟨hs, hgd, hx, es', ep', vs, hdt, hsz, kv, hm⟩ := I.frzK hd
    obtain ⟨rfl, rfl⟩ := dict_ep hod hdt
    obtain ⟨⟨k, v⟩, hkv⟩ : ∃ p, kvs[i]? = some p := ⟨kvs[i], List.getElem?_eq_getElem hi⟩
    obtain ⟨u, hu, ru⟩ := kv_get kv hkv
    have hl : kvs.length = vs.length := Paired.length kv
    rw [hl] at st
    refine wpAny_pyNext_dict_item st hm hu fun key h' hkey st' sb => ?_
    have I1 : Inv X pins σ H { s with heap := h' } := I.turned (t' := s.toks) (fun b ob hb e => (sb.2 b hb).trans e) f0 f1 f3 f4 f5
    obtain ⟨oi, e, c, dd⟩ := id st'
    refine ⟨key, rfl, go_of (s := { s with heap := h' }) e c dd (by decide) ⟨kV k, H, I1, relV_key (show keyIs k key = true from hkey), ⟨rfl, k, v, hkv, rfl⟩, ?_, fun b hb => (hf b hb).1⟩⟩
    show h'.IsKeyIter it d (i + 1) kvs.length _
    rw [hl]
    exact st'
  done := by
    intro X hP hw hK hc i pins s σ H E I hf st hg
    subst hP hw hK
    obtain ⟨hd, hi⟩ := hg
    obtain ⟨f0, f1, f2, f3, f4, f5⟩ := hf it List.mem_cons_self
    obtain ⟨hs, hgd, hx, es', ep', vs, hdt, hsz, kv, hm⟩ := I.frzK hd
    obtain ⟨rfl, rfl⟩ := dict_ep hod hdt
    obtain ⟨q, ⟨hh, v1, e1, c1⟩, hp⟩ := hc
    have hq' := List.mem_append_left pins hp
    exact keys_end_hot (x1 := q.1) ⟨hh, q.2, v1, (I.pin q hq').1, e1, c1⟩ (f5 q hq') st hgd hdt hsz hi fun h' eb => ⟨rfl, I.turned (t' := s.toks) (fun b ob hb e => eb b ob hb e) f0 f1 f3 f4 f5⟩
section
variable {X : Cx} {tg : Expr}
theorem pi_oneH {pins : List (Addr × Obj)} {σ : L2.St} {H : Hp} {s : Shared} {R : It → Hp → Prop} {J : It} {tn : Nat → Heap → Prop} {ob : Obj} {tk : Nat} (I : Inv X pins σ H s)
    (T : L2H.TurnH X.prog X.w X.K tg J [s.heap.objs.size] s.heap.objs.size tn) (h0 : tn 0 (s.heap.push ob)) (q : R J H) : L2H.PIEH X pins σ tg R (.ref s.heap.objs.size) { s with heap := s.heap.push ob, toks := tk } := by
  refine ⟨s.heap.objs.size, [s.heap.objs.size], tn, J, H, rfl, I.kept (t' := tk) fun b o e => Heap.get?_push_of_some _ e, T, h0, fun b hb => ?_, q⟩
  rcases List.mem_cons.mp hb with e | e
  · subst e
    exact I.fpOk (Nat.le_refl _) (I.hok.fresh (Nat.le_refl _))
  · cases e
theorem pi_listH {l : Expr} {tl : TE} (hl : PE X l tl) : L2H.PIH X tg l (iList X.K tl) := by
  refine ⟨fun pins s σ H R I h => thn (hl.run pins s σ H _ I h) fun v s1 ⟨x, H1, I1, r1, q1⟩ => ?_⟩
  obtain ⟨a, e, ⟨xs, hq⟩, q⟩ := q1
  subst e
  cases r1
  obtain ⟨its, rv, p, hz⟩ := I1.list hq
  exact wpAny_pyIter_list p.isList (pi_oneH (tk := s1.toks) I1 (turn_listH a _) ⟨_, Heap.get?_push_size _ rfl, rfl, rfl⟩ q)
/-- a walk over a dict with plain keys -/
def iKeysH (td : TE) : TI := fun σ H R => td σ H fun x H1 => ∃ (d : Addr) (o : Obj) (kvs : List (Key × V)), x = .ref d ∧ H1 d = some (.frz o (.dK kvs)) ∧ R (Itk d o kvs) H1
theorem pi_keysH {e : Expr} {td : TE} (he : PE X e td) : L2H.PIH X tg e (iKeysH td) := by
  refine ⟨fun pins s σ H R I h => thn (he.run pins s σ H _ I h) fun u s1 ⟨x, H1, I1, rx, d, o, kvs, ex, hd, q⟩ => ?_⟩
  subst ex
  obtain rfl : u = Value.ref d := rx
  obtain ⟨hs, hgd, hx, es, ep, vs, hdt, hsz, kv, hm⟩ := I1.frzK hd
  refine iter_keys hs hgd hx hdt (pi_oneH (tk := s1.toks) I1 (turn_keysH _ hdt) ⟨_, Heap.get?_push_size _ rfl, rfl, ?_⟩ q)
  rw [hsz] <;> rfl
end
end Fk

set_option maxHeartbeats 4000000
/-! Comprehensions, tuples' walks, all([..]) and unpacking where an exception is handled. -/
namespace Fk
open PySem PySem.Spec PyProof.Rows L2
open L2H (RoomH HotC FnH Hot1 PinOk cxH)
/-! ### a comprehension's block: the handled exception stays pinned there -/
abbrev blkH (X : Cx) (s : Shared) (H : Hp) (scope : Scope) (cenv : Env) (fp : List Addr) : Cx := { X.blk s H scope cenv fp with pn := X.pn }
section
variable {X : Cx} {pins : List (Addr × Obj)} {σ : L2.St} {H : Hp} {s : Shared}
theorem block_startH {scope : Scope} {own : List (Str × Nat)} {fp : List Addr} (I : Inv X pins σ H s) (ok : BlkOk X.N X.env.scope scope own) (hN : X.N.Nodup) (hfp : ∀ b ∈ fp, FpOk X pins H b ∧ b < s.heap.objs.size) :
    Inv (blkH X s H scope (compEnvC scope (cellsFrom (s.heap.objs.size + 1) scope.names (cloFrom X.env.cells scope.names [])) s.heap.objs.size X.env) fp) [] (wipe σ (own.map (·.2))) H { s with heap := pushCells (s.heap.push { cls := .type "dict", data := .dict #[] }) scope.names } := by
  have B := block_start I ok hN hfp
  have k := B.ok
  refine ⟨⟨k.mod, k.kind, k.glob, k.blt, k.above, k.inj, k.has, k.cab, k.hd, k.frames, k.stk, k.exf, k.bs, k.bsz, k.noex, k.exfs, k.funs, k.frf⟩, B.os, B.bare, B.base, B.loc, B.cell, B.free, B.freeC, fun p hp => ?_, B.hok, B.len⟩
  have hq : p ∈ X.pn := (List.mem_append.mp (show p ∈ X.pn ++ [] from hp)).elim id fun z => absurd z List.not_mem_nil
  obtain ⟨z1, z2, z3, z4, z5⟩ := I.pin p (List.mem_append_left _ hq)
  exact ⟨pushCells_keeps _ _ _ _ (Heap.get?_push_of_some _ z1), z2, Nat.ne_of_lt (Heap.lt_size z1), fun y => (List.mem_cons.mp (I.stkSub p.1 y)).elim z3 z4, z5⟩
/-- a walked thing's objects are out of the block's reach -/
theorem fp_block {s3 : Shared} {H3 H' : Hp} {scope : Scope} {ce : Env} {fp : List Addr} {σ' : L2.St} {s' : Shared} (f3 : ∀ b ∈ fp, FpOk X pins H3 b) (J : Inv (blkH X s3 H3 scope ce fp) [] σ' H' s') (n : ∀ b ∈ fp, H' b = none) : ∀ b ∈ fp, FpOk (blkH X s3 H3 scope ce fp) [] H' b := fun b hb =>
  ⟨n b hb, (J.ok.exf b hb).1, J.ok.exfs b hb, .inl hb, fun x c e => (J.ok.exf b hb).2 x c e, fun p hp => (f3 b hb).2.2.2.2.2 p (List.mem_append_left _ ((List.mem_append.mp (show p ∈ X.pn ++ [] from hp)).elim id fun z => absurd z List.not_mem_nil))⟩
/-- what a turn leaves of the walk -/
theorem turn_left {s3 : Shared} {H3 H' : Hp} {scope : Scope} {ce : Env} {fp : List Addr} {σ8 : L2.St} {vs : List Nat} {s7 s' : Shared} {tg : Expr} {J : It} {it : Addr} {tn : Nat → Heap → Prop} {i : Nat}
    (T : L2H.TurnH X.prog X.w X.K tg J fp it tn) (st : tn i s7.heap) (hw : wipe σ8 vs = wipe σ vs) (K : Inv (blkH X s3 H3 scope ce fp) ([] ++ pinsAt fp s7.heap) σ8 H' s') :
    Inv (blkH X s3 H3 scope ce fp) [] (wipe σ vs) H' s' ∧ tn i s'.heap ∧ ∀ b ∈ fp, H' b = none := by
  have at' : ∀ b ∈ fp, ∀ o, s7.heap.get? b = some o → s'.heap.get? b = some o ∧ H' b = none := fun b hb o e => by
    have z := K.pin (b, o) (List.mem_append_right _ (List.mem_append_right _ (mem_pinsAt hb e)))
    exact ⟨z.1, z.2.1⟩
  refine ⟨(K.unpinned (pins := [])).weak (by rw [← hw, wipe_length]) fun j v e => ?_, T.keep _ _ _ st fun b hb o e => (at' b hb o e).1, fun b hb => ?_⟩
  · rw [← hw] at e
    exact (wipe_some e).1
  · obtain ⟨o, e, _⟩ := T.obj _ _ st b hb
    exact (at' b hb o e).2
end
/-! ### the comprehensions -/
section
variable {X : Cx}
theorem pe_lcH {elt tg iter : Expr} {ifs : List Expr} {scope : Scope} {own : List (Str × Nat)} {pos : Pos} {wi : TI} {g : TG} {tt : TT} {te : TE} (hc : HotC X) (hN : X.N.Nodup) (hi : L2H.PIH X tg iter wi) (ok : BlkOk X.N X.env.scope scope own)
    (hg : ∀ (s : Shared) (H : Hp) (C : Addr) (cl : List (Str × Addr)) (fp : List Addr), PG (blkH X s H scope (compEnvC scope cl C X.env) fp) tg g) (ht : ∀ (s : Shared) (H : Hp) (C : Addr) (cl : List (Str × Addr)) (fp : List Addr), PTs (blkH X s H scope (compEnvC scope cl C X.env) fp) ifs tt)
    (he : ∀ (s : Shared) (H : Hp) (C : Addr) (cl : List (Str × Addr)) (fp : List Addr), PE (blkH X s H scope (compEnvC scope cl C X.env) fp) elt te) (hs : ∀ x, foldedSetIterable iter X.env x = pure x := by intro _; rfl) :
    PE X (.ListComp elt [⟨tg, iter, ifs, 0⟩] scope pos) (tLc wi g tt te (own.map (·.2))) := by
  refine ⟨fun pins s σ H Q I h => ?_⟩
  rw [eval_ListComp]
  have clo : ∀ y ∈ scope.names, y.2 = .free → ∃ c, X.env.cells.lookup y.1 = some c := fun y hy e => (ok.free y hy e).elim (fun k => I.ok.has _ (.inl k)) (fun k => I.ok.has _ (.inr k))
  refine wpAny_comprehension_free (use := none) rfl hs (closure_ok clo) ok.kind (fun y hy e => by rw [ok.uniq y hy, e]) (thn (hi.run pins s σ H _ I h) fun xv s1 hx => thn hx fun itv s2 h2 => ?_)
  obtain ⟨it, fp, tn, J, H2, rfl, I2, T, st2, f2, q⟩ := h2
  refine wpAny_newObj_type (newEnv_comp ?_) (by show 0 ≤ sizeLine; decide)
  generalize hD : s2.heap.objs.size = D
  obtain ⟨W, ⟨m0, w0⟩, turn⟩ := q D (I2.hok.fresh (Nat.le_of_eq hD))
  generalize hs3 : ({ s2 with heap := s2.heap.push { cls := .type "list", data := .seq ([] : List Value).toArray } } : Shared) = s3
  have h3 : s3.heap = s2.heap.push { cls := .type "list", data := .seq ([] : List Value).toArray } := by rw [← hs3]
  have k3 : ∀ b o, s2.heap.get? b = some o → s3.heap.get? b = some o := fun b o e => by rw [h3]; exact Heap.get?_push_of_some _ e
  have I3 : Inv X pins σ (upd H2 D (.lst [])) s3 := by
    rw [← hs3]
    exact I2.laid (t' := s2.toks) (fun b o e => Heap.get?_push_of_some _ e) (Nat.le_of_eq hD) ⟨Nat.zero_le _, [], 0, .nil, by rw [← hD]; exact Heap.get?_push_size _ rfl⟩
  have lt : ∀ b ∈ fp, b < s2.heap.objs.size := fun b hb => by
    obtain ⟨o, e, _⟩ := T.obj _ _ st2 b hb
    exact Heap.lt_size e
  have f3 : ∀ b ∈ fp, FpOk X pins (upd H2 D (.lst [])) b := fun b hb => ⟨by rw [upd_ne (by rw [← hD]; exact Nat.ne_of_lt (lt b hb))]; exact (f2 b hb).1, (f2 b hb).2⟩
  have I4 := block_startH I3 ok hN fun b hb => ⟨f3 b hb, by rw [h3, Heap.size_push]; exact Nat.lt_succ_of_lt (lt b hb)⟩
  have pg := hg s3 (upd H2 D (.lst [])) s3.heap.objs.size (cellsFrom (s3.heap.objs.size + 1) scope.names (cloFrom X.env.cells scope.names [])) fp
  have pt := ht s3 (upd H2 D (.lst [])) s3.heap.objs.size (cellsFrom (s3.heap.objs.size + 1) scope.names (cloFrom X.env.cells scope.names [])) fp
  have pe := he s3 (upd H2 D (.lst [])) s3.heap.objs.size (cellsFrom (s3.heap.objs.size + 1) scope.names (cloFrom X.env.cells scope.names [])) fp
  show codeAny _ _ (.compStart (.ListComp elt [⟨tg, iter, ifs, 0⟩] scope pos) 0 (.ref it) (.ref D) (compEnvC scope (cellsFrom (s3.heap.objs.size + 1) scope.names (cloFrom X.env.cells scope.names [])) s3.heap.objs.size X.env)) (compPost (model X.prog X.w) X.A X.xe none (EP X pins σ Q) (.ref D) s3.heap.objs.size) { s3 with heap := pushCells (s3.heap.push { cls := .type "dict", data := .dict #[] }) scope.names }
  generalize hce : compEnvC scope (cellsFrom (s3.heap.objs.size + 1) scope.names (cloFrom X.env.cells scope.names [])) s3.heap.objs.size X.env = ce at I4 pg pt pe ⊢
  have cL : ce.locals = s3.heap.objs.size := by subst hce; rfl
  generalize hH3 : upd H2 D (.lst []) = H3 at I3 I4 pg pt pe w0 f3
  generalize hs4 : ({ s3 with heap := pushCells (s3.heap.push { cls := .type "dict", data := .dict #[] }) scope.names } : Shared) = s4 at I4 ⊢
  have st4 : tn 0 s4.heap := T.keep _ _ _ st2 fun b _ o e => by rw [← hs4]; exact pushCells_keeps _ _ _ _ (Heap.get?_push_of_some _ (k3 b o e))
  have loop : codeAny (model X.prog X.w) X.A (.compLoop (.ListComp elt [⟨tg, iter, ifs, 0⟩] scope pos) 0 (.ref it) (.ref D) ce) (compPost (model X.prog X.w) X.A X.xe none (EP X pins σ Q) (.ref D) s3.heap.objs.size) s4 := by
    refine compLoop_any (fun n s' => ∃ i H', (Inv (blkH X s3 H3 scope ce fp) [] (wipe σ (own.map (·.2))) H' s' ∧ tn i s'.heap ∧ ∀ b ∈ fp, H' b = none) ∧ W i n H') ?_ m0 ⟨0, H3, ⟨I4, st4, fun b hb => (f3 b hb).1⟩, w0⟩
    rintro n s5 ⟨i, H5, ⟨I5, st5, n5⟩, w5⟩
    rcases turn i n H5 w5 with ⟨stop, qq⟩ | ⟨go, Nx, hNx, step⟩
    · refine thnF (T.done (blkH X s3 H3 scope ce fp) rfl rfl rfl hc i [] s5 _ H5 (fun _ _ => False) I5 (fp_block f3 I5 n5) st5 stop) fun r s6 ⟨hr, I6⟩ => ?_
      subst hr
      have I7 : Inv X pins σ H5 s6 := I3.call' (ch := fp) I6.os I6.base I6.hok I6.bare fun b hb => ⟨(f3 b hb).2.2.2.1, (f3 b hb).2.1, (f3 b hb).2.2.2.2.1, (f3 b hb).2.2.2.2.2⟩
      have nC : H5 s3.heap.objs.size = none := by rw [← cL]; exact I6.free
      obtain ⟨m, hn, _⟩ := I6.loc
      have hn : s6.heap.Ns ce.locals m := hn
      rw [cL] at hn
      obtain ⟨g0, g1, g2, g3, g4, g5⟩ := I3.fpOk (Nat.le_refl _) nC
      exact ⟨m, hn, fun h'' sb => ⟨.ref D, H5, I7.turned (t' := s6.toks) (fun b o hb e => (sb.2 b hb).trans e) g0 g1 g3 g4 g5, rfl, qq⟩⟩
    · refine thnF (T.item (blkH X s3 H3 scope ce fp) rfl rfl rfl hc i [] s5 _ H5 (fun _ _ => False) I5 (fp_block f3 I5 n5) st5 go) fun r s6 ⟨u, hr, h6⟩ => ?_
      subst hr
      refine thnF h6 fun _ s7 ⟨x, H7, I7, r7, y7, st7, n7⟩ => ?_
      refine thnF (pg.run _ s7 _ H7 x u _ (I7.pinned (fp_block f3 I7 n7) (T.obj _ _ st7)) r7 (step x H7 y7)) fun _ s8 ⟨σ8, H8, I8, hw8, q8⟩ => ?_
      refine thnF (pt.run _ s8 σ8 H8 _ I8 q8) fun b s9 ⟨H9, I9, q9⟩ => ?_
      cases b with
      | false =>
        simp only [Bool.false_eq_true, if_false] at q9 ⊢
        obtain ⟨m', hm, w'⟩ := hNx H9 q9
        exact ⟨m', hm, i + 1, H9, turn_left T st7 hw8 I9, w'⟩
      | true =>
        simp only [if_true] at q9 ⊢
        refine thnF (pe.run _ s9 σ8 H9 _ I9 q9) fun z s10 ⟨yv, H10, I10, r10, acc, hD10, hz10, nx⟩ => ?_
        refine app_ok (X := blkH X s3 H3 scope ce fp) I10 hD10 hz10 r10 fun s11 I11 => ?_
        obtain ⟨m', hm, w'⟩ := hNx _ nx
        exact ⟨m', hm, i + 1, _, turn_left T st7 hw8 I11, w'⟩
  exact codeAny_compStart_list loop (T.self X.A 0 _ _ _ st4 loop)
theorem pe_dcH {kx vx tg iter : Expr} {ifs : List Expr} {scope : Scope} {own : List (Str × Nat)} {pos : Pos} {wi : TI} {g : TG} {tt : TT} {tk tv : TE} (hc : HotC X) (hN : X.N.Nodup) (hi : L2H.PIH X tg iter wi) (ok : BlkOk X.N X.env.scope scope own)
    (hg : ∀ (s : Shared) (H : Hp) (C : Addr) (cl : List (Str × Addr)) (fp : List Addr), PG (blkH X s H scope (compEnvC scope cl C X.env) fp) tg g) (ht : ∀ (s : Shared) (H : Hp) (C : Addr) (cl : List (Str × Addr)) (fp : List Addr), PTs (blkH X s H scope (compEnvC scope cl C X.env) fp) ifs tt)
    (hk : ∀ (s : Shared) (H : Hp) (C : Addr) (cl : List (Str × Addr)) (fp : List Addr), PE (blkH X s H scope (compEnvC scope cl C X.env) fp) kx tk)
    (he : ∀ (s : Shared) (H : Hp) (C : Addr) (cl : List (Str × Addr)) (fp : List Addr), PE (blkH X s H scope (compEnvC scope cl C X.env) fp) vx tv) (hs : ∀ x, foldedSetIterable iter X.env x = pure x := by intro _; rfl) :
    PE X (.DictComp kx vx [⟨tg, iter, ifs, 0⟩] scope pos) (tDc wi g tt tk tv (own.map (·.2))) := by
  refine ⟨fun pins s σ H Q I h => ?_⟩
  rw [arm_eval_DictComp]
  have clo : ∀ y ∈ scope.names, y.2 = .free → ∃ c, X.env.cells.lookup y.1 = some c := fun y hy e => (ok.free y hy e).elim (fun k => I.ok.has _ (.inl k)) (fun k => I.ok.has _ (.inr k))
  refine wpAny_comprehension_free (use := none) rfl hs (closure_ok clo) ok.kind (fun y hy e => by rw [ok.uniq y hy, e]) (thn (hi.run pins s σ H _ I h) fun xv s1 hx => thn hx fun itv s2 h2 => ?_)
  obtain ⟨it, fp, tn, J, H2, rfl, I2, T, st2, f2, q⟩ := h2
  refine wpAny_newObj_type (newEnv_comp ?_)
  generalize hD : s2.heap.objs.size = D
  obtain ⟨W, ⟨m0, w0⟩, turn⟩ := q D (I2.hok.fresh (Nat.le_of_eq hD))
  generalize hs3 : ({ s2 with heap := s2.heap.push { cls := .type "dict", data := .dict #[] } } : Shared) = s3
  have h3 : s3.heap = s2.heap.push { cls := .type "dict", data := .dict #[] } := by rw [← hs3]
  have k3 : ∀ b o, s2.heap.get? b = some o → s3.heap.get? b = some o := fun b o e => by rw [h3]; exact Heap.get?_push_of_some _ e
  have I3 : Inv X pins σ (upd H2 D (.dK [])) s3 := by
    rw [← hs3]
    exact I2.laid (t' := s2.toks) (fun b o e => Heap.get?_push_of_some _ e) (Nat.le_of_eq hD) (by rw [← hD]; exact dk_empty s2.heap I2.big)
  have lt : ∀ b ∈ fp, b < s2.heap.objs.size := fun b hb => by
    obtain ⟨o, e, _⟩ := T.obj _ _ st2 b hb
    exact Heap.lt_size e
  have f3 : ∀ b ∈ fp, FpOk X pins (upd H2 D (.dK [])) b := fun b hb => ⟨by rw [upd_ne (by rw [← hD]; exact Nat.ne_of_lt (lt b hb))]; exact (f2 b hb).1, (f2 b hb).2⟩
  have I4 := block_startH I3 ok hN fun b hb => ⟨f3 b hb, by rw [h3, Heap.size_push]; exact Nat.lt_succ_of_lt (lt b hb)⟩
  have pg := hg s3 (upd H2 D (.dK [])) s3.heap.objs.size (cellsFrom (s3.heap.objs.size + 1) scope.names (cloFrom X.env.cells scope.names [])) fp
  have pt := ht s3 (upd H2 D (.dK [])) s3.heap.objs.size (cellsFrom (s3.heap.objs.size + 1) scope.names (cloFrom X.env.cells scope.names [])) fp
  have pk := hk s3 (upd H2 D (.dK [])) s3.heap.objs.size (cellsFrom (s3.heap.objs.size + 1) scope.names (cloFrom X.env.cells scope.names [])) fp
  have pe := he s3 (upd H2 D (.dK [])) s3.heap.objs.size (cellsFrom (s3.heap.objs.size + 1) scope.names (cloFrom X.env.cells scope.names [])) fp
  show codeAny _ _ (.compStart (.DictComp kx vx [⟨tg, iter, ifs, 0⟩] scope pos) 0 (.ref it) (.ref D) (compEnvC scope (cellsFrom (s3.heap.objs.size + 1) scope.names (cloFrom X.env.cells scope.names [])) s3.heap.objs.size X.env)) (compPost (model X.prog X.w) X.A X.xe none (EP X pins σ Q) (.ref D) s3.heap.objs.size) { s3 with heap := pushCells (s3.heap.push { cls := .type "dict", data := .dict #[] }) scope.names }
  generalize hce : compEnvC scope (cellsFrom (s3.heap.objs.size + 1) scope.names (cloFrom X.env.cells scope.names [])) s3.heap.objs.size X.env = ce at I4 pg pt pk pe ⊢
  have cL : ce.locals = s3.heap.objs.size := by subst hce; rfl
  generalize hH3 : upd H2 D (.dK []) = H3 at I3 I4 pg pt pk pe w0 f3
  generalize hs4 : ({ s3 with heap := pushCells (s3.heap.push { cls := .type "dict", data := .dict #[] }) scope.names } : Shared) = s4 at I4 ⊢
  have st4 : tn 0 s4.heap := T.keep _ _ _ st2 fun b _ o e => by rw [← hs4]; exact pushCells_keeps _ _ _ _ (Heap.get?_push_of_some _ (k3 b o e))
  have loop : codeAny (model X.prog X.w) X.A (.compLoop (.DictComp kx vx [⟨tg, iter, ifs, 0⟩] scope pos) 0 (.ref it) (.ref D) ce) (compPost (model X.prog X.w) X.A X.xe none (EP X pins σ Q) (.ref D) s3.heap.objs.size) s4 := by
    refine compLoop_anyD (fun n s' => ∃ i H', (Inv (blkH X s3 H3 scope ce fp) [] (wipe σ (own.map (·.2))) H' s' ∧ tn i s'.heap ∧ ∀ b ∈ fp, H' b = none) ∧ W i n H') ?_ m0 ⟨0, H3, ⟨I4, st4, fun b hb => (f3 b hb).1⟩, w0⟩
    rintro n s5 ⟨i, H5, ⟨I5, st5, n5⟩, w5⟩
    rcases turn i n H5 w5 with ⟨stop, qq⟩ | ⟨go, Nx, hNx, step⟩
    · refine thnF (T.done (blkH X s3 H3 scope ce fp) rfl rfl rfl hc i [] s5 _ H5 (fun _ _ => False) I5 (fp_block f3 I5 n5) st5 stop) fun r s6 ⟨hr, I6⟩ => ?_
      subst hr
      have I7 : Inv X pins σ H5 s6 := I3.call' (ch := fp) I6.os I6.base I6.hok I6.bare fun b hb => ⟨(f3 b hb).2.2.2.1, (f3 b hb).2.1, (f3 b hb).2.2.2.2.1, (f3 b hb).2.2.2.2.2⟩
      have nC : H5 s3.heap.objs.size = none := by rw [← cL]; exact I6.free
      obtain ⟨m, hn, _⟩ := I6.loc
      have hn : s6.heap.Ns ce.locals m := hn
      rw [cL] at hn
      obtain ⟨g0, g1, g2, g3, g4, g5⟩ := I3.fpOk (Nat.le_refl _) nC
      exact ⟨m, hn, fun h'' sb => ⟨.ref D, H5, I7.turned (t' := s6.toks) (fun b o hb e => (sb.2 b hb).trans e) g0 g1 g3 g4 g5, rfl, qq⟩⟩
    · refine thnF (T.item (blkH X s3 H3 scope ce fp) rfl rfl rfl hc i [] s5 _ H5 (fun _ _ => False) I5 (fp_block f3 I5 n5) st5 go) fun r s6 ⟨u, hr, h6⟩ => ?_
      subst hr
      refine thnF h6 fun _ s7 ⟨x, H7, I7, r7, y7, st7, n7⟩ => ?_
      refine thnF (pg.run _ s7 _ H7 x u _ (I7.pinned (fp_block f3 I7 n7) (T.obj _ _ st7)) r7 (step x H7 y7)) fun _ s8 ⟨σ8, H8, I8, hw8, q8⟩ => ?_
      refine thnF (pt.run _ s8 σ8 H8 _ I8 q8) fun b s9 ⟨H9, I9, q9⟩ => ?_
      cases b with
      | false =>
        simp only [Bool.false_eq_true, if_false] at q9 ⊢
        obtain ⟨m', hm, w'⟩ := hNx H9 q9
        exact ⟨m', hm, i + 1, H9, turn_left T st7 hw8 I9, w'⟩
      | true =>
        simp only [if_true] at q9 ⊢
        refine thnF (pk.run _ s9 σ8 H9 _ I9 q9) fun z s10 ⟨yk, H10, I10, r10, q10⟩ => ?_
        refine thnF (pe.run _ s10 σ8 H10 _ I10 q10) fun z2 s11 ⟨yv, H11, I11, r11, kvs, k, ek, hD11, hz11, nx⟩ => ?_
        subst ek
        refine d_dictSet (X := blkH X s3 H3 scope ce fp) I11 hD11 hz11 r10 r11 fun s12 I12 => ?_
        obtain ⟨m', hm, w'⟩ := hNx _ nx
        exact ⟨m', hm, i + 1, _, turn_left T st7 hw8 I12, w'⟩
  exact codeAny_compStart_dict loop (T.self X.A 0 _ _ _ st4 loop)
end
/-! ### tuples -/
section
variable {prog : Program} {w : World} {A : Around} {E : Value → Shared → Prop} {s : Shared}
theorem tup_end_hot {it t x1 : Addr} {i : Nat} {items : Array Value} {Q : Option Value → Shared → Prop} (hot : HotX.HotAt A x1 s.heap) (hne : x1 ≠ it) (hit : s.heap.IsTupleIter it t i) (ht : s.heap.IsTuple t items)
    (hge : items.size ≤ i) (hQ : ∀ h', (∀ b o, b ≠ it → s.heap.get? b = some o → h'.get? b = some o) → Q none { s with heap := h' }) : wpAny (model prog w) A (pyNext (.ref it)) Q E s := by
  obtain ⟨hh, o1, vs1, g1, d1, c1⟩ := hot
  obtain ⟨oi, goi, coi, doi⟩ := id hit
  obtain ⟨ol, gol, _, nl, dol⟩ := ht
  unfold pyNext
  refine wpAny_bind (wpAny_attempt (wpAny_callSpecial?_slot (name := Str.ofString "__next__") hit.typeIs F.slot_tuple_iterator_next (wpAny_call_entry F.slot_tuple_iterator_next hit.typeIs F.entry_tuple_iterator_next ?_ (F.args_tuple_iterator_next_1 _))))
  show wpAny _ _ (field (.ref it) 0 >>= _) _ _ s
  refine wpAny_bind (wpAny_field goi doi (x := .ref t) rfl ?_)
  show wpAny _ _ (if (Value.ref t == Value.none) = true then _ else _) _ _ s
  rw [if_neg (show ¬ ((Value.ref t == Value.none) = true) from Bool.false_ne_true)]
  show wpAny _ _ (field (.ref it) 1 >>= _) _ _ s
  refine wpAny_bind (wpAny_field goi doi (x := .int i 0) rfl ?_)
  show wpAny _ _ (seqItems? (.ref t) >>= _) _ _ s
  refine wpAny_bind (wpAny_seqItems gol dol ?_)
  simp only [Int.toNat_natCast, Array.getElem?_eq_none hge]
  refine wpAny_bind (wpAny_rule (wpAny_bind (wpAny_setField goi doi (by simp) ?_)))
  show wpAny _ _ (newExc (.type "StopIteration") [] >>= _) _ _ _
  refine wpAny_bind ?_
  simp only [newExc, newTuple]
  refine wpAny_bind (wpAny_newObj_type ?_ (by size_fits))
  refine wpAny_bind (m := firstArgMember _ _) (wpAny_of_eq (a := Value.none) (by first | rfl | (simp only [firstArgMember]; rfl)) ?_)
  refine wpAny_newObj_type ?_ (by size_fits)
  have k1 : ∀ {b : Addr} {o : Obj} {h : Heap} {f : Obj → Obj}, b ≠ it → h.get? b = some o → (h.update it f).get? b = some o := fun {b o h f} nb e => by
    rw [Heap.get?_update_other _ _ (Ne.symm nb)]
    exact e
  refine HotX.raiseNew_hot ⟨hh, o1, vs1, Heap.get?_push_of_some _ (Heap.get?_push_of_some _ (k1 hne g1)), d1, c1⟩ (Nat.ne_of_lt (Heap.lt_size (Heap.get?_push_of_some _ (k1 hne g1)))) (Heap.get?_push_size _ rfl) rfl (by first | (simp; done) | (simp; omega)) ?_
  refine wpAny_bind (wpAny_isInstance (T := "StopIteration") (b := true) ⟨_, Heap.get?_update_self _ (Heap.get?_push_size _ rfl) rfl, rfl⟩ isSubtype_stop (wpAny_pure (hQ _ fun b o nb e => ?_)))
  rw [Heap.get?_update_other _ _ (Nat.ne_of_gt (Heap.lt_size (Heap.get?_push_of_some _ (k1 nb e))))]
  exact Heap.get?_push_of_some _ (Heap.get?_push_of_some _ (k1 nb e))
end
theorem turn_tupH {P : Program} {w : World} {K : PySem.W.Frag} {tg : Expr} (a it : Addr) : L2H.TurnH P w K tg (Itt K a) [it] it (fun i h => h.IsTupleIter it a i) where
  mem := (turn_tuple (P := P) (w := w) (K := K) (tg := tg) a it).mem
  obj := (turn_tuple (P := P) (w := w) (K := K) (tg := tg) a it).obj
  keep := (turn_tuple (P := P) (w := w) (K := K) (tg := tg) a it).keep
  self := (turn_tuple (P := P) (w := w) (K := K) (tg := tg) a it).self
  item := by
    intro X hP hw hK _ i pins s σ H E I hf st hg
    subst hP hw hK
    obtain ⟨xs, x, hq, hx⟩ := hg
    obtain ⟨its, rv, p, hz⟩ := I.tuple hq
    obtain ⟨u, hu, ru⟩ := rv.get hx
    obtain ⟨f0, f1, f2, f3, f4, f5⟩ := hf it List.mem_cons_self
    refine wpAny_pyNext_tuple_item st (show s.heap.IsTuple a its.toArray from p) (x := u) (by simpa using hu) fun h' st' sb => ?_
    have I1 : Inv X pins σ H { s with heap := h' } := I.turned (t' := s.toks) (fun b o hb e => (sb.2 b hb).trans e) f0 f1 f3 f4 f5
    obtain ⟨o, e, c, d⟩ := id st'
    exact ⟨u, rfl, go_of (s := { s with heap := h' }) e c d (by decide) ⟨x, H, I1, ru, ⟨rfl, fun ys hy => by rw [I.tuple_inj hy hq]; exact hx⟩, st', fun b hb => (hf b hb).1⟩⟩
  done := by
    intro X hP hw hK hc i pins s σ H E I hf st hg
    subst hP hw hK
    obtain ⟨xs, hq, hx⟩ := hg
    obtain ⟨its, rv, p, hz⟩ := I.tuple hq
    obtain ⟨f0, f1, f2, f3, f4, f5⟩ := hf it List.mem_cons_self
    obtain ⟨q, ⟨hh, v1, e1, c1⟩, hp⟩ := hc
    have hl := rv.length
    have hq' := List.mem_append_left pins hp
    exact tup_end_hot (x1 := q.1) ⟨hh, q.2, v1, (I.pin q hq').1, e1, c1⟩ (f5 q hq') st (show s.heap.IsTuple a its.toArray from p) (by simp; omega) fun h' eb => ⟨rfl, I.turned (t' := s.toks) (fun b o hb e => eb b o hb e) f0 f1 f3 f4 f5⟩
theorem pi_tupH {X : Cx} {tg l : Expr} {tl : TE} (hl : PE X l tl) : L2H.PIH X tg l (iTup X.K tl) := by
  refine ⟨fun pins s σ H R I h => thn (hl.run pins s σ H _ I h) fun v s1 ⟨x, H1, I1, r1, q1⟩ => ?_⟩
  obtain ⟨a, e, ⟨xs, hq⟩, q⟩ := q1
  subst e
  cases r1
  obtain ⟨its, rv, p, hz⟩ := I1.tuple hq
  exact wpAny_pyIter_tuple (show s1.heap.IsTuple a its.toArray from p) (pi_oneH (tk := s1.toks) I1 (turn_tupH a _) ⟨_, Heap.get?_push_size _ rfl, rfl, rfl⟩ q)
/-! ### all([..]) -/
theorem walks_hot {prog : Program} {w : World} {A : Around} {x1 : Addr} {o1 : Obj} {vs1 : Array Value} (hh : A.handled = some (.ref x1)) (d1 : o1.data = .fields vs1) (c1 : vs1[2]? = some .none) (I ax : Addr) (hne : ax ≠ I) (hx : x1 ≠ I) (items : Array Value) :
    Walks prog w A I [I, ax, x1] [I] items.size (fun i v => items[i]? = some v) (fun i h => h.IsListIter I ax i ∧ h.IsList ax items ∧ h.get? x1 = some o1) where
  sub := fun b hb => by rw [List.mem_singleton.mp hb]; exact List.mem_cons_self
  frame := fun _ _ _ st hk => ⟨st.1.at fun o e => hk I List.mem_cons_self o e, st.2.1.at fun o e => hk ax (List.mem_cons_of_mem _ List.mem_cons_self) o e, hk x1 (List.mem_cons_of_mem _ (List.mem_cons_of_mem _ List.mem_cons_self)) _ st.2.2⟩
  item := fun i s Q E hi st hQ => by
    refine wpAny_pyNext_list_item st.1 st.2.1 (x := items[i]) (by simp [hi]) fun h' hit' hs' => ?_
    exact hQ _ h' s.toks (by simp [hi]) ⟨hit', st.2.1.extBut hs'.extBut hne, (hs'.2 x1 hx).trans st.2.2⟩ fun b o hb e => hs'.extBut b o (fun h => hb (by rw [h]; exact List.mem_cons_self)) e
  done := fun s Q E st hQ => list_end_hot ⟨hh, o1, vs1, st.2.2, d1, c1⟩ hx st.1 st.2.1 (Nat.le_refl _) fun h' he' => hQ h' s.toks fun b o hb e => he' b o (fun h => hb (by rw [h]; exact List.mem_cons_self)) e
  self := fun _ _ _ _ st hQ => wpAny_pyIter_listiter st.1 hQ
theorem cr_allH {X : Cx} (hc : HotC X) : CallR X (.builtin "all") (rAll X.K) := by
  intro pins s σ H vs us Q I r h
  obtain ⟨a, bs, rfl, hs, q⟩ := h
  obtain ⟨its, rv, hl, _⟩ := I.list hs
  rw [Vals.ref1 r]
  have hb := rv.bls
  obtain ⟨p, ⟨hh, v1, e1, c1⟩, hp⟩ := hc
  have P1 := (I.pin p (List.mem_append_left _ hp)).1
  refine call_all_walk (iter_any hl.isList fun s₂ e2 st hne => ?_)
  subst e2
  refine ⟨_, _, _, _, _, _, _, rfl, walks_hot (A := X.A.in1) (x1 := p.1) (o1 := p.2) hh e1 c1 _ a hne (Nat.ne_of_lt (Heap.lt_size P1)) its.toArray, ⟨st.1, st.2, Heap.get?_push_of_some _ P1⟩, truth_bools hb, fun h' tk hk => ?_⟩
  refine ⟨.bl _, H, I.kept fun b o eo => hk b o (fun hmem => ?_) (Heap.get?_push_of_some _ eo), ?_, q⟩
  · rw [List.mem_singleton.mp hmem] at eo
    exact absurd (Heap.lt_size eo) (Nat.lt_irrefl _)
  · show Value.bool _ = Value.bool _
    rw [← L2.all_range, hb, List.size_toArray, List.length_map]
/-! ### unpacking -/
section
variable {prog : Program} {w : World} {A : Around} {E : Value → Shared → Prop} {s : Shared}
theorem unpack_hot {x1 t : Addr} {items : Array Value} {Q : List Value → Shared → Prop} (hot : HotX.HotAt A x1 s.heap) (ht : IsTup s.heap t items)
    (hQ : ∀ h', (∀ b o, s.heap.get? b = some o → h'.get? b = some o) → Q items.toList { s with heap := h' }) : wpAny (model prog w) A (unpackItems (.ref t) items.size none) Q E s := by
  obtain ⟨hh, o1, vs1, g1, d1, c1⟩ := hot
  have hlt : t ≠ s.heap.objs.size := by obtain ⟨o, ho, _⟩ := ht; exact Nat.ne_of_lt (Heap.lt_size ho)
  have hx : x1 ≠ s.heap.objs.size := Nat.ne_of_lt (Heap.lt_size g1)
  unfold unpackItems
  refine wpAny_bind ?_
  unfold notIterableAtAll
  refine wpAny_bind (wpAny_specialOf ht.typeIs slot_tuple_iter.lookup (wpAny_pure ?_))
  simp only [Bool.false_eq_true, if_false]
  refine wpAny_bind (wpAny_holding (iter_tuple ht ?_))
  refine wpAny_bind (wpAny_holding (draw_tuple hlt items.size 0 _ _ ⟨_, Heap.get?_push_size _ rfl, rfl, rfl⟩ (ht.push _) (Nat.le_of_eq (Nat.zero_add _)) fun h₁ hit₁ hs₁ => ?_))
  have all : List.take items.size (List.drop 0 items.toList) = items.toList := List.take_of_length_le (by simp)
  rw [all, if_neg (by simp)]
  have ht₁ : IsTup h₁ t items := (ht.push _).extBut hs₁.extBut hlt
  refine wpAny_bind (wpAny_holding (tup_end_hot (x1 := x1) ⟨hh, o1, vs1, (hs₁.2 x1 hx).trans (Heap.get?_push_of_some _ g1), d1, c1⟩ hx hit₁ ht₁ (by simp) fun h₂ he₂ => ?_))
  simp only [Option.isSome_none, Bool.false_eq_true, if_false]
  exact wpAny_pure (hQ h₂ fun b o e => he₂ b o (Nat.ne_of_lt (Heap.lt_size e)) (hs₁.extBut b o (Nat.ne_of_lt (Heap.lt_size e)) (Heap.get?_push_of_some _ e)))
end
theorem pg_tupH {X : Cx} {es : List Expr} {k : Nat} {t : TGs} {n : Nat} {pos : Pos} (hc : HotC X) (h : PGs X es t)
    (hn : (assignEach es X.env).length = n := by rfl) (hst : (assignEach es X.env).findIdx? (·.1) = none := by rfl) : PG X (.Tuple es k pos) (gTup X.K n t) := by
  refine ⟨fun pins s σ H v u Q I r hw => ?_⟩
  obtain ⟨a, xs, rfl, hq, hl, hw⟩ := hw
  cases r
  obtain ⟨its, rv, ht, hz⟩ := I.tuple hq
  obtain ⟨x1, hot⟩ := hc.at I
  rw [assign_Tuple]
  refine wpAny_bind (wpAny_standAt ?_)
  unfold unpack
  rw [hst, show (assignEach es X.env).length = its.toArray.size from by simp [hn, ← hl, rv.length]]
  refine wpAny_bind (wpAny_holding (unpack_hot hot ht fun h' hx => ?_))
  exact h.run pins _ σ H xs _ Q (I.kept (t' := s.toks) hx) (by simpa using rv) hw
end Fk

set_option maxHeartbeats 4000000
/-! Own objects made with arguments, own ==, keys' walks, where an exception is handled. -/
namespace Fk
open PySem PySem.Spec PyProof.Rows L2
open L2H (RoomH HotC FnH Hot1 PinOk cxH)
theorem huH_of {A : Around} {k : Nat} (r : RoomH k A) : A.units + 1 < cLine := by have := r.un; omega
theorem roomH66 {A : Around} {k : Nat} (r : RoomH k A) : A.units + 66 < cLine := by have := r.un; omega
section
variable {X : Cx} {k j : Nat} {f C a : Addr} {fd : FuncData} {ps : List Str} {sp : Sp} {dvs : List V} {x : Str} {p pos : Pos} {e : Expr} {es : List Expr} {t : TA} {tg : Expr}
theorem pe_mkH (c : MakH X.prog X.w X.K X.mg X.base k x C sp dvs) (hr : RoomH j X.A) (hk : k + 1 ≤ j) (hc : HotC X) (hg : Gl X x) (ha : PA X (e :: es) t)
    (hdb : (x == ("__debug__" : Str)) = false := by decide) (he : starEach (e :: es) X.env = (false, eval e X.env) :: starEach es X.env := by rfl) (hpl : (backTo pos (starEach es X.env)).any (·.1) = false := by rfl) :
    PE X (.Call (.Name x p) (e :: es) [] pos) (tMake C sp dvs C8.E0 t) := by
  obtain ⟨f, fd, ps, ds, M, F, hm, b, d⟩ := c.ex
  refine ⟨fun pn s σ H Q I h => wpAny_Call_Name_kw (ld_glob I hg hm ?_ hdb)⟩
  refine PySem.W.callWith_K (h₀ := X.base) I.ok.mod.kin M.kp (thn (ha.run pos pn s σ H _ I h) fun us s1 ⟨vs, H1, I1, r1, q1⟩ => ⟨I1.kIn, ?_⟩) he hpl
  have qN := q1 (s1.heap.objs.size + 1) s1.heap.objs.size (I1.hok.fresh (Nat.le_succ _)) (I1.hok.fresh (Nat.le_refl _)) (Nat.ne_of_lt (Nat.lt_succ_self _))
  have IM := Inv.made (C := C) I1
  refine wpAny_call (make_map (f := f) I1.kIn M.makes M.init (beq_iff_eq.mp M.fn) (codeAny_mono (run_hot (us := Value.ref (s1.heap.objs.size + 1) :: us) (vs := V.ref (s1.heap.objs.size + 1) :: vs) F ((hr.mono hk).make C us []) hc rfl (IM.env0.make C us []) b d IM (.cons rfl r1) qN) fun r s' z => ?_))
  obtain ⟨u, rfl, v, HB, IB, rv, ev, q⟩ := z
  subst ev
  exact ⟨rv, V.ref (s1.heap.objs.size + 1), HB, IB, rfl, q⟩
/-- x == y by an own method -/
theorem op_ownEqH (M : MetH X.prog X.w X.K X.mg X.base k C "__eq__" sp) (hr : RoomH j X.A) (hk : k ≤ j) (hc : HotC X) : OpR X (compareOp .Eq) (rOwnEq X.K C sp) := by
  intro pins s σ H x y v u Q I rx ry h
  obtain ⟨a, dx, fs, tb, rfl, ha, ty, hn, q⟩ := h
  obtain ⟨f, fd, ps, cl, hm, F, hb⟩ := M.ex
  cases (show v = Value.ref a from rx)
  obtain ⟨mA, J, _⟩ := ins_get I.hok ha
  obtain ⟨od, J, _⟩ := J.look
  obtain ⟨m, hF⟩ := I.fr
  obtain ⟨P', Z, p, _⟩ := kit_of I ry ty
  show wpAny (model X.prog X.w) X.A (richCompare .Eq (.ref a) u) (EP X pins σ Q) X.xe s
  refine PySem.W.cmp_K (op := .Eq) (by have := hr.un; omega) hF I.ok.mod.kin J (Z.ty _ _ I.kIn p) hn hm.at_ hm.fn (wpAny_mono (call_hot (us := [Value.ref a, u]) F (hr.mono hk) hc hb .nil I (show Vals [V.ref a, y] [Value.ref a, u] from .cons rfl (.cons ry .nil)) q) (fun v s' z => ?_) fun _ _ x => x)
  obtain ⟨x, H', I', rv, b, rfl, q'⟩ := z
  cases (show v = Value.bool b from rv)
  exact ⟨.bl b, H', I', rfl, q'⟩
theorem op_ownEqHK {K : PySem.W.Frag} (e : X.K = K) (M : MetH X.prog X.w K X.mg X.base k C "__eq__" sp) (hr : RoomH j X.A) (hk : k ≤ j) (hc : HotC X) : OpR X (compareOp .Eq) (rOwnEq K C sp) := by
  subst e
  exact op_ownEqH M hr hk hc
theorem pe_mkHK {K : PySem.W.Frag} (eK : X.K = K) (c : MakH X.prog X.w K X.mg X.base k x C sp dvs) (hr : RoomH j X.A) (hk : k + 1 ≤ j) (hc : HotC X) (hg : Gl X x) (ha : PA X (e :: es) t)
    (hdb : (x == ("__debug__" : Str)) = false := by decide) (he : starEach (e :: es) X.env = (false, eval e X.env) :: starEach es X.env := by rfl) (hpl : (backTo pos (starEach es X.env)).any (·.1) = false := by rfl) :
    PE X (.Call (.Name x p) (e :: es) [] pos) (tMake C sp dvs C8.E0 t) := by
  subst eK
  exact pe_mkH c hr hk hc hg ha hdb he hpl
/-- a locked dict's keys, read as where nothing is handled -/
def iKeys2 (td : TE) : TI := fun σ H R => td σ H fun x H1 => ∃ d o, x = .ref d ∧ ((∃ kvs, H1 d = some (.frz o (.dK kvs)) ∧ R (Itk d o kvs) H1) ∨ False)
theorem pi_keys2H {td : TE} (he : PE X e td) : L2H.PIH X tg e (iKeys2 td) := by
  refine ⟨fun pins s σ H R I h => thn (he.run pins s σ H _ I h) fun u s1 ⟨x, H1, I1, rx, d, o, ex, q⟩ => ?_⟩
  subst ex
  obtain rfl : u = Value.ref d := rx
  obtain ⟨kvs, hd, q⟩ := q.elim id fun z => z.elim
  obtain ⟨hs, hgd, hx, es, ep, vs, hdt, hsz, kv, hm⟩ := I1.frzK hd
  refine iter_keys hs hgd hx hdt (pi_oneH (tk := s1.toks) I1 (turn_keysH _ hdt) ⟨_, Heap.get?_push_size _ rfl, rfl, ?_⟩ q)
  rw [hsz] <;> rfl
end
end Fk

set_option maxHeartbeats 4000000
namespace Fk
open PySem PySem.Spec PyProof.Rows L2
open L2H (RoomH HotC)
section
variable {P : Program} {w : World} {K : PySem.W.Frag} {mg : Str → Option Value} {base : Heap} {C fk cE iF : Addr}
theorem h__is_word (T : Top K mg) : CalH P w K mg base 2 "_is_word" spIsWord := by
  refine calH_of T.d__is_word sc__is_word (fun _ _ _ _ _ _ us hl => match us, hl with | [_, _], _ => rfl) (fun vs H Q E h => ?_) (fun f cdv A outer s H vs Q E ph hr hc h => ?_)
  · obtain ⟨x, y, rfl, _⟩ := h
    rfl
  · obtain ⟨v, y, rfl, t, q⟩ := h
    refine ⟨_, (pss_one (ps_ret (pe_and (pe_callB call_isi (by rfl) T.z_isinstance (by decide +kernel) (pa_cons (pv 0) (pa_cons (pe_bltn (v := .ty "str") (by rfl) T.z_str (by decide +kernel) rfl) pa_nil))) (pe_and (pe_chain op_le op_le pe_int (pe_callB call_len_str (by rfl) T.z_len (by decide +kernel) (pa_cons (pv 0) pa_nil)) (C8.pe_gc (by rfl) T.g_LONGEST_WORD)) (pe_one (pe_cmpR op_eq (pe_bm PySem.F.plainAttrs_str PySem.F.slot_str_strip PySem.F.type_str_strip mt_stripChars (pv 0) (pa_cons (pv 1) pa_nil)) pe_str (nomark _))))))), ?_⟩
    refine ⟨v, rfl, ?_⟩
    dsimp only [tCons, tC, tNil]
    refine t.isi ?_
    refine ⟨_, rfl, ?_⟩
    rcases t.cases with ⟨x, rfl, hx, ho⟩ | hn
    · refine iteT ⟨.str x, rfl, x, rfl, small_line (by omega), _, _, rfl, rfl, _, rfl, ite2 (fun h1 => ?_) (fun h1 => ?_)⟩
      · have h1 := of_decide_eq_true h1
        refine ⟨_, _, rfl, rfl, _, rfl, ite2 (fun h2 => ?_) (fun h2 => ?_)⟩
        · have h2 := of_decide_eq_true h2
          refine ⟨.str x, rfl, rfl, .str y, rfl, x, y, rfl, rfl, small_line (by omega), rfl, of_ev (q _ (Same.refl _)) (Eq.trans ?_ (strip_none x y).symm)⟩
          unfold isWordF
          rw [decide_eq_true (by omega), decide_eq_true (by omega)]
          rfl
        · have h2 : ¬ x.length ≤ 12 := fun z => h2 (decide_eq_true (by omega))
          refine of_ev (q _ (Same.refl _)) ?_
          unfold isWordF
          rw [decide_eq_false h2, Bool.false_and, Bool.and_false]
      · have h1 : ¬ 1 ≤ x.length := fun z => h1 (decide_eq_true (by omega))
        refine ⟨_, rfl, iteF (of_ev (q _ (Same.refl _)) ?_)⟩
        unfold isWordF
        rw [decide_eq_false h1, Bool.false_and]
    · rw [hn]
      exact iteF (of_ev0 hn (q _ (Same.refl _)))
theorem h_is_segment (T : Top K mg) : CalH P w K mg base 3 "is_segment" (spWord isSegF) := by
  refine calH_of T.d_is_segment sc_is_segment (fun _ _ _ _ _ _ us hl => match us, hl with | [_], _ => rfl) (fun vs H Q E h => ?_) (fun f cdv A outer s H vs Q E ph hr hc h => ?_)
  · obtain ⟨x, rfl, _⟩ := h
    rfl
  · obtain ⟨v, rfl, t, q⟩ := h
    refine ⟨_, (pss_one (ps_ret (pe_and (pe_cH (h__is_word T) hr (by decide) hc (by rfl) (pa_cons (pv 0) (pa_cons (C8.pe_gc (by rfl) T.g_SEGMENT_SIGNS) pa_nil))) (pe_and (pe_cmpR op_ne (pv 0) pe_str (nomark _)) (pe_one (pe_cmpR op_notin_str pe_str (pv 0) rfl)))))), ?_⟩
    refine ⟨v, rfl, v, SSG, rfl, t, fun H1 s1 => ⟨_, rfl, ?_⟩⟩
    rcases t.cases with ⟨x, rfl, hx, ho⟩ | hn
    · refine ite2 (fun h1 => ?_) (fun h1 => ?_)
      · have h1 : isWordF SSG x = true := h1
        refine ⟨.str x, rfl, rfl, _, rfl, ite2 (fun h2 => ?_) (fun h2 => ?_)⟩
        · refine ⟨.str x, rfl, _, x, rfl, rfl, of_ev (q _ s1) ?_⟩
          have h2 : ¬ x = "." := fun z => by
            rw [z] at h2
            simp at h2
          unfold isSegF
          rw [h1, decide_eq_false h2]
          rfl
        · refine of_ev (q _ s1) ?_
          have h2 : x = "." := Decidable.byContradiction fun z => h2 (by rw [decide_eq_false (fun e => z (V.str.inj e))]; rfl)
          unfold isSegF
          rw [decide_eq_true h2]
          simp
      · have h1 : isWordF SSG x = false := Bool.eq_false_iff.mpr h1
        refine of_ev (q _ s1) ?_
        unfold isSegF
        rw [h1, Bool.false_and]
    · rw [hn]
      exact iteF (of_ev0 hn (q _ s1))
theorem h_is_id (T : Top K mg) : CalH P w K mg base 2 "is_id" (spWord isIdF) := by
  refine calH_of T.d_is_id sc_is_id (fun _ _ _ _ _ _ us hl => match us, hl with | [_], _ => rfl) (fun vs H Q E h => ?_) (fun f cdv A outer s H vs Q E ph hr hc h => ?_)
  · obtain ⟨x, rfl, _⟩ := h
    rfl
  · obtain ⟨v, rfl, t, q⟩ := h
    refine ⟨_, (pss_one (ps_ret (pe_and (pe_callB call_isi (by rfl) T.z_isinstance (by decide +kernel) (pa_cons (pv 0) (pa_cons (pe_bltn (v := .ty "str") (by rfl) T.z_str (by decide +kernel) rfl) pa_nil))) (pe_and (pe_cmpR op_eq (pe_callB call_len_str (by rfl) T.z_len (by decide +kernel) (pa_cons (pv 0) pa_nil)) pe_int (nomark _)) (pe_one (pe_cmpR op_eq (pe_bm PySem.F.plainAttrs_str PySem.F.slot_str_strip PySem.F.type_str_strip mt_stripChars (pv 0) (pa_cons (C8.pe_gc (by rfl) T.g_HEX_DIGITS) pa_nil)) pe_str (nomark _))))))), ?_⟩
    refine ⟨v, rfl, ?_⟩
    dsimp only [tCons, tC, tNil]
    refine t.isi ?_
    refine ⟨_, rfl, ?_⟩
    rcases t.cases with ⟨x, rfl, hx, ho⟩ | hn
    · refine iteT ⟨.str x, rfl, x, rfl, small_line (by omega), rfl, _, rfl, ite2 (fun h1 => ?_) (fun h1 => ?_)⟩
      · have h1 := V.int.inj (of_decide_eq_true h1)
        refine ⟨.str x, rfl, rfl, x, HEX, rfl, rfl, small_line (by omega), rfl, of_ev (q _ (Same.refl _)) (Eq.trans ?_ (strip_none x HEX).symm)⟩
        unfold isIdF
        rw [decide_eq_true (by omega)]
        rfl
      · have h1 : ¬ x.length = 16 := fun z => h1 (decide_eq_true (by rw [z]; rfl))
        refine of_ev (q _ (Same.refl _)) ?_
        unfold isIdF
        rw [decide_eq_false h1, Bool.false_and]
    · rw [hn]
      exact iteF (of_ev0 hn (q _ (Same.refl _)))
theorem h_is_path (T : Top K mg) : CalH P w K mg base 4 "is_path" (spWord isPathF) := by
  refine calH_of T.d_is_path sc_is_path (fun _ _ _ _ _ _ us hl => match us, hl with | [_], _ => rfl) (fun vs H Q E h => ?_) (fun f cdv A outer s H vs Q E ph hr hc h => ?_)
  · obtain ⟨x, rfl, _⟩ := h
    rfl
  · obtain ⟨v, rfl, t, q⟩ := h
    refine ⟨_, (pss_cons (ps_if (pt_not (pt_val (pe_callB call_isi (by rfl) T.z_isinstance (by decide +kernel) (pa_cons (pv 0) (pa_cons (pe_bltn (v := .ty "str") (by rfl) T.z_str (by decide +kernel) rfl) pa_nil)))))
      (pss_one (ps_ret pe_bl))
      pss_nil)
      (pss_cons (ps_set (i := 1) sc_is_path.nd rfl (Or.inl rfl) (pe_split (pv 0) pe_str))
      (pss_one (ps_ret (pe_and (pe_cmpR op_le (pe_callB call_len_seq (by rfl) T.z_len (by decide +kernel) (pa_cons (pv 1) pa_nil)) pe_int (nomark _)) (pe_one (pe_callB (cr_allH hc) (by rfl) T.z_all (by decide +kernel) (pa_cons (pe_lcH (own := [("segment", 2)]) (g := gName 2) hc sc_is_path.nd (pi_listH (pv 1)) (blkOk_by (own := [("segment", 2)]) (N := ["thing", "segments", "segment"]) (sc := C8.fnScope s_is_path) (by decide +kernel)) (fun _ _ _ _ _ => (pg_name (i := 2) sc_is_path.nd rfl (Or.inl rfl))) (fun _ _ _ _ _ => pts_nil) (fun _ _ _ _ _ => (pe_cH (h_is_segment T) hr (by decide) hc (by rfl) (pa_cons (pv 2) pa_nil)))) pa_nil)))))))), ?_⟩
    refine ⟨v, rfl, ?_⟩
    dsimp only [tCons, tC, tNil]
    refine t.isi ?_
    refine ⟨_, rfl, ?_⟩
    rcases t.cases with ⟨x, rfl, hx, ho⟩ | hn
    · obtain ⟨hl1, hl2⟩ := segs_len x hx
      have ho2 := segs_ok x ho
      refine iteF ⟨.str x, rfl, ⟨x, rfl⟩, x, _, rfl, rfl, rfl, small_line (by omega), fun p hp => ?_⟩
      have sm := same_new (o := .lst ((segs x).map V.str)) hp
      refine ⟨.ref p, rfl, p, (segs x).map V.str, rfl, .inl (.inl (.inl upd_same)), _, _, rfl, rfl, _, rfl, ite2 (fun h1 => ?_) (fun h1 => ?_)⟩
      · have h1 : (segs x).length ≤ 6 := by
          have h1 := of_decide_eq_true h1
          rw [List.length_map] at h1
          omega
        refine ⟨.ref p, rfl, p, rfl, ⟨_, .inl (.inl upd_same)⟩, fun D hD => ?_⟩
        have np : p ≠ D := ne_of_none upd_same hD
        refine lc_pure (i := 2) (us := segs x) (g := V.str) yields_list (fun u => .bl (isSegF u)) (fun _ => true) hD (fun H s => .inl (.inl (s _ _ upd_same))) (fun H u _ hu R r => r H (Same.refl H))
          (fun H u _ hu _ R r => ⟨.str u, rfl, .str u, rfl, .str u (hl2 u hu) (ho2 u hu), fun H' s' => r H' s'⟩) (by omega) (fun H2 s2 h2 => ?_)
        refine ⟨D, (segs x).map isSegF, rfl, .inl (.inl ?_), of_ev (q _ (sm.trans s2)) ?_⟩
        · rw [h2, filt_all, List.map_map]
          rfl
        · unfold isPathF
          rw [decide_eq_true h1, List.all_map]
          rfl
      · have h1 : ¬ (segs x).length ≤ 6 := fun z => h1 (decide_eq_true (by rw [List.length_map]; omega))
        refine of_ev (q _ sm) ?_
        unfold isPathF
        rw [decide_eq_false h1, Bool.false_and]
    · rw [hn]
      exact iteT (of_ev0 hn (q _ (Same.refl _)))
theorem h_ascending (T : Top K mg) : CalH P w K mg base 1 "ascending" spAsc := by
  refine calH_of T.d_ascending sc_ascending (fun _ _ _ _ _ _ us hl => match us, hl with | [_], _ => rfl) (fun vs H Q E h => ?_) (fun f cdv A outer s H vs Q E ph hr hc h => ?_)
  · obtain ⟨a, t, rfl, _⟩ := h
    rfl
  · obtain ⟨a, t, rfl, ha, hl, q⟩ := h
    refine ⟨_, (pss_one (ps_ret (pe_callTy call_tuple_of (by rfl) T.z_tuple (by decide +kernel) (pa_cons (pe_callB (cr_sortedS) (by rfl) T.z_sorted (by decide +kernel) (pa_cons (pe_lock (pe_lcH (own := [("name", 1)]) (g := gName 1) hc sc_ascending.nd (pi_keys2H (pv 0)) (blkOk_by (own := [("name", 1)]) (N := ["names", "name"]) (sc := C8.fnScope s_ascending) (by decide +kernel)) (fun _ _ _ _ _ => (pg_name (i := 1) sc_ascending.nd rfl (Or.inl rfl))) (fun _ _ _ _ _ => pts_nil) (fun _ _ _ _ _ => (pe_callTy SkE.call_str_str (by rfl) T.z_str (by decide +kernel) (pa_cons (pv 1) pa_nil))))) pa_nil)) pa_nil)))), ?_⟩
    refine ⟨a, _, ha, trivial, fun od => ⟨.ref a, rfl, a, od, rfl, .inl ⟨kT t, upd_same, fun D hD => ?_⟩⟩⟩
    have na : D ≠ a := fun z => by
      rw [z, upd_same] at hD
      cases hD
    have Y : Yields (Itk a od (kT t)) ((t.map (·.1)).map V.str) (fun H => H a = some (.frz od (.dK (kT t)))) := by
      rw [← kV_kT]
      exact yields_keys
    refine lc_pure (i := 1) (us := t.map (·.1)) (g := V.str) Y V.str (fun _ => true) hD (fun H s => s _ _ upd_same) (fun H u _ hu R r => r H (Same.refl H))
      (fun H u _ hu _ R r => ⟨_, rfl, u, rfl, r H (Same.refl H)⟩) (by rw [List.length_map]; omega) (fun H2 s2 h2 => ?_)
    rw [filt_all] at h2
    have sm : Same H (upd H2 a (.dK (kT t))) := fun b o e => by
      by_cases hb : b = a
      · rw [hb, upd_same, ← ha, ← hb, e]
      · rw [upd_ne hb]
        exact s2 _ _ (by rw [upd_ne hb]; exact e)
    have hD' : H D = none := by rw [upd_ne na] at hD; exact hD
    refine ⟨s2 _ _ upd_same, D, t.map (·.1), rfl, .inl (.inl ?_), by rw [List.length_map]; exact hl, fun ys p hp hs hn => ?_⟩
    · rw [upd_ne na]
      exact h2
    · refine ⟨p, _, rfl, .inl ⟨.inl (.inl upd_same), fun l hl => ?_⟩⟩
      have np : H p = none := sm.free hn
      have nl : H l = none := (sm.trans (same_new hn)).free hl
      exact q ys l _ hp hs nl ((sm.trans (same_new hn)).trans (same_new hl)) upd_same
theorem h_is_value (T : Top K mg) : CalH P w K mg base 3 "is_value" (spValue K) := by
  refine calH_of T.d_is_value sc_is_value (fun _ _ _ _ _ _ us hl => match us, hl with | [_, _], _ => rfl) (fun vs H Q E h => ?_) (fun f cdv A outer s H vs Q E ph hr hc h => ?_)
  · obtain ⟨v, k, rfl, _⟩ := h
    rfl
  · obtain ⟨v, k, rfl, hk, h⟩ := h
    refine ⟨_, (pss_cons (ps_if (PW.pt (pw_or (pt_not (pt_val (pe_callB call_isi (by rfl) T.z_isinstance (by decide +kernel) (pa_cons (pv 0) (pa_cons (pe_bltn (v := .ty "tuple") (by rfl) T.z_tuple (by decide +kernel) rfl) pa_nil))))) (pw_or1 (pt_cmpR op_ne (pe_callB call_len_seq (by rfl) T.z_len (by decide +kernel) (pa_cons (pv 0) pa_nil)) pe_int (nomark _)))))
      (pss_one (ps_ret pe_bl))
      pss_nil)
      (pss_cons (ps_asg (pv 0) (pg_tupH hc (pgs_cons (pg_name (i := 2) sc_is_value.nd rfl (Or.inl rfl)) (pgs_cons (pg_name (i := 3) sc_is_value.nd rfl (Or.inl rfl)) pgs_nil))))
      (pss_one (ps_ret (pe_and (pe_cmpR op_in_seq (pv 2) (pv 1) rfl) (pe_one (pe_cH (h_is_id T) hr (by decide) hc (by rfl) (pa_cons (pv 3) pa_nil)))))))), ?_⟩
    refine ⟨v, rfl, ?_⟩
    dsimp only [tCons, tC, tNil]
    rcases h with ⟨p, pp, rfl, hp, hm, hi, q⟩ | ⟨nt, q⟩
    · refine isi_tup hp ⟨_, rfl, iteF ?_⟩
      refine ⟨.ref p, rfl, p, _, rfl, .inr hp.sq, rfl, _, rfl, iteF ?_⟩
      refine ⟨.ref p, rfl, p, _, rfl, hp.sq, rfl, _, _, rfl, _, _, rfl, rfl, ?_⟩
      refine ⟨.str pp.1, rfl, .ref k, rfl, k, _, rfl, .inr hk.sq, rfl, flat_strs FKS, _, rfl, ifT ?_ ?_⟩
      · unfold inV
        rw [if_neg Bool.false_ne_true, List.any_eq_true]
        exact ⟨.str pp.1, List.mem_map.mpr ⟨pp.1, hm, rfl⟩, by show (pp.1 == pp.1) = true; exact beq_self_eq_true _⟩
      · exact ⟨.str pp.2, rfl, .str pp.2, rfl, .str pp.2 (by have := (ok_idF hi).2; omega) (ok_idF hi).1, fun H' s' => by
          rw [show evalV isIdF (.str pp.2) = true from hi]
          exact q H' s'⟩
    · exact noTup_isi nt ⟨_, rfl, iteT q⟩
theorem h__is_value_or_none (T : TopC K mg C fk cE iF) : CalH P w K mg base 4 "_is_value_or_none" (spVn K) := by
  refine calH_of T.d__is_value_or_none sc__is_value_or_none (fun _ _ _ _ _ _ us hl => match us, hl with | [_], _ => rfl) (fun vs H Q E h => ?_) (fun f cdv A outer s H vs Q E ph hr hc h => ?_)
  · obtain ⟨v, rfl, _⟩ := h
    rfl
  · obtain ⟨v, rfl, h⟩ := h
    refine ⟨_, (pss_one (ps_ret (pe_or (pe_cmpR op_isN (pv 0) pe_non (nomark _)) (pe_one (pe_cH (h_is_value T.toTop) hr (by decide) hc (by rfl) (pa_cons (pv 0) (pa_cons (C8.pe_gc (by rfl) T.g_FILE_KINDS) pa_nil))))))), ?_⟩
    refine ⟨v, rfl, rfl, _, rfl, ?_⟩
    rcases h with ⟨g, hv, gg, q⟩ | ⟨nt, nn, q⟩
    · cases g with
      | none =>
        obtain rfl : v = .non := hv
        exact iteT (q _ (Same.refl _))
      | some p =>
        obtain ⟨a, rfl, ha⟩ := hv
        obtain ⟨g1, g2⟩ := gg p rfl
        rw [decide_eq_false (fun z => by cases z)]
        exact iteF ⟨.ref a, rfl, .ref a, fk, rfl, .inr T.kF, .inl ⟨a, p, rfl, ha, g1, g2, q⟩⟩
    · rw [decide_eq_false nn]
      exact iteF ⟨v, rfl, v, fk, rfl, .inr T.kF, .inr ⟨nt, q⟩⟩
theorem h__is_row (T : TopC K mg C fk cE iF) : CalH P w K mg base 5 "_is_row" (spRow K) := by
  refine calH_of T.d__is_row sc__is_row (fun _ _ _ _ _ _ us hl => match us, hl with | [_], _ => rfl) (fun vs H Q E h => ?_) (fun f cdv A outer s H vs Q E ph hr hc h => ?_)
  · obtain ⟨v, rfl, _⟩ := h
    rfl
  · obtain ⟨v, rfl, h⟩ := h
    refine ⟨_, (pss_one (ps_ret (pe_and (pe_callB call_isi (by rfl) T.z_isinstance (by decide +kernel) (pa_cons (pv 0) (pa_cons (pe_bltn (v := .ty "tuple") (by rfl) T.z_tuple (by decide +kernel) rfl) pa_nil))) (pe_and (pe_cmpR op_eq (pe_callB call_len_seq (by rfl) T.z_len (by decide +kernel) (pa_cons (pv 0) pa_nil)) pe_int (nomark _)) (pe_and (pe_cH (h__is_value_or_none T) hr (by decide) hc (by rfl) (pa_cons (pe_ix ix_tup (pv 0) pe_int (fun _ _ => rfl)) pa_nil)) (pe_one (pe_cH (h__is_value_or_none T) hr (by decide) hc (by rfl) (pa_cons (pe_ix ix_tup (pv 0) pe_int (fun _ _ => rfl)) pa_nil)))))))), ?_⟩
    refine ⟨v, rfl, ?_⟩
    dsimp only [tCons, tC, tNil]
    rcases h with ⟨r, ⟨a, v1, v2, rfl, ha, h1, h2⟩, ⟨g1, g2⟩, q⟩ | ⟨h, q⟩
    · refine isi_tup ha ⟨_, rfl, iteT ?_⟩
      refine ⟨.ref a, rfl, a, _, rfl, .inr ha.sq, rfl, _, rfl, iteT ?_⟩
      refine ⟨.ref a, rfl, a, _, 0, v1, rfl, rfl, ha.sq, rfl, v1, rfl, .inl ⟨r.1, h1, g1, fun H1 s1 => ⟨_, rfl, iteT ?_⟩⟩⟩
      refine ⟨.ref a, rfl, a, _, 1, v2, rfl, rfl, (ha.keep (TupKeep.of s1)).sq, rfl, v2, rfl, .inl ⟨r.2, h2.keep (TupKeep.of s1), g2, fun H2 s2 => q _ (s1.trans s2)⟩⟩
    · rcases h with nt | ⟨a, x, rfl, ha⟩ | ⟨a, x, y, rfl, ha, nt, nn⟩
      · exact noTup_isi nt ⟨_, rfl, iteF q⟩
      · refine isi_tup ha ⟨_, rfl, iteT ?_⟩
        exact ⟨.ref a, rfl, a, _, rfl, .inr ha.sq, rfl, _, rfl, iteF q⟩
      · refine isi_tup ha ⟨_, rfl, iteT ?_⟩
        refine ⟨.ref a, rfl, a, _, rfl, .inr ha.sq, rfl, _, rfl, iteT ?_⟩
        exact ⟨.ref a, rfl, a, _, 0, x, rfl, rfl, ha.sq, rfl, x, rfl, .inr ⟨nt, nn, _, rfl, iteF q⟩⟩
theorem h_Change_eq (T : TopC K mg C fk cE iF) : MetH P w K mg base 1 C "__eq__" (spEqC K C) := by
  refine metH_of T.cl T.d_eq sc_Change_eq (fun _ _ _ _ _ _ us hl => match us, hl with | [_, _], _ => rfl) (fun vs H Q E h => ?_) (fun f cdv A outer s H vs Q E ph hr hc h => ?_)
  · obtain ⟨a, dx, d, n, m, y, rfl, _⟩ := h
    rfl
  · obtain ⟨a, dx, d, n, m, y, rfl, ⟨ha, t, hd, hH, hO, hs⟩, h⟩ := h
    refine ⟨_, (pss_one (ps_ret (pe_and (pe_callB call_isi (by rfl) T.z_isinstance (by decide +kernel) (pa_cons (pv 1) (pa_cons (C8.pe_gc (by rfl) T.g_Change) pa_nil))) (pe_one (pe_cmpR (op_eqDD (roomH66 hr)) (pe_fld (pv 0) rfl) (pe_fld (pv 1) rfl) (nomark _)))))), ?_⟩
    refine ⟨y, rfl, ?_⟩
    dsimp only [tCons, tC, tNil]
    rcases h with ⟨b, dx', d', n', m', rfl, ⟨hb, u, hd', kH, kO, ks⟩, q⟩ | ⟨nc, q⟩
    · refine T.isC hb ⟨_, rfl, iteT ?_⟩
      refine ⟨.ref a, rfl, a, C, dx, _, _, rfl, ha, T.cl, T.nR, rfl, .ref b, rfl, b, C, dx', _, _, rfl, hb, T.cl, T.nR, rfl, ?_⟩
      have := Classical.propDecidable (m = m')
      exact rows_eq (c := decide (m = m')) hd hd' hH kH hO kO (by rw [decide_eq_true_eq]) (q _ (by rw [decide_eq_true_eq]))
    · exact T.isN nc ⟨_, rfl, iteF q⟩
end

end Fk

set_option maxHeartbeats 4000000
namespace Fk
open PySem PySem.Spec PyProof.Rows L2
open L2H (RoomH HotC)
section
variable {P : Program} {w : World} {K : PySem.W.Frag} {mg : Str → Option Value} {base : Heap} {C fk cE iF : Addr}
theorem h_Change (T : TopC K mg C fk cE iF) : MakH P w K mg base 6 "Change" C (spChI K C) [] := by
  obtain ⟨f, fd, M, F, df⟩ := T.ini
  refine ⟨f, fd, ["self", "rows"], [], M, ?_, T.mgC, F.binds (ps := ["self", "rows"]) df fun _ _ _ _ _ _ us hl => match us, hl with | [_, _], _ => rfl, .nil⟩
  refine fnH1 F sc_Change_init (fun vs H Q E h => ?_) (fun cdv A outer s H vs Q E ph hr hc h => ?_)
  · obtain ⟨a, e, dx, n, m, rfl, _⟩ := h
    rfl
  · obtain ⟨a, e, dx, n, m, rfl, ha, ⟨t, he, hH, hO⟩, hn, q⟩ := h
    have nae : a ≠ e := fun z => by rw [z, he] at ha; cases ha
    have hl : t.length ≤ 60 := Nat.le_trans hO.len hn
    refine ⟨_, (pss_cons (ps_if (PW.pt (pw_or (pt_not (pt_val (pe_callB call_isi (by rfl) T.z_isinstance (by decide +kernel) (pa_cons (pv 1) (pa_cons (pe_bltn (v := .ty "dict") (by rfl) T.z_dict (by decide +kernel) rfl) pa_nil))))) (pw_or1 (pt_not (pt_val (pe_callB (cr_allH hc) (by rfl) T.z_all (by decide +kernel) (pa_cons (pe_lock (pe_lcH (own := [("path", 2)]) (g := gName 2) hc sc_Change_init.nd (pi_keys2H (pv 1)) (blkOk_by (own := [("path", 2)]) (N := ["self", "rows", "path"]) (sc := C8.fnScope s_Change_init) (by decide +kernel)) (fun _ _ _ _ _ => (pg_name (i := 2) sc_Change_init.nd rfl (Or.inl rfl))) (fun _ _ _ _ _ => pts_nil) (fun _ _ _ _ _ => (pe_and (pe_cH (h_is_path T.toTop) hr (by decide) hc (by rfl) (pa_cons (pv 2) pa_nil)) (pe_one (pe_cH (h__is_row T) hr (by decide) hc (by rfl) (pa_cons (pe_dget (huH_of hr) (pv 1) (pv 2) (fun _ _ => rfl)) pa_nil))))))) pa_nil)))))))
      (pss_one ps_never)
      pss_nil)
      (pss_one (ps_fld (pv 0) (pe_dcH (own := [("path", 2)]) (g := gName 2) hc sc_Change_init.nd (pi_tupH (pe_cH (h_ascending T.toTop) hr (by decide) hc (by rfl) (pa_cons (pv 1) pa_nil))) (blkOk_by (own := [("path", 2)]) (N := ["self", "rows", "path"]) (sc := C8.fnScope s_Change_init) (by decide +kernel)) (fun _ _ _ _ _ => (pg_name (i := 2) sc_Change_init.nd rfl (Or.inl rfl))) (fun _ _ _ _ _ => pts_nil) (fun _ _ _ _ _ => (pv 2)) (fun _ _ _ _ _ => (pe_dget (huH_of hr) (pv 1) (pv 2) (fun _ _ => rfl)))) rfl))), ?_⟩
    refine ⟨.ref e, rfl, ?_⟩
    dsimp only [tCons, tC, tNil]
    refine ⟨_, _, .type "dict", .type "dict", true, rfl, .ty "dict", .base (.dK he), kit_ty (by decide +kernel), _, rfl, iteF ?_⟩
    refine ⟨e, _, he, trivial, fun od => ⟨.ref e, rfl, e, od, rfl, .inl ⟨kT t, upd_same, fun D hD => ?_⟩⟩⟩
    have Y : Yields (Itk e od (kT t)) ((t.map (·.1)).map V.str) (fun H => H e = some (.frz od (.dK (kT t)))) := by
      rw [← kV_kT]
      exact yields_keys
    have nDe : D ≠ e := lock_ne hD
    have fD : H D = none := lock_free hD
    have k0 : TupKeep H (upd H e (.frz od (.dK (kT t)))) := TupKeep.at fun xs z => by rw [he] at z; cases z
    refine lc_pure (i := 2) (us := t.map (·.1)) (g := V.str) Y (fun _ => .bl true) (fun _ => true) hD (fun H s => s _ _ upd_same) (fun H u _ hu R r => r H (Same.refl H))
      (fun H1 u s1 hu _ R r => ?_) (by rw [List.length_map]; omega) (fun H2 s2 h2 => ?_)
    · obtain ⟨p1, p2, p3⟩ := hO.path u hu
      refine ⟨.str u, rfl, .str u, rfl, .str u (by omega) p3, fun H3 s3 => ⟨_, rfl, ?_⟩⟩
      rw [show evalV isPathF (.str u) = true from p1]
      refine iteT ?_
      have z := hH.mem.mp hu
      cases y : m u with
      | none => rw [y] at z; cases z
      | some r0 =>
        obtain ⟨v, hv, rv⟩ := hH.at y
        have g1 := dget_kT (.inr ⟨od, s3 _ _ (s1 _ _ upd_same)⟩) u
        rw [hv] at g1
        exact ⟨.ref e, rfl, .str u, rfl, e, _, rfl, g1, v, rfl, .inl ⟨r0, (rv.keep k0).keep (TupKeep.of (s1.trans s3)), hO.good u r0 y, fun H4 s4 => r H4 (s3.trans s4)⟩⟩
    · rw [filt_all] at h2
      refine ⟨s2 _ _ upd_same, D, (t.map (·.1)).map fun _ => true, rfl, .inl (.inl ?_), ?_⟩
      · rw [upd_ne nDe, h2, List.map_map, List.map_map, List.map_map]
        rfl
      have hall : ((t.map (·.1)).map fun _ => true).all id = true := List.all_eq_true.mpr fun x hx => by
        obtain ⟨_, _, rfl⟩ := List.mem_map.mp hx
        rfl
      rw [hall]
      refine ⟨_, rfl, iteF ?_⟩
      have s02 : Same H (upd H2 e (.dK (kT t))) := same_unlock s2 he
      generalize upd H2 e (.dK (kT t)) = H3 at s02
      refine ⟨.ref e, rfl, e, t, rfl, s02 _ _ he, by omega, fun ys p H4 hp hs hpn s4 h4 => ?_⟩
      have s04 := s02.trans s4
      have hy : ∀ y ∈ ys, y ∈ t.map (·.1) := fun y hy => hp.mem_iff.mp hy
      refine ⟨p, rfl, ⟨_, SqT.of h4⟩, fun D2 hD2 => ?_⟩
      refine dc_tab (us := ys) (val := V.str) yields_tup (fun y => y) (fun y => (valV t y).getD .non) (fun _ => true) (fun y => [some (.ref a), some (.ref e), some (.str y)]) hD2 (fun H s => SqT.of (s _ _ h4)) (fun _ _ => rfl)
        (fun H u _ _ R k => k) (fun H u _ _ R k => k H (Same.refl H)) (fun H u _ _ _ R k => ⟨_, rfl, k H (Same.refl H)⟩) (fun H5 u s5 hu _ R k => ?_) (by have := hp.length_eq; rw [List.length_map] at this; omega) (by rw [filt_all, List.map_id']; exact hp.nodup_iff.mpr hO.nd) (fun H5 s5 h5 => ?_)
      · have z := mem_val.mp (hy u hu)
        cases hv : valV t u with
        | none => rw [hv] at z; cases z
        | some v =>
          have g1 := dget_kT (.inl (s5 _ _ (s04 _ _ he))) u
          rw [hv] at g1
          rw [hv] at k
          exact ⟨.ref e, rfl, .str u, rfl, e, _, rfl, g1, k H5 (Same.refl H5)⟩
      · have s05 := s04.trans s5
        have fD2 : H D2 = none := s04.free hD2
        have nDa : D2 ≠ a := ne_of_none' fD2 ha
        refine ⟨.ref a, rfl, a, C, dx, _, rfl, s05 _ _ ha, T.cl, T.nR, (by decide), ?_⟩
        refine q D2 _ fD2 (fr_sets s05) ⟨upd_same, ys.map fun y => (y, (valV t y).getD .non), ?_, ?_, ?_, ?_⟩
        · rw [upd_ne nDa, h5, filt_all]
        · refine (hH.perm hp).imp fun v r rv => rv.keep fun b xs z => fr_sets s05 _ _ (fun y => by rw [y, ha] at z; cases z) z
        · have ek : (ys.map fun y => (y, (valV t y).getD V.non)).map (·.1) = ys := by
            rw [List.map_map]
            exact List.map_id' ys
          refine ⟨nd_by (hp.nodup_iff.mpr hO.nd) _, ?_, fun x hx => ?_, hO.good⟩
          · have := hp.length_eq
            rw [List.length_map] at this ⊢
            rw [this]
            exact hO.len
          · rw [ek] at hx
            exact hO.path x (hy x hx)
        · rw [List.map_map]
          rw [show ((fun p : Str × V => p.1) ∘ fun y => (y, (valV t y).getD V.non)) = id from rfl, List.map_id]
          exact hs
end

end Fk

set_option maxHeartbeats 4000000
namespace Fk
open PySem PySem.Spec PyProof.Rows L2
theorem takesN_lock {X : Cx} {W : WX} (tk : L2N.Takes X W) : L2N.Takes X (wLock X W) := by
  rintro v s' ⟨a, B, sI, pins, σ, H, cls, dd, e, I, nb, up, sky, na, os, ag, d, od, u, hd, hn, w⟩
  refine tk v s' ⟨a, B, sI, pins, σ, upd H d u, cls, dd, e, I.unlock hd hn, nb, up, sky, ?_, os, ag, w⟩
  rw [upd_ne (fun z => by rw [z, hd] at na; cases na)]
  exact na
section
variable {P : Program} {w : World} {K : PySem.W.Frag} {mg : Str → Option Value} {base : Heap} {C fk cE iF cP cK iK : Addr}
theorem calN_of {x : Str} {st : Stmt} {N ps : List Str} {k : Nat} {sp : Sp} (D : IsDef K mg x st) (S : FnScope N ps (C8.fnScope st))
    (hb : ∀ (kV doc pm : Value) (an : Option Addr) (cdv ct : Value) (us : List Value), us.length = ps.length → bindArgs (PySem.W.fnOf x x (C8.fnArgs st) (C8.fnBody st) (C8.fnScope st) .none kV doc pm an cdv ct) ⟨us, []⟩ = pure (ps.zip us))
    (len : ∀ vs H Q E, sp vs H Q E → vs.length = ps.length)
    (hbody : ∀ (f : Addr) (cdv : Value) (A : Around) (outer : List Env) (s : Shared) (H : Hp) (vs : List V) (Q : VK) (E : XK), Room k (A.deeper (envOfC x (C8.fnScope st) s.heap.objs.size f cdv)) → sp vs H Q E →
      ∃ t, PSs (cxOf (L2N.CX P w) P w K mg base N x (C8.fnScope st) f cdv A outer s H E) (C8.fnBody st) t ∧ t { nx := fun _ H' => Q .non H', rt := Q } (start N vs) H) : CalX P w K mg base (L2N.CX P w) (k + 1) x sp [] := by
  obtain ⟨f, fd, D, df⟩ := D
  obtain ⟨oc, od, dV, kV, doc, pm, an, cdv, ct, osl, rfl, lk, hcd⟩ := D.fn.ex
  exact ⟨f, _, ps, [], fn_of lk hcd S len fun A outer s H vs Q E hr hsp => hbody f cdv A outer s H vs Q E hr hsp, D.mgf, D.kp, D.fn.binds df hb, .nil⟩
/-- what is no files is refused, the error's context told -/
def spCkN (K : PySem.W.Frag) (cP : Addr) : Sp := fun vs H Q E => ∃ (L : Addr) (v : V), vs = [.ref L] ∧ H L = some (.lst [v]) ∧ BadFile K H v ∧ Bad cP H E
set_option pp.maxSteps 300 in
theorem cxN_check_are_files (T : TopF K mg C fk cE iF cP cK iK) : CalX P w K mg base (L2N.CX P w) 5 "check_are_files" (spCkN K cP) [] := by
  refine calN_of T.d_check_are_files sc_check_are_files (fun _ _ _ _ _ _ us hl => match us, hl with | [_], _ => rfl) (fun vs H Q E h => ?_) (fun f cdv A outer s H vs Q E hr h => ?_)
  · obtain ⟨L, v, rfl, _⟩ := h
    rfl
  · obtain ⟨L, v, rfl, hL, bad, q⟩ := h
    refine ⟨_, (pss_one (ps_for (passes_of rfl) rfl (pi_list (pv 0)) (pg_name (i := 1) sc_check_are_files.nd rfl (Or.inl rfl))
      (pss_cons (ps_if (pt_not (pt_val (pe_callB call_isi (by rfl) T.z_isinstance (by decide +kernel) (pa_cons (pv 1) (pa_cons (pe_bltn (v := .ty "dict") (by rfl) T.z_dict (by decide +kernel) rfl) pa_nil)))))
      (pss_one (L2N.ps_raise rfl (L2N.takes_of rfl rfl rfl rfl) (rs_ofN T.eP (hr.mono (by decide)) (by rfl) (pa_cons pe_str pa_nil))))
      pss_nil)
      (pss_one (ps_lock (ps_for (passes_of rfl) rfl (pi_keys (pv 1)) (pg_name (i := 2) sc_check_are_files.nd rfl (Or.inl rfl))
      (pss_one (ps_if (PW.pt (pw_or (pt_not (pt_val (C8.pe_c (c_is_path T.toTop) hr (by decide) (by rfl) (pa_cons (pv 2) pa_nil)))) (pw_or1 (pt_not (pt_val (C8.pe_c (c_is_value T.toTop) hr (by decide) (by rfl) (pa_cons (pe_dget (hu_of hr) (pv 1) (pv 2) (fun _ _ => rfl)) (pa_cons (C8.pe_gc (by rfl) T.g_FILE_KINDS) pa_nil))))))))
      (pss_one (L2N.ps_raise rfl (takesN_lock (L2N.takes_of rfl rfl rfl rfl)) (rs_ofN T.eP (hr.mono (by decide)) (by rfl) (pa_cons pe_str pa_nil))))
      pss_nil)))))))), ?_⟩
    refine ⟨.ref L, rfl, L, rfl, ⟨_, SqL.of hL⟩, ?_⟩
    refine forG (items := [v]) yields_list (fun i σ H' => i = 0 ∧ Same H H' ∧ ∃ z1 z2, σ = [some (.ref L), z1, z2]) ⟨rfl, Same.refl H, none, none, rfl⟩ (fun i σ H' I => SqL.of (I.2.1 _ _ hL)) (fun i x σ H' hx I => ?_) (fun σ H' I => ?_)
    · obtain ⟨rfl, s1, z1, z2, rfl⟩ := I
      cases hx
      refine ⟨v, rfl, ?_⟩
      dsimp only [tCons, tC, tNil]
      have kL : ∀ {e : Addr} {u : HO} {od : Obj}, H' e = some u → (∀ ys, u ≠ .tup ys) → TupKeep H' (upd H' e (.frz od u)) := fun {e u od} he nt => TupKeep.at fun ys z => by
        rw [he] at z
        exact nt _ (Option.some.inj z)
      rcases bad with ⟨Ty, hTy, ty⟩ | ⟨e, y, v1, rfl, he, ly, oy, hb⟩
      · exact noDict_isi ⟨Ty, hTy, tyx_same s1 ty⟩ ⟨_, rfl, iteT ⟨(by show 1 ≤ 1000; decide), do_raise T.eP fun dd H3 s3 _ h3 => q dd _ H3 (s1.trans s3) h3⟩⟩
      · have he' := s1 _ _ he
        refine ⟨_, _, .type "dict", .type "dict", true, rfl, .ty "dict", .base (.dK he'), kit_ty (by decide +kernel), _, rfl, iteF ?_⟩
        refine ⟨e, _, he', trivial, fun od => ⟨.ref e, rfl, e, od, rfl, .inl ⟨kT [(y, v1)], upd_same, ?_⟩⟩⟩
        have kk := kL (od := od) he' (fun ys z => nomatch z)
        have heL : (upd H' e (.frz od (.dK (kT [(y, v1)])))) e = some (.frz od (.dK (kT [(y, v1)]))) := upd_same
        have kO : ∀ b o, b ≠ e → H b = some o → (upd H' e (.frz od (.dK (kT [(y, v1)])))) b = some o := fun b o nb z => by rw [upd_ne nb]; exact s1 _ _ z
        have sU : ∀ {H2 : Hp}, Same (upd H' e (.frz od (.dK (kT [(y, v1)])))) H2 → Same H' (upd H2 e (.dK (kT [(y, v1)]))) := fun s => same_unlock s he'
        generalize upd H' e (.frz od (.dK (kT [(y, v1)]))) = HL at kk heL sU kO
        have Y : Yields (Itk e od (kT [(y, v1)])) ([V.str y]) (fun H => H e = some (.frz od (.dK (kT [(y, v1)])))) := yields_keys
        have out : ∀ {H2 : Hp}, Same HL H2 → ∀ dd (yy : V) H3, Same H2 H3 → H2 dd = none → H3 dd = some (.xd [("why", yy)]) → wLock (cxOf (L2N.CX P w) P w K mg base ["arguments", "files", "path"] "check_are_files" (C8.fnScope s_check_are_files) f cdv A outer s H E) (fun cls d x H => E cls d H) (.ref cP) (some dd) [some (.ref L), some (.ref e), some (.str y)] H3 := fun {H2} s2 dd yy H3 s3 nd h3 => by
          have ne : dd ≠ e := fun z => by rw [z, s2 _ _ heL] at nd; cases nd
          exact ⟨e, od, _, s3 _ _ (s2 _ _ heL), (fun o' u' z => by rw [show H e = _ from z] at he; cases he), q dd yy _ (s1.trans (sU (s2.trans s3))) (by rw [upd_ne ne]; exact h3)⟩
        refine forG Y (fun k σ H2 => k = 0 ∧ Same HL H2 ∧ ∃ z2, σ = [some (.ref L), some (.ref e), z2]) ⟨rfl, Same.refl HL, z2, rfl⟩ (fun _ σ H2 I => I.2.1 _ _ heL) (fun k u σ H2 hy I => ?_) (fun σ H2 I => ?_)
        · obtain ⟨rfl, s2, z2, rfl⟩ := I
          cases hy
          refine ⟨.str y, rfl, .str y, rfl, .str y (by omega) oy, fun H3 s3 => ⟨_, rfl, ?_⟩⟩
          rcases hb with pf | ⟨pt, nt⟩
          · rw [show evalV isPathF (.str y) = false from pf]
            exact iteT ⟨(by show 1 ≤ 1000; decide), do_raise (Q := fun cls d H' => wLock (cxOf (L2N.CX P w) P w K mg base ["arguments", "files", "path"] "check_are_files" (C8.fnScope s_check_are_files) f cdv A outer s H E) (fun cls d x H => E cls d H) cls d [some (.ref L), some (.ref e), some (.str y)] H') T.eP fun dd H4 s4 nd h4 => out (s2.trans s3) dd _ H4 s4 nd h4⟩
          · rw [show evalV isPathF (.str y) = true from pt]
            refine iteF ?_
            have g1 := dget_kT (.inr ⟨od, s3 _ _ (s2 _ _ heL)⟩) y
            rw [show valV [(y, v1)] y = some v1 from valV_pos rfl] at g1
            refine ⟨.ref e, rfl, .str y, rfl, e, _, rfl, g1, v1, fk, rfl, .inr T.kF, .inr ⟨nt H3 (((TupKeep.of s1).trans kk).trans (TupKeep.of (s2.trans s3))) (fun b o nb z => s3 _ _ (s2 _ _ (kO b o nb z))), ⟨_, rfl, iteT ⟨(by show 1 ≤ 1000; decide), do_raise (Q := fun cls d H' => wLock (cxOf (L2N.CX P w) P w K mg base ["arguments", "files", "path"] "check_are_files" (C8.fnScope s_check_are_files) f cdv A outer s H E) (fun cls d x H => E cls d H) cls d [some (.ref L), some (.ref e), some (.str y)] H') T.eP fun dd H4 s4 nd h4 => out (s2.trans s3) dd _ H4 s4 nd h4⟩⟩⟩⟩
        · obtain ⟨z, _⟩ := I
          cases z
    · obtain ⟨z, _⟩ := I
      cases z
def spOnN (K : PySem.W.Frag) (cP : Addr) : Sp := fun vs H Q E => ∃ (a : Addr) (v : V), vs = [.ref a, v] ∧ BadFile K H v ∧ Bad cP H E
theorem mN_Change_on (T : TopF K mg C fk cE iF cP cK iK) : MetX P w K mg base (L2N.CX P w) 8 C "on" (spOnN K cP) [] := by
  refine metN_of T.cl T.d_on sc_Change_on (fun _ _ _ _ _ _ us hl => match us, hl with | [_, _], _ => rfl) (fun vs H Q E h => ?_) (fun fa cdv A outer s H vs Q E hr h => ?_)
  · obtain ⟨a, v, rfl, _⟩ := h
    rfl
  · obtain ⟨a, v, rfl, bad, q⟩ := h
    refine ⟨_, (pss_cons (ps_expr (pe_cx (cxN_check_are_files T) hr (by decide) (fun σ => L2N.passAt (L2N.takes_of rfl rfl rfl rfl) σ) (by rfl) (pa_cons (pe_lst (pa_cons (pv 1) pa_nil)) pa_nil))) pss_vac), ?_⟩
    refine ⟨v, rfl, (by show 1 ≤ sizeLine; decide), fun L hL => ?_⟩
    have s1 := same_new (o := .lst [v]) hL
    exact ⟨L, v, rfl, upd_same, bad.same s1, q.same s1⟩
end

end Fk

set_option maxHeartbeats 4000000
/-! Files (paths to values) as data that repr can show. -/
namespace Fk
open PySem PySem.Spec PyProof.Rows L2
def fileD (m : Mp Fi) (y : Str) : PyData := ((m y).map fun p => fvD (some p)).getD .none
def filesD (ys : List Str) (m : Mp Fi) : PyData := .dict ((ys.map PyData.str).zip (ys.map (fileD m)))
section
variable {K : PySem.W.Frag} {H : Hp}
theorem dq_files {e : Addr} {t : Tab} {m : Mp Fi} (h : H e = some (.dK (kT t))) (hh : Holds (FiV K H) t m) (nd : Nd t) : Dq K H (.ref e) (filesD (t.map (·.1)) m) := by
  have key : ∀ l : Tab, (∀ p ∈ l, ∃ r, m p.1 = some r ∧ FiV K H p.2 r) → DqAll K H ((kT l).map (·.2)) ((l.map (·.1)).map (fileD m)) := by
    intro l
    induction l with
    | nil => intro _; exact .nil
    | cons p l ih =>
      intro hl
      obtain ⟨r, a, b⟩ := hl p List.mem_cons_self
      refine .cons ?_ (ih fun q hq => hl q (List.mem_cons_of_mem _ hq))
      show Dq K H p.2 (fileD m p.1)
      unfold fileD
      rw [a]
      exact FvV.dq b
  have := Dq.dic h (key t fun p hp => hh.at' (by
    clear key hh h
    induction t with
    | nil => cases hp
    | cons q l ih =>
      obtain ⟨h1, h2⟩ := List.nodup_cons.mp (show ((q :: l).map (·.1)).Nodup from nd)
      rcases List.mem_cons.mp hp with z | z
      · rw [z, show q = (q.1, q.2) from rfl, valV_pos rfl]
      · rw [valV_neg (fun e => h1 (by dsimp only; rw [e]; exact List.mem_map.mpr ⟨p, z, rfl⟩))]
        exact ih h2 z))
  have ek : ((kT t).map fun p => keyD p.1) = (t.map (·.1)).map PyData.str := by
    unfold kT
    rw [List.map_map, List.map_map]
    rfl
  rw [ek] at this
  exact this
end
theorem fi_facts {m : Mp Fi} (hg : ∀ x r, m x = some r → GoodP r) (y : Str) : (fileD m y).showable = true ∧ (fileD m y).leavesShort 13 = true ∧ (fileD m y).depth ≤ 2 ∧ (fileD m y).weight ≤ 100 := by
  unfold fileD
  cases e : m y with
  | none => exact ⟨rfl, rfl, by decide, by decide⟩
  | some p =>
    have g := (hg y p e).f
    obtain ⟨a1, a2, a3, a4⟩ := rw_facts (r := (some p, none)) ⟨g, fun q z => nomatch z⟩
    refine ⟨(fv_facts g).1, ?_, ?_, Nat.le_trans (fv_facts g).2.2 (by decide)⟩
    · have z : PyData.leavesShortAll 13 [fvD (some p), fvD none] = true := a2
      simp only [PyData.leavesShortAll, Bool.and_eq_true] at z
      exact z.1
    · show PyData.depthAll [PyData.str p.1, .str p.2] + 1 ≤ 2
      simp [PyData.depthAll, PyData.depth]
theorem files_kv {m : Mp Fi} (hg : ∀ x r, m x = some r → GoodP r) : ∀ ys : List Str, (∀ y ∈ ys, PathOk y) →
    PyData.showableKv ((ys.map PyData.str).zip (ys.map (fileD m))) = true ∧ PyData.leavesShortKv 13 ((ys.map PyData.str).zip (ys.map (fileD m))) = true ∧ PyData.depthKv ((ys.map PyData.str).zip (ys.map (fileD m))) ≤ 2 ∧ PyData.weightKv ((ys.map PyData.str).zip (ys.map (fileD m))) ≤ 2000 * ys.length
  | [], _ => ⟨rfl, rfl, Nat.zero_le _, Nat.zero_le _⟩
  | y :: l, h => by
    obtain ⟨i1, i2, i3, i4⟩ := files_kv hg l fun z hz => h z (List.mem_cons_of_mem _ hz)
    obtain ⟨r1, r2, r3, r4⟩ := fi_facts hg y
    obtain ⟨_, p2, p3⟩ := h y List.mem_cons_self
    have p2 : y.cps.size ≤ 1000 := p2
    have ls : PyData.leavesShort 13 (.str y) = true := PyData.leavesShort_of_canLay0 13 (.str y) (strOk_of p3) rfl
    rw [List.map_cons, List.map_cons, List.zip_cons_cons]
    refine ⟨?_, ?_, ?_, ?_⟩
    · simp only [PyData.showableKv, PyData.showable, r1, i1, Bool.and_self]
    · simp only [PyData.leavesShortKv, ls, r2, i2, Bool.and_self]
    · simp only [PyData.depthKv, PyData.depth]
      omega
    · simp only [PyData.weightKv, PyData.weight, List.length_cons]
      omega
theorem files_facts {m : Mp Fi} (hg : ∀ x r, m x = some r → GoodP r) {ys : List Str} (hy : ∀ y ∈ ys, PathOk y) (hl : ys.length ≤ 60) : (filesD ys m).showable = true ∧ (filesD ys m).leavesShort 13 = true ∧ (filesD ys m).depth ≤ 3 ∧ (filesD ys m).weight ≤ 120000 := by
  obtain ⟨i1, i2, i3, i4⟩ := files_kv hg ys hy
  refine ⟨i1, i2, ?_, ?_⟩
  · show PyData.depthKv _ + 1 ≤ 3
    omega
  · show PyData.weightKv _ ≤ 120000
    omega
/-- two tables in a tuple can be shown -/
theorem two_shown {d1 d2 : PyData} (h1 : d1.showable = true ∧ d1.leavesShort 13 = true ∧ d1.depth ≤ 3 ∧ d1.weight ≤ 120000) (h2 : d2.showable = true ∧ d2.leavesShort 13 = true ∧ d2.depth ≤ 3 ∧ d2.weight ≤ 120000) :
    PyData.showable (.tuple [d1, d2]) = true ∧ PyData.depth (.tuple [d1, d2]) ≤ 60 ∧ (PyData.shown (.tuple [d1, d2])).length ≤ sizeLine := by
  obtain ⟨a1, a2, a3, a4⟩ := h1
  obtain ⟨b1, b2, b3, b4⟩ := h2
  refine ⟨?_, ?_, PyData.shown_fits (B := 13) (by decide) (by decide) ?_ ?_⟩
  · simp only [PyData.showable, PyData.showableAll, a1, b1, Bool.and_self]
  · simp only [PyData.depth, PyData.depthAll]
    omega
  · simp only [PyData.leavesShort, PyData.leavesShortAll, a2, b2, Bool.and_self]
  · simp only [PyData.weight, PyData.weightAll]
    omega
end Fk

set_option maxHeartbeats 4000000
namespace Fk
open PySem PySem.Spec PyProof.Rows L2
theorem eqv_strs (ys : List Str) : PyData.eqv (.list (ys.map PyData.str)) (.list (ys.map PyData.str)) = true := eqv_selfL ys
section
variable {P : Program} {w : World} {K : PySem.W.Frag} {mg : Str → Option Value} {base : Heap} {C fk cE iF cP cK iK : Addr}
def spLawT (K : PySem.W.Frag) : Sp := fun vs H Q _ => ∃ (a : Addr) (zs : List Int), vs = [.ref a] ∧ SqL K H a (zs.map V.int) ∧ zs.length ≤ 63 ∧ ∀ H', Q (.bl true) H'
set_option pp.maxSteps 600 in
theorem ok_law (T : TopF K mg C fk cE iF cP cK iK) (zrep : mg "repr" = none) {f : Addr} {fd : FuncData} {cd : Value} (F : C8.Fun K "law" "law" s_law f fd) (hc : fd.code = cd) (hR : Room 13 callerA) : TopOk P w K mg base C8.CX0 f fd ["_law_script"] (spLawT K) := by
  refine top_of F hc sc_law hR (fun vs H Q E h => ?_) (fun A outer s H vs Q E hg hr h => ?_)
  · obtain ⟨a, zs, rfl, _⟩ := h
    rfl
  · obtain ⟨a, zs, rfl, hS, hlen, q⟩ := h
    refine ⟨_, (pss_cons (ps_for PassesOwn.never rfl (pi_list (pe_op op_cat (pe_lst (pa_cons (C8.pe_c (c_l_cell_at T.toTop) hr (by decide) (by rfl) (pa_cons (pv 0) (pa_cons pe_int pa_nil))) pa_nil)) (pe_slice sl_list (pv 0) (po_some pe_int) (po_some pe_int)))) (pg_name (i := 1) sc_law.nd rfl (Or.inl rfl))
      (pss_cons (ps_set (i := 2) sc_law.nd rfl (Or.inl rfl) (C8.pe_c (c_l_well T.toTop) hr (by decide) (by rfl) (pa_cons (pv 1) pa_nil)))
      (pss_cons (ps_set (i := 3) sc_law.nd rfl (Or.inl rfl) (C8.pe_c (c_l_some_files T) hr (by decide) (by rfl) (pa_cons (pv 2) (pa_cons pe_int pa_nil))))
      (pss_cons (ps_set (i := 4) sc_law.nd rfl (Or.inl rfl) (C8.pe_c (c_l_change T) hr (by decide) (by rfl) (pa_cons (pv 2) (pa_cons (pv 3) pa_nil))))
      (pss_cons (ps_set (i := 5) sc_law.nd rfl (Or.inl rfl) (C8.pe_mk (k_Change T.toTopC) hr (by decide) (by rfl) (pa_cons (pv 4) pa_nil)))
      (pss_cons (ps_set (i := 6) sc_law.nd rfl (Or.inl rfl) (pe_callB (call_rep hg hr.units) (by rfl) zrep (by decide +kernel) (pa_cons (pe_tup (pa_cons (pv 3) (pa_cons (pv 4) pa_nil))) pa_nil)))
      (pss_cons (ps_set (i := 7) sc_law.nd rfl (Or.inl rfl) (C8.pe_c (c_l_due T) hr (by decide) (by rfl) (pa_cons (pv 4) (pa_cons (pv 3) pa_nil))))
      (pss_cons (ps_set (i := 8) sc_law.nd rfl (Or.inl rfl) (C8.pe_c (c_l_on T) hr (by decide) (by rfl) (pa_cons (pv 5) (pa_cons (pv 3) pa_nil))))
      (pss_cons (ps_if (PW.pt (pw_or (pt_cmpR (op_neDue (K := K) rfl (room66 hr)) (pv 8) (pv 7) (nomark _)) (pw_or1 (pt_cmpR op_ne (pe_callB (call_rep hg hr.units) (by rfl) zrep (by decide +kernel) (pa_cons (pe_tup (pa_cons (pv 3) (pa_cons (pv 4) pa_nil))) pa_nil)) (pv 6) (nomark _)))))
      (pss_one (ps_ret pe_bl))
      pss_nil)
      (C8.pss_cut (ps_if (PW.pt (pw_and (pt_val (pe_callB call_isi (by rfl) T.z_isinstance (by decide +kernel) (pa_cons (pv 7) (pa_cons (pe_bltn (v := .ty "dict") (by rfl) T.z_dict (by decide +kernel) rfl) pa_nil)))) (pw_and1 (pt_cmpR (op_neD hr.units) (pe_callTy (call_listD rfl) (by rfl) T.z_list (by decide +kernel) (pa_cons (pv 8) pa_nil)) (pe_callB (call_sortedD (by rfl)) (by rfl) T.z_sorted (by decide +kernel) (pa_cons (pv 8) pa_nil)) (nomark _)))))
      (pss_one (ps_ret pe_bl))
      pss_nil)
      (pss_cons (ps_if (PW.pt (pw_or (pt_not (pt_val (C8.pe_c (c_l_sum_right T) hr (by decide) (by rfl) (pa_cons (pv 2) (pa_cons (pv 5) (pa_cons (pv 3) (pa_cons (pv 7) pa_nil))))))) (pw_or1 (pt_not (pt_val (C8.pe_c (c_l_exchange_right T) hr (by decide) (by rfl) (pa_cons (pv 2) (pa_cons (pv 5) (pa_cons (pv 4) (pa_cons (pv 3) pa_nil))))))))))
      (pss_one (ps_ret pe_bl))
      pss_nil)
      (pss_cons (L2H.ps_try_onlyX rfl rfl ⟨rfl, by decide, .inl T.eP.mgc⟩ (fun _ _ _ z => z.elim) takes_none5 (fun W pn xe tk _ _ =>
      (pss_cons (ps_set (i := 8) sc_law.nd rfl (Or.inl rfl) (pe_mx (mN_Change_on T) hr (by decide) (fun σ => L2N.passAt tk σ) (pv 5) (pa_cons (C8.pe_c (c_l_pick T.toTop) hr (by decide) (by rfl) (pa_cons (pv 2) (pa_cons (pe_lst (pa_cons pe_non (pa_cons (pe_lst pa_nil) (pa_cons (pe_disp (pps_cons pe_str pe_int pps_nil) (by rfl) (by rfl) (fun z => by cases z) (by decide)) (pa_cons (pe_disp (pps_cons pe_str (pe_tup (pa_cons pe_str (pa_cons (pe_op op_mul_si pe_str pe_int) pa_nil))) pps_nil) (by rfl) (by rfl) (fun z => by cases z) (by decide)) pa_nil))))) pa_nil))) pa_nil)))
      (pss_one (ps_ret pe_bl)))) (fun a oe cls d pn hz hf tks hot =>
      (pss_one (ps_set (i := 9) sc_law.nd rfl (Or.inl rfl) (pe_cmpR (op_ownEqHK (K := K) rfl (h_Change_eq T.toTopC) (L2H.roomH_mark hr _) (by decide) hot) (pv 5) (pe_mkHK (K := K) rfl (h_Change T.toTopC) (L2H.roomH_mark hr _) (by decide) hot (by rfl) (pa_cons (pv 4) pa_nil)) (nomark _))))))
      (pss_one (ps_if (pt_not (pt_val (pv 9)))
      (pss_one (ps_ret pe_bl))
      pss_nil))))))))))))))
      (pss_one (ps_ret pe_bl))), ?_⟩
    refine ⟨.ref a, rfl, a, zs, 0, rfl, hS, fun v => ⟨(by show 1 ≤ sizeLine; decide), fun p1 n1 => ?_⟩⟩
    have s2 := same_new (o := .lst [V.int v]) n1
    have h1 : (upd H p1 (.lst [V.int v])) p1 = some (.lst [V.int v]) := upd_same
    generalize upd H p1 (.lst [V.int v]) = H2 at s2 h1 ⊢
    refine ⟨.ref a, rfl, 1, rfl, 10, rfl, a, zs.map V.int, rfl, s2.seq hS, fun p2 n2 => ?_⟩
    have s3 := same_new (o := .lst (cutV (zs.map V.int) (some 1) (some 10))) n2
    have h2 : (upd H2 p2 (.lst (cutV (zs.map V.int) (some 1) (some 10)))) p2 = some (.lst (cutV (zs.map V.int) (some 1) (some 10))) := upd_same
    generalize upd H2 p2 (.lst (cutV (zs.map V.int) (some 1) (some 10))) = H3 at s3 h2 ⊢
    refine ⟨p1, p2, _, _, rfl, rfl, s3 _ _ h1, h2, ?_, fun L nLL => ?_⟩
    · have := cutV_length (zs.map V.int) (some 1) (some 10)
      rw [List.length_map] at this
      exact small_line (by simp only [List.length_cons, List.length_nil]; omega)
    have s4 := same_new (o := .lst ([V.int v] ++ cutV (zs.map V.int) (some 1) (some 10))) nLL
    have h4 : (upd H3 L (.lst ([V.int v] ++ cutV (zs.map V.int) (some 1) (some 10)))) L = some (.lst ([V.int v] ++ cutV (zs.map V.int) (some 1) (some 10))) := upd_same
    generalize upd H3 L (.lst ([V.int v] ++ cutV (zs.map V.int) (some 1) (some 10))) = H4 at s4 h4 ⊢
    refine ⟨L, rfl, ⟨_, SqL.of h4⟩, ?_⟩
    refine forG (items := [V.int v] ++ cutV (zs.map V.int) (some 1) (some 10)) yields_list (fun i σ H' => H' L = some (.lst ([V.int v] ++ cutV (zs.map V.int) (some 1) (some 10))) ∧ ∃ z1 z2 z3 z4 z5 z6 z7 z8 z9, σ = [some (.ref a), z1, z2, z3, z4, z5, z6, z7, z8, z9])
      ⟨h4, none, none, none, none, none, none, none, none, none, rfl⟩ (fun i σ H' I => SqL.of I.1) (fun i x σ H' hi I => ?_) (fun σ H' I => ?_)
    · obtain ⟨hL, z1, z2, z3, z4, z5, z6, z7, z8, z9, rfl⟩ := I
      obtain ⟨n, rfl⟩ : ∃ n, x = .int n := by
        have h := List.mem_of_getElem? hi
        rcases List.mem_append.mp h with h | h
        · exact ⟨v, List.mem_singleton.mp h⟩
        · have e : ∃ m : List Int, cutV (zs.map V.int) (some 1) (some 10) = m.map V.int := by
            unfold cutV
            rw [← List.map_drop, ← List.map_take]
            exact ⟨_, rfl⟩
          obtain ⟨m, e⟩ := e
          rw [e] at h
          obtain ⟨n, _, rfl⟩ := List.mem_map.mp h
          exact ⟨n, rfl⟩
      refine ⟨.int n, rfl, n, rfl, fun H5 W nW s5 w5 => ?_⟩
      have LW : L ≠ W := fun e => by rw [← e, hL] at nW; cases nW
      refine ⟨.ref W, rfl, W, 6, 0, rfl, w5, by decide, by decide, by decide, fun e H6 c6 fm ne6 f6 w6 l6 u6 hF => ?_⟩
      refine ⟨.ref W, rfl, .ref e, rfl, W, e, c6, fm, rfl, w6, by omega, hF, fun r H7 c7 m nr7 f7 w7 l7 u7 hR hM => ?_⟩
      have hF := hF.fr f7 w6
      refine ⟨.ref r, rfl, do_changeA hR (by decide) fun oc ocx ocd H8 _ _ s8 hO => ?_⟩
      have hF := hF.same s8
      have hR := hR.same s8
      have w8 := w7.same s8
      have F8 : Fr W H5 H8 := f6.trans (f7.trans (Fr.same s8))
      obtain ⟨⟨tF, gF, hHF, oF⟩, hIF⟩ := id hF
      obtain ⟨tR, gR, hHR, oR⟩ := id hR
      have nFW : e ≠ W := w8.neK gF
      have nRW : r ≠ W := w8.neK gR
      have can := two_shown (files_facts oF.good oF.path (by rw [List.length_map]; exact Nat.le_trans oF.len (by decide))) (rows_facts oR.good oR.path (by rw [List.length_map]; exact Nat.le_trans oR.len (by decide)))
      generalize hTX : PyData.tuple [filesD (tF.map (·.1)) fm, rowsD (tR.map (·.1)) m] = TX at can
      have shows : ∀ {H' : Hp} {p : Addr}, Fr W H8 H' → H' p = some (.tup [V.ref e, .ref r]) → Dq K H' (.ref p) TX := fun {H' p} fr hp => by
        rw [← hTX]
        have k := TupKeep.fr fr w8
        exact .tup (SqT.of hp) (.cons (dq_files (fr _ _ nFW gF) (hHF.imp fun _ _ x => FvV.keep x k) oF.nd) (.cons (dq_rows (fr _ _ nRW gR) (hHR.imp fun _ _ x => x.keep k) oR.nd) .nil))
      refine ⟨.ref e, rfl, .ref r, rfl, (by show 2 ≤ sizeLine; decide), fun pT npT => ?_⟩
      have s9 := same_new (o := .tup [V.ref e, .ref r]) npT
      have h9 := upd_same (H := H8) (a := pT) (o := .tup [V.ref e, .ref r])
      generalize upd H8 pT (.tup [V.ref e, .ref r]) = H9 at s9 h9
      refine ⟨pT, TX, rfl, shows (Fr.same s9) h9, can.1, can.2.1, can.2.2, ?_⟩
      refine ⟨.ref r, rfl, .ref e, rfl, r, e, m, fm, rfl, hR.same s9, hM, hF.same s9, fun v1 H10 s10 hv1 => ?_⟩
      have s810 := s9.trans s10
      refine ⟨.ref oc, rfl, .ref e, rfl, oc, ocx, ocd, m, .ref e, .files fm, rfl, hO.same s810, hM, ⟨e, rfl, hF.same s810⟩, fun v2 H11 s11 hv2 hs2 => ?_⟩
      have s811 := s810.trans s11
      refine ⟨v2, rfl, v1, rfl, dueF m fm, hv2, hv1.same s11, _, rfl, iteF ?_⟩
      refine ⟨.ref e, rfl, .ref r, rfl, (by show 2 ≤ sizeLine; decide), fun pU npU => ?_⟩
      have s12 := same_new (o := .tup [V.ref e, .ref r]) npU
      have h12 := upd_same (H := H11) (a := pU) (o := .tup [V.ref e, .ref r])
      generalize upd H11 pU (.tup [V.ref e, .ref r]) = H12 at s12 h12
      have s812 := s811.trans s12
      refine ⟨pU, TX, rfl, shows (Fr.same s812) h12, can.1, can.2.1, can.2.2, .str TX.shown, rfl, rfl, _, rfl, ?_⟩
      rw [decide_eq_true rfl]
      refine iteF ?_
      have hv1 := hv1.same (s11.trans s12)
      refine ⟨fun σ' H' => σ' = [some (.ref a), some (.int n), some (.ref W), some (.ref e), some (.ref r), some (.ref oc), some (.str TX.shown), some v1, some v2, z9] ∧ Same H12 H', ?first, ?rest⟩
      case first =>
        refine ⟨v1, rfl, ?_⟩
        dsimp only [tCons, tC, tNil]
        refine hv1.isD fun b hb => ⟨b, rfl, ?_⟩
        cases b with
        | false => exact iteF ⟨rfl, Same.refl H12⟩
        | true =>
          obtain ⟨g, eg⟩ := hb.mp rfl
          refine iteT ?_
          rw [show onO m (.files fm) = dueF m fm from rfl, eg] at hv2
          obtain ⟨e2, rfl, ⟨⟨t2, g2, hH2, o2⟩, hI2⟩⟩ := hv2
          have so2 : sortedS (t2.map (·.1)) = true := hs2 fm e2 t2 rfl rfl g2
          have g12 := s12 _ _ g2
          have l2 : (t2.map (·.1)).length ≤ 16 := by rw [List.length_map]; exact o2.len
          refine ⟨.ref e2, rfl, e2, kT t2, rfl, .inl g12, fun pl npl => ?_⟩
          have s13 := same_new (o := .lst ((kT t2).map fun kv => kV kv.1)) npl
          have h13 := upd_same (H := H12) (a := pl) (o := .lst ((kT t2).map fun kv => kV kv.1))
          rw [show ((kT t2).map fun kv => kV kv.1) = (t2.map (·.1)).map V.str from kV_kT t2] at s13 h13 ⊢
          generalize upd H12 pl (.lst ((t2.map (·.1)).map V.str)) = H13 at s13 h13
          refine ⟨.ref e2, rfl, e2, kT t2, t2.map (·.1), rfl, .inl (s13 _ _ g12), keys_kT t2, by omega, fun ys pq hp hs npq => ?_⟩
          obtain rfl := sort_uniq hs so2 hp
          have s14 := same_new (o := .lst ((t2.map (·.1)).map V.str)) npq
          have h14 := upd_same (H := H13) (a := pq) (o := .lst ((t2.map (·.1)).map V.str))
          generalize upd H13 pq (.lst ((t2.map (·.1)).map V.str)) = H14 at s14 h14
          have ok : ∀ y ∈ t2.map (·.1), OkS y := fun y hy => (o2.path y hy).2.2
          refine ⟨.list ((t2.map (·.1)).map PyData.str), .list ((t2.map (·.1)).map PyData.str), .lst (SqL.of (s14 _ _ h13)) (dp_strs _), .lst (SqL.of h14) (dp_strs _), shaped_strs _ ok, shaped_strs _ ok, _, rfl, ?_⟩
          rw [eqv_strs]
          exact iteF ⟨rfl, s13.trans s14⟩
      case rest =>
        rintro σ' H14 ⟨rfl, s14⟩
        have s814 := s812.trans s14
        have hA := hO.same s814
        have w14 := w8.same s814
        have hF14 := hF.same s814
        have hR14 := hR.same s814
        refine ⟨.ref W, rfl, .ref oc, rfl, .ref e, rfl, v1, rfl, W, oc, ocx, ocd, e, c7, m, fm, v1, rfl, w14, by omega, hA, hM, hF14, hv1.same s14, fun H15 c15 f15 w15 l15 u15 => ⟨_, rfl, iteF ?_⟩⟩
        have hA := hA.fr f15 w14
        have hF15 := hF14.fr f15 w14
        have hR15 := hR14.fr f15 w14
        refine ⟨.ref W, rfl, .ref oc, rfl, .ref r, rfl, .ref e, rfl, W, oc, ocx, ocd, r, e, c15, m, fm, rfl, w15, by omega, hA, hR15, hM, hF15, fun H16 c16 f16 w16 l16 u16 => ⟨_, rfl, iteF ?_⟩⟩
        have hA := hA.fr f16 w15
        have hR16 := hR15.fr f16 w15
        have F16 : Fr W H5 H16 := F8.trans ((Fr.same s814).trans (f15.trans f16))
        refine ⟨.ref oc, rfl, oc, ocx, _, rfl, hA.1, rfl, .ref W, rfl, (by show 0 ≤ sizeLine; decide), fun k1 nk1 => ?_⟩
        have x1 := same_new (o := .lst []) nk1
        have kk1 := upd_same (H := H16) (a := k1) (o := .lst [])
        generalize upd H16 k1 (.lst []) = G1 at x1 kk1
        refine fun k2 nk2 => ⟨upd_same, [(.inr "a", .int 3)], rfl, (by decide), ?_⟩
        have x2 := same_mut (same_new (o := .dK []) nk2) (o := .dK (mergeK [] [((.inr "a" : Key), V.int 3)])) nk2
        have kk2 : (upd (upd G1 k2 (.dK [])) k2 (.dK (mergeK [] [((.inr "a" : Key), V.int 3)]))) k2 = some (.dK (kT [("a", .int 3)])) := upd_same
        generalize upd (upd G1 k2 (.dK [])) k2 (.dK (mergeK [] [((.inr "a" : Key), V.int 3)])) = G2 at x2 kk2
        refine fun k3 nk3 => ⟨("0" : Str), 16, rfl, rfl, by decide, by decide, by decide +kernel, (by show 2 ≤ sizeLine; decide), fun t3 nt3 => ⟨(same_new nt3) _ _ upd_same, [(.inr "", .ref t3)], rfl, (by show 1 ≤ 15; decide), ?_⟩⟩
        have x3 := same_mut ((same_new (o := .dK []) nk3).trans (same_new (o := .tup [V.str "file", .str (repS ("0" : Str) (Int.toNat 16))]) nt3)) (o := .dK (mergeK [] [((.inr "" : Key), V.ref t3)])) nk3
        have kk3 : (upd (upd (upd G2 k3 (.dK [])) t3 (.tup [V.str "file", .str (repS ("0" : Str) (Int.toNat 16))])) k3 (.dK (mergeK [] [((.inr "" : Key), V.ref t3)]))) k3 = some (.dK (kT [("", .ref t3)])) := upd_same
        generalize upd (upd (upd G2 k3 (.dK [])) t3 (.tup [V.str "file", .str (repS ("0" : Str) (Int.toNat 16))])) k3 (.dK (mergeK [] [((.inr "" : Key), V.ref t3)])) = G3 at x3 kk3
        refine ⟨(by show 4 ≤ sizeLine; decide), fun kS nkS => ?_⟩
        have xS := same_new (o := .lst [V.non, .ref k1, .ref k2, .ref k3]) nkS
        have hkS := upd_same (H := G3) (a := kS) (o := .lst [V.non, .ref k1, .ref k2, .ref k3])
        generalize upd G3 kS (.lst [V.non, .ref k1, .ref k2, .ref k3]) = G4 at xS hkS
        have y3 := xS
        have y2 := x3.trans y3
        have y1 := x2.trans y2
        have y0 := x1.trans y1
        have wS := w16.same y0
        have nS : kS ≠ W := by
          intro z
          obtain ⟨_, x, y, h⟩ := w16.same (x1.trans (x2.trans x3))
          rw [z, h] at nkS
          cases nkS
        refine do_pick wS hkS nS (by show 0 < 4; decide) (by show 4 < 1000000; decide) (by omega) fun odd hodd H17 c17 f17 w17 l17 u17 => ?_
        have nl : ∀ {b : Addr} {o : HO}, G4 b = some o → (∀ l, o ≠ .lst l) → b ≠ W := fun {b o} z no e => by
          obtain ⟨_, x, y, h⟩ := wS
          rw [e, h] at z
          exact no _ (Option.some.inj z).symm
        have n1 : k1 ≠ W := fun z => by
          obtain ⟨_, x, y, h⟩ := w16
          rw [z, h] at nk1
          cases nk1
        have h1 := f17 _ _ n1 (y1 _ _ kk1)
        have h2 := f17 _ _ (nl (y2 _ _ kk2) fun _ z => nomatch z) (y2 _ _ kk2)
        have h3 := f17 _ _ (nl (y3 _ _ kk3) fun _ z => nomatch z) (y3 _ _ kk3)
        have pa : isPathF "a" = true := by decide +kernel
        have bad : BadFile K H17 odd := by
          simp only [List.mem_cons, List.not_mem_nil, or_false] at hodd
          rcases hodd with rfl | rfl | rfl | rfl
          · exact .inl ⟨"NoneType", by decide, .base .non⟩
          · exact .inl ⟨"list", by decide, .base (.lst h1)⟩
          · exact .inr ⟨k2, "a", .int 3, rfl, h2, by decide, ok_by (by decide +kernel), .inr ⟨pa, fun H' _ _ => ⟨"int", by decide, .base (.int 3)⟩⟩⟩
          · exact .inr ⟨k3, "", .ref t3, rfl, h3, by decide, ok_by (by decide +kernel), .inl (by decide +kernel)⟩
        have F17 : Fr W H16 H17 := (Fr.same y0).trans f17
        have hA := hA.fr F17 w16
        have hR17 := hR16.fr F17 w16
        refine ⟨oc, odd, rfl, bad, fun dd yy H18 s18 h18 => ?_⟩
        refine ⟨true, T.exP, fun _ ax nax => ?_, fun z => nomatch z⟩
        have hA := hA.same s18
        have hR18 := hR17.same s18
        refine ⟨.ref oc, rfl, .ref r, rfl, do_changeA hR18 (by decide) fun c2 c2x c2d H19 _ _ s19 hO2 => ?_⟩
        have hA := hA.same s19
        refine ⟨oc, ocx, _, .ref C, rfl, hA.1, .base (.ins hO2.1 T.insC.cl T.insC.ha T.insC.hn T.insC.htk T.insC.hm), T.notC, oc, ocx, ocd, 16, m, .ref c2, rfl, hA, .inl ⟨c2, c2x, c2d, 16, m, rfl, hO2, fun b hb => ⟨b, rfl, ?_⟩⟩⟩
        obtain rfl : b = true := hb.mpr rfl
        refine ⟨.bl true, rfl, _, rfl, iteF ?_⟩
        exact ⟨s19 _ _ (s18 _ _ (F17 _ _ LW (F16 _ _ LW (s5 _ _ hL)))), _, _, _, _, _, _, _, _, _, rfl⟩
    · exact q H'
end

end Fk

set_option maxHeartbeats 4000000
namespace Fk
open PySem PySem.Spec PyProof.Rows L2
section
variable {P : Program} {w : World} {K : PySem.W.Frag} {mg : Str → Option Value} {base : Heap}
theorem ini_ForkError {f : Addr} {fd : FuncData} (F : C8.Fun K "__init__" "ForkError.__init__" s_ForkError_init f fd) : FnOk P w K mg base C8.CX0 1 f fd ["self", "why"] (spErr K "why") := by
  refine C8.fn0 F sc_ForkError_init (fun vs H Q E h => ?_) (fun cdv A outer s H vs Q E hr h => ?_)
  · obtain ⟨a, C, fI, y, rfl, _⟩ := h
    rfl
  · obtain ⟨a, C, fI, y, rfl, T, hno, ea, q⟩ := h
    refine ⟨_, pss_one (ps_osv (pv 0) (pv 1)), ?_⟩
    exact ⟨y, rfl, .ref a, rfl, a, C, fI, rfl, T, hno, ea, q⟩
theorem ini_Conflict {f : Addr} {fd : FuncData} (F : C8.Fun K "__init__" "Conflict.__init__" s_Conflict_init f fd) : FnOk P w K mg base C8.CX0 1 f fd ["self", "paths"] (spErr K "paths") := by
  refine C8.fn0 F sc_Conflict_init (fun vs H Q E h => ?_) (fun cdv A outer s H vs Q E hr h => ?_)
  · obtain ⟨a, C, fI, y, rfl, _⟩ := h
    rfl
  · obtain ⟨a, C, fI, y, rfl, T, hno, ea, q⟩ := h
    refine ⟨_, pss_one (ps_osv (pv 0) (pv 1)), ?_⟩
    exact ⟨y, rfl, .ref a, rfl, a, C, fI, rfl, T, hno, ea, q⟩
end
theorem sub_ty {K : PySem.W.Frag} {C : Addr} : ∀ Ty ∈ OTY41, PySem.W.subIn K (.type Ty) (.ref C) = some false := by
  intro Ty h
  simp only [OTY41, List.mem_cons, List.not_mem_nil, or_false] at h
  rcases h with rfl | rfl | rfl | rfl | rfl <;> rfl
theorem find_ty {K : PySem.W.Frag} : ∀ Ty ∈ OTY41, ∃ fo ro, PySem.W.findIn K (.type Ty) "__add__" = some fo ∧ PySem.W.findIn K (.type Ty) "__radd__" = some ro := by
  intro Ty h
  simp only [OTY41, List.mem_cons, List.not_mem_nil, or_false] at h
  rcases h with rfl | rfl | rfl | rfl | rfl <;> exact ⟨_, _, rfl, rfl⟩
theorem all_mk {l : PySem.W.OpenLaw} {w : World} {K : PySem.W.Frag} {h : Heap} {mg : Str → Option Value} {fa : Addr} (X : K.In h) (G : h.Ns mainGlobals mg) (hfa : mg "law" = some (.ref fa))
    {f1 f2 f3 f4 f5 f6 f7 f8 f9 f10 f11 f12 f13 f14 f15 f16 f17 f18 f19 f20 f21 f22 f23 f24 f25 f26 f27 f28 : Addr} {od1 an1 od2 an2 od3 an3 od4 an4 od5 an5 od6 an6 od7 an7 od8 an8 od9 an9 od10 an10 od11 an11 od12 an12 od13 an13 od14 an14 od15 an15 od16 an16 od17 an17 od18 an18 od19 an19 od20 an20 od21 an21 od22 an22 od23 an23 od24 an24 od25 an25 od26 an26 od27 an27 od28 an28 : Option Addr} {sl1 sl2 sl3 sl4 sl5 sl6 sl7 sl8 sl9 sl10 sl11 sl12 sl13 sl14 sl15 sl16 sl17 sl18 sl19 sl20 sl21 sl22 sl23 sl24 sl25 sl26 sl27 sl28 : Array (Option Value)} {oc1 kV1 dc1 pm1 cd1 ct1 oc2 kV2 dc2 pm2 cd2 ct2 oc3 kV3 dc3 pm3 cd3 ct3 oc4 kV4 dc4 pm4 cd4 ct4 oc5 kV5 dc5 pm5 cd5 ct5 oc6 kV6 dc6 pm6 cd6 ct6 oc7 kV7 dc7 pm7 cd7 ct7 oc8 kV8 dc8 pm8 cd8 ct8 oc9 kV9 dc9 pm9 cd9 ct9 oc10 kV10 dc10 pm10 cd10 ct10 oc11 kV11 dc11 pm11 cd11 ct11 oc12 kV12 dc12 pm12 cd12 ct12 oc13 kV13 dc13 pm13 cd13 ct13 oc14 kV14 dc14 pm14 cd14 ct14 oc15 kV15 dc15 pm15 cd15 ct15 oc16 kV16 dc16 pm16 cd16 ct16 oc17 kV17 dc17 pm17 cd17 ct17 oc18 kV18 dc18 pm18 cd18 ct18 oc19 kV19 dc19 pm19 cd19 ct19 oc20 kV20 dc20 pm20 cd20 ct20 oc21 kV21 dc21 pm21 cd21 ct21 oc22 kV22 dc22 pm22 cd22 ct22 oc23 kV23 dc23 pm23 cd23 ct23 oc24 kV24 dc24 pm24 cd24 ct24 oc25 kV25 dc25 pm25 cd25 ct25 oc26 kV26 dc26 pm26 cd26 ct26 oc27 kV27 dc27 pm27 cd27 ct27 oc28 kV28 dc28 pm28 cd28 ct28 : Value} {t_HEX_DIGITS : Tok} {t_SEGMENT_SIGNS : Tok} {t_LONGEST_WORD : Tok}
    (a1 : PySem.W.nsIn K mainGlobals "is_id" = some (some (.ref f1))) (l1 : K.lookup f1 = some ⟨oc1, od1, .func (PySem.W.fnOf "is_id" "is_id" (C8.fnArgs s_is_id) (C8.fnBody s_is_id) (C8.fnScope s_is_id) .none kV1 dc1 pm1 an1 cd1 ct1), sl1⟩) (c1 : PySem.W.codeIn K cd1 "is_id" = true) (k1 : PySem.W.keepIn K (.ref f1) = true)
    (a2 : PySem.W.nsIn K mainGlobals "is_path" = some (some (.ref f2))) (l2 : K.lookup f2 = some ⟨oc2, od2, .func (PySem.W.fnOf "is_path" "is_path" (C8.fnArgs s_is_path) (C8.fnBody s_is_path) (C8.fnScope s_is_path) .none kV2 dc2 pm2 an2 cd2 ct2), sl2⟩) (c2 : PySem.W.codeIn K cd2 "is_path" = true) (k2 : PySem.W.keepIn K (.ref f2) = true)
    (a3 : PySem.W.nsIn K mainGlobals "is_segment" = some (some (.ref f3))) (l3 : K.lookup f3 = some ⟨oc3, od3, .func (PySem.W.fnOf "is_segment" "is_segment" (C8.fnArgs s_is_segment) (C8.fnBody s_is_segment) (C8.fnScope s_is_segment) .none kV3 dc3 pm3 an3 cd3 ct3), sl3⟩) (c3 : PySem.W.codeIn K cd3 "is_segment" = true) (k3 : PySem.W.keepIn K (.ref f3) = true)
    (a4 : PySem.W.nsIn K mainGlobals "ascending" = some (some (.ref f4))) (l4 : K.lookup f4 = some ⟨oc4, od4, .func (PySem.W.fnOf "ascending" "ascending" (C8.fnArgs s_ascending) (C8.fnBody s_ascending) (C8.fnScope s_ascending) .none kV4 dc4 pm4 an4 cd4 ct4), sl4⟩) (c4 : PySem.W.codeIn K cd4 "ascending" = true) (k4 : PySem.W.keepIn K (.ref f4) = true)
    (a5 : PySem.W.nsIn K mainGlobals "prefixes" = some (some (.ref f5))) (l5 : K.lookup f5 = some ⟨oc5, od5, .func (PySem.W.fnOf "prefixes" "prefixes" (C8.fnArgs s_prefixes) (C8.fnBody s_prefixes) (C8.fnScope s_prefixes) .none kV5 dc5 pm5 an5 cd5 ct5), sl5⟩) (c5 : PySem.W.codeIn K cd5 "prefixes" = true) (k5 : PySem.W.keepIn K (.ref f5) = true)
    (a6 : PySem.W.nsIn K mainGlobals "_is_word" = some (some (.ref f6))) (l6 : K.lookup f6 = some ⟨oc6, od6, .func (PySem.W.fnOf "_is_word" "_is_word" (C8.fnArgs s__is_word) (C8.fnBody s__is_word) (C8.fnScope s__is_word) .none kV6 dc6 pm6 an6 cd6 ct6), sl6⟩) (c6 : PySem.W.codeIn K cd6 "_is_word" = true) (k6 : PySem.W.keepIn K (.ref f6) = true)
    (a7 : PySem.W.nsIn K mainGlobals "is_value" = some (some (.ref f7))) (l7 : K.lookup f7 = some ⟨oc7, od7, .func (PySem.W.fnOf "is_value" "is_value" (C8.fnArgs s_is_value) (C8.fnBody s_is_value) (C8.fnScope s_is_value) .none kV7 dc7 pm7 an7 cd7 ct7), sl7⟩) (c7 : PySem.W.codeIn K cd7 "is_value" = true) (k7 : PySem.W.keepIn K (.ref f7) = true)
    (a8 : PySem.W.nsIn K mainGlobals "differences" = some (some (.ref f8))) (l8 : K.lookup f8 = some ⟨oc8, od8, .func (PySem.W.fnOf "differences" "differences" (C8.fnArgs s_differences) (C8.fnBody s_differences) (C8.fnScope s_differences) .none kV8 dc8 pm8 an8 cd8 ct8), sl8⟩) (c8 : PySem.W.codeIn K cd8 "differences" = true) (k8 : PySem.W.keepIn K (.ref f8) = true)
    (a9 : PySem.W.nsIn K mainGlobals "check_are_files" = some (some (.ref f9))) (l9 : K.lookup f9 = some ⟨oc9, od9, .func (PySem.W.fnOf "check_are_files" "check_are_files" (C8.fnArgs s_check_are_files) (C8.fnBody s_check_are_files) (C8.fnScope s_check_are_files) .none kV9 dc9 pm9 an9 cd9 ct9), sl9⟩) (c9 : PySem.W.codeIn K cd9 "check_are_files" = true) (k9 : PySem.W.keepIn K (.ref f9) = true)
    (a10 : PySem.W.nsIn K mainGlobals "crossing" = some (some (.ref f10))) (l10 : K.lookup f10 = some ⟨oc10, od10, .func (PySem.W.fnOf "crossing" "crossing" (C8.fnArgs s_crossing) (C8.fnBody s_crossing) (C8.fnScope s_crossing) .none kV10 dc10 pm10 an10 cd10 ct10), sl10⟩) (c10 : PySem.W.codeIn K cd10 "crossing" = true) (k10 : PySem.W.keepIn K (.ref f10) = true)
    (a11 : PySem.W.nsIn K mainGlobals "_check_change" = some (some (.ref f11))) (l11 : K.lookup f11 = some ⟨oc11, od11, .func (PySem.W.fnOf "_check_change" "_check_change" (C8.fnArgs s__check_change) (C8.fnBody s__check_change) (C8.fnScope s__check_change) .none kV11 dc11 pm11 an11 cd11 ct11), sl11⟩) (c11 : PySem.W.codeIn K cd11 "_check_change" = true) (k11 : PySem.W.keepIn K (.ref f11) = true)
    (a12 : PySem.W.nsIn K mainGlobals "_is_row" = some (some (.ref f12))) (l12 : K.lookup f12 = some ⟨oc12, od12, .func (PySem.W.fnOf "_is_row" "_is_row" (C8.fnArgs s__is_row) (C8.fnBody s__is_row) (C8.fnScope s__is_row) .none kV12 dc12 pm12 an12 cd12 ct12), sl12⟩) (c12 : PySem.W.codeIn K cd12 "_is_row" = true) (k12 : PySem.W.keepIn K (.ref f12) = true)
    (a13 : PySem.W.nsIn K mainGlobals "_is_value_or_none" = some (some (.ref f13))) (l13 : K.lookup f13 = some ⟨oc13, od13, .func (PySem.W.fnOf "_is_value_or_none" "_is_value_or_none" (C8.fnArgs s__is_value_or_none) (C8.fnBody s__is_value_or_none) (C8.fnScope s__is_value_or_none) .none kV13 dc13 pm13 an13 cd13 ct13), sl13⟩) (c13 : PySem.W.codeIn K cd13 "_is_value_or_none" = true) (k13 : PySem.W.keepIn K (.ref f13) = true)
    (a14 : PySem.W.nsIn K mainGlobals "_lie_at_or_below" = some (some (.ref f14))) (l14 : K.lookup f14 = some ⟨oc14, od14, .func (PySem.W.fnOf "_lie_at_or_below" "_lie_at_or_below" (C8.fnArgs s__lie_at_or_below) (C8.fnBody s__lie_at_or_below) (C8.fnScope s__lie_at_or_below) .none kV14 dc14 pm14 an14 cd14 ct14), sl14⟩) (c14 : PySem.W.codeIn K cd14 "_lie_at_or_below" = true) (k14 : PySem.W.keepIn K (.ref f14) = true)
    (a15 : PySem.W.nsIn K mainGlobals "_law_cell_at" = some (some (.ref f15))) (l15 : K.lookup f15 = some ⟨oc15, od15, .func (PySem.W.fnOf "_law_cell_at" "_law_cell_at" (C8.fnArgs s_l_cell_at) (C8.fnBody s_l_cell_at) (C8.fnScope s_l_cell_at) .none kV15 dc15 pm15 an15 cd15 ct15), sl15⟩) (c15 : PySem.W.codeIn K cd15 "_law_cell_at" = true) (k15 : PySem.W.keepIn K (.ref f15) = true)
    (a16 : PySem.W.nsIn K mainGlobals "_law_well" = some (some (.ref f16))) (l16 : K.lookup f16 = some ⟨oc16, od16, .func (PySem.W.fnOf "_law_well" "_law_well" (C8.fnArgs s_l_well) (C8.fnBody s_l_well) (C8.fnScope s_l_well) .none kV16 dc16 pm16 an16 cd16 ct16), sl16⟩) (c16 : PySem.W.codeIn K cd16 "_law_well" = true) (k16 : PySem.W.keepIn K (.ref f16) = true)
    (a17 : PySem.W.nsIn K mainGlobals "_law_draw" = some (some (.ref f17))) (l17 : K.lookup f17 = some ⟨oc17, od17, .func (PySem.W.fnOf "_law_draw" "_law_draw" (C8.fnArgs s_l_draw) (C8.fnBody s_l_draw) (C8.fnScope s_l_draw) .none kV17 dc17 pm17 an17 cd17 ct17), sl17⟩) (c17 : PySem.W.codeIn K cd17 "_law_draw" = true) (k17 : PySem.W.keepIn K (.ref f17) = true)
    (a18 : PySem.W.nsIn K mainGlobals "_law_pick" = some (some (.ref f18))) (l18 : K.lookup f18 = some ⟨oc18, od18, .func (PySem.W.fnOf "_law_pick" "_law_pick" (C8.fnArgs s_l_pick) (C8.fnBody s_l_pick) (C8.fnScope s_l_pick) .none kV18 dc18 pm18 an18 cd18 ct18), sl18⟩) (c18 : PySem.W.codeIn K cd18 "_law_pick" = true) (k18 : PySem.W.keepIn K (.ref f18) = true)
    (a19 : PySem.W.nsIn K mainGlobals "_law_some_files" = some (some (.ref f19))) (l19 : K.lookup f19 = some ⟨oc19, od19, .func (PySem.W.fnOf "_law_some_files" "_law_some_files" (C8.fnArgs s_l_some_files) (C8.fnBody s_l_some_files) (C8.fnScope s_l_some_files) .none kV19 dc19 pm19 an19 cd19 ct19), sl19⟩) (c19 : PySem.W.codeIn K cd19 "_law_some_files" = true) (k19 : PySem.W.keepIn K (.ref f19) = true)
    (a20 : PySem.W.nsIn K mainGlobals "_law_near" = some (some (.ref f20))) (l20 : K.lookup f20 = some ⟨oc20, od20, .func (PySem.W.fnOf "_law_near" "_law_near" (C8.fnArgs s_l_near) (C8.fnBody s_l_near) (C8.fnScope s_l_near) .none kV20 dc20 pm20 an20 cd20 ct20), sl20⟩) (c20 : PySem.W.codeIn K cd20 "_law_near" = true) (k20 : PySem.W.keepIn K (.ref f20) = true)
    (a21 : PySem.W.nsIn K mainGlobals "_law_clashes" = some (some (.ref f21))) (l21 : K.lookup f21 = some ⟨oc21, od21, .func (PySem.W.fnOf "_law_clashes" "_law_clashes" (C8.fnArgs s_l_clashes) (C8.fnBody s_l_clashes) (C8.fnScope s_l_clashes) .none kV21 dc21 pm21 an21 cd21 ct21), sl21⟩) (c21 : PySem.W.codeIn K cd21 "_law_clashes" = true) (k21 : PySem.W.keepIn K (.ref f21) = true)
    (a22 : PySem.W.nsIn K mainGlobals "_law_on" = some (some (.ref f22))) (l22 : K.lookup f22 = some ⟨oc22, od22, .func (PySem.W.fnOf "_law_on" "_law_on" (C8.fnArgs s_l_on) (C8.fnBody s_l_on) (C8.fnScope s_l_on) .none kV22 dc22 pm22 an22 cd22 ct22), sl22⟩) (c22 : PySem.W.codeIn K cd22 "_law_on" = true) (k22 : PySem.W.keepIn K (.ref f22) = true)
    (a23 : PySem.W.nsIn K mainGlobals "_law_due" = some (some (.ref f23))) (l23 : K.lookup f23 = some ⟨oc23, od23, .func (PySem.W.fnOf "_law_due" "_law_due" (C8.fnArgs s_l_due) (C8.fnBody s_l_due) (C8.fnScope s_l_due) .none kV23 dc23 pm23 an23 cd23 ct23), sl23⟩) (c23 : PySem.W.codeIn K cd23 "_law_due" = true) (k23 : PySem.W.keepIn K (.ref f23) = true)
    (a24 : PySem.W.nsIn K mainGlobals "_law_change" = some (some (.ref f24))) (l24 : K.lookup f24 = some ⟨oc24, od24, .func (PySem.W.fnOf "_law_change" "_law_change" (C8.fnArgs s_l_change) (C8.fnBody s_l_change) (C8.fnScope s_l_change) .none kV24 dc24 pm24 an24 cd24 ct24), sl24⟩) (c24 : PySem.W.codeIn K cd24 "_law_change" = true) (k24 : PySem.W.keepIn K (.ref f24) = true)
    (a25 : PySem.W.nsIn K mainGlobals "_law_apart" = some (some (.ref f25))) (l25 : K.lookup f25 = some ⟨oc25, od25, .func (PySem.W.fnOf "_law_apart" "_law_apart" (C8.fnArgs s_l_apart) (C8.fnBody s_l_apart) (C8.fnScope s_l_apart) .none kV25 dc25 pm25 an25 cd25 ct25), sl25⟩) (c25 : PySem.W.codeIn K cd25 "_law_apart" = true) (k25 : PySem.W.keepIn K (.ref f25) = true)
    (a26 : PySem.W.nsIn K mainGlobals "_law_sum_right" = some (some (.ref f26))) (l26 : K.lookup f26 = some ⟨oc26, od26, .func (PySem.W.fnOf "_law_sum_right" "_law_sum_right" (C8.fnArgs s_l_sum_right) (C8.fnBody s_l_sum_right) (C8.fnScope s_l_sum_right) .none kV26 dc26 pm26 an26 cd26 ct26), sl26⟩) (c26 : PySem.W.codeIn K cd26 "_law_sum_right" = true) (k26 : PySem.W.keepIn K (.ref f26) = true)
    (a27 : PySem.W.nsIn K mainGlobals "_law_exchange_right" = some (some (.ref f27))) (l27 : K.lookup f27 = some ⟨oc27, od27, .func (PySem.W.fnOf "_law_exchange_right" "_law_exchange_right" (C8.fnArgs s_l_exchange_right) (C8.fnBody s_l_exchange_right) (C8.fnScope s_l_exchange_right) .none kV27 dc27 pm27 an27 cd27 ct27), sl27⟩) (c27 : PySem.W.codeIn K cd27 "_law_exchange_right" = true) (k27 : PySem.W.keepIn K (.ref f27) = true)
    (a28 : PySem.W.nsIn K mainGlobals "law" = some (some (.ref f28))) (l28 : K.lookup f28 = some ⟨oc28, od28, .func (PySem.W.fnOf "law" "law" (C8.fnArgs s_law) (C8.fnBody s_law) (C8.fnScope s_law) .none kV28 dc28 pm28 an28 cd28 ct28), sl28⟩) (c28 : PySem.W.codeIn K cd28 "law" = true) (k28 : PySem.W.keepIn K (.ref f28) = true)
    (z_ValueError : PySem.W.nsIn K mainGlobals "ValueError" = some none)
    (z_all : PySem.W.nsIn K mainGlobals "all" = some none)
    (z_any : PySem.W.nsIn K mainGlobals "any" = some none)
    (z_dict : PySem.W.nsIn K mainGlobals "dict" = some none)
    (z_int : PySem.W.nsIn K mainGlobals "int" = some none)
    (z_isinstance : PySem.W.nsIn K mainGlobals "isinstance" = some none)
    (z_len : PySem.W.nsIn K mainGlobals "len" = some none)
    (z_list : PySem.W.nsIn K mainGlobals "list" = some none)
    (z_range : PySem.W.nsIn K mainGlobals "range" = some none)
    (z_sorted : PySem.W.nsIn K mainGlobals "sorted" = some none)
    (z_str : PySem.W.nsIn K mainGlobals "str" = some none)
    (z_tuple : PySem.W.nsIn K mainGlobals "tuple" = some none)
    (g_HEX_DIGITS : PySem.W.nsIn K mainGlobals "HEX_DIGITS" = some (some (.str (Str.ofString "0123456789abcdef") t_HEX_DIGITS)))
    (g_SEGMENT_SIGNS : PySem.W.nsIn K mainGlobals "SEGMENT_SIGNS" = some (some (.str (Str.ofString "abcdefghijklmnopqrstuvwxyz0123456789._-") t_SEGMENT_SIGNS)))
    (g_LONGEST_WORD : PySem.W.nsIn K mainGlobals "LONGEST_WORD" = some (some (.int 12 t_LONGEST_WORD)))
    {CA cF cN cP cK iF iK fk dT : Addr}
    {fmChange_init : Addr}
    {odmChange_init anmChange_init : Option Addr} {slmChange_init : Array (Option Value)} {ocmChange_init kVmChange_init dcmChange_init pmmChange_init cdmChange_init ctmChange_init : Value}
    {fmChange_plain : Addr}
    {odmChange_plain anmChange_plain : Option Addr} {slmChange_plain : Array (Option Value)} {ocmChange_plain kVmChange_plain dcmChange_plain pmmChange_plain cdmChange_plain ctmChange_plain : Value}
    {fmChange_is_apart : Addr}
    {odmChange_is_apart anmChange_is_apart : Option Addr} {slmChange_is_apart : Array (Option Value)} {ocmChange_is_apart kVmChange_is_apart dcmChange_is_apart pmmChange_is_apart cdmChange_is_apart ctmChange_is_apart : Value}
    {fmChange_add : Addr}
    {odmChange_add anmChange_add : Option Addr} {slmChange_add : Array (Option Value)} {ocmChange_add kVmChange_add dcmChange_add pmmChange_add cdmChange_add ctmChange_add : Value}
    {fmChange_neg : Addr}
    {odmChange_neg anmChange_neg : Option Addr} {slmChange_neg : Array (Option Value)} {ocmChange_neg kVmChange_neg dcmChange_neg pmmChange_neg cdmChange_neg ctmChange_neg : Value}
    {fmChange_eq : Addr}
    {odmChange_eq anmChange_eq : Option Addr} {slmChange_eq : Array (Option Value)} {ocmChange_eq kVmChange_eq dcmChange_eq pmmChange_eq cdmChange_eq ctmChange_eq : Value}
    {fmChange_on : Addr}
    {odmChange_on anmChange_on : Option Addr} {slmChange_on : Array (Option Value)} {ocmChange_on kVmChange_on dcmChange_on pmmChange_on cdmChange_on ctmChange_on : Value}
    {fpChange_rows qpChange_rows : Addr} {rpChange_rows : List Value}
    {odpChange_rows anpChange_rows : Option Addr} {slpChange_rows : Array (Option Value)} {ocpChange_rows kVpChange_rows dcpChange_rows pmpChange_rows cdpChange_rows ctpChange_rows : Value}
    {fmB qmB : Addr} {rmB : List Value}
    {odmB anmB : Option Addr} {slmB : Array (Option Value)} {ocmB kVmB dcmB pmmB cdmB ctmB : Value}
    {fko : Option Addr} {fkn : Nat} {fkl : Array (Option Value)} {tk1 tk2 : Tok}
    {qF : Str} {NF : Addr} {bsF subF : List Value} {snF : List Str} {abF : Bool} {colF : Option Bool} {ddF : Option Addr} {mF_0 mF_1 mF_2 mF_3 mF_5 : Option Value}
    {qN : Str} {NN : Addr} {bsN subN : List Value} {snN : List Str} {abN : Bool} {colN : Option Bool} {ddN : Option Addr} {mN_0 mN_1 mN_2 mN_3 mN_5 : Option Value}
    {qP : Str} {NP : Addr} {bsP subP : List Value} {snP : List Str} {abP : Bool} {colP : Option Bool} {ddP : Option Addr} {mP_0 mP_1 mP_2 mP_3 mP_5 : Option Value}
    {qK : Str} {NK : Addr} {bsK subK : List Value} {snK : List Str} {abK : Bool} {colK : Option Bool} {ddK : Option Addr} {mK_0 mK_1 mK_2 mK_3 mK_5 : Option Value}
    {odiF aniF : Option Addr} {sliF : Array (Option Value)} {ociF kViF dciF pmiF cdiF ctiF : Value}
    {odiK aniK : Option Addr} {sliK : Array (Option Value)} {ociK kViK dciK pmiK cdiK ctiK : Value}
    {tkd : Tok} {tcw : Value} {tow : Option Addr} {tnw : Nat} {tsw : Array (Option Value)}
    (eA_mg : PySem.W.nsIn K mainGlobals "Change" = some (some (.ref CA)))
    (eF_mg : PySem.W.nsIn K mainGlobals "ForkError" = some (some (.ref cF)))
    (eN_mg : PySem.W.nsIn K mainGlobals "BadChange" = some (some (.ref cN)))
    (eP_mg : PySem.W.nsIn K mainGlobals "BadPath" = some (some (.ref cP)))
    (eK_mg : PySem.W.nsIn K mainGlobals "Conflict" = some (some (.ref cK)))
    (z_repr : PySem.W.nsIn K mainGlobals "repr" = some none)
    (CA_pg : PySem.W.plainGet K CA Str.empty = true)
    (CA_hd : PySem.W.hasDictIn K CA = true)
    (CA_po : PySem.W.plainOver K CA = true)
    (CA_sa : PySem.W.findIn K (.ref CA) "__setattr__" = some (some (.builtin "object.__setattr__")))
    (CA_mk : PySem.W.makesIn K CA = true)
    (CA_kc : PySem.W.keepIn K (.ref CA) = true)
    (CA_ha : PySem.W.findIn K (.ref CA) "__class__" = some (some (.builtin "object.__class__")))
    (CA_hm : PySem.W.mroIn K CA (.type "object") = some true)
    (CA_ne : PySem.W.findIn K (.ref CA) "__ne__" = some (some (.builtin "object.__ne__")))
    (CA_sf : PySem.W.selfFirst K CA = true)
    (CA_ra : PySem.W.findIn K (.ref CA) "__radd__" = some none)
    (CA_nr : PySem.W.findIn K (.ref CA) "_rows" = some none)
    (e_hn : PySem.W.specialIn K (.builtin "object.__class__") "__get__" = some (some (.builtin "getset_descriptor.__get__")))
    (e_ht : PySem.W.takesIn K (.builtin "object.__class__") = some true)
    (amChange_init : PySem.W.findIn K (.ref CA) "__init__" = some (some (.ref fmChange_init)))
    (imChange_init : PySem.W.isFn K (.ref fmChange_init) = true)
    (lmChange_init : K.lookup fmChange_init = some ⟨ocmChange_init, odmChange_init, .func (PySem.W.fnOf "__init__" "Change.__init__" (C8.fnArgs s_Change_init) (C8.fnBody s_Change_init) (C8.fnScope s_Change_init) .none kVmChange_init dcmChange_init pmmChange_init anmChange_init cdmChange_init ctmChange_init), slmChange_init⟩)
    (cmChange_init : PySem.W.codeIn K cdmChange_init "Change.__init__" = true)
    (kmChange_init : PySem.W.keepIn K (.ref fmChange_init) = true)
    (amChange_plain : PySem.W.findIn K (.ref CA) "plain" = some (some (.ref fmChange_plain)))
    (imChange_plain : PySem.W.isFn K (.ref fmChange_plain) = true)
    (lmChange_plain : K.lookup fmChange_plain = some ⟨ocmChange_plain, odmChange_plain, .func (PySem.W.fnOf "plain" "Change.plain" (C8.fnArgs s_Change_plain) (C8.fnBody s_Change_plain) (C8.fnScope s_Change_plain) .none kVmChange_plain dcmChange_plain pmmChange_plain anmChange_plain cdmChange_plain ctmChange_plain), slmChange_plain⟩)
    (cmChange_plain : PySem.W.codeIn K cdmChange_plain "Change.plain" = true)
    (kmChange_plain : PySem.W.keepIn K (.ref fmChange_plain) = true)
    (amChange_is_apart : PySem.W.findIn K (.ref CA) "is_apart" = some (some (.ref fmChange_is_apart)))
    (imChange_is_apart : PySem.W.isFn K (.ref fmChange_is_apart) = true)
    (lmChange_is_apart : K.lookup fmChange_is_apart = some ⟨ocmChange_is_apart, odmChange_is_apart, .func (PySem.W.fnOf "is_apart" "Change.is_apart" (C8.fnArgs s_Change_is_apart) (C8.fnBody s_Change_is_apart) (C8.fnScope s_Change_is_apart) .none kVmChange_is_apart dcmChange_is_apart pmmChange_is_apart anmChange_is_apart cdmChange_is_apart ctmChange_is_apart), slmChange_is_apart⟩)
    (cmChange_is_apart : PySem.W.codeIn K cdmChange_is_apart "Change.is_apart" = true)
    (kmChange_is_apart : PySem.W.keepIn K (.ref fmChange_is_apart) = true)
    (amChange_add : PySem.W.findIn K (.ref CA) "__add__" = some (some (.ref fmChange_add)))
    (imChange_add : PySem.W.isFn K (.ref fmChange_add) = true)
    (lmChange_add : K.lookup fmChange_add = some ⟨ocmChange_add, odmChange_add, .func (PySem.W.fnOf "__add__" "Change.__add__" (C8.fnArgs s_Change_add) (C8.fnBody s_Change_add) (C8.fnScope s_Change_add) .none kVmChange_add dcmChange_add pmmChange_add anmChange_add cdmChange_add ctmChange_add), slmChange_add⟩)
    (cmChange_add : PySem.W.codeIn K cdmChange_add "Change.__add__" = true)
    (kmChange_add : PySem.W.keepIn K (.ref fmChange_add) = true)
    (amChange_neg : PySem.W.findIn K (.ref CA) "__neg__" = some (some (.ref fmChange_neg)))
    (imChange_neg : PySem.W.isFn K (.ref fmChange_neg) = true)
    (lmChange_neg : K.lookup fmChange_neg = some ⟨ocmChange_neg, odmChange_neg, .func (PySem.W.fnOf "__neg__" "Change.__neg__" (C8.fnArgs s_Change_neg) (C8.fnBody s_Change_neg) (C8.fnScope s_Change_neg) .none kVmChange_neg dcmChange_neg pmmChange_neg anmChange_neg cdmChange_neg ctmChange_neg), slmChange_neg⟩)
    (cmChange_neg : PySem.W.codeIn K cdmChange_neg "Change.__neg__" = true)
    (kmChange_neg : PySem.W.keepIn K (.ref fmChange_neg) = true)
    (amChange_eq : PySem.W.findIn K (.ref CA) "__eq__" = some (some (.ref fmChange_eq)))
    (imChange_eq : PySem.W.isFn K (.ref fmChange_eq) = true)
    (lmChange_eq : K.lookup fmChange_eq = some ⟨ocmChange_eq, odmChange_eq, .func (PySem.W.fnOf "__eq__" "Change.__eq__" (C8.fnArgs s_Change_eq) (C8.fnBody s_Change_eq) (C8.fnScope s_Change_eq) .none kVmChange_eq dcmChange_eq pmmChange_eq anmChange_eq cdmChange_eq ctmChange_eq), slmChange_eq⟩)
    (cmChange_eq : PySem.W.codeIn K cdmChange_eq "Change.__eq__" = true)
    (kmChange_eq : PySem.W.keepIn K (.ref fmChange_eq) = true)
    (amChange_on : PySem.W.findIn K (.ref CA) "on" = some (some (.ref fmChange_on)))
    (imChange_on : PySem.W.isFn K (.ref fmChange_on) = true)
    (lmChange_on : K.lookup fmChange_on = some ⟨ocmChange_on, odmChange_on, .func (PySem.W.fnOf "on" "Change.on" (C8.fnArgs s_Change_on) (C8.fnBody s_Change_on) (C8.fnScope s_Change_on) .none kVmChange_on dcmChange_on pmmChange_on anmChange_on cdmChange_on ctmChange_on), slmChange_on⟩)
    (cmChange_on : PySem.W.codeIn K cdmChange_on "Change.on" = true)
    (kmChange_on : PySem.W.keepIn K (.ref fmChange_on) = true)
    (apChange_rows : PySem.W.findIn K (.ref CA) "rows" = some (some (.ref qpChange_rows)))
    (gpChange_rows : PySem.W.specialIn K (.ref qpChange_rows) "__get__" = some (some (.builtin "property.__get__")))
    (tpChange_rows : PySem.W.takesIn K (.ref qpChange_rows) = some true)
    (rpChange_rows_ : PySem.W.recIn K qpChange_rows "property" = some (.ref fpChange_rows :: rpChange_rows))
    (lpChange_rows : K.lookup fpChange_rows = some ⟨ocpChange_rows, odpChange_rows, .func (PySem.W.fnOf "rows" "Change.rows" (C8.fnArgs s_Change_rows) (C8.fnBody s_Change_rows) (C8.fnScope s_Change_rows) .none kVpChange_rows dcpChange_rows pmpChange_rows anpChange_rows cdpChange_rows ctpChange_rows), slpChange_rows⟩)
    (cpChange_rows : PySem.W.codeIn K cdpChange_rows "Change.rows" = true)
    (amB : PySem.W.findCls K (.ref CA) (.type "type") "between" = some (.get (.builtin "classmethod.__get__") (.ref qmB) .none (.ref CA)))
    (rdB : PySem.W.readsIn K CA (.type "type") = true)
    (gaB : PySem.W.specialIn K (.ref CA) "__getattribute__" = some (some (.builtin "type.__getattribute__")))
    (rcB : PySem.W.recIn K qmB "classmethod" = some (.ref fmB :: rmB))
    (fiB : PySem.W.fnIn K fmB = true)
    (lmB : K.lookup fmB = some ⟨ocmB, odmB, .func (PySem.W.fnOf "between" "Change.between" (C8.fnArgs s_Change_between) (C8.fnBody s_Change_between) (C8.fnScope s_Change_between) .none kVmB dcmB pmmB anmB cdmB ctmB), slmB⟩)
    (cmB : PySem.W.codeIn K cdmB "Change.between" = true)
    (g_FK : PySem.W.nsIn K mainGlobals "FILE_KINDS" = some (some (.ref fk)))
    (t_fk : K.lookup fk = some ⟨.type "tuple", fko, .seq #[.str (Str.ofString "file") tk1, .str (Str.ofString "exec") tk2] fkn, fkl⟩)
    (xF : K.lookup cF = some (excClassObj "ForkError" qF cF NF bsF [.type "ValueError", .type "Exception", .type "BaseException", .type "object"] true snF subF abF colF ddF mF_0 mF_1 mF_2 mF_3 mF_5 "ValueError.__new__"))
    (xN : K.lookup cN = some (excClassObj "BadChange" qN cN NN bsN [.ref cF, .type "ValueError", .type "Exception", .type "BaseException", .type "object"] true snN subN abN colN ddN mN_0 mN_1 mN_2 mN_3 mN_5 "ValueError.__new__"))
    (xP : K.lookup cP = some (excClassObj "BadPath" qP cP NP bsP [.ref cF, .type "ValueError", .type "Exception", .type "BaseException", .type "object"] true snP subP abP colP ddP mP_0 mP_1 mP_2 mP_3 mP_5 "ValueError.__new__"))
    (xK : K.lookup cK = some (excClassObj "Conflict" qK cK NK bsK [.ref cF, .type "ValueError", .type "Exception", .type "BaseException", .type "object"] true snK subK abK colK ddK mK_0 mK_1 mK_2 mK_3 mK_5 "ValueError.__new__"))
    (saN : PySem.W.findIn K (.ref cN) "__setattr__" = some (some (.builtin "object.__setattr__")))
    (kCN : PySem.W.keepIn K (.ref cN) = true)
    (iCN : PySem.W.findIn K (.ref cN) "__init__" = some (some (.ref iF)))
    (gaN : PySem.W.findIn K (.ref cN) "__getattribute__" = some (some (.builtin "BaseException.__getattribute__")))
    (ggN : PySem.W.findIn K (.ref cN) "__getattr__" = some none)
    (haN : PySem.W.findIn K (.ref cN) "__class__" = some (some (.builtin "object.__class__")))
    (nfN : PySem.W.findIn K (.ref cN) "why" = some none)
    (saP : PySem.W.findIn K (.ref cP) "__setattr__" = some (some (.builtin "object.__setattr__")))
    (kCP : PySem.W.keepIn K (.ref cP) = true)
    (iCP : PySem.W.findIn K (.ref cP) "__init__" = some (some (.ref iF)))
    (gaP : PySem.W.findIn K (.ref cP) "__getattribute__" = some (some (.builtin "BaseException.__getattribute__")))
    (ggP : PySem.W.findIn K (.ref cP) "__getattr__" = some none)
    (haP : PySem.W.findIn K (.ref cP) "__class__" = some (some (.builtin "object.__class__")))
    (nfP : PySem.W.findIn K (.ref cP) "why" = some none)
    (saK : PySem.W.findIn K (.ref cK) "__setattr__" = some (some (.builtin "object.__setattr__")))
    (kCK : PySem.W.keepIn K (.ref cK) = true)
    (iCK : PySem.W.findIn K (.ref cK) "__init__" = some (some (.ref iK)))
    (gaK : PySem.W.findIn K (.ref cK) "__getattribute__" = some (some (.builtin "BaseException.__getattribute__")))
    (ggK : PySem.W.findIn K (.ref cK) "__getattr__" = some none)
    (haK : PySem.W.findIn K (.ref cK) "__class__" = some (some (.builtin "object.__class__")))
    (nfK : PySem.W.findIn K (.ref cK) "paths" = some none)
    (tiF : PySem.W.typeIn K (.ref iF) = some (.type "function"))
    (liF : K.lookup iF = some ⟨ociF, odiF, .func (PySem.W.fnOf "__init__" "ForkError.__init__" (C8.fnArgs s_ForkError_init) (C8.fnBody s_ForkError_init) (C8.fnScope s_ForkError_init) (.ref dT) kViF dciF pmiF aniF cdiF ctiF), sliF⟩)
    (ciF : PySem.W.codeIn K cdiF "ForkError.__init__" = true)
    (kiF : PySem.W.keepIn K (.ref iF) = true)
    (tiK : PySem.W.typeIn K (.ref iK) = some (.type "function"))
    (liK : K.lookup iK = some ⟨ociK, odiK, .func (PySem.W.fnOf "__init__" "Conflict.__init__" (C8.fnArgs s_Conflict_init) (C8.fnBody s_Conflict_init) (C8.fnScope s_Conflict_init) .none kViK dciK pmiK aniK cdiK ctiK), sliK⟩)
    (ciK : PySem.W.codeIn K cdiK "Conflict.__init__" = true)
    (kiK : PySem.W.keepIn K (.ref iK) = true)
    (e_dT : K.lookup dT = some ⟨tcw, tow, .seq #[.str (Str.ofString "") tkd] tnw, tsw⟩)
    (odNoneType : PySem.W.kitOne K (.type "NoneType") (.ref CA) = some false)
    (odint : PySem.W.kitOne K (.type "int") (.ref CA) = some false)
    (odlist : PySem.W.kitOne K (.type "list") (.ref CA) = some false)
    (odtuple : PySem.W.kitOne K (.type "tuple") (.ref CA) = some false)
    (oddict : PySem.W.kitOne K (.type "dict") (.ref CA) = some false)
    : LawTop l w K C8.CX0 63 "_law_script" mg fa h := by
  have e := hfa.symm.trans (PySem.W.mg_of X G a28)
  cases e
  have T : Top K mg := {
    d_is_id := ⟨_, _, ⟨⟨⟨_, _, _, _, _, _, _, _, _, _, rfl, l1, c1⟩⟩, PySem.W.mg_of X G a1, k1⟩, rfl⟩
    d_is_path := ⟨_, _, ⟨⟨⟨_, _, _, _, _, _, _, _, _, _, rfl, l2, c2⟩⟩, PySem.W.mg_of X G a2, k2⟩, rfl⟩
    d_is_segment := ⟨_, _, ⟨⟨⟨_, _, _, _, _, _, _, _, _, _, rfl, l3, c3⟩⟩, PySem.W.mg_of X G a3, k3⟩, rfl⟩
    d_ascending := ⟨_, _, ⟨⟨⟨_, _, _, _, _, _, _, _, _, _, rfl, l4, c4⟩⟩, PySem.W.mg_of X G a4, k4⟩, rfl⟩
    d_prefixes := ⟨_, _, ⟨⟨⟨_, _, _, _, _, _, _, _, _, _, rfl, l5, c5⟩⟩, PySem.W.mg_of X G a5, k5⟩, rfl⟩
    d__is_word := ⟨_, _, ⟨⟨⟨_, _, _, _, _, _, _, _, _, _, rfl, l6, c6⟩⟩, PySem.W.mg_of X G a6, k6⟩, rfl⟩
    d_is_value := ⟨_, _, ⟨⟨⟨_, _, _, _, _, _, _, _, _, _, rfl, l7, c7⟩⟩, PySem.W.mg_of X G a7, k7⟩, rfl⟩
    d_differences := ⟨_, _, ⟨⟨⟨_, _, _, _, _, _, _, _, _, _, rfl, l8, c8⟩⟩, PySem.W.mg_of X G a8, k8⟩, rfl⟩
    d_check_are_files := ⟨_, _, ⟨⟨⟨_, _, _, _, _, _, _, _, _, _, rfl, l9, c9⟩⟩, PySem.W.mg_of X G a9, k9⟩, rfl⟩
    d_crossing := ⟨_, _, ⟨⟨⟨_, _, _, _, _, _, _, _, _, _, rfl, l10, c10⟩⟩, PySem.W.mg_of X G a10, k10⟩, rfl⟩
    d__check_change := ⟨_, _, ⟨⟨⟨_, _, _, _, _, _, _, _, _, _, rfl, l11, c11⟩⟩, PySem.W.mg_of X G a11, k11⟩, rfl⟩
    d__is_row := ⟨_, _, ⟨⟨⟨_, _, _, _, _, _, _, _, _, _, rfl, l12, c12⟩⟩, PySem.W.mg_of X G a12, k12⟩, rfl⟩
    d__is_value_or_none := ⟨_, _, ⟨⟨⟨_, _, _, _, _, _, _, _, _, _, rfl, l13, c13⟩⟩, PySem.W.mg_of X G a13, k13⟩, rfl⟩
    d__lie_at_or_below := ⟨_, _, ⟨⟨⟨_, _, _, _, _, _, _, _, _, _, rfl, l14, c14⟩⟩, PySem.W.mg_of X G a14, k14⟩, rfl⟩
    d_l_cell_at := ⟨_, _, ⟨⟨⟨_, _, _, _, _, _, _, _, _, _, rfl, l15, c15⟩⟩, PySem.W.mg_of X G a15, k15⟩, rfl⟩
    d_l_well := ⟨_, _, ⟨⟨⟨_, _, _, _, _, _, _, _, _, _, rfl, l16, c16⟩⟩, PySem.W.mg_of X G a16, k16⟩, rfl⟩
    d_l_draw := ⟨_, _, ⟨⟨⟨_, _, _, _, _, _, _, _, _, _, rfl, l17, c17⟩⟩, PySem.W.mg_of X G a17, k17⟩, rfl⟩
    d_l_pick := ⟨_, _, ⟨⟨⟨_, _, _, _, _, _, _, _, _, _, rfl, l18, c18⟩⟩, PySem.W.mg_of X G a18, k18⟩, rfl⟩
    d_l_some_files := ⟨_, _, ⟨⟨⟨_, _, _, _, _, _, _, _, _, _, rfl, l19, c19⟩⟩, PySem.W.mg_of X G a19, k19⟩, rfl⟩
    d_l_near := ⟨_, _, ⟨⟨⟨_, _, _, _, _, _, _, _, _, _, rfl, l20, c20⟩⟩, PySem.W.mg_of X G a20, k20⟩, rfl⟩
    d_l_clashes := ⟨_, _, ⟨⟨⟨_, _, _, _, _, _, _, _, _, _, rfl, l21, c21⟩⟩, PySem.W.mg_of X G a21, k21⟩, rfl⟩
    d_l_on := ⟨_, _, ⟨⟨⟨_, _, _, _, _, _, _, _, _, _, rfl, l22, c22⟩⟩, PySem.W.mg_of X G a22, k22⟩, rfl⟩
    d_l_due := ⟨_, _, ⟨⟨⟨_, _, _, _, _, _, _, _, _, _, rfl, l23, c23⟩⟩, PySem.W.mg_of X G a23, k23⟩, rfl⟩
    d_l_change := ⟨_, _, ⟨⟨⟨_, _, _, _, _, _, _, _, _, _, rfl, l24, c24⟩⟩, PySem.W.mg_of X G a24, k24⟩, rfl⟩
    d_l_apart := ⟨_, _, ⟨⟨⟨_, _, _, _, _, _, _, _, _, _, rfl, l25, c25⟩⟩, PySem.W.mg_of X G a25, k25⟩, rfl⟩
    d_l_sum_right := ⟨_, _, ⟨⟨⟨_, _, _, _, _, _, _, _, _, _, rfl, l26, c26⟩⟩, PySem.W.mg_of X G a26, k26⟩, rfl⟩
    d_l_exchange_right := ⟨_, _, ⟨⟨⟨_, _, _, _, _, _, _, _, _, _, rfl, l27, c27⟩⟩, PySem.W.mg_of X G a27, k27⟩, rfl⟩
    d_law := ⟨_, _, ⟨⟨⟨_, _, _, _, _, _, _, _, _, _, rfl, l28, c28⟩⟩, PySem.W.mg_of X G a28, k28⟩, rfl⟩
    z_ValueError := PySem.W.mg_none_of X G z_ValueError
    z_all := PySem.W.mg_none_of X G z_all
    z_any := PySem.W.mg_none_of X G z_any
    z_dict := PySem.W.mg_none_of X G z_dict
    z_int := PySem.W.mg_none_of X G z_int
    z_isinstance := PySem.W.mg_none_of X G z_isinstance
    z_len := PySem.W.mg_none_of X G z_len
    z_list := PySem.W.mg_none_of X G z_list
    z_range := PySem.W.mg_none_of X G z_range
    z_sorted := PySem.W.mg_none_of X G z_sorted
    z_str := PySem.W.mg_none_of X G z_str
    z_tuple := PySem.W.mg_none_of X G z_tuple
    g_HEX_DIGITS := ⟨_, PySem.W.mg_of X G g_HEX_DIGITS, ⟨_, rfl⟩⟩
    g_SEGMENT_SIGNS := ⟨_, PySem.W.mg_of X G g_SEGMENT_SIGNS, ⟨_, rfl⟩⟩
    g_LONGEST_WORD := ⟨_, PySem.W.mg_of X G g_LONGEST_WORD, ⟨_, rfl⟩⟩ }
  have cfF : CF K "ForkError" "ValueError.__new__" VE cF := ⟨_, _, _, _, _, _, _, _, _, _, _, _, _, xF⟩
  have cfN : CF K "BadChange" "ValueError.__new__" (.ref cF :: VE) cN := ⟨_, _, _, _, _, _, _, _, _, _, _, _, _, xN⟩
  have cfP : CF K "BadPath" "ValueError.__new__" (.ref cF :: VE) cP := ⟨_, _, _, _, _, _, _, _, _, _, _, _, _, xP⟩
  have cfK : CF K "Conflict" "ValueError.__new__" (.ref cF :: VE) cK := ⟨_, _, _, _, _, _, _, _, _, _, _, _, _, xK⟩
  have hbE : ((Value.ref cF :: VE).contains (.type "BaseException")) = true := rfl
  have hbO : ((Value.ref cF :: VE).contains (.type "object")) = true := rfl
  have FD : FunD K "__init__" "ForkError.__init__" (C8.fnArgs s_ForkError_init) (C8.fnBody s_ForkError_init) (C8.fnScope s_ForkError_init) [V.str ""] [] iF (PySem.W.fnOf "__init__" "ForkError.__init__" (C8.fnArgs s_ForkError_init) (C8.fnBody s_ForkError_init) (C8.fnScope s_ForkError_init) (.ref dT) kViF dciF pmiF aniF cdiF ctiF) :=
    ⟨⟨_, _, _, _, _, _, _, _, _, _, rfl, liF, ciF, .inr ⟨(fun z => by cases z), dT, _, [.str (Str.ofString "") tkd], tnw, rfl, e_dT, rfl, .cons ⟨tkd, rfl⟩ .nil⟩, .inl rfl⟩, kiF⟩
  have hvE : PySem.HandSPX.refsVE (Value.ref cF :: VE) = true := by show PySem.HandSPX.refsVE VE = true; decide +kernel
  have bF : Binds K (PySem.W.fnOf "__init__" "ForkError.__init__" (C8.fnArgs s_ForkError_init) (C8.fnBody s_ForkError_init) (C8.fnScope s_ForkError_init) (.ref dT) kViF dciF pmiF aniF cdiF ctiF) ["self", "why"] [] := by
    obtain ⟨ds, v, b⟩ := FD.binds1 (ps := ["self", "why"]) 2 1 (fun z => by cases z) rfl (fun T kV doc pm an cdv ct us its h1 h2 => match us, its, h1, h2 with | [_, _], [_], _, _ => ⟨_, rfl, rfl⟩)
    cases v
    exact b
  have FK : C8.Fun K "__init__" "Conflict.__init__" s_Conflict_init iK (PySem.W.fnOf "__init__" "Conflict.__init__" (C8.fnArgs s_Conflict_init) (C8.fnBody s_Conflict_init) (C8.fnScope s_Conflict_init) .none kViK dciK pmiK aniK cdiK ctiK) := ⟨⟨_, _, _, _, _, _, _, _, _, _, rfl, liK, ciK⟩⟩
  have eN : ErrC K mg "BadChange" "why" cN iF := ⟨PySem.W.mg_of X G eN_mg, ⟨(cfN.oex hvE saN kCN hbE).exC, cfN.typ⟩,
      cfN.xc PySem.F.excBase_ValueError (rve_ok _) (rve_pass _) hbO hbE saN kCN iCN tiF gaN ggN haN e_hn e_ht, nfN, _, fun P w base => ini_ForkError ⟨⟨_, _, _, _, _, _, _, _, _, _, rfl, liF, ciF⟩⟩, bF⟩
  have eP : ErrC K mg "BadPath" "why" cP iF := ⟨PySem.W.mg_of X G eP_mg, ⟨(cfP.oex hvE saP kCP hbE).exC, cfP.typ⟩,
      cfP.xc PySem.F.excBase_ValueError (rve_ok _) (rve_pass _) hbO hbE saP kCP iCP tiF gaP ggP haP e_hn e_ht, nfP, _, fun P w base => ini_ForkError ⟨⟨_, _, _, _, _, _, _, _, _, _, rfl, liF, ciF⟩⟩, bF⟩
  have eK : ErrC K mg "Conflict" "paths" cK iK := ⟨PySem.W.mg_of X G eK_mg, ⟨(cfK.oex hvE saK kCK hbE).exC, cfK.typ⟩,
      cfK.xc PySem.F.excBase_ValueError (rve_ok _) (rve_pass _) hbO hbE saK kCK iCK tiK gaK ggK haK e_hn e_ht, nfK, _, fun P w base => ini_Conflict FK, FK.binds rfl (fun _ _ _ _ _ _ us hl => match us, hl with | [_, _], _ => rfl)⟩
  have kAA : PySem.W.kitOne K (.ref CA) (.ref CA) = some true := by unfold PySem.W.kitOne; rw [if_pos (beq_self_eq_true _)]
  have inA : C8.InsC K CA := ⟨⟨CA_pg, CA_hd, CA_po, CA_sa⟩, CA_ha, e_hn, e_ht, CA_hm, kAA⟩
  have TS : TopF K mg CA fk cN iF cP cK iK := { T with
    insC := inA
    mgC := PySem.W.mg_of X G eA_mg
    ini := ⟨_, _, ⟨CA_mk, amChange_init, imChange_init, CA_kc⟩, ⟨⟨_, _, _, _, _, _, _, _, _, _, rfl, lmChange_init, cmChange_init⟩⟩, rfl⟩
    odd := fun Ty h => by
      simp only [OTY41, List.mem_cons, List.not_mem_nil, or_false] at h
      rcases h with rfl | rfl | rfl | rfl | rfl
      · exact odNoneType
      · exact odint
      · exact odlist
      · exact odtuple
      · exact oddict
    g_FILE_KINDS := ⟨_, PySem.W.mg_of X G g_FK, rfl⟩
    kF := ⟨_, _, _, t_fk, rfl, rfl, by show 2 ≤ sizeLine; decide, .cons ⟨tk1, rfl⟩ (.cons ⟨tk2, rfl⟩ .nil)⟩
    d_plain := ⟨_, _, ⟨⟨_, _, _, _, _, _, _, _, _, _, rfl, lmChange_plain, cmChange_plain⟩⟩, ⟨amChange_plain, imChange_plain, kmChange_plain⟩, rfl⟩
    d_apart := ⟨_, _, ⟨⟨_, _, _, _, _, _, _, _, _, _, rfl, lmChange_is_apart, cmChange_is_apart⟩⟩, ⟨amChange_is_apart, imChange_is_apart, kmChange_is_apart⟩, rfl⟩
    d_add := ⟨_, _, ⟨⟨_, _, _, _, _, _, _, _, _, _, rfl, lmChange_add, cmChange_add⟩⟩, ⟨amChange_add, imChange_add, kmChange_add⟩, rfl⟩
    d_neg := ⟨_, _, ⟨⟨_, _, _, _, _, _, _, _, _, _, rfl, lmChange_neg, cmChange_neg⟩⟩, ⟨amChange_neg, imChange_neg, kmChange_neg⟩, rfl⟩
    d_eq := ⟨_, _, ⟨⟨_, _, _, _, _, _, _, _, _, _, rfl, lmChange_eq, cmChange_eq⟩⟩, ⟨amChange_eq, imChange_eq, kmChange_eq⟩, rfl⟩
    d_on := ⟨_, _, ⟨⟨_, _, _, _, _, _, _, _, _, _, rfl, lmChange_on, cmChange_on⟩⟩, ⟨amChange_on, imChange_on, kmChange_on⟩, rfl⟩
    pRows := ⟨_, _, _, ⟨apChange_rows, gpChange_rows, tpChange_rows, _, rpChange_rows_⟩, ⟨⟨_, _, _, _, _, _, _, _, _, _, rfl, lpChange_rows, cpChange_rows⟩⟩, rfl⟩
    nR := CA_nr
    ne := CA_ne
    addF := ⟨CA_sf, CA_ra⟩
    addT := fun Ty h => let ⟨fo, ro, a, b⟩ := find_ty Ty h; ⟨fo, ro, a, b, sub_ty Ty h⟩
    notF := fun Ty h => by
      unfold PySem.W.notFirst
      rw [sub_ty Ty h]
      exact Bool.or_true _
    notC := by
      unfold PySem.W.notFirst
      rw [beq_self_eq_true]
      rfl
    eC := eN
    exC := cfN.exm cfN hbE (by rw [List.contains_cons, beq_self_eq_true]; rfl)
    eP := eP
    eK := eK
    bt := ⟨_, _, _, _, ⟨rdB, gaB⟩, ⟨amB, ⟨_, rcB⟩, fiB⟩, ⟨⟨_, _, _, _, _, _, _, _, _, _, rfl, lmB, cmB⟩⟩, rfl⟩
    exP := cfP.exm cfP hbE (by rw [List.contains_cons, beq_self_eq_true]; rfl)
    exK := cfK.exm cfK hbE (by rw [List.contains_cons, beq_self_eq_true]; rfl) }
  exact ⟨PySem.W.fnOf "law" "law" (C8.fnArgs s_law) (C8.fnBody s_law) (C8.fnScope s_law) .none kV28 dc28 pm28 an28 cd28 ct28, [], spLawT K, (fun p hp => by cases hp), (fun p hp => by cases hp), (fun p hp => by cases hp), fun s v => .of_eq rfl, fun H a ns hl _ _ hS => ⟨a, ns, rfl, hS, hl, fun _ => rfl⟩, fun base _ _ _ => ok_law TS (PySem.W.mg_none_of X G z_repr) ⟨⟨_, _, _, _, _, _, _, _, _, _, rfl, l28, c28⟩⟩ rfl ⟨rfl, by decide, by decide⟩⟩
end Fk
open PySem PySem.W PyProof.Rows
set_option maxHeartbeats 0 in
theorem PySem.Challenge.cw_forkhaul_k42_changes_of_files_holds : PySem.Challenge.rw_forkhaul_k42_changes_of_files.Holds := by
  w_on; o_law; k_head; (case hw => w_witness2)
  k_fill
  refine Fk.walk_ofTop (l := PySem.Challenge.rw_forkhaul_k42_changes_of_files) (n := 63) (x := "_law_script") (CX := fun _ => C8.CX0) (ys := []) rfl (by decide) rfl (fun y hy => by cases hy) (fun w h Y => PySem.W.kIn_of Y) ?F (fun _ _ _ _ _ h => h)
  case F =>
    intro w mg fa h Y KX G hmg tabs
    refine' Fk.all_mk KX G hmg ?a1 ?l1 ?c1 ?k1 ?a2 ?l2 ?c2 ?k2 ?a3 ?l3 ?c3 ?k3 ?a4 ?l4 ?c4 ?k4 ?a5 ?l5 ?c5 ?k5 ?a6 ?l6 ?c6 ?k6 ?a7 ?l7 ?c7 ?k7 ?a8 ?l8 ?c8 ?k8 ?a9 ?l9 ?c9 ?k9 ?a10 ?l10 ?c10 ?k10 ?a11 ?l11 ?c11 ?k11 ?a12 ?l12 ?c12 ?k12 ?a13 ?l13 ?c13 ?k13 ?a14 ?l14 ?c14 ?k14 ?a15 ?l15 ?c15 ?k15 ?a16 ?l16 ?c16 ?k16 ?a17 ?l17 ?c17 ?k17 ?a18 ?l18 ?c18 ?k18 ?a19 ?l19 ?c19 ?k19 ?a20 ?l20 ?c20 ?k20 ?a21 ?l21 ?c21 ?k21 ?a22 ?l22 ?c22 ?k22 ?a23 ?l23 ?c23 ?k23 ?a24 ?l24 ?c24 ?k24 ?a25 ?l25 ?c25 ?k25 ?a26 ?l26 ?c26 ?k26 ?a27 ?l27 ?c27 ?k27 ?a28 ?l28 ?c28 ?k28 ?z_ValueError ?z_all ?z_any ?z_dict ?z_int ?z_isinstance ?z_len ?z_list ?z_range ?z_sorted ?z_str ?z_tuple ?g_HEX_DIGITS ?g_SEGMENT_SIGNS ?g_LONGEST_WORD ?eA_mg ?eF_mg ?eN_mg ?eP_mg ?eK_mg ?z_repr ?CA_pg ?CA_hd ?CA_po ?CA_sa ?CA_mk ?CA_kc ?CA_ha ?CA_hm ?CA_ne ?CA_sf ?CA_ra ?CA_nr ?e_hn ?e_ht ?amChange_init ?imChange_init ?lmChange_init ?cmChange_init ?kmChange_init ?amChange_plain ?imChange_plain ?lmChange_plain ?cmChange_plain ?kmChange_plain ?amChange_is_apart ?imChange_is_apart ?lmChange_is_apart ?cmChange_is_apart ?kmChange_is_apart ?amChange_add ?imChange_add ?lmChange_add ?cmChange_add ?kmChange_add ?amChange_neg ?imChange_neg ?lmChange_neg ?cmChange_neg ?kmChange_neg ?amChange_eq ?imChange_eq ?lmChange_eq ?cmChange_eq ?kmChange_eq ?amChange_on ?imChange_on ?lmChange_on ?cmChange_on ?kmChange_on ?apChange_rows ?gpChange_rows ?tpChange_rows ?rpChange_rows_ ?lpChange_rows ?cpChange_rows ?amB ?rdB ?gaB ?rcB ?fiB ?lmB ?cmB ?g_FK ?t_fk ?xF ?xN ?xP ?xK ?saN ?kCN ?iCN ?gaN ?ggN ?haN ?nfN ?saP ?kCP ?iCP ?gaP ?ggP ?haP ?nfP ?saK ?kCK ?iCK ?gaK ?ggK ?haK ?nfK ?tiF ?liF ?ciF ?kiF ?tiK ?liK ?ciK ?kiK ?e_dT ?odNoneType ?odint ?odlist ?odtuple ?oddict
    (case a1 => k_is); (case l1 => k_is); (case c1 => k_is); (case k1 => k_is); (case a2 => k_is); (case l2 => k_is); (case c2 => k_is); (case k2 => k_is); (case a3 => k_is); (case l3 => k_is); (case c3 => k_is); (case k3 => k_is); (case a4 => k_is); (case l4 => k_is); (case c4 => k_is); (case k4 => k_is); (case a5 => k_is); (case l5 => k_is); (case c5 => k_is); (case k5 => k_is); (case a6 => k_is); (case l6 => k_is); (case c6 => k_is); (case k6 => k_is); (case a7 => k_is); (case l7 => k_is); (case c7 => k_is); (case k7 => k_is); (case a8 => k_is); (case l8 => k_is); (case c8 => k_is); (case k8 => k_is); (case a9 => k_is); (case l9 => k_is); (case c9 => k_is); (case k9 => k_is); (case a10 => k_is); (case l10 => k_is); (case c10 => k_is); (case k10 => k_is); (case a11 => k_is); (case l11 => k_is); (case c11 => k_is); (case k11 => k_is); (case a12 => k_is); (case l12 => k_is); (case c12 => k_is); (case k12 => k_is); (case a13 => k_is); (case l13 => k_is); (case c13 => k_is); (case k13 => k_is); (case a14 => k_is); (case l14 => k_is); (case c14 => k_is); (case k14 => k_is); (case a15 => k_is); (case l15 => k_is); (case c15 => k_is); (case k15 => k_is); (case a16 => k_is); (case l16 => k_is); (case c16 => k_is); (case k16 => k_is); (case a17 => k_is); (case l17 => k_is); (case c17 => k_is); (case k17 => k_is); (case a18 => k_is); (case l18 => k_is); (case c18 => k_is); (case k18 => k_is); (case a19 => k_is); (case l19 => k_is); (case c19 => k_is); (case k19 => k_is); (case a20 => k_is); (case l20 => k_is); (case c20 => k_is); (case k20 => k_is); (case a21 => k_is); (case l21 => k_is); (case c21 => k_is); (case k21 => k_is); (case a22 => k_is); (case l22 => k_is); (case c22 => k_is); (case k22 => k_is); (case a23 => k_is); (case l23 => k_is); (case c23 => k_is); (case k23 => k_is); (case a24 => k_is); (case l24 => k_is); (case c24 => k_is); (case k24 => k_is); (case a25 => k_is); (case l25 => k_is); (case c25 => k_is); (case k25 => k_is); (case a26 => k_is); (case l26 => k_is); (case c26 => k_is); (case k26 => k_is); (case a27 => k_is); (case l27 => k_is); (case c27 => k_is); (case k27 => k_is); (case a28 => k_is); (case l28 => k_is); (case c28 => k_is); (case k28 => k_is); (case z_ValueError => k_is); (case z_all => k_is); (case z_any => k_is); (case z_dict => k_is); (case z_int => k_is); (case z_isinstance => k_is); (case z_len => k_is); (case z_list => k_is); (case z_range => k_is); (case z_sorted => k_is); (case z_str => k_is); (case z_tuple => k_is); (case g_HEX_DIGITS => k_is); (case g_SEGMENT_SIGNS => k_is); (case g_LONGEST_WORD => k_is); (case eA_mg => k_is); (case eF_mg => k_is); (case eN_mg => k_is); (case eP_mg => k_is); (case eK_mg => k_is); (case z_repr => k_is); (case CA_pg => k_is); (case CA_hd => k_is); (case CA_po => k_is); (case CA_sa => k_is); (case CA_mk => k_is); (case CA_kc => k_is); (case CA_ha => k_is); (case CA_hm => k_is); (case CA_ne => k_is); (case CA_sf => k_is); (case CA_ra => k_is); (case CA_nr => k_is); (case e_hn => k_is); (case e_ht => k_is); (case amChange_init => k_is); (case imChange_init => k_is); (case lmChange_init => k_is); (case cmChange_init => k_is); (case kmChange_init => k_is); (case amChange_plain => k_is); (case imChange_plain => k_is); (case lmChange_plain => k_is); (case cmChange_plain => k_is); (case kmChange_plain => k_is); (case amChange_is_apart => k_is); (case imChange_is_apart => k_is); (case lmChange_is_apart => k_is); (case cmChange_is_apart => k_is); (case kmChange_is_apart => k_is); (case amChange_add => k_is); (case imChange_add => k_is); (case lmChange_add => k_is); (case cmChange_add => k_is); (case kmChange_add => k_is); (case amChange_neg => k_is); (case imChange_neg => k_is); (case lmChange_neg => k_is); (case cmChange_neg => k_is); (case kmChange_neg => k_is); (case amChange_eq => k_is); (case imChange_eq => k_is); (case lmChange_eq => k_is); (case cmChange_eq => k_is); (case kmChange_eq => k_is); (case amChange_on => k_is); (case imChange_on => k_is); (case lmChange_on => k_is); (case cmChange_on => k_is); (case kmChange_on => k_is); (case apChange_rows => k_is); (case gpChange_rows => k_is); (case tpChange_rows => k_is); (case rpChange_rows_ => k_is); (case lpChange_rows => k_is); (case cpChange_rows => k_is); (case amB => k_is); (case rdB => k_is); (case gaB => k_is); (case rcB => k_is); (case fiB => k_is); (case lmB => k_is); (case cmB => k_is); (case g_FK => k_is); (case t_fk => k_is); (case xF => k_is); (case xN => k_is); (case xP => k_is); (case xK => k_is); (case saN => k_is); (case kCN => k_is); (case iCN => k_is); (case gaN => k_is); (case ggN => k_is); (case haN => k_is); (case nfN => k_is); (case saP => k_is); (case kCP => k_is); (case iCP => k_is); (case gaP => k_is); (case ggP => k_is); (case haP => k_is); (case nfP => k_is); (case saK => k_is); (case kCK => k_is); (case iCK => k_is); (case gaK => k_is); (case ggK => k_is); (case haK => k_is); (case nfK => k_is); (case tiF => k_is); (case liF => k_is); (case ciF => k_is); (case kiF => k_is); (case tiK => k_is); (case liK => k_is); (case ciK => k_is); (case kiK => k_is); (case e_dT => k_is); (case odNoneType => kit_is); (case odint => kit_is); (case odlist => kit_is); (case odtuple => kit_is); (case oddict => kit_is)


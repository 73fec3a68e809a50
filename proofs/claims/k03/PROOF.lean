import PyProof.Rows.All
import Wide.All
import OpenK.AllK
import Wide.FinOn
import HandS.ForMost
import HandS.Codes
import HandS.IsInst
import HandS.Wide
import HandS.CallLocal
import HandS.StrMore
import HandS.Replace
import HandS.ReplaceDef
import HandS.ReplaceLit
import HandS.ReplaceList
import Wide.Txt
import HandS.Exc
import HandS.ExcInit
import HandS.Defaults
import HandS.MakeKw
import HandS.TryOnly
import HandS.ExcField
import KE.KExcIs
import KE.KExcInit
import PyProof.P3Eq
import HandS.ExcIs
import HandS.OwnEq
import HandS.Property
import HandS.ExcOwn
import HandS.NamedTupSort
import KE.KOpsOwn
import PyProof.InstNe
import HandS.MakeKwOnly
import PyProof.InstEq
import PyProof.DictUpdate
import PyProof.DictDisplay
import HandS.DictComp
import KE.KEqDict
import HandS.More
import HandS.TryMany
import HandS.WordsDict
import PyProof.Rows.StrMeet
import HandS.RaiseMore
import HandS.TupAny
import KE.KRevSl
import PyProof.SliceList
import HandS.Bytes
import KE.KStrBytes
import HandS.FStr
import KE.KxField
import PyProof.FString3
import HandS.Zip
import KE.KBytesWalk
import HandS.IterVal
import PyProof.ZipIter
import HandS.Iter
import HandS.List
import HandS.Conv
import PyProof.ListStr
import HandS.SetTxt0
import HandS.SetFor
import HandS.TupSets
import HandS.Strs
import KE.KBytesFind
import KE.KxDecode
import KE.KBytesDec
import HandS.Text
import HandS.BytesMake
import HandS.Dict
import KE.KDictWalk
import KE.KDictCopyH
import PyProof.DictFindH
import PyProof.NeKinds
import PyProof.DictRoads
import HandS.TupLen
import PySem.Challenge.RW_forkhaul_k03_objects_made
import HandS.Lambda
import HandS.EndTab
import HandS.EndOwn
import HandS.Comp
import HandS.ListItems
import HandS.Finally
import PyProof.SumAny
import PyProof.SumWalk
import Flt.Sum
set_option Elab.async false
set_option linter.all false
set_option maxRecDepth 100000
set_option maxHeartbeats 4000000
/-! The base of the proofs: repetition of texts, defs by their names, comprehensions by an invariant, frames. -/
namespace Fk
open PySem PySem.Spec PyProof.Rows L2

/-! ### a text repeated -/
theorem fold_cps (x : Array Nat) : ∀ (n : Nat) (acc : Array Nat), ((List.replicate n x).foldl (· ++ ·) acc).toList = acc.toList ++ (List.replicate n x.toList).flatten
  | 0, acc => by simp
  | n + 1, acc => by
    rw [List.replicate_succ, List.foldl_cons, fold_cps x n (acc ++ x), List.replicate_succ, List.flatten_cons, Array.toList_append, List.append_assoc]
def repS (x : Str) (n : Nat) : Str := ⟨(List.replicate n x.cps.toList).flatten.toArray⟩
theorem tl_rep (x : Str) (n : Nat) : TL.tl (repS x n) = (List.replicate n (TL.tl x)).flatten := rfl
theorem rep_len (x : Str) (n : Nat) : (repS x n).length = n * x.length := by
  rw [TL.len_tl, tl_rep, TL.len_tl]
  induction n with
  | zero => simp
  | succ n ih => rw [List.replicate_succ, List.flatten_cons, List.length_append, ih, Nat.succ_mul, Nat.add_comm]
theorem tooLong_no {n : Nat} (h : n ≤ 16777216) : Builtin.Str.tooLong n = false := by
  unfold Builtin.Str.tooLong
  have e : (16777216 : Nat) = sizeLine ∨ 16777216 ≤ sizeLine := by right; decide
  have h2 : 16777216 ≤ sizeLine := by rcases e with e | e <;> omega
  simp
  omega
def rMulSI : R2 := fun x y H Q => ∃ (z : Str) (k : Int), x = .str z ∧ y = .int k ∧ 0 ≤ k ∧ k ≤ 10000 ∧ z.length * k.toNat ≤ 1000000 ∧ Q (.str (repS z k.toNat)) H
theorem op_mul_si {X : Cx} : OpR X (binaryOp .Mult) rMulSI := by
  intro pins s σ H x y v u Q I rx ry h
  obtain ⟨z, k, rfl, rfl, h0, h1, h2, q⟩ := h
  obtain ⟨t, rfl⟩ := rx
  obtain ⟨t', rfl⟩ := ry
  refine PySem.P.mul_str ?_ (fun h3 h4 => ?_) (fun h3 h4 => ?_) ?_
  · have e1 : ¬ k < -(2 ^ 63 : Int) := by omega
    have e2 : ¬ k ≥ 2 ^ 63 := by omega
    rw [decide_eq_false e1, decide_eq_false e2]
    rfl
  · have hk : 1 ≤ k := by omega
    have hz : z.length ≤ 1000000 := by
      have h5 : z.length * 1 ≤ z.length * k.toNat := Nat.mul_le_mul_left _ (by omega)
      omega
    have h6 : (10 ^ 14 : Int) ≤ (2 ^ 63 - 1) / k := by
      refine Int.le_ediv_of_mul_le (by omega) ?_
      have h7 : (10 ^ 14 : Int) * k ≤ 10 ^ 14 * 10000 := Int.mul_le_mul_of_nonneg_left h1 (by decide)
      have h8 : ((10 ^ 14 : Int) * 10000) ≤ 2 ^ 63 - 1 := by decide
      omega
    have h9 : ((z.length : Nat) : Int) ≤ 1000000 := by omega
    have h10 : (1000000 : Int) < 10 ^ 14 := by decide
    omega
  · exact tooLong_no (by omega)
  · by_cases h3 : k < 1
    · rw [if_pos h3]
      have e : k.toNat = 0 := by omega
      rw [e] at q
      have ez : repS z 0 = Str.empty := TL.ext_tl rfl
      rw [ez] at q
      exact ⟨by decide, V.str Str.empty, H, I.tok _, ⟨_, rfl⟩, q⟩
    · rw [if_neg h3]
      by_cases h4 : (k == 1 || z.length == 0) = true
      · rw [if_pos h4]
        have ez : repS z k.toNat = z := by
          apply TL.ext_tl
          rw [tl_rep]
          rcases Bool.or_eq_true_iff.mp h4 with h5 | h5
          · have e : k.toNat = 1 := by
              have := eq_of_beq h5
              omega
            rw [e]
            simp
          · have e : TL.tl z = [] := by
              have := eq_of_beq h5
              rw [TL.len_tl] at this
              exact List.length_eq_zero_iff.mp this
            rw [e]
            simp
        rw [ez] at q
        exact ⟨V.str z, H, I, ⟨_, rfl⟩, q⟩
      · rw [if_neg h4]
        have ez : (⟨(List.replicate k.toNat z.cps).foldl (· ++ ·) #[]⟩ : Str) = repS z k.toNat := by
          apply TL.ext_tl
          show ((List.replicate k.toNat z.cps).foldl (· ++ ·) #[]).toList = _
          rw [fold_cps]
          rfl
        have hl : (repS z k.toNat).length ≤ sizeLine := by
          rw [rep_len, Nat.mul_comm]
          exact Nat.le_trans h2 (by decide)
        rw [← ez] at q hl
        exact ⟨hl, V.str _, H, I.tok _, ⟨_, rfl⟩, q⟩

section
variable {P : Program} {w : World} {K : PySem.W.Frag} {mg : Str → Option Value} {base : Heap}
/-! ### defs by their names -/
/-- a def of the module whose parameters have no defaults -/
def IsDef (K : PySem.W.Frag) (mg : Str → Option Value) (x : Str) (st : Stmt) : Prop := ∃ f fd, C8.Def K mg x st f fd ∧ fd.defaults = .none
theorem cal_of {x : Str} {st : Stmt} {N ps : List Str} {k : Nat} {sp : Sp} (D : IsDef K mg x st) (S : FnScope N ps (C8.fnScope st))
    (hb : ∀ (kV doc pm : Value) (an : Option Addr) (cdv ct : Value) (us : List Value), us.length = ps.length → bindArgs (PySem.W.fnOf x x (C8.fnArgs st) (C8.fnBody st) (C8.fnScope st) .none kV doc pm an cdv ct) ⟨us, []⟩ = pure (ps.zip us))
    (len : ∀ vs H Q E, sp vs H Q E → vs.length = ps.length)
    (hbody : ∀ (f : Addr) (cdv : Value) (A : Around) (outer : List Env) (s : Shared) (H : Hp) (vs : List V) (Q : VK) (E : XK), Room k (A.deeper (envOfC x (C8.fnScope st) s.heap.objs.size f cdv)) → sp vs H Q E →
      ∃ t, PSs (cxOf C8.CX0 P w K mg base N x (C8.fnScope st) f cdv A outer s H E).nox (C8.fnBody st) t ∧ t { nx := fun _ H' => Q .non H', rt := Q } (start N vs) H) : C8.Cal P w K mg base (k + 1) x sp [] := by
  obtain ⟨f, fd, D, df⟩ := D
  exact C8.cal0 D (D.fn.binds df hb) .nil S len (hbody f)
theorem pe_c0 {X : Cx} {k j : Nat} {x : Str} {sp : Sp} {dvs : List V} {p pos : Pos} (c : C8.Cal X.prog X.w X.K X.mg X.base k x sp dvs) (hr : Room j X.A) (hk : k ≤ j) (hg : Gl X x)
    (hdb : (x == ("__debug__" : Str)) = false := by decide) : PE X (.Call (.Name x p) [] [] pos) (tCall sp dvs C8.E0 tNil) := by
  obtain ⟨f, fd, ps, ds, F, hm, kp, b, d⟩ := c.ex
  exact pe_call0 F (hr.mono hk) hg hm kp b d C8.pass0 hdb
/-- a def's address as a value, with its promise -/
theorem held_of {k : Nat} {x : Str} {sp : Sp} {f : Addr} (c : C8.Cal P w K mg base k x sp []) (h : mg x = some (.ref f)) : Held P w K mg base k f sp := by
  obtain ⟨f', fd, ps, ds, F, hm, kp, b, d⟩ := c.ex
  rw [h] at hm
  cases hm
  cases d
  exact ⟨fd, ps, F, kp, b⟩
end

/-! ### heaps -/
/-- all that was tracked is as it was, but what stands at a -/
def Fr (a : Addr) (H H' : Hp) : Prop := ∀ b o, b ≠ a → H b = some o → H' b = some o
theorem Fr.refl (a : Addr) (H : Hp) : Fr a H H := fun _ _ _ h => h
theorem Fr.trans {a : Addr} {H H1 H2 : Hp} (x : Fr a H H1) (y : Fr a H1 H2) : Fr a H H2 := fun b o n h => y b o n (x b o n h)
theorem Fr.at {a : Addr} {H : Hp} {o : HO} : Fr a H (upd H a o) := fun b u n h => by
  rw [upd_ne n]
  exact h
theorem Fr.new {a p : Addr} {H : Hp} {o : HO} (h : H p = none) : Fr a H (upd H p o) := fun b u _ e => by
  rw [upd_ne (ne_of_none e h)]
  exact e
/-- what came later may change -/
theorem Fr.mut {a p : Addr} {H H' : Hp} {o : HO} (x : Fr a H H') (h : H p = none) : Fr a H (upd H' p o) := fun b u n e => by
  rw [upd_ne (ne_of_none e h)]
  exact x b u n e
theorem Fr.same {a : Addr} {H H' : Hp} (h : Same H H') : Fr a H H' := fun b o _ e => h b o e
theorem Fr.free {a p : Addr} {H H' : Hp} (x : Fr a H H') (n : p ≠ a) (h : H' p = none) : H p = none := by
  cases q : H p with
  | none => rfl
  | some o =>
    rw [x p o n q] at h
    cases h
theorem same_new {H : Hp} {p : Addr} {o : HO} (h : H p = none) : Same H (upd H p o) := fun b u e => by
  rw [upd_ne (ne_of_none e h)]
  exact e
theorem same_mut {H H' : Hp} {p : Addr} {o : HO} (x : Same H H') (h : H p = none) : Same H (upd H' p o) := fun b u e => by
  rw [upd_ne (ne_of_none e h)]
  exact x b u e
theorem small_line {n : Nat} (h : n ≤ 1000000) : n ≤ sizeLine := Nat.le_trans h (by decide)
theorem small_lt {n : Nat} (h : n ≤ 1000000) : n < sizeLine := Nat.lt_of_le_of_lt h (by decide)

/-! ### comprehensions -/
theorem set_set {σ : L2.St} {i : Nat} {x y : Option V} : (σ.set i x).set i y = σ.set i y := by
  rw [List.set_set]
/-- what an iterator yields while the list at D grows: the items of a list -/
structure Yields (J : It) (items : List V) (G : Hp → Prop) : Prop where
  go : ∀ k H, G H → k < items.length → J.go k H
  stop : ∀ H, G H → J.stop items.length H
  yld : ∀ k H x H', k < items.length → G H → J.yld k H x H' → H' = H ∧ items[k]? = some x
theorem yields_str (x : Str) : Yields (Its x) (x.cps.toList.map fun c => V.str ⟨#[c]⟩) (fun _ => True) where
  go := fun k H _ h => by
    rw [List.length_map] at h
    exact (by simpa using h : k < x.cps.size)
  stop := fun H _ => by
    show x.cps.size ≤ _
    simp
  yld := fun k H v H' _ _ h => by
    obtain ⟨e, c, hc, hv⟩ := h
    refine ⟨e, ?_⟩
    rw [List.getElem?_map, Array.getElem?_toList, hc, hv]
    rfl
theorem yields_list {K : PySem.W.Frag} {a : Addr} {xs : List V} : Yields (Itl K a) xs (fun H => SqL K H a xs) where
  go := fun k H g h => ⟨xs, xs[k], g, List.getElem?_eq_getElem h⟩
  stop := fun H g => ⟨xs, g, Nat.le_refl _⟩
  yld := fun k H x H' _ g h => ⟨h.1, h.2 xs g⟩
theorem yields_range {lo : Int} {n : Nat} : Yields (Itr lo n) ((List.range n).map fun (i : Nat) => V.int (lo + (i : Int))) (fun _ => True) where
  go := fun k H _ h => by
    rw [List.length_map, List.length_range] at h
    exact h
  stop := fun H _ => by
    show n ≤ _
    rw [List.length_map, List.length_range]
    exact Nat.le_refl _
  yld := fun k H x H' hk _ h => by
    obtain ⟨e, hx⟩ := h
    rw [List.length_map, List.length_range] at hk
    refine ⟨e, ?_⟩
    rw [List.getElem?_map, List.getElem?_range hk, hx]
    rfl
/-- behind k turns of a comprehension: the list at D holds acc, of which I speaks -/
def LcN (I : Nat → List V → Hp → Prop) (D : Addr) (k : Nat) (H : Hp) : Prop := ∃ acc, H D = some (.lst acc) ∧ acc.length ≤ k ∧ I k acc H
theorem lc_take {I : Nat → List V → Hp → Prop} {D : Addr} {k : Nat} {H4 : Hp} {y : V} {acc : List V} (h : H4 D = some (.lst acc)) (l : acc.length ≤ k) (hk : k < 1000000) (q : I (k + 1) (acc ++ [y]) (upd H4 D (.lst (acc ++ [y])))) :
    ∃ acc, H4 D = some (.lst acc) ∧ acc.length < sizeLine ∧ LcN I D (k + 1) (upd H4 D (.lst (acc ++ [y]))) :=
  ⟨acc, h, small_lt (by omega), acc ++ [y], upd_same, by rw [List.length_append, List.length_singleton]; omega, q⟩
theorem lc_skip {I : Nat → List V → Hp → Prop} {D : Addr} {k : Nat} {H4 : Hp} {acc : List V} (h : H4 D = some (.lst acc)) (l : acc.length ≤ k) (q : I (k + 1) acc H4) : LcN I D (k + 1) H4 := ⟨acc, h, by omega, q⟩
/-- a comprehension by an invariant I over (turns, what the new list holds, the heap) -/
theorem lc_inv {J : It} {items : List V} {G : Hp → Prop} {H1 : Hp} {D : Addr} {σ : L2.St} {i : Nat} {tt : TT} {te : TE} {Q : Hp → Prop} (Y : Yields J items G) (I : Nat → List V → Hp → Prop)
    (hG : ∀ k acc H, I k acc H → H D = some (.lst acc) → G H) (h0 : I 0 [] (upd H1 D (.lst [])))
    (hs : ∀ k acc H x, I k acc H → H D = some (.lst acc) → items[k]? = some x → acc.length ≤ k → k < 1000000 → tt (σ.set i (some x)) H fun b H3 =>
      if b = true then te (σ.set i (some x)) H3 fun y H4 => ∃ acc, H4 D = some (.lst acc) ∧ acc.length < sizeLine ∧ LcN I D (k + 1) (upd H4 D (.lst (acc ++ [y]))) else LcN I D (k + 1) H3)
    (hl : items.length ≤ 1000000) (hd : ∀ acc H, I items.length acc H → H D = some (.lst acc) → acc.length ≤ items.length → Q H) :
    ∃ W : Nat → Nat → Hp → Prop, (∃ m, W 0 m (upd H1 D (.lst []))) ∧ ∀ k m H, W k m H →
      (J.stop k H ∧ Q H) ∨ (J.go k H ∧ ∃ Nx : Hp → Prop, (∀ H', Nx H' → ∃ m', m' < m ∧ W (k + 1) m' H') ∧ ∀ x H', J.yld k H x H' → gName i x (wipe σ [i]) H' fun σ2 H2 => wipe σ2 [i] = wipe σ [i] ∧ tt σ2 H2 fun b H3 =>
        if b = true then te σ2 H3 fun y H4 => ∃ acc, H4 D = some (.lst acc) ∧ acc.length < sizeLine ∧ Nx (upd H4 D (.lst (acc ++ [y]))) else Nx H3) := by
  refine ⟨fun k m H => m = items.length - k ∧ k ≤ items.length ∧ LcN I D k H, ⟨items.length, by omega, Nat.zero_le _, [], upd_same, Nat.zero_le _, h0⟩, ?_⟩
  rintro k m H ⟨rfl, hk, acc, hD, hacc, hI⟩
  by_cases hlt : k < items.length
  · refine .inr ⟨Y.go k H (hG _ _ _ hI hD) hlt, LcN I D (k + 1), fun H' q => ⟨items.length - (k + 1), by omega, rfl, hlt, q⟩, fun x H' y => ?_⟩
    obtain ⟨rfl, hx⟩ := Y.yld k H x H' hlt (hG _ _ _ hI hD) y
    show wipe ((wipe σ [i]).set i (some x)) [i] = wipe σ [i] ∧ tt ((wipe σ [i]).set i (some x)) _ _
    have e1 : (wipe σ [i]).set i (some x) = σ.set i (some x) := set_set
    have e2 : wipe (σ.set i (some x)) [i] = wipe σ [i] := set_set
    rw [e1]
    exact ⟨e2, hs k acc _ x hI hD hx hacc (by omega)⟩
  · have e : k = items.length := by omega
    subst e
    exact .inl ⟨Y.stop H (hG _ _ _ hI hD), hd acc H hI hD hacc⟩
/-- a comprehension whose element and test change nothing that is tracked -/
theorem lc_pure {α : Type} {J : It} {us : List α} {g : α → V} {G : Hp → Prop} {H1 : Hp} {D : Addr} {σ : L2.St} {i : Nat} {tt : TT} {te : TE} {Q : Hp → Prop} (Y : Yields J (us.map g) G) (f : α → V) (p : α → Bool) (hD1 : H1 D = none)
    (hG : ∀ H, Same H1 H → G H)
    (hs : ∀ H u, Same H1 H → u ∈ us → ∀ (R : Bool → Hp → Prop), (∀ H3, Same H H3 → R (p u) H3) → tt (σ.set i (some (g u))) H R)
    (he : ∀ H u, Same H1 H → u ∈ us → p u = true → ∀ (R : VK), (∀ H3, Same H H3 → R (f u) H3) → te (σ.set i (some (g u))) H R)
    (hl : us.length ≤ 1000000) (hd : ∀ H, Same H1 H → H D = some (.lst ((us.filter p).map f)) → Q H) :
    ∃ W : Nat → Nat → Hp → Prop, (∃ m, W 0 m (upd H1 D (.lst []))) ∧ ∀ k m H, W k m H →
      (J.stop k H ∧ Q H) ∨ (J.go k H ∧ ∃ Nx : Hp → Prop, (∀ H', Nx H' → ∃ m', m' < m ∧ W (k + 1) m' H') ∧ ∀ x H', J.yld k H x H' → gName i x (wipe σ [i]) H' fun σ2 H2 => wipe σ2 [i] = wipe σ [i] ∧ tt σ2 H2 fun b H3 =>
        if b = true then te σ2 H3 fun y H4 => ∃ acc, H4 D = some (.lst acc) ∧ acc.length < sizeLine ∧ Nx (upd H4 D (.lst (acc ++ [y]))) else Nx H3) := by
  refine lc_inv Y (fun k acc H => Same H1 H ∧ acc = ((us.take k).filter p).map f) (fun k acc H h _ => hG H h.1) ⟨same_new hD1, rfl⟩ (fun k acc H x hI hD hx hacc hk => ?_) (by rw [List.length_map]; exact hl) (fun acc H hI hD _ => ?_)
  · obtain ⟨sm, ea⟩ := hI
    rw [List.getElem?_map] at hx
    cases hu : us[k]? with
    | none => rw [hu] at hx; cases hx
    | some u =>
      rw [hu] at hx
      cases hx
      have hm : u ∈ us := List.mem_of_getElem? hu
      have et : us.take (k + 1) = us.take k ++ [u] := by
        rw [List.take_add_one, hu]
        rfl
      refine hs H u sm hm _ (fun H3 s3 => ?_)
      by_cases hp : p u = true
      · rw [if_pos hp]
        refine he H3 u (sm.trans s3) hm hp _ (fun H4 s4 => ?_)
        refine lc_take (s4 _ _ (s3 _ _ hD)) hacc hk ⟨same_mut ((sm.trans s3).trans s4) hD1, ?_⟩
        rw [et, List.filter_append, List.map_append, ← ea, List.filter_cons, hp]
        rfl
      · rw [if_neg hp]
        refine lc_skip (s3 _ _ hD) hacc ⟨sm.trans s3, ?_⟩
        rw [et, List.filter_append, List.map_append, ← ea, List.filter_cons, if_neg hp]
        simp
  · obtain ⟨sm, ea⟩ := hI
    rw [List.length_map, List.take_length] at ea
    rw [ea] at hD
    exact hd H sm hD

/-! ### what may be asked -/
def evalV (f : Str → Bool) : V → Bool
  | .str x => f x
  | _ => false
/-- its signs are signs -/
def OkS (x : Str) : Prop := ∀ u ∈ TL.tl x, u < 1114112
/-- a text, not too long, or a thing that is no text -/
inductive Thing (H : Hp) : V → Prop where
  | str (x : Str) (h : x.length ≤ 100000) (o : OkS x) : Thing H (.str x)
  | non : Thing H .non
  | bl (b : Bool) : Thing H (.bl b)
  | int (i : Int) : Thing H (.int i)
  | lst (a : Addr) (xs : List V) (h : H a = some (.lst xs)) : Thing H (.ref a)
  | tup (a : Addr) (xs : List V) (h : H a = some (.tup xs)) : Thing H (.ref a)
  | dK (a : Addr) (kvs : List (Key × V)) (h : H a = some (.dK kvs)) : Thing H (.ref a)
theorem Thing.fr {a : Addr} {H H' : Hp} {v : V} (t : Thing H v) (n : v ≠ .ref a) (f : Fr a H H') : Thing H' v := by
  cases t with
  | str x h o => exact .str x h o
  | non => exact .non
  | bl b => exact .bl b
  | int i => exact .int i
  | lst b xs h => exact .lst b xs (f b _ (fun e => n (by rw [e])) h)
  | tup b xs h => exact .tup b xs (f b _ (fun e => n (by rw [e])) h)
  | dK b xs h => exact .dK b xs (f b _ (fun e => n (by rw [e])) h)
theorem Thing.same {H H' : Hp} {v : V} (t : Thing H v) (f : Same H H') : Thing H' v := by
  cases t with
  | str x h o => exact .str x h o
  | non => exact .non
  | bl b => exact .bl b
  | int i => exact .int i
  | lst b xs h => exact .lst b xs (f b _ h)
  | tup b xs h => exact .tup b xs (f b _ h)
  | dK b xs h => exact .dK b xs (f b _ h)
/-- isinstance(thing, str) -/
theorem Thing.isi {K : PySem.W.Frag} {H : Hp} {v : V} {Q : VK} (t : Thing H v) (h : Q (.bl (evalV (fun _ => true) v)) H) : rIsi K [v, .ty "str"] H Q := by
  cases t with
  | str x _ _ => exact ⟨_, _, .type "str", .type "str", true, rfl, .ty "str", .base (.str x), kit_ty (by decide +kernel), h⟩
  | non => exact ⟨_, _, .type "NoneType", .type "str", false, rfl, .ty "str", .base .non, kit_ty (by decide +kernel), h⟩
  | bl b => exact ⟨_, _, .type "bool", .type "str", false, rfl, .ty "str", .base (.bl b), kit_ty (by decide +kernel), h⟩
  | int i => exact ⟨_, _, .type "int", .type "str", false, rfl, .ty "str", .base (.int i), kit_ty (by decide +kernel), h⟩
  | lst a xs e => exact ⟨_, _, .type "list", .type "str", false, rfl, .ty "str", .base (.lst e), kit_ty (by decide +kernel), h⟩
  | tup a xs e => exact ⟨_, _, .type "tuple", .type "str", false, rfl, .ty "str", .base (.tup e), kit_ty (by decide +kernel), h⟩
  | dK a xs e => exact ⟨_, _, .type "dict", .type "str", false, rfl, .ty "str", .base (.dK e), kit_ty (by decide +kernel), h⟩
theorem Thing.cases {H : Hp} {v : V} (t : Thing H v) : (∃ x, v = .str x ∧ x.length ≤ 100000 ∧ OkS x) ∨ ∀ f, evalV f v = false := by
  cases t with
  | str x h o => exact .inl ⟨x, rfl, h, o⟩
  | _ => exact .inr fun _ => rfl
/-- the promise of a def that tells whether its argument is such a text -/
def spWord (f : Str → Bool) : Sp := fun vs H Q _ => ∃ v, vs = [v] ∧ Thing H v ∧ ∀ H', Same H H' → Q (.bl (evalV f v)) H'

/-! ### the words, as functions of a text -/
def HEX : Str := "0123456789abcdef"
def LET : Str := "abcdefghijklmnopqrstuvwxyz"
def RSG : Str := "abcdefghijklmnopqrstuvwxyz0123456789-"
def SSG : Str := "abcdefghijklmnopqrstuvwxyz0123456789._-"
def sgn (c : Nat) : V := .str ⟨#[c]⟩
def hasOnly (x y : Str) : Bool := (TL.tl x).all fun c => decide (c ∈ TL.tl y)
def dots (x : Str) : Bool := !(Builtin.Str.occurrences x (".." : Str) 0 x.length 1).isEmpty
def isWordF (y x : Str) : Bool := decide (1 ≤ x.length) && (decide (x.length ≤ 12) && hasOnly x y)
def isSegF (x : Str) : Bool := isWordF SSG x && (!decide (x = ".") && !dots x)
def segs (x : Str) : List Str := Txt.split x "/"
def isIdF (x : Str) : Bool := decide (x.length = 16) && hasOnly x HEX
def isPathF (x : Str) : Bool := decide ((segs x).length ≤ 6) && (segs x).all isSegF
def mostF (x : Str) : Nat := if (segs x)[0]? = some ("far" : Str) then 7 else 5
def isRefF (x : Str) : Bool := decide ((segs x).length ≤ mostF x) && (segs x).all (isWordF RSG)
def plainC (c : Nat) : Bool := !decide ([c] < [32]) && !decide ([126] < [c])
def isTextF (x : Str) : Bool := decide (x.length ≤ 2000) && (TL.tl x).all fun c => decide (c = 10) || plainC c
end Fk
namespace Fk
open PySem PySem.Spec PyProof.Rows L2
theorem sql_fr {K : PySem.W.Frag} {a b : Addr} {H H' : Hp} {xs : List V} (h : SqL K H b xs) (n : b ≠ a) (f : Fr a H H') : SqL K H' b xs := by
  rcases h with (h | ⟨o, h⟩) | h
  · exact .inl (.inl (f _ _ n h))
  · exact .inl (.inr ⟨o, f _ _ n h⟩)
  · exact .inr h
/-- a well of numbers at a, from which c were drawn -/
def Wl (H : Hp) (a : Addr) (c : Int) : Prop := 0 ≤ c ∧ ∃ x y : Int, H a = some (.lst [.int x, .int y, .int c])
theorem Wl.same {H H' : Hp} {a : Addr} {c : Int} (h : Wl H a c) (f : Same H H') : Wl H' a c := by
  obtain ⟨h0, x, y, e⟩ := h
  exact ⟨h0, x, y, f _ _ e⟩
/-- behind at most d draws from the well at a -/
def Aft (a : Addr) (c d : Int) (H : Hp) (R : Hp → Prop) : Prop := ∀ H' c', Fr a H H' → Wl H' a c' → c ≤ c' → c' ≤ c + d → R H'
theorem join_signs : ∀ cs : List Nat, TL.tl (Txt.join ("" : Str) (cs.map fun c => (⟨#[c]⟩ : Str))) = cs := by
  intro cs
  rw [TL.join_eq, TL.tl_join]
  have e : TL.tl ("" : Str) = [] := by decide +kernel
  rw [e]
  induction cs with
  | nil => rfl
  | cons c r ih =>
    cases r with
    | nil => rfl
    | cons d r =>
      show [c] ++ [] ++ TL.joinL [] (((d :: r).map fun c => (⟨#[c]⟩ : Str)).map TL.tl) = _
      rw [ih]
      rfl
theorem signs_sum : ∀ cs : List Nat, ((cs.map fun c => (⟨#[c]⟩ : Str)).map (·.length)).sum = cs.length
  | [] => rfl
  | c :: r => by
    rw [List.map_cons, List.map_cons, List.sum_cons, signs_sum r, List.length_cons]
    show 1 + _ = _
    omega
theorem atI_int {α : Type} {xs : List α} {r : Int} (h0 : 0 ≤ r) (h1 : r < xs.length) : ∃ v, v ∈ xs ∧ xs[r.toNat]? = some v ∧ atI xs r = some v := by
  have h2 : r.toNat < xs.length := by omega
  have e : r = ((r.toNat : Nat) : Int) := by omega
  refine ⟨xs[r.toNat], List.getElem_mem h2, List.getElem?_eq_getElem h2, ?_⟩
  have q := atI_nat (List.getElem?_eq_getElem h2)
  rw [← e] at q
  exact q
theorem Wl.upd {H : Hp} {a : Addr} {x y c : Int} (h : 0 ≤ c) : Wl (upd H a (.lst [.int x, .int y, .int c])) a c := ⟨h, x, y, upd_same⟩
theorem Fr.fr_new {a p : Addr} {H H' : Hp} {o : HO} (x : Fr a H H') (h : H' p = none) : Fr a H (L2.upd H' p o) := x.trans (Fr.new h)
theorem Wl.new {H : Hp} {a p : Addr} {c : Int} {o : HO} (h : Wl H a c) (n : H p = none) : Wl (L2.upd H p o) a c := h.same (same_new n)
theorem Wl.mut {H : Hp} {a p : Addr} {c : Int} {o : HO} (h : Wl H a c) (n : p ≠ a) : Wl (L2.upd H p o) a c := by
  obtain ⟨h0, x, y, e⟩ := h
  exact ⟨h0, x, y, by rw [upd_ne n.symm]; exact e⟩
theorem Wl.ne {H : Hp} {a p : Addr} {c : Int} (h : Wl H a c) (n : H p = none) : p ≠ a := by
  obtain ⟨h0, x, y, e⟩ := h
  exact (ne_of_none e n).symm
theorem Aft.start {a : Addr} {c d : Int} {H : Hp} {R : Hp → Prop} (h : Aft a c d H R) (w : Wl H a c) (hd : 0 ≤ d) : R H := h H c (Fr.refl a H) w (Int.le_refl _) (by omega)
theorem Aft.more {a : Addr} {c c1 d d1 : Int} {H H1 : Hp} {R : Hp → Prop} (h : Aft a c d H R) (f : Fr a H H1) (h1 : c ≤ c1) (h2 : c1 + d1 ≤ c + d) : Aft a c1 d1 H1 R := fun H' c' f' w h3 h4 => h H' c' (f.trans f') w (by omega) (by omega)
theorem yes_ {σ : L2.St} {H : Hp} {A B : Hp → Prop} (h : A H) : tYes σ H (fun b H3 => if b = true then A H3 else B H3) := by
  show (if true = true then A H else B H)
  rw [if_pos rfl]
  exact h
end Fk

set_option maxHeartbeats 4000000
namespace Fk
open PySem PySem.Spec PyProof.Rows L2
/-! ### texts that are drawn: what holds of them -/
theorem tl_cut (z : Str) (lo hi : Option Int) : TL.tl (cutS z lo hi) = ((TL.tl z).drop (HT.sIx z.length 0 lo)).take (HT.sIx z.length z.length hi - HT.sIx z.length 0 lo) := rfl
theorem cut_to (z : Str) (n : Nat) : TL.tl (cutS z none (some (n : Int))) = (TL.tl z).take n := by
  rw [tl_cut, HT.sIx_none, HT.sIx_nat, List.drop_zero, Nat.sub_zero, TL.len_tl]
  rcases Nat.le_total n (TL.tl z).length with h | h
  · rw [Nat.min_eq_left h]
  · rw [Nat.min_eq_right h, List.take_length, List.take_of_length_le h]
theorem cut_from (z : Str) (n : Nat) : TL.tl (cutS z (some (n : Int)) none) = (TL.tl z).drop n := by
  rw [tl_cut, HT.sIx_none, HT.sIx_nat, TL.len_tl]
  rcases Nat.le_total n (TL.tl z).length with h | h
  · rw [Nat.min_eq_left h, List.take_of_length_le (by rw [List.length_drop]; omega)]
  · rw [Nat.min_eq_right h, List.drop_length, List.take_nil, List.drop_of_length_le h]
theorem cutS_le (z : Str) (lo hi : Option Int) : (cutS z lo hi).length ≤ z.length := cutS_length z lo hi
def LTS : Str := "abcdefghijklmnopqrstuvwxyz0123456789_-"
theorem dots_count {x : Str} (h : dots x = true) : 2 ≤ (TL.tl x).count 46 := by
  obtain ⟨i, _, h2⟩ := (StrLaws.found_iff x (".." : Str)).mp h
  rw [StrLaws.subAt_eq] at h2
  have e : ((TL.tl x).drop i).take 2 = [46, 46] := by
    have e1 := eq_of_beq h2
    have e2 : (".." : Str).length = 2 := by decide +kernel
    have e3 : (".." : Str).cps.toList = [46, 46] := by decide +kernel
    rw [e2, e3] at e1
    exact e1
  have s : List.Sublist [46, 46] (TL.tl x) := by
    rw [← e]
    exact (List.take_sublist _ _).trans (List.drop_sublist _ _)
  exact s.count_le 46
theorem has_only {x y : Str} (h : ∀ u ∈ TL.tl x, u ∈ TL.tl y) : hasOnly x y = true := by
  unfold hasOnly
  rw [List.all_eq_true]
  exact fun u hu => decide_eq_true (h u hu)
theorem dot_tl : TL.tl ("." : Str) = [46] := by decide +kernel
theorem seg_of {x : Str} (h : ∀ u ∈ TL.tl x, u ∈ TL.tl SSG) (h1 : 1 ≤ x.length) (h2 : x.length ≤ 12) (h3 : (TL.tl x).count 46 ≤ 1) (h4 : (TL.tl x).count 46 = 0 ∨ 2 ≤ x.length) : isSegF x = true := by
  unfold isSegF isWordF
  have d : dots x = false := Bool.eq_false_iff.mpr fun z => by
    have := dots_count z
    omega
  have n : ¬ x = "." := fun e => by
    have e1 : TL.tl x = [46] := by rw [e]; exact dot_tl
    rw [TL.len_tl, e1] at h4
    rcases h4 with h4 | h4
    · exact absurd h4 (by decide)
    · exact absurd h4 (by decide)
  rw [decide_eq_true h1, decide_eq_true h2, has_only h, decide_eq_false n, d]
  rfl
theorem lts_ssg : ∀ u ∈ TL.tl LTS, u ∈ TL.tl SSG := by decide +kernel
theorem lts_dot : 46 ∉ TL.tl LTS := by decide +kernel
theorem seg_plain {x : Str} (h : ∀ u ∈ TL.tl x, u ∈ TL.tl LTS) (h1 : 1 ≤ x.length) (h2 : x.length ≤ 12) : isSegF x = true := by
  have c0 : (TL.tl x).count 46 = 0 := List.count_eq_zero.mpr fun z => lts_dot (h _ z)
  exact seg_of (fun u hu => lts_ssg u (h u hu)) h1 h2 (by omega) (.inl c0)
theorem seg_dotted {x : Str} (n : Nat) (h : ∀ u ∈ TL.tl x, u ∈ TL.tl LTS) (h1 : 1 ≤ x.length) (h2 : x.length < 12) :
    isSegF ((cutS x none (some (n : Int)) ++ ("." : Str)) ++ cutS x (some (n : Int)) none) = true ∧ ((cutS x none (some (n : Int)) ++ ("." : Str)) ++ cutS x (some (n : Int)) none).length ≤ 12 := by
  have e : TL.tl ((cutS x none (some (n : Int)) ++ ("." : Str)) ++ cutS x (some (n : Int)) none) = ((TL.tl x).take n ++ [46]) ++ (TL.tl x).drop n := by
    rw [TL.tl_append, TL.tl_append, cut_to, cut_from, dot_tl]
  have c0 : (TL.tl x).count 46 = 0 := List.count_eq_zero.mpr fun z => lts_dot (h _ z)
  have len : (((TL.tl x).take n ++ [46]) ++ (TL.tl x).drop n).length = x.length + 1 := by
    have := congrArg List.length (List.take_append_drop n (TL.tl x))
    rw [List.length_append] at this
    rw [List.length_append, List.length_append, List.length_singleton, TL.len_tl]
    omega
  have cnt : (((TL.tl x).take n ++ [46]) ++ (TL.tl x).drop n).count 46 = 1 := by
    have := congrArg (List.count 46) (List.take_append_drop n (TL.tl x))
    rw [List.count_append, c0] at this
    rw [List.count_append, List.count_append]
    have : [46].count 46 = 1 := rfl
    omega
  refine ⟨seg_of (fun u hu => ?_) (by rw [TL.len_tl, e, len]; omega) (by rw [TL.len_tl, e, len]; omega) (by rw [e, cnt]; exact Nat.le_refl _) (.inr (by rw [TL.len_tl, e, len]; omega)), by rw [TL.len_tl, e, len]; omega⟩
  rw [e] at hu
  rcases List.mem_append.mp hu with hu | hu
  · rcases List.mem_append.mp hu with hu | hu
    · exact lts_ssg u (h u (List.mem_of_mem_take hu))
    · rw [List.mem_singleton.mp hu]
      decide +kernel
  · exact lts_ssg u (h u (List.mem_of_mem_drop hu))
theorem slash_tl : TL.tl ("/" : Str) = [47] := by decide +kernel
theorem seg_slash {x : Str} (h : isSegF x = true) : 47 ∉ TL.tl x := by
  unfold isSegF isWordF hasOnly at h
  simp only [Bool.and_eq_true] at h
  have h1 := h.1.2.2
  rw [List.all_eq_true] at h1
  intro z
  have h2 := of_decide_eq_true (h1 47 z)
  exact absurd h2 (by decide +kernel)
theorem seg_len {x : Str} (h : isSegF x = true) : x.length ≤ 12 := by
  unfold isSegF isWordF at h
  simp only [Bool.and_eq_true] at h
  exact of_decide_eq_true h.1.2.1
theorem path_of {ps : List Str} (h0 : ps ≠ []) (h1 : ps.length ≤ 6) (h : ∀ p ∈ ps, isSegF p = true) : isPathF (Txt.join "/" ps) = true := by
  unfold isPathF segs
  rw [TL.split_join (S := []) slash_tl (by decide +kernel) h0 fun p hp => seg_slash (h p hp), decide_eq_true h1, List.all_eq_true.mpr h]
  rfl
theorem join_len (y : Str) : ∀ ps : List Str, (∀ p ∈ ps, p.length ≤ 12) → (Txt.join y ps).length ≤ ps.length * (12 + y.length) := by
  intro ps h
  rw [TL.join_eq]
  refine Nat.le_trans (StrLaws.join_length_le y ps) ?_
  rw [Nat.mul_add]
  refine Nat.add_le_add_right ?_ _
  induction ps with
  | nil => exact Nat.le_refl _
  | cons p r ih =>
    rw [List.map_cons, List.sum_cons, List.length_cons, Nat.succ_mul]
    have := ih fun q hq => h q (List.mem_cons_of_mem _ hq)
    have := h p List.mem_cons_self
    omega
theorem sum_len : ∀ ps : List Str, (∀ p ∈ ps, p.length ≤ 12) → (ps.map (·.length)).sum ≤ ps.length * 12 := by
  intro ps h
  induction ps with
  | nil => exact Nat.le_refl _
  | cons p r ih =>
    rw [List.map_cons, List.sum_cons, List.length_cons, Nat.succ_mul]
    have := ih fun q hq => h q (List.mem_cons_of_mem _ hq)
    have := h p List.mem_cons_self
    omega
def ALL : Str := (" !\"#$&'()*+,-./0123456789:;<=>?@ABCDEFGHIJKLMNOPQRSTUVWXYZ[]^_`abcdefghijklmnopqrstuvwxyz{|}~" : Str) ++ ("\\" : Str) ++ ("\n" : Str)
theorem all_plain : ∀ u ∈ TL.tl ALL, (decide (u = 10) || plainC u) = true := by decide +kernel
theorem text_of {x : Str} (h : ∀ u ∈ TL.tl x, u ∈ TL.tl ALL) (h1 : x.length ≤ 2000) : isTextF x = true := by
  unfold isTextF
  rw [decide_eq_true h1, List.all_eq_true.mpr fun u hu => all_plain u (h u hu)]
  rfl
theorem id_of {x : Str} (h : ∀ u ∈ TL.tl x, u ∈ TL.tl HEX) (h1 : x.length = 16) : isIdF x = true := by
  unfold isIdF
  rw [decide_eq_true h1, has_only h]
  rfl
theorem filt_all {α : Type} (l : List α) : l.filter (fun _ => true) = l := List.filter_eq_self.mpr fun _ _ => rfl
theorem of_ev {f : Str → Bool} {x : Str} {b : Bool} {Q : VK} {H : Hp} (q : Q (.bl (evalV f (.str x))) H) (e : f x = b) : Q (.bl b) H := by
  rw [← e]
  exact q
theorem of_ev0 {f : Str → Bool} {v : V} {Q : VK} {H : Hp} (hn : ∀ f, evalV f v = false) (q : Q (.bl (evalV f v)) H) : Q (.bl false) H := by
  rw [← hn f]
  exact q
theorem segs_ne (x : Str) : segs x ≠ [] := by
  intro h
  have e := TL.split_spl x "/" (by decide +kernel) (TL.kind_ok (by decide +kernel))
  have h' : Txt.split x "/" = [] := h
  rw [h'] at e
  have e2 : ∀ l k acc, TL.spl (TL.tl "/") k acc l ≠ [] := by
    intro l
    induction l with
    | nil => intro k acc h; rw [TL.spl_nil] at h; cases h
    | cons c r ih =>
      intro k acc h
      cases k with
      | zero =>
        unfold TL.spl at h
        split at h
        · cases h
        · exact ih _ _ h
      | succ k => exact ih _ _ h
  exact e2 _ _ _ e.symm
theorem segs_len (x : Str) (h : x.length ≤ 100000) : (segs x).length ≤ 100001 ∧ ∀ y ∈ segs x, y.length ≤ 100000 := by
  have e := TL.split_spl x "/" (by decide +kernel) (TL.kind_ok (by decide +kernel))
  have e2 : ∀ l k acc, (TL.spl (TL.tl "/") k acc l).length ≤ l.length + 1 ∧ ∀ y ∈ TL.spl (TL.tl "/") k acc l, y.length ≤ acc.length + l.length := by
    intro l
    induction l with
    | nil => intro k acc; rw [TL.spl_nil]; exact ⟨Nat.le_refl _, fun y hy => by rw [List.mem_singleton.mp hy]; simp⟩
    | cons c r ih =>
      intro k acc
      cases k with
      | zero =>
        unfold TL.spl
        split
        · obtain ⟨i1, i2⟩ := ih ((TL.tl "/").length - 1) []
          refine ⟨by simp only [List.length_cons]; omega, fun y hy => ?_⟩
          rcases List.mem_cons.mp hy with rfl | hy
          · simp only [List.length_cons]; omega
          · have := i2 y hy
            simp only [List.length_cons, List.length_nil] at this ⊢
            omega
        · obtain ⟨i1, i2⟩ := ih 0 (acc ++ [c])
          refine ⟨by simp only [List.length_cons]; omega, fun y hy => ?_⟩
          have := i2 y hy
          simp only [List.length_cons, List.length_append, List.length_nil] at this ⊢
          omega
      | succ k =>
        obtain ⟨i1, i2⟩ := ih k acc
        unfold TL.spl
        refine ⟨by simp only [List.length_cons]; omega, fun y hy => ?_⟩
        have := i2 y hy
        simp only [List.length_cons] at this ⊢
        omega
  obtain ⟨i1, i2⟩ := e2 (TL.tl x) 0 []
  rw [← e] at i1 i2
  rw [List.length_map, ← TL.len_tl] at i1
  refine ⟨?_, fun y hy => ?_⟩
  · show (Txt.split x "/").length ≤ _
    omega
  · have := i2 (TL.tl y) (List.mem_map_of_mem hy)
    rw [← TL.len_tl, ← TL.len_tl] at this
    simp at this
    omega
theorem segs_ok (x : Str) (h : OkS x) : ∀ y ∈ segs x, OkS y := by
  have e := TL.split_spl x "/" (by decide +kernel) (TL.kind_ok (by decide +kernel))
  have e2 : ∀ l k acc, (∀ u ∈ l, u < 1114112) → (∀ u ∈ acc, u < 1114112) → ∀ y ∈ TL.spl (TL.tl "/") k acc l, ∀ u ∈ y, u < 1114112 := by
    intro l
    induction l with
    | nil =>
      intro k acc h1 h2 y hy
      rw [TL.spl_nil] at hy
      rw [List.mem_singleton.mp hy]
      exact h2
    | cons c r ih =>
      intro k acc h1 h2 y hy
      have h3 : ∀ u ∈ r, u < 1114112 := fun u hu => h1 u (List.mem_cons_of_mem _ hu)
      cases k with
      | zero =>
        unfold TL.spl at hy
        split at hy
        · rcases List.mem_cons.mp hy with rfl | hy
          · exact h2
          · exact ih _ _ h3 (fun u hu => (List.not_mem_nil hu).elim) y hy
        · refine ih _ _ h3 (fun u hu => ?_) y hy
          rcases List.mem_append.mp hu with hu | hu
          · exact h2 u hu
          · rw [List.mem_singleton.mp hu]
            exact h1 c List.mem_cons_self
      | succ k => exact ih _ _ h3 h2 y hy
  intro y hy
  have i2 := e2 (TL.tl x) 0 [] h (fun u hu => (List.not_mem_nil hu).elim) (TL.tl y)
  rw [← e] at i2
  exact i2 (List.mem_map_of_mem hy)
theorem dp_nil {K : PySem.W.Frag} {H : Hp} {p : Addr} (h : H p = some (.lst [])) : Dp K H (.ref p) (.list []) := .lst (SqL.of h) .nil
theorem dp_strs {K : PySem.W.Frag} {H : Hp} : ∀ ys : List Str, DpAll K H (ys.map V.str) (ys.map PyData.str)
  | [] => .nil
  | y :: r => .cons (.str y) (dp_strs r)
theorem strOk_of {x : Str} (h : OkS x) : PyData.strOk x = true := by
  unfold PyData.strOk
  rw [← Array.all_toList, List.all_eq_true]
  exact fun u hu => decide_eq_true (h u hu)
theorem lay_strs : ∀ ys : List Str, (∀ y ∈ ys, OkS y) → PyData.canLayAll0 (ys.map PyData.str) = true
  | [], _ => rfl
  | y :: r, h => by simp [PyData.canLayAll0, PyData.canLay0, lay_strs r fun z hz => h z (List.mem_cons_of_mem _ hz), strOk_of (h y List.mem_cons_self)]
theorem depth_strs : ∀ ys : List Str, PyData.depthAll (ys.map PyData.str) = 0
  | [] => rfl
  | _ :: r => by simp [PyData.depthAll, PyData.depth, depth_strs r]
theorem shaped_strs (ys : List Str) (h : ∀ y ∈ ys, OkS y) : SeqAt.shaped (.list (ys.map PyData.str)) = true := by
  simp [SeqAt.shaped, PyData.canLay0, PyData.depth, lay_strs ys h, depth_strs]
theorem shaped_nil : SeqAt.shaped (.list []) = true := shaped_strs [] fun _ h => (List.not_mem_nil h).elim
theorem eqv_nil (ys : List Str) : PyData.eqv (.list (ys.map PyData.str)) (.list []) = ys.isEmpty := by
  cases ys with
  | nil => simp [PyData.eqv, PyData.eqvAll]
  | cons y r => simp [PyData.eqv, PyData.eqvAll]
theorem ifF {c A B : Prop} [Decidable c] (h : ¬ c) (b : B) : if c then A else B := by
  rw [if_neg h]
  exact b
theorem ifT {c A B : Prop} [Decidable c] (h : c) (b : A) : if c then A else B := by
  rw [if_pos h]
  exact b
/-- a list of texts is asked for being empty -/
theorem ask_nil {K : PySem.W.Frag} {H' : Hp} {p q : Addr} {ys : List Str} {Q : VK} (ho : ∀ y ∈ ys, OkS y) (h : H' p = some (.lst (ys.map V.str))) (hq : H' q = some (.lst [])) (k : Q (.bl ys.isEmpty) H') : rEqD K (.ref p) (.ref q) H' Q :=
  ⟨_, _, .lst (SqL.of h) (dp_strs ys), dp_nil hq, shaped_strs ys ho, shaped_nil, by rw [eqv_nil]; exact k⟩
theorem filt_empty {α : Type} (l : List α) (p : α → Bool) : (l.filter fun u => !p u).isEmpty = l.all p := by
  induction l with
  | nil => rfl
  | cons a r ih =>
    rw [List.filter_cons, List.all_cons]
    cases h : p a with
    | true => simpa [h] using ih
    | false => simp [h]
theorem map_sgn (cs : List Nat) : cs.map sgn = (cs.map fun c => (⟨#[c]⟩ : Str)).map V.str := by
  rw [List.map_map]
  rfl
theorem ok_sgn {c : Nat} (h : c < 1114112) : OkS ⟨#[c]⟩ := fun u hu => by
  have e : u = c := List.mem_singleton.mp hu
  rw [e]
  exact h
theorem ok_sgns {x : Str} (h : OkS x) (p : Nat → Bool) : ∀ y ∈ ((TL.tl x).filter p).map fun c => (⟨#[c]⟩ : Str), OkS y := fun y hy => by
  obtain ⟨c, hc, rfl⟩ := List.mem_map.mp hy
  exact ok_sgn (h c ((List.mem_filter.mp hc).1))
end Fk
namespace Fk
open PySem PySem.Spec PyProof.Rows L2
theorem ok_app {x y : Str} (hx : OkS x) (hy : OkS y) : OkS (x ++ y) := fun u hu => by
  rw [TL.tl_append] at hu
  rcases List.mem_append.mp hu with hu | hu
  · exact hx u hu
  · exact hy u hu
theorem ok_cut {x : Str} (hx : OkS x) (lo hi : Option Int) : OkS (cutS x lo hi) := fun u hu => by
  rw [tl_cut] at hu
  exact hx u (List.mem_of_mem_drop (List.mem_of_mem_take hu))
theorem ok_rep {x : Str} (hx : OkS x) (n : Nat) : OkS (repS x n) := fun u hu => by
  rw [tl_rep] at hu
  obtain ⟨l, hl, hu⟩ := List.mem_flatten.mp hu
  rw [(List.mem_replicate.mp hl).2] at hu
  exact hx u hu
theorem ok_join {y : Str} (hy : OkS y) {ps : List Str} (h : ∀ p ∈ ps, OkS p) : OkS (Txt.join y ps) := fun u hu => by
  rw [TL.join_eq, TL.tl_join] at hu
  have e : ∀ ls : List (List Nat), (∀ l ∈ ls, ∀ u ∈ l, u < 1114112) → ∀ u ∈ TL.joinL (TL.tl y) ls, u < 1114112 := by
    intro ls
    induction ls with
    | nil => intro _ u hu; exact (List.not_mem_nil hu).elim
    | cons l r ih =>
      intro h u hu
      cases r with
      | nil => exact h l List.mem_cons_self u hu
      | cons m r =>
        have hu : u ∈ l ++ (TL.tl y ++ TL.joinL (TL.tl y) (m :: r)) := hu
        rcases List.mem_append.mp hu with hu | hu
        · exact h l List.mem_cons_self u hu
        · rcases List.mem_append.mp hu with hu | hu
          · exact hy u hu
          · exact ih (fun l hl => h l (List.mem_cons_of_mem _ hl)) u hu
  refine e _ (fun l hl => ?_) u hu
  obtain ⟨p, hp, rfl⟩ := List.mem_map.mp hl
  exact h p hp
theorem ok_by {x : Str} (h : (TL.tl x).all (fun u => decide (u < 1114112)) = true) : OkS x := fun u hu => of_decide_eq_true (List.all_eq_true.mp h u hu)
theorem ok_sub {x y : Str} (h : ∀ u ∈ TL.tl x, u ∈ TL.tl y) (hy : OkS y) : OkS x := fun u hu => hy u (h u hu)
theorem ok_hex : OkS HEX := ok_by (by decide +kernel)
theorem ok_ssg : OkS SSG := ok_by (by decide +kernel)
theorem ok_rsg : OkS RSG := ok_by (by decide +kernel)
theorem ok_let : OkS LET := ok_by (by decide +kernel)
theorem ok_all : OkS ALL := ok_by (by decide +kernel)
theorem ok_slash : OkS "/" := ok_by (by decide +kernel)
theorem only_sub {x y : Str} (h : hasOnly x y = true) : ∀ u ∈ TL.tl x, u ∈ TL.tl y := fun u hu => of_decide_eq_true (List.all_eq_true.mp h u hu)
theorem ok_seg {x : Str} (h : isSegF x = true) : OkS x := by
  unfold isSegF isWordF at h
  simp only [Bool.and_eq_true] at h
  exact ok_sub (only_sub h.1.2.2) ok_ssg
theorem word_of {x y : Str} (h : ∀ u ∈ TL.tl x, u ∈ TL.tl y) (h1 : 1 ≤ x.length) (h2 : x.length ≤ 12) : isWordF y x = true := by
  unfold isWordF
  rw [decide_eq_true h1, decide_eq_true h2, has_only h]
  rfl
theorem Same.of_fr {a : Addr} {H H1 H2 : Hp} (h : H a = none) (s : Same H H1) (f : Fr a H1 H2) : Same H H2 := fun b o e => f b o (ne_of_none e h) (s b o e)
theorem def_ne {K : PySem.W.Frag} {mg : Str → Option Value} {x y : Str} {st st' : Stmt} {f f' : Addr} {fd fd' : FuncData} (D : C8.Def K mg x st f fd) (D' : C8.Def K mg y st' f' fd') (h : x ≠ y) : f ≠ f' := by
  intro e
  subst e
  obtain ⟨oc, od, dV, kV, doc, pm, an, cdv, ct, osl, rfl, lk, _⟩ := D.fn.ex
  obtain ⟨oc', od', dV', kV', doc', pm', an', cdv', ct', osl', rfl, lk', _⟩ := D'.fn.ex
  rw [lk] at lk'
  have e1 := Option.some.inj lk'
  injection e1 with e1 e2 e3 e4
  injection e3 with e3
  exact h (congrArg FuncData.name e3)
end Fk
namespace Fk
open PySem PySem.Spec PyProof.Rows L2
theorem plain_lt {c : Nat} (h : (decide (c = 10) || plainC c) = true) : c < 1114112 := by
  rcases Bool.or_eq_true_iff.mp h with h | h
  · have := of_decide_eq_true h
    omega
  · unfold plainC at h
    have h2 := (Bool.and_eq_true_iff.mp h).2
    have h3 : ¬ ([126] < [c]) := fun z => by
      rw [decide_eq_true z] at h2
      exact absurd h2 (by decide)
    have h4 : ¬ 126 < c := fun z => h3 (List.Lex.rel z)
    omega
theorem ok_text {x : Str} (h : isTextF x = true) : OkS x := fun u hu => plain_lt (List.all_eq_true.mp (Bool.and_eq_true_iff.mp h).2 u hu)
end Fk

set_option maxHeartbeats 4000000
/-! strip(signs), isascii, replace, isprintable: what they say of the words; a def that begins with a token out. -/
namespace Fk
open PySem PySem.Spec PyProof.Rows L2
section
variable {X : Cx} {a b o : Expr} {rest : List Expr} {ta tb t to : TE} {pos : Pos}
theorem pet_one {op} (h : PET X a t) : PET X (.BoolOp op [a] pos) t := fun pins s σ H Q h0 I hw => BoolOp_one (h pins s σ H Q h0 I hw)
theorem pet_and (ha : PE X a ta) (hb : PET X (.BoolOp .And (b :: rest) pos) tb) : PET X (.BoolOp .And (a :: b :: rest) pos) (tAndV ta tb) := by
  intro pins s σ H Q h0 I h
  refine BoolOp_and (wpAny_mono (PySem.wpAny_toks (ha.run pins s σ H _ I h)) (fun v s1 q => ?_) fun _ _ z => z.2)
  obtain ⟨hk, x, H1, I1, r1, q1⟩ := q
  obtain ⟨c, rfl, q1⟩ := q1
  cases r1
  refine wpAny_truthy_bool ?_
  cases c with
  | true => exact hb pins s1 σ H1 Q (by omega) I1 q1
  | false => exact ⟨.bl false, H1, I1, rfl, q1⟩
theorem pet_bm0 {T id name : String} {apos cpos : Pos} {r : V → List V → Hp → VK → Prop} (pa : PlainAttrs T) (slot : Slot T name id) (hty : typeOf (.builtin id) = pure (.type "method_descriptor")) (hm : MtR X id r) (ho : PET X o to)
    (hbase : attributeBase o name X.env (eval o X.env) = eval o X.env := by rfl) (hline : (apos.endLine == cpos.line) = true := by rfl) : PET X (.Call (.Attribute o name apos) [] [] cpos) (tBM0 X.K T r to) := by
  intro pins s σ H Q h0 I h
  refine wpAny_Call_method0_late hbase hline (thn (ho pins s σ H _ h0 I h) fun v s1 ⟨x, H1, I1, r1, ty, q1⟩ => ?_)
  obtain ⟨h1, h2⟩ := tyV_is I1 r1 ty
  exact ⟨T, id, pa, slot, hty, h1, h2, Calls.callWith_builtin rfl (PySem.evalArgs_none (hm pins s1 σ H1 x [] v [] Q I1 r1 .nil q1))⟩
end
section
variable {P : Program} {w : World} {K : PySem.W.Frag} {mg : Str → Option Value} {base : Heap}
/-- a def whose parameters are no cells: a token is out when its body begins -/
theorem cal_ofT {x : Str} {st : Stmt} {N ps : List Str} {k : Nat} {sp : Sp} (D : IsDef K mg x st) (S : FnScope N ps (C8.fnScope st))
    (hnc : ∀ y ∈ (C8.fnScope st).names, y.2 ≠ .cell) (hps : 1 ≤ ps.length)
    (hb : ∀ (kV doc pm : Value) (an : Option Addr) (cdv ct : Value) (us : List Value), us.length = ps.length → bindArgs (PySem.W.fnOf x x (C8.fnArgs st) (C8.fnBody st) (C8.fnScope st) .none kV doc pm an cdv ct) ⟨us, []⟩ = pure (ps.zip us))
    (len : ∀ vs H Q E, sp vs H Q E → vs.length = ps.length)
    (hbody : ∀ (f : Addr) (cdv : Value) (A : Around) (outer : List Env) (s : Shared) (H : Hp) (vs : List V) (Q : VK) (E : XK), Room k (A.deeper (envOfC x (C8.fnScope st) s.heap.objs.size f cdv)) → sp vs H Q E →
      ∃ t, PSsT (cxOf C8.CX0 P w K mg base N x (C8.fnScope st) f cdv A outer s H E) (C8.fnBody st) t ∧ t { nx := fun _ H' => Q .non H', rt := Q } (start N vs) H) : C8.Cal P w K mg base (k + 1) x sp [] := by
  obtain ⟨f, fd, D, df⟩ := D
  obtain ⟨oc, od, dV, kV, doc, pm, an, cdv, ct, osl, rfl, lk, hcd⟩ := D.fn.ex
  have e : dV = .none := df
  subst e
  exact ⟨f, _, ps, [], fn_ofT lk hcd S hnc hps len (hbody f cdv), D.mgf, D.kp, .all (hb kV doc pm an cdv ct), .nil⟩
end

/-! ### what strip leaves -/
theorem tw_all {p : Nat → Bool} {l : List Nat} (h : ∀ c ∈ l, p c = true) : l.takeWhile p = l := by
  induction l with
  | nil => rfl
  | cons c r ih =>
    rw [List.takeWhile_cons, h c List.mem_cons_self, if_pos rfl, ih fun d hd => h d (List.mem_cons_of_mem _ hd)]
theorem tw_short {p : Nat → Bool} {l : List Nat} {c : Nat} (h : p c = false) : ((l ++ [c]).takeWhile p).length ≤ l.length := by
  induction l with
  | nil => simp [List.takeWhile_cons, h]
  | cons d r ih =>
    rw [List.cons_append, List.takeWhile_cons]
    cases hd : p d with
    | true => simpa using ih
    | false => simp
theorem dw_head {p : Nat → Bool} : ∀ {l : List Nat}, (∃ c ∈ l, p c = false) → ∃ c r, l.drop (l.takeWhile p).length = c :: r ∧ p c = false ∧ (l.takeWhile p).length + r.length + 1 = l.length
  | [], h => by
    obtain ⟨c, hc, _⟩ := h
    exact (List.not_mem_nil hc).elim
  | d :: r, h => by
    cases hd : p d with
    | false => exact ⟨d, r, by simp [List.takeWhile_cons, hd], hd, by simp [List.takeWhile_cons, hd]⟩
    | true =>
      have h' : ∃ c ∈ r, p c = false := by
        obtain ⟨c, hc, q⟩ := h
        rcases List.mem_cons.mp hc with rfl | hc
        · rw [hd] at q
          cases q
        · exact ⟨c, hc, q⟩
      obtain ⟨c, r', e1, e2, e3⟩ := dw_head h'
      refine ⟨c, r', ?_, e2, ?_⟩
      · rw [List.takeWhile_cons, hd, if_pos rfl, List.length_cons, List.drop_succ_cons, e1]
      · rw [List.takeWhile_cons, hd, if_pos rfl, List.length_cons, List.length_cons]
        omega
theorem strip_tl (g : Nat → Bool) (x : Str) : TL.tl (Txt.stripBy g true true x) = ((TL.tl x).drop ((TL.tl x).takeWhile g).length).take (x.length - (((TL.tl x).drop ((TL.tl x).takeWhile g).length).reverse.takeWhile g).length - ((TL.tl x).takeWhile g).length) := by
  rw [PySem.W.stripBy_eq]
  exact StrLaws.strSub_toList x _ _
theorem strip_none (x y : Str) : decide (V.str (Txt.stripChars x y) = V.str "") = hasOnly x y := by
  have e0 : TL.tl ("" : Str) = [] := by decide +kernel
  have hg : ∀ c, y.cps.contains c = decide (c ∈ TL.tl y) := fun c => by
    rw [Bool.eq_iff_iff]
    simp [TL.tl]
  have key : (Txt.stripChars x y = ("" : Str)) ↔ hasOnly x y = true := by
    have et := strip_tl (fun c => y.cps.contains c) x
    constructor
    · intro h
      refine Bool.not_eq_false _ ▸ fun hf => ?_
      have hx : ∃ c ∈ TL.tl x, y.cps.contains c = false := by
        refine Classical.byContradiction fun z => ?_
        have : hasOnly x y = true := by
          unfold hasOnly
          refine List.all_eq_true.mpr fun c hc => ?_
          rw [← hg]
          cases q : y.cps.contains c with
          | true => rfl
          | false => exact absurd ⟨c, hc, q⟩ z
        rw [this] at hf
        cases hf
      obtain ⟨c, r, e1, e2, e3⟩ := dw_head (p := fun c => y.cps.contains c) hx
      have h' : Txt.stripBy (fun c => y.cps.contains c) true true x = ("" : Str) := h
      rw [h', e0, e1] at et
      have hs := tw_short (p := fun c => y.cps.contains c) (l := r.reverse) e2
      rw [List.length_reverse, ← List.reverse_cons] at hs
      rw [← TL.len_tl] at e3
      have hp : ∃ m, x.length - (((c :: r).reverse.takeWhile fun c => y.cps.contains c)).length - ((TL.tl x).takeWhile fun c => y.cps.contains c).length = m + 1 := ⟨x.length - (((c :: r).reverse.takeWhile fun c => y.cps.contains c)).length - ((TL.tl x).takeWhile fun c => y.cps.contains c).length - 1, by omega⟩
      obtain ⟨m, hm⟩ := hp
      rw [hm, List.take_succ_cons] at et
      cases et
    · intro h
      have hx : ∀ c ∈ TL.tl x, y.cps.contains c = true := fun c hc => by
        rw [hg]
        unfold hasOnly at h
        exact List.all_eq_true.mp h c hc
      apply TL.ext_tl
      rw [e0]
      refine Eq.trans et ?_
      rw [tw_all hx, List.drop_length, List.take_nil]
  rw [Bool.eq_iff_iff, decide_eq_true_iff, ← key]
  exact ⟨fun h => V.str.inj h, fun h => by rw [h]⟩

/-! ### texts of plain signs -/
theorem plain_of {c : Nat} (h : c < 128) : plainC c = Unicode.isPrintable c := by
  have : ∀ c < 128, plainC c = Unicode.isPrintable c := by decide +kernel
  exact this c h
theorem plain_far {c : Nat} (h : ¬ c < 128) : plainC c = false := by
  have h2 : [126] < [c] := List.Lex.rel (by omega)
  unfold plainC
  rw [decide_eq_true h2]
  simp
theorem repl_one (k : Nat) : ∀ l : List Nat, StrLaws.replL [k] [] l = l.filter fun c => !decide (c = k)
  | [] => by rw [StrLaws.replL_nil]; rfl
  | c :: r => by
    by_cases h : c = k
    · rw [StrLaws.replL_hit (by simp) (by simp [h])]
      rw [List.filter_cons, h]
      simp [repl_one k r]
    · rw [StrLaws.replL_miss (by simp [h]), repl_one k r, List.filter_cons]
      simp [h]
def plainT (x : Str) : Bool := Txt.isascii x && Txt.isprintable (Txt.replace x "\n" "")
theorem plain_text (x : Str) : plainT x = (TL.tl x).all fun c => decide (c = 10) || plainC c := by
  have e10 : ("\n" : Str).cps.toList = [10] := by decide +kernel
  have e00 : ("" : Str).cps.toList = [] := by decide +kernel
  have hr : (Txt.replace x "\n" "").cps.toList = (TL.tl x).filter fun c => !decide (c = 10) := by
    rw [StrLaws.replace_list (by decide +kernel), e10, e00, repl_one]
  unfold plainT Txt.isascii Txt.isprintable
  rw [← Array.all_toList, ← Array.all_toList, hr]
  show ((TL.tl x).all _ && _) = _
  induction TL.tl x with
  | nil => rfl
  | cons c r ih =>
    rw [List.all_cons, List.all_cons, ← ih, List.filter_cons]
    by_cases h1 : c < 128
    · rw [plain_of h1]
      by_cases h2 : c = 10
      · simp [h1, h2]
      · simp [h1, h2]
        cases Unicode.isPrintable c <;> simp
    · rw [plain_far h1]
      have h2 : ¬ c = 10 := by omega
      simp [h1, h2]
end Fk

set_option maxHeartbeats 4000000
/-! An error of an own class as a value: made with keywords or without, its base any whose making is the plain one. -/
namespace Fk
open PySem PySem.Spec L2
open Builtin
section
variable {prog : Program} {w : World} {A : Around} {R : Result → Shared → Prop} {h : Heap} {g : Array GenState} {d : Drawn} {t : Nat} {os : OsState}
variable {nm q : Str} {C N : Addr} {bs bm bmB : List Value} {hdct : Bool} {sn : List Str} {sub : List Value} {ab : Bool} {col : Option Bool} {dd : Option Addr} {k0 k1 k2 k3 k5 : Option Value} {B newId initId : String} {kws : List (Str × Value)}
/-- what the class's own list of bases must say -/
structure BmOk (B : String) (bm : List Value) : Prop where
  b : bm.contains (.type B) = true
  a : bm.contains (.type "AttributeError") = false
  n : bm.contains (.type "NameError") = false
theorem BmOk.b' (o : BmOk B bm) : (Value.ref C :: bm).contains (.type B) = true := by
  have := o.b
  simp only [List.contains_cons, this, Bool.or_true]
theorem BmOk.a' (o : BmOk B bm) : (Value.ref C :: bm).contains (.type "AttributeError") = false := by
  have := o.a
  rw [List.contains_cons, this] <;> rfl
theorem BmOk.n' (o : BmOk B bm) : (Value.ref C :: bm).contains (.type "NameError") = false := by
  have := o.n
  rw [List.contains_cons, this] <;> rfl
theorem xcheck_new (F : ExcBaseFacts B newId initId bmB) (o : BmOk B bm) {rest : List Value} {M : Model} {E : Value → Shared → Prop} {Q : Unit → Shared → Prop} (hC : h.get? C = some (excClassObj nm q C N bs bm hdct sn sub ab col dd k0 k1 k2 k3 k5 newId))
    (hq : Q () ⟨h, g, d, t, os⟩) : wpAny M A (checkBuiltinCall newId ⟨.ref C :: rest, kws⟩) Q E ⟨h, g, d, t, os⟩ := by
  have z1 := o.b' (C := C)
  have z2 := F.noStar
  simp only [checkBuiltinCall, F.newKind, F.newSplit, F.newRow]
  repeat (first
    | refine wpAny_loadPart_at hC ?_
    | (refine wpAny_isSubtype_exc hC ?_; rw [z1])
    | refine wpAny_staticBase_exc hC ?_
    | refine wpAny_madeBy_exc hC ?_
    | simp only [bne_self_eq_false, Bool.false_eq_true, if_false]
    | wp_step)
  exact hq
theorem xnew (F : ExcBaseFacts B newId initId bmB) (o : BmOk B bm) {rest : List Value} (hC : h.get? C = some (excClassObj nm q C N bs bm hdct sn sub ab col dd k0 k1 k2 k3 k5 newId)) (hrest : rest.length ≤ sizeLine)
    (hq : R (.ok (.ret (.ref (h.objs.size + 1)))) ⟨(h.push (W.kdv_tup rest)).push (PySem.HandSPX.excO C h.objs.size), g, d, t, os⟩) :
    codeAny (model prog w) A (.builtin newId ⟨.ref C :: rest, kws⟩) R ⟨h, g, d, t, os⟩ := by
  have z0 := F.ends
  have z1 := o.b' (C := C)
  have z2 := o.a' (C := C)
  have z3 := o.n' (C := C)
  refine codeAny_builtinAt F.entry ?_
  unfold Builtin.«BaseException.__new__»
  refine wpAt_bind ?_
  show wpAt _ _ _ (stack >>= _) _ _ _
  refine wpAt_bind (wpAt_stack fun p below => wpAt_of_wpAny ?_)
  wp_walk
  refine wpAt_of_wpAny ?_
  rw [F.owner]
  repeat (first
    | with_reducible refine wpAny_madeHere_exc F.canon hC ?_
    | with_reducible refine wpAny_loadPart_at hC ?_
    | (with_reducible refine wpAny_isSubtype_exc hC ?_; first | rw [z1] | rw [z2] | rw [z3])
    | wp_step)
  show R _ _
  rw [Heap.size_push]
  exact hq
theorem xtype_call (F : ExcBaseFacts B newId initId bmB) (o : BmOk B bm) {rest : List Value} {fI : Addr} {Q : Fin → Shared → Prop} {E : Value → Shared → Prop} (hC : h.get? C = some (excClassObj nm q C N bs bm hdct sn sub ab col dd k0 k1 k2 k3 k5 newId))
    (hi : W.Looks (model prog w) h (typeLookup (.ref C) "__init__") (some (.ref fI))) (hb : ∀ self, W.Looks (model prog w) h (bindSpecial (.ref fI) self) (.ref fI, [self])) (hrest : rest.length ≤ sizeLine)
    (hq : codeAny (model prog w) A (.call (.ref fI) ⟨.ref (h.objs.size + 1) :: rest, kws⟩) (fun r s' => match r with | .ok (.ret v) => v = .none ∧ Q (.done (.ret (.ref (h.objs.size + 1)))) s' | .ok _ => False | .error e => E e s')
      ⟨(h.push (W.kdv_tup rest)).push (PySem.HandSPX.excO C h.objs.size), g, d, t, os⟩) :
    wpAny (model prog w) A (Builtin.«type.__call__» ⟨.ref C :: rest, kws⟩) Q E ⟨h, g, d, t, os⟩ := by
  repeat (first
    | with_reducible refine wpAny_loadPart_at hC ?_
    | with_reducible refine wpAny_madeBy_exc hC ?_
    | wp_step)
  refine codeAny_call_builtin_code (Code.quiet_builtin _ F.quiet) (xcheck_new F o hC ?_)
  refine xnew F o hC hrest ?_
  show wpAny _ _ _ _ _ _
  have kk : ∀ b u, h.get? b = some u → ((h.push (W.kdv_tup rest)).push (PySem.HandSPX.excO C h.objs.size)).get? b = some u := fun b u e => Heap.get?_push_of_some _ (Heap.get?_push_of_some _ e)
  have c1 := kk _ _ hC
  have gt : ((h.push (W.kdv_tup rest)).push (PySem.HandSPX.excO C h.objs.size)).get? (h.objs.size + 1) = some (PySem.HandSPX.excO C h.objs.size) := by heap_get
  have zC : (Value.ref C :: bm).contains (.ref C) = true := by
    rw [List.contains_cons, beq_self_eq_true, Bool.true_or]
  have j1 := hi.keeps kk
  have j2 := (hb (.ref (h.objs.size + 1))).keeps kk
  unfold isInstance
  repeat (first
    | with_reducible refine wpAny_loadPart_at gt ?_
    | (with_reducible refine wpAny_isSubtype_exc c1 ?_; rw [zC])
    | wp_step)
  show wpAny _ _ (typeLookup (.ref C) _) _ _ _
  refine j1.at (wpAny_holding (wpAny_bind (j2.at (wpAny_bind (wpAny_call (codeAny_mono hq fun r s' z => ?_))))))
  rcases r with e | (v | _ | _ | _) <;> first | exact z | exact z.elim | skip
  obtain ⟨rfl, z⟩ := z
  first
    | exact wpAny_pure (wpAny_pure z)
    | (wp_walk; exact z)

theorem xcall (F : ExcBaseFacts B newId initId bmB) (o : BmOk B bm) {rest : List Value} {fI : Addr} (hC : h.get? C = some (excClassObj nm q C N bs bm hdct sn sub ab col dd k0 k1 k2 k3 k5 newId))
    (hi : W.Looks (model prog w) h (typeLookup (.ref C) "__init__") (some (.ref fI))) (hb : ∀ self, W.Looks (model prog w) h (bindSpecial (.ref fI) self) (.ref fI, [self])) (hrest : rest.length ≤ sizeLine)
    (hq : codeAny (model prog w) (A.under (.builtin "type.__call__" ⟨.ref C :: rest, kws⟩)) (.call (.ref fI) ⟨.ref (h.objs.size + 1) :: rest, kws⟩) (W.InitBack (h.objs.size + 1) R) ⟨(h.push (W.kdv_tup rest)).push (PySem.HandSPX.excO C h.objs.size), g, d, t, os⟩) :
    codeAny (model prog w) A (.call (.ref C) ⟨rest, kws⟩) R ⟨h, g, d, t, os⟩ := by
  have z1 := tc_lookup
  have z2 := tc_bind (.ref C)
  have zT : (⟨h, g, d, t, os⟩ : Shared).TypeIs (.ref C) "type" := ⟨_, hC, rfl⟩
  refine codeAny_of_tree ?_
  show wpAny _ _ (callAny (.ref C) _) _ _ _
  repeat (any_goals (first
    | assumption
    | with_reducible refine wpAny_loadPart_at hC ?_
    | wp_step))
  refine ⟨rfl, codeAny_call_builtin_at (Code.quiet_builtin _ (by decide +kernel)) entry_typeCall (wpAny_check_type_call_sub hC (xtype_call F o hC hi hb hrest (codeAny_mono hq fun r s' z => ?_)))⟩
  rcases r with e | (v | _ | _ | _) <;> exact z

open Builtin.ObjectAttr in
theorem xosa {K : W.Frag} {name : Str} {tk : Tok} {v : Value} {x C : Addr} {fv : Array Value} {cd : ClassData} (XK : K.In h) (hx : h.get? x = some { cls := .ref C, data := .fields fv }) (hcd : W.clsIn K C = some cd) (hne : cd.mro.isEmpty = false)
    (hob : cd.mro.contains (.type "object") = true) (hps : refuseLoop (.ref x) "__setattr__" cd.mro = pure ()) (hh : cd.hasDict = true) (ha : W.findIn K (.ref C) name = some none)
    (hq : ∀ h' tk' dx, (∀ b u, b ≠ x → h.get? b = some u → h'.get? b = some u) → h.objs.size ≤ dx → dx ≠ x → h'.get? x = some { cls := .ref C, dict := some dx, data := .fields fv } → h'.Ns1 dx (fun y => if y = name then some v else none) → R (.ok (.ret .none)) ⟨h', g, d, tk', os⟩) :
    codeAny (model prog w) A (.call (.builtin "object.__setattr__") ⟨[.ref x, .str name tk, v], []⟩) R ⟨h, g, d, t, os⟩ := by
  have iT : W.InstAt h x { cls := .ref C, data := .fields fv } C none := ⟨hx, rfl, rfl, trivial⟩
  have sF := PySem.F.store_object
  have nx : x ≠ h.objs.size := Nat.ne_of_lt (Heap.lt_size hx)
  have isO : W.Looks (model prog w) h (isInstance (.ref x) (.type "object")) true := by
    refine iT.type.andThen (W.looks_mroIn XK ?_)
    unfold W.mroIn
    rw [hcd, Option.bind_some, if_neg (by rw [hne]; decide), hob]
  refine codeAny_call_builtin sF.slot.plain sF.entry (@W.check_slot (model prog w) _ _ ⟨h, g, d, t, os⟩ "object.__setattr__" "object" "__setattr__" (.ref x)
    [.str name tk, v] [] _ sF.kind sF.split isO (sF.args (.ref x) (.str name tk) v) ?_)
  have y1 : W.Looks (model prog w) h (mroOf (.ref C)) cd.mro := (W.looks_clsIn XK hcd).andThen .now
  have y2 : W.Looks (model prog w) h (storeTaker? none) none := .now
  have y3 : W.Looks (model prog w) h (classData C) cd := W.looks_clsIn XK hcd
  rw [W.osa_eq, refuse_eq]
  refine wpAny_bind (wpAny_bind (iT.type.at (wpAny_bind (y1.at ?_))))
  rw [hps]
  refine wpAny_pure (wpAny_bind (iT.type.at (wpAny_bind ((W.looks_findIn XK ha).at (wpAny_bind (y2.at ?_))))))
  show wpAny _ _ (storeInOwnDict (.ref x) (.ref C) (.str name tk) name v false) _ _ _
  obtain ⟨z1, z2, z3, z4, z5, hd, z6, z7, z8, z9, z10⟩ := cd
  dsimp only at hh
  subst hh
  unfold storeInOwnDict ownDictForStores
  repeat (first
    | with_reducible refine PySem.HandSPX.store_in_new ?_ ?_
    | with_reducible refine wpAny_loadPart_at hx ?_
    | with_reducible refine y3.at ?_
    | wp_step)
  · exact ⟨_, #[], _, (Heap.get?_update_ne _ _ _ _ nx.symm).trans (Heap.get?_push_at rfl rfl), rfl, fun e he => absurd he (by simp), fun _ => rfl⟩
  · intro h' tk' hn' hs
    have hx' : (h.push { cls := .type "dict", data := .dict #[] }).get? x = some { cls := .ref C, data := .fields fv } := Heap.get?_push_of_some _ hx
    refine hq h' tk' h.objs.size (fun b u hb hu => ?_) (Nat.le_refl _) nx.symm ?_ hn'
    · exact (hs.2 b (Nat.ne_of_lt (Heap.lt_size hu))).trans ((Heap.get?_update_ne _ _ _ _ hb).trans (Heap.get?_push_of_some _ hu))
    · exact (hs.2 x nx).trans (Heap.get?_update_self _ hx' rfl)
end
end Fk

set_option maxHeartbeats 4000000
namespace Fk
open PySem PySem.Spec L2
/-- what the written part says of an error's class, whose __init__ stands at fI -/
structure XC (K : PySem.W.Frag) (C fI : Addr) : Prop where
  cls : ∃ (B newId initId : String) (bmB : List Value) (nm q : Str) (N : Addr) (bs bm : List Value) (sn : List Str) (sub : List Value) (ab : Bool) (col : Option Bool) (dd : Option Addr) (k0 k1 k2 k3 k5 : Option Value),
    ExcBaseFacts B newId initId bmB ∧ BmOk B bm ∧ (∀ self, refuseLoop self "__setattr__" bm = pure ()) ∧ bm.contains (.type "object") = true ∧ K.lookup C = some (excClassObj nm q C N bs bm true sn sub ab col dd k0 k1 k2 k3 k5 newId)
  sa : PySem.W.findIn K (.ref C) "__setattr__" = some (some (.builtin "object.__setattr__"))
  kC : PySem.W.keepIn K (.ref C) = true
  iC : PySem.W.findIn K (.ref C) "__init__" = some (some (.ref fI))
  tI : PySem.W.typeIn K (.ref fI) = some (.type "function")
  ga : PySem.W.findIn K (.ref C) "__getattribute__" = some (some (.builtin "BaseException.__getattribute__"))
  gg : PySem.W.findIn K (.ref C) "__getattr__" = some none
  su : PySem.W.subIn K (.ref C) (.type "BaseException") = some true
  hd : PySem.W.hasDictIn K C = true
  ha : PySem.W.findIn K (.ref C) "__class__" = some (some (.builtin "object.__class__"))
  hn : PySem.W.specialIn K (.builtin "object.__class__") "__get__" = some (some (.builtin "getset_descriptor.__get__"))
  ht : PySem.W.takesIn K (.builtin "object.__class__") = some true
  hm : PySem.W.mroIn K C (.type "object") = some true
section
variable {X : Cx} {CX : CXT} {k : Nat} {fI C : Addr} {fd : FuncData} {ps : List Str} {sp : Sp}
theorem run_mkv {pins : List (Addr × Obj)} {σ : L2.St} {H : Hp} {s : Shared} {Q : VK} {us vals : List Value} {kz : List (Str × Value)} {vvs : List V} (T : XC X.K C fI) (F1 : FnOk X.prog X.w X.K X.mg X.base CX k fI fd ps sp) (hr : Room (k + 1) X.A)
    (hx : Passes CX X (fun _ _ _ => False)) (I : Inv X pins σ H s) (rv : Vals vvs vals) (hus : us.length ≤ 1000) (hbind : ∀ (s' : Shared) (self : Value), X.K.In s'.heap → BindsTo s' fd ⟨self :: us, kz⟩ (ps.zip (self :: vals)))
    (h : ∀ a, H a = none → sp (.ref a :: vvs) (upd H a (exo a C none)) (fun v H2 => v = .non ∧ Q (.ref a) H2) (fun _ _ _ => False)) :
    wpAny (model X.prog X.w) X.A (call (.ref C) us kz) (EP X pins σ Q) X.xe s := by
  obtain ⟨B, newId, initId, bmB, nm, q, N, bs, bm, sn, sub, ab, col, dd, k0, k1, k2, k3, k5, FB, ok, _, _, hC⟩ := T.cls
  obtain ⟨hp, g, dr, tk, os⟩ := s
  have hsz : hp.objs.size ≤ hp.objs.size + 1 := Nat.le_succ _
  have hq := h (hp.objs.size + 1) (I.hok.fresh hsz)
  have gt : ((hp.push (PySem.W.kdv_tup us)).push (PySem.HandSPX.excO C hp.objs.size)).get? (hp.objs.size + 1) = some (PySem.HandSPX.excO C hp.objs.size) := by heap_get
  have I2 : Inv X pins σ (upd H (hp.objs.size + 1) (exo (hp.objs.size + 1) C none)) ⟨(hp.push (PySem.W.kdv_tup us)).push (PySem.HandSPX.excO C hp.objs.size), g, dr, tk, os⟩ :=
    I.laid (t' := tk) (a := hp.objs.size + 1) (o := exo (hp.objs.size + 1) C none) (fun b u e => Heap.get?_push_of_some _ (Heap.get?_push_of_some _ e)) hsz (exo_ok gt)
  have r2 : Vals (V.ref (hp.objs.size + 1) :: vvs) (Value.ref (hp.objs.size + 1) :: vals) := .cons rfl rv
  have hz : us.length ≤ sizeLine := Nat.le_trans hus (by decide)
  refine wpAny_call (xcall FB ok (I.kIn _ _ hC) (PySem.W.looks_findIn I.kIn T.iC) (fun self => PySem.W.bind_fn I.kIn self T.tI) hz
    (codeAny_mono (F1.run _ X.stack _ _ ⟨Value.ref (hp.objs.size + 1) :: us, kz⟩ _ _ _ (fun _ _ _ => False) (hr.make C us kz) (I2.env0.make C us kz) (hbind _ _ I2.kIn) r2 hq) fun r s' z => ?_))
  cases r with
  | error e => exact hx pins σ _ _ e s' I2 z
  | ok fl =>
    cases fl with
    | ret u =>
      obtain ⟨v, H', I3, rv', ev, q3⟩ := I2.after z
      subst ev
      exact ⟨rv', ⟨V.ref (hp.objs.size + 1), H', I3, rfl, q3⟩⟩
    | next => exact z.elim
    | brk => exact z.elim
    | cont => exact z.elim
variable {x : Str} {p p' pos : Pos} {e o : Expr} {es : List Expr} {kws : List Keyword} {t tk : TA} {ds : List Value} {dvs : List V} {ks : List Str} {te to : TE} {f : Str}
/-- C(e, ..) as a value: an error's object stands at a, then __init__ -/
def tMkV (C : Addr) (sp : Sp) (dvs : List V) (t : TA) : TE := fun σ H Q => t σ H fun vs H1 => vs.length ≤ 1000 ∧ ∀ a, H1 a = none → sp (.ref a :: (vs ++ dvs)) (upd H1 a (exo a C none)) (fun v H2 => v = .non ∧ Q (.ref a) H2) (fun _ _ _ => False)
theorem pe_mkv (T : XC X.K C fI) (F1 : FnOk X.prog X.w X.K X.mg X.base CX k fI fd ps sp) (hr : Room (k + 1) X.A) (hb : Binds X.K fd ps ds) (hd : Vals dvs ds) (hx : Passes CX X (fun _ _ _ => False)) (hg : Gl X x) (hm : X.mg x = some (.ref C)) (ha : PA X (e :: es) t)
    (hdb : (x == ("__debug__" : Str)) = false := by decide) (he : starEach (e :: es) X.env = (false, eval e X.env) :: starEach es X.env := by rfl) (hpl : (backTo pos (starEach es X.env)).any (·.1) = false := by rfl) :
    PE X (.Call (.Name x p) (e :: es) [] pos) (tMkV C sp dvs t) := by
  refine ⟨fun pins s σ H Q I h => ?_⟩
  refine wpAny_Call_Name_kw (ld_glob I hg hm ?_ hdb)
  refine PySem.W.callWith_K (h₀ := X.base) I.ok.mod.kin T.kC (thn (ha.run pos pins s σ H _ I h) fun us s1 ⟨vs, H1, I1, r1, hz, q1⟩ => ⟨I1.kIn, ?_⟩) he hpl
  have q0 := q1 _ (I1.hok.fresh (Nat.le_refl _))
  have l0 := F1.len _ _ _ _ q0
  have l1 := (r1.append hd).length
  rw [List.length_cons] at l0
  exact run_mkv (us := us) (kz := []) T F1 hr hx I1 (r1.append hd) (by rw [← r1.length]; exact hz) (fun s' self X1 => hb s' (self :: us) X1 (by rw [List.cons_append, List.length_cons, ← l1]; exact l0)) q1
theorem pe_mkv0 (T : XC X.K C fI) (F1 : FnOk X.prog X.w X.K X.mg X.base CX k fI fd ps sp) (hr : Room (k + 1) X.A) (hb : Binds X.K fd ps ds) (hd : Vals dvs ds) (hx : Passes CX X (fun _ _ _ => False)) (hg : Gl X x) (hm : X.mg x = some (.ref C))
    (hdb : (x == ("__debug__" : Str)) = false := by decide) : PE X (.Call (.Name x p) [] [] pos) (tMkV C sp dvs tNil) := by
  refine ⟨fun pins s σ H Q I h => ?_⟩
  obtain ⟨_, q1⟩ := h
  refine wpAny_Call_Name_kw (ld_glob I hg hm ?_ hdb)
  refine PySem.W.callWith_K0 I.kIn T.kC ?_
  have q0 := q1 _ (I.hok.fresh (Nat.le_refl _))
  have l0 := F1.len _ _ _ _ q0
  rw [List.length_cons] at l0
  exact run_mkv (us := []) (kz := []) T F1 hr hx I hd (Nat.zero_le _) (fun s' self X1 => hb s' [self] X1 (by rw [List.singleton_append, List.length_cons, ← hd.length]; exact l0)) q1
/-- C(k = e, ..) as a value -/
def tMkVK (C : Addr) (n : Nat) (sp : Sp) (t : TA) : TE := fun σ H Q => t σ H fun zs H1 => zs.length = n ∧ ∀ a, H1 a = none → sp (.ref a :: zs) (upd H1 a (exo a C none)) (fun v H2 => v = .non ∧ Q (.ref a) H2) (fun _ _ _ => False)
theorem pe_mkvK (T : XC X.K C fI) (F1 : FnOk X.prog X.w X.K X.mg X.base CX k fI fd ps sp) (hr : Room (k + 1) X.A) (hb : ∀ (s : Shared) (self : Value) (ws : List Value), X.K.In s.heap → ws.length = ks.length → BindsTo s fd ⟨[self], ks.zip ws⟩ (ps.zip (self :: ws))) (hx : Passes CX X (fun _ _ _ => False))
    (hg : Gl X x) (hm : X.mg x = some (.ref C)) (hkw : PK X kws tk) (hall : (backToKw pos (keywordEach kws X.env)).all (·.1.isSome) = true := by rfl) (hks : (backToKw pos (keywordEach kws X.env)).filterMap (·.1) = ks := by rfl) (hdb : (x == ("__debug__" : Str)) = false := by decide)
    (hpl : ((backTo pos (starEach [] X.env)).any (·.1) || (backToKw pos (keywordEach kws X.env)).any (·.1.isNone)) = false := by rfl) : PE X (.Call (.Name x p) [] kws pos) (tMkVK C ks.length sp tk) := by
  refine ⟨fun pins s σ H Q I h => ?_⟩
  refine wpAny_Call_Name_kw (ld_glob I hg hm ?_ hdb)
  refine PySem.W.callWith_KW0 (h₀ := X.base) I.ok.mod.kin T.kC hall ?_ hpl
  refine thn (hkw.run pos pins s σ H _ I h) fun ws s2 ⟨zs, H2, I2, rz, l2, q2⟩ => ⟨I2.kIn, ?_⟩
  rw [hks]
  exact run_mkv (us := []) T F1 hr hx I2 rz (Nat.zero_le _) (fun s' self X1 => hb s' self ws X1 (by rw [← rz.length]; exact l2)) q2

theorem inst_v {H : Hp} {h : Heap} {P : Program} {w : World} {a d : Addr} {fs : List (Str × V)} (hok : HOk P w H h) (ea : H a = some (exo a C (some d))) (ed : H d = some (exd d fs)) :
    ∃ (ox od : Obj) (mA : Str → Option Value), PySem.W.InstAt h a ox C (some od) ∧ h.get? d = some od ∧ h.Ns1 d mA ∧ ∀ g, RelO (fs.lookup g) (mA g) := by
  obtain ⟨t1, ho⟩ := exo_at hok ea
  obtain ⟨mA, hns, rel⟩ := exd_at hok ed
  obtain ⟨od, es', ep, h1, h2, h3⟩ := id hns
  exact ⟨_, od, mA, ⟨ho, rfl, rfl, h1⟩, h1, hns, rel⟩
/-- e.f, e an error's value -/
def tFv (K : PySem.W.Frag) (f : Str) (te : TE) : TE := fun σ H Q => te σ H fun x H1 => ∃ (a C fI d : Addr) (fs : List (Str × V)) (v : V), x = .ref a ∧ XC K C fI ∧ PySem.W.findIn K (.ref C) f = some none ∧ H1 a = some (exo a C (some d)) ∧ H1 d = some (exd d fs) ∧ fs.lookup f = some v ∧ Q v H1
theorem pe_fv (he : PE X e te) (hb : attributeBase e f X.env (eval e X.env) = eval e X.env := by rfl) : PE X (.Attribute e f pos) (tFv X.K f te) := by
  refine ⟨fun pins s σ H Q I h => ?_⟩
  refine attr_of hb (thn (he.run pins s σ H _ I h) fun u s1 hh => ?_)
  obtain ⟨x, H1, I1, rx, a, C, fI, d, fs, v, ex, T, hno, ea, ed, l, q⟩ := hh
  subst ex
  obtain rfl : u = Value.ref a := rx
  obtain ⟨ox, od, mA, J, hod, hns, rel⟩ := inst_v I1.hok ea ed
  obtain ⟨od', ho', hl'⟩ := lookIn_ns hns
  rw [hod] at ho'
  cases ho'
  obtain ⟨u, hu, ru⟩ := RelO.some_of (v := v) (o := mA f) (by rw [← l]; exact rel f)
  exact PySem.HandSPX.exc_get I1.kIn J T.ga T.gg T.su (PySem.W.findObj_own T.hd hno rfl (by rw [hl', hu])) (handed_of ru) ⟨v, H1, I1.tok _, ru, q⟩
theorem kit_v {K : PySem.W.Frag} {a : Addr} {od : Option Obj} {ox : Obj} (T : XC K C fI) : PySem.W.KitX K (.ref a) (.ref C) (fun h => PySem.W.InstAt h a ox C od) := by
  refine PySem.W.kitx_exc ?_ T.ga T.gg T.su T.ha T.hn T.ht T.hm
  obtain ⟨B, newId, initId, bmB, nm, q, N, bs, bm, sn, sub, ab, col, dd, k0, k1, k2, k3, k5, FB, ok, _, _, hC⟩ := T.cls
  unfold PySem.W.clsIn
  rw [hC]
  rfl
/-- isinstance(e, c), e an error's value -/
def rIsV (K : PySem.W.Frag) : List V → Hp → VK → Prop := fun xs H Q => ∃ (a C fI d : Addr) (fs : List (Str × V)) (c : V) (u : Value) (b : Bool), xs = [.ref a, c] ∧ ClsV c u ∧ XC K C fI ∧ H a = some (exo a C (some d)) ∧ H d = some (exd d fs) ∧ PySem.W.kitOne K (.ref C) u = some b ∧ Q (.bl b) H
theorem call_isv : CallR X (.builtin "isinstance") (rIsV X.K) := by
  intro pins s σ H xs us Q I r h
  obtain ⟨a, C, fI, d, fs, c, u, b, rfl, kc, T, ea, ed, e, q⟩ := h
  obtain ⟨u1, u2, rfl, r1, r2⟩ := vals2 r
  have e2 := kc.eq r2
  subst e2
  obtain rfl : u1 = Value.ref a := r1
  obtain ⟨ox, od, mA, J, hod, hns, rel⟩ := inst_v I.hok ea ed
  exact PySem.W.kia_one (kit_v T) I.kIn J e (fun z => nomatch z) fun tk => ⟨.bl b, H, I.tok tk, rfl, q⟩
/-- isinstance(e, (c, ..)), e the error that the suite holds -/
def rIsS (K : PySem.W.Frag) (a : Addr) (cls : Value) (d : Option Addr) : List V → Hp → VK → Prop := fun xs H Q => ∃ (C fI tp dd : Addr) (fs : List (Str × V)) (cs : List V) (us : List Value) (b : Bool), xs = [.ref a, .ref tp] ∧ cls = .ref C ∧ d = some dd ∧ XC K C fI ∧ H dd = some (.xd fs) ∧
  H tp = some (.tup cs) ∧ Paired ClsV cs us ∧ PySem.W.kitAny K (.ref C) us = some b ∧ Q (.bl b) H
theorem call_isS {a : Addr} {oe : Obj} {cls : Value} {d : Option Addr} {pn : List (Addr × Obj)} (hz : Zc cls d oe) (hf : ∃ vs, oe.data = .fields vs) : CallR (X.suite a ((a, oe) :: pn)) (.builtin "isinstance") (rIsS X.K a cls d) := by
  intro pins s σ H xs us Q I r h
  obtain ⟨C, fI, tp, dd, fs, cs, ws, b, rfl, rfl, rfl, T, ed, hT, kc, e, q⟩ := h
  obtain ⟨u1, u2, rfl, r1, r2⟩ := vals2 r
  obtain rfl : u1 = Value.ref a := r1
  cases (show u2 = Value.ref tp from r2)
  obtain ⟨hget, _⟩ := I.pin (a, oe) (List.mem_append_left _ List.mem_cons_self)
  obtain ⟨vs, hv⟩ := hf
  obtain ⟨mA, hns, rel⟩ := (show ObjOk X.prog X.w H s.heap dd (.xd fs) from I.hok dd _ ed)
  obtain ⟨od, ho, hl⟩ := lookIn_ns hns
  have J : PySem.W.InstAt s.heap a oe C (some od) := ⟨hget, hz.1, by unfold PySem.W.notCls; rw [hv] <;> rfl, by rw [hz.2]; exact ho⟩
  obtain ⟨_, its, rv, o, h1, h2, n, h3⟩ := (show ObjOk X.prog X.w H s.heap tp (.tup cs) from I.hok tp _ hT)
  have e3 := ClsV.all kc rv
  subst e3
  obtain ⟨oc, od', dt, sl⟩ := o
  simp only at h2 h3
  subst h2 h3
  exact PySem.W.kia_tup (kit_v T) I.kIn J h1 e (fun z => nomatch z) fun tk => ⟨.bl b, H, I.tok tk, rfl, q⟩
theorem xost {pins : List (Addr × Obj)} {σ : L2.St} {H : Hp} {s : Shared} {a : Addr} {y : V} {u : Value} {Q : Unit → Shared → Prop} {E : Value → Shared → Prop} {A : Around} (T : XC X.K C fI) (I : Inv X pins σ H s) (ea : H a = some (exo a C none))
    (hno : PySem.W.findIn X.K (.ref C) f = some none) (ry : RelV y u)
    (h : ∀ dx s', H dx = none → dx ≠ a → Inv X pins σ (upd (upd H dx (exd dx [(f, y)])) a (exo a C (some dx))) s' → Q () s') : wpAny (model X.prog X.w) A (setAttr (.ref a) f u) Q E s := by
  obtain ⟨B, newId, initId, bmB, nm, q, N, bs, bm, sn, sub, ab, col, dd, k0, k1, k2, k3, k5, FB, ok, hps, hob, hC⟩ := T.cls
  have hcl : PySem.W.clsIn X.K C = some { name := nm, bases := bs, mro := .ref C :: bm, ns := N, qualname := q, hasDict := true, slotNames := sn, subclasses := sub, abstract := ab, collection := col, hasDel := false } := by
    unfold PySem.W.clsIn
    rw [hC]
  obtain ⟨t1, ho⟩ := exo_at I.hok ea
  obtain ⟨hp, g, d, t, os⟩ := s
  refine PySem.W.set_plain I.kIn (ox := { cls := .ref C, dict := none, data := .fields #[.ref t1, .none, .none, .none, .bool false, .none] }) (od := none) ⟨ho, rfl, rfl, trivial⟩ T.sa ?_
  refine xosa I.kIn ho hcl rfl (by rw [List.contains_cons, hob, Bool.or_true]) (by rw [refuseLoop_ref]; exact hps _) rfl hno (fun h' tk' dx kp dn dne hx hn => ?_)
  have zd : H dx = none := I.hok.fresh dn
  have nd : ∀ {b : Addr} {o : Obj}, hp.get? b = some o → b ≠ dx := fun {b o} w => Nat.ne_of_lt (Nat.lt_of_lt_of_le (Heap.lt_size w) dn)
  have na : ∀ {b : Addr}, H b = none → b ≠ a := fun {b} n z => by
    rw [z, ea] at n
    cases n
  have U : Un X.fs [] H (upd (upd H dx (exd dx [(f, y)])) a (exo a C (some dx))) hp h' := by
    refine ⟨fun b o w n _ _ => kp b o (na n) w, fun b o w n _ _ => ⟨o.slots, kp b o (na n) w⟩, fun b o w n _ => ?_, fun b o w _ => ?_, fun b xs w => ?_, fun b o v w => ?_, fun b ps w => ⟨#[], ?_⟩⟩
    · rw [upd_ne (na n), upd_ne (nd w)]
      exact n
    · by_cases hb : b = a
      · rw [hb]
        exact ⟨_, hx⟩
      · exact ⟨o, kp b o hb w⟩
    · rw [upd_ne (at_ne ea w exo_tup), upd_ne (ne_of_none w zd)]
      exact w
    · rw [upd_ne (at_ne ea w exo_frz), upd_ne (ne_of_none w zd)]
      exact w
    · rw [upd_ne (at_ne ea w exo_tbl), upd_ne (ne_of_none w zd), w]
      simp
  refine h dx _ zd dne (I.un (t' := tk') U fun b o w => ?_)
  by_cases hb : b = a
  · rw [hb, upd_same] at w
    cases w
    rw [hb]
    exact exo_ok hx
  rw [upd_ne hb] at w
  by_cases hd : b = dx
  · rw [hd, upd_same] at w
    cases w
    rw [hd]
    exact exd_ok hn (relO_put (fs := []) ry fun g => True.intro)
  rw [upd_ne hd] at w
  refine (I.hok b o w).stay (fun c v hc z => kp c v ?_ z) (fun c hc => ?_) (fun c xs hc => ?_)
  · rcases hc with hc | hc
    · rw [hc]
      exact hb
    · exact at_ne ea hc exo_own
  · rw [upd_ne (at_ne ea hc exo_own), upd_ne (ne_of_none hc zd)]
    exact hc
  · rw [upd_ne (at_ne ea hc exo_tup), upd_ne (ne_of_none hc zd)]
    exact hc
/-- self.f = e, self an error that has no field yet -/
def tOsv (K : PySem.W.Frag) (f : Str) (to te : TE) : TS := fun D σ H => te σ H fun y H1 => to σ H1 fun x H2 => ∃ a C fI : Addr, x = .ref a ∧ XC K C fI ∧ PySem.W.findIn K (.ref C) f = some none ∧ H2 a = some (exo a C none) ∧
  ∀ dx, H2 dx = none → dx ≠ a → D.nx σ (upd (upd H2 dx (exd dx [(f, y)])) a (exo a C (some dx)))
theorem ps_osv (ho : PE X o to) (he : PE X e te) (hs : swapsWith e (some (.Attribute o f p')) pos.line X.env = pure false := by rfl) : PS X (.Assign [.Attribute o f p'] e pos) (tOsv X.K f to te) := by
  refine ⟨fun pins s σ H D I h => ?_⟩
  refine plainObj_wpAny_Assign_Attribute (thn (he.run pins s σ H _ I h) fun v s1 ⟨y, H1, I1, r1, q1⟩ => thn (ho.run pins s1 σ H1 _ I1 q1) fun u s2 ⟨x, H2, I2, r2, a, C, fI, ex, T, hno, ea, q⟩ => ?_) hs
  subst ex
  obtain rfl : u = Value.ref a := r2
  exact xost T I2 ea hno r1 fun dx s' n ne J => ⟨σ, _, J, q dx n ne⟩
end
end Fk

set_option maxHeartbeats 4000000
/-! What is known of an error's class by its entry in the written part. -/
namespace Fk
open PySem PySem.Spec L2
def VE : List Value := [.type "ValueError", .type "Exception", .type "BaseException", .type "object"]
def KE : List Value := [.type "KeyError", .type "LookupError", .type "Exception", .type "BaseException", .type "object"]
structure CF (K : PySem.W.Frag) (nm : Str) (newId : String) (bm : List Value) (C : Addr) : Prop where
  x : ∃ (q : Str) (N : Addr) (bs : List Value) (sn : List Str) (sub : List Value) (ab : Bool) (col : Option Bool) (dd : Option Addr) (k0 k1 k2 k3 k5 : Option Value), K.lookup C = some (excClassObj nm q C N bs bm true sn sub ab col dd k0 k1 k2 k3 k5 newId)
section
variable {K : PySem.W.Frag} {nm nm' : Str} {newId newId' : String} {bm bm' : List Value} {C C' : Addr}
theorem CF.sub (c : CF K nm newId bm C) (u : Value) : PySem.W.subIn K (.ref C) u = some ((Value.ref C :: bm).contains u) := by
  obtain ⟨q, N, bs, sn, sub, ab, col, dd, k0, k1, k2, k3, k5, e⟩ := c.x
  show PySem.W.mroIn K C u = _
  unfold PySem.W.mroIn PySem.W.clsIn
  rw [e]
  rfl
theorem CF.mro (c : CF K nm newId bm C) (u : Value) : PySem.W.mroIn K C u = some ((Value.ref C :: bm).contains u) := c.sub u
theorem CF.typ (c : CF K nm newId bm C) : PySem.W.typeIn K (.ref C) = some (.type "type") := by
  obtain ⟨q, N, bs, sn, sub, ab, col, dd, k0, k1, k2, k3, k5, e⟩ := c.x
  show (K.lookup C).map (·.cls) = _
  rw [e]
  rfl
theorem CF.hd (c : CF K nm newId bm C) : PySem.W.hasDictIn K C = true := by
  obtain ⟨q, N, bs, sn, sub, ab, col, dd, k0, k1, k2, k3, k5, e⟩ := c.x
  unfold PySem.W.hasDictIn PySem.W.clsIn
  rw [e]
  rfl
theorem CF.isc (c : CF K nm newId bm C) : (PySem.W.clsIn K C).isSome = true := by
  obtain ⟨q, N, bs, sn, sub, ab, col, dd, k0, k1, k2, k3, k5, e⟩ := c.x
  unfold PySem.W.clsIn
  rw [e]
  rfl
theorem CF.kit (c : CF K nm newId bm C) (c' : CF K nm' newId' bm' C') : PySem.W.kitOne K (.ref C) (.ref C') = some ((Value.ref C :: bm).contains (.ref C')) := by
  unfold PySem.W.kitOne
  by_cases h : C = C'
  · subst h
    have e : (Value.ref C == .ref C) = true := beq_self_eq_true _
    rw [if_pos e, List.contains_cons, e, Bool.true_or]
  · have e : ¬ (Value.ref C == .ref C') = true := fun z => by
      have := eq_of_beq z
      cases this
      exact h rfl
    have t : ((PySem.W.clsIn K C').isSome && PySem.W.typeIn K (.ref C') == some (.type "type")) = true := by
      rw [c'.isc, c'.typ] <;> rfl
    rw [if_neg e]
    show (if ((PySem.W.clsIn K C').isSome && PySem.W.typeIn K (.ref C') == some (.type "type")) = true then PySem.W.subIn K (.ref C) (.ref C') else none) = _
    rw [if_pos t]
    exact c.sub _
theorem CF.kitT (c : CF K nm newId bm C) {n : String} (h : PySem.W.kitMeta n = true) : PySem.W.kitOne K (.ref C) (.type n) = some ((Value.ref C :: bm).contains (.type n)) := by
  unfold PySem.W.kitOne
  have e : ¬ (Value.ref C == .type n) = true := fun z => by
    have := eq_of_beq z
    cases this
  rw [if_neg e]
  show (if PySem.W.kitMeta n = true then PySem.W.subIn K (.ref C) (.type n) else none) = _
  rw [if_pos h]
  exact c.sub _
theorem CF.name (c : CF K nm newId bm C) (c' : CF K nm' newId' bm' C) : nm = nm' := by
  obtain ⟨q, N, bs, sn, sub, ab, col, dd, k0, k1, k2, k3, k5, e⟩ := c.x
  obtain ⟨q', N', bs', sn', sub', ab', col', dd', k0', k1', k2', k3', k5', e'⟩ := c'.x
  rw [e] at e'
  have z := Option.some.inj e'
  injection z with z1 z2 z3 z4
  injection z3 with z5
  injection z5
theorem CF.oex (c : CF K nm "ValueError.__new__" bm C) (h : PySem.HandSPX.refsVE bm = true) (sa : PySem.W.findIn K (.ref C) "__setattr__" = some (some (.builtin "object.__setattr__"))) (kC : PySem.W.keepIn K (.ref C) = true) (hb : bm.contains (.type "BaseException") = true) : OexC K C := by
  obtain ⟨q, N, bs, sn, sub, ab, col, dd, k0, k1, k2, k3, k5, e⟩ := id c.x
  refine { cls := ⟨nm, q, N, bs, bm, sn, sub, ab, col, dd, k0, k1, k2, k3, k5, e, h⟩, sa := sa, exC := ?_, tyC := c.typ, kC := kC }
  rw [c.sub, List.contains_cons, hb, Bool.or_true]
theorem CF.exm (c : CF K nm newId bm C) (c' : CF K nm' newId' bm' C') (hb : bm'.contains (.type "BaseException") = true) {b : Bool} (e : (Value.ref C :: bm).contains (.ref C') = b) : PySem.W.exmOne K (.ref C) (.ref C') = some b := by
  refine PySem.W.exm_ref ?_ c'.hd c'.typ ((c.sub _).trans (congrArg some e))
  rw [c'.sub, List.contains_cons, hb, Bool.or_true]
theorem CF.xc (c : CF K nm newId bm C) {B initId : String} {bmB : List Value} {fI : Addr} (FB : ExcBaseFacts B newId initId bmB) (ok : BmOk B bm) (ps : ∀ self, refuseLoop self "__setattr__" bm = pure ()) (ob : bm.contains (.type "object") = true) (hb : bm.contains (.type "BaseException") = true)
    (sa : PySem.W.findIn K (.ref C) "__setattr__" = some (some (.builtin "object.__setattr__"))) (kC : PySem.W.keepIn K (.ref C) = true) (iC : PySem.W.findIn K (.ref C) "__init__" = some (some (.ref fI))) (tI : PySem.W.typeIn K (.ref fI) = some (.type "function"))
    (ga : PySem.W.findIn K (.ref C) "__getattribute__" = some (some (.builtin "BaseException.__getattribute__"))) (gg : PySem.W.findIn K (.ref C) "__getattr__" = some none) (ha : PySem.W.findIn K (.ref C) "__class__" = some (some (.builtin "object.__class__")))
    (hn : PySem.W.specialIn K (.builtin "object.__class__") "__get__" = some (some (.builtin "getset_descriptor.__get__"))) (ht : PySem.W.takesIn K (.builtin "object.__class__") = some true) : XC K C fI := by
  obtain ⟨q, N, bs, sn, sub, ab, col, dd, k0, k1, k2, k3, k5, e⟩ := id c.x
  refine { cls := ⟨B, newId, initId, bmB, nm, q, N, bs, bm, sn, sub, ab, col, dd, k0, k1, k2, k3, k5, FB, ok, ps, ob, e⟩, sa := sa, kC := kC, iC := iC, tI := tI, ga := ga, gg := gg, su := ?_, hd := c.hd, ha := ha, hn := hn, ht := ht, hm := ?_ }
  · rw [c.sub, List.contains_cons, hb, Bool.or_true]
  · rw [c.mro, List.contains_cons, ob, Bool.or_true]
end
theorem ve_ok : BmOk "ValueError" VE := ⟨by decide +kernel, by decide +kernel, by decide +kernel⟩
theorem ke_ok : BmOk "LookupError" KE := ⟨by decide +kernel, by decide +kernel, by decide +kernel⟩
theorem rve_ok (c : Addr) : BmOk "ValueError" (.ref c :: VE) := ⟨ve_ok.b', ve_ok.a', ve_ok.n'⟩
theorem ve_pass (self : Value) : refuseLoop self "__setattr__" VE = pure () := PySem.F.store_ValueError.passes self
theorem rve_pass (c : Addr) (self : Value) : refuseLoop self "__setattr__" (.ref c :: VE) = pure () := by
  rw [refuseLoop_ref]
  exact ve_pass self
theorem ke_pass (self : Value) : refuseLoop self "__setattr__" KE = pure () := by
  kernel_rfl
end Fk

set_option maxHeartbeats 4000000
/-! Operators of an own class: ==, !=, +, unary -. -/
namespace Fk
open PySem PySem.Spec PyProof.Rows L2
/-- nothing is let out where E0 is asked -/
def NoEx (CX : CXT) : Prop := ∀ outer H s u s', CX outer H s C8.E0 u s' → False
theorem noEx0 : NoEx C8.CX0 := fun _ _ _ _ _ h => h
theorem noExL {P : Program} {w : World} : NoEx (L2.CX P w) := fun outer H s u s' h => by
  obtain ⟨_, _, _, _, _, _, _, _, _, _, _, _, e⟩ := h
  exact e
/-- a method of an own class -/
structure OwnM (P : Program) (w : World) (K : PySem.W.Frag) (mg : Str → Option Value) (base : Heap) (CX : CXT) (k : Nat) (C : Addr) (m : Str) (sp : Sp) : Prop where
  ex : ∃ (f : Addr) (fd : FuncData) (ps : List Str), PySem.W.findIn K (.ref C) m = some (some (.ref f)) ∧ PySem.W.isFn K (.ref f) = true ∧ FnOk P w K mg base CX k f fd ps sp ∧ Binds K fd ps []
section
variable {X : Cx} {CX : CXT} {k : Nat} {C a dx : Addr} {sp : Sp} {fs : List (Str × V)} {y : V} {u tb : Value} {pins : List (Addr × Obj)} {σ : L2.St} {H : Hp} {s : Shared} {Q : VK}
/-- a def runs, somewhere below the body; it lets nothing out -/
theorem run_in {f : Addr} {fd : FuncData} {ps : List Str} {us : List Value} {vs : List V} {E' : Value → Shared → Prop} {A : Around} (F : FnOk X.prog X.w X.K X.mg X.base CX k f fd ps sp) (hr : Room k A) (hA : Env0 X.prog X.w X.K X.mg X.base A X.stack s H) (hb : Binds X.K fd ps []) (hx : NoEx CX)
    (I : Inv X pins σ H s) (r : Vals vs us) (h : sp vs H Q C8.E0) : wpAny (model X.prog X.w) A (call (.ref f) us) (EP X pins σ Q) E' s := by
  have hl : us.length = ps.length := by
    rw [← r.length]
    exact F.len _ _ _ _ h
  have b := hb s us I.kIn (by rw [List.append_nil]; exact hl)
  rw [List.append_nil] at b
  refine wpAny_call (codeAny_mono (F.run A X.stack s H ⟨us, []⟩ us vs Q C8.E0 hr hA b r h) fun r s' hq => ?_)
  cases r with
  | error e => exact (hx _ _ _ _ _ hq).elim
  | ok fl =>
    cases fl with
    | ret u => exact I.after hq
    | next => exact hq.elim
    | brk => exact hq.elim
    | cont => exact hq.elim
/-- x == y, x an own object -/
def rOwnEq (K : PySem.W.Frag) (C : Addr) (sp : Sp) : R2 := fun x y H Q => ∃ (a dx : Addr) (fs : List (Str × V)) (tb : Value), x = .ref a ∧ H a = some (.ins C dx fs) ∧ TyX K H y tb ∧ PySem.W.notFirst K C tb = true ∧ sp [x, y] H (fun v H' => ∃ b, v = .bl b ∧ Q (.bl b) H') C8.E0
theorem op_ownEq (M : OwnM X.prog X.w X.K X.mg X.base CX k C "__eq__" sp) (hr : Room k X.A) (hx : NoEx CX) : OpR X (compareOp .Eq) (rOwnEq X.K C sp) := by
  intro pins s σ H x y v u Q I rx ry h
  obtain ⟨a, dx, fs, tb, rfl, ha, ty, hn, q⟩ := h
  obtain ⟨f, fd, ps, hs, hf, F, hb⟩ := M.ex
  cases (show v = Value.ref a from rx)
  obtain ⟨mA, J, _⟩ := ins_get I.hok ha
  obtain ⟨od, J, _⟩ := J.look
  obtain ⟨m, hF⟩ := I.fr
  obtain ⟨P', Z, p, _⟩ := kit_of I ry ty
  show wpAny (model X.prog X.w) X.A (richCompare .Eq (.ref a) u) (EP X pins σ Q) X.xe s
  refine PySem.W.cmp_K (op := .Eq) hr.units0 hF I.ok.mod.kin J (Z.ty _ _ I.kIn p) hn hs hf (wpAny_mono (run_in F hr I.env0 hb hx I (show Vals [V.ref a, y] [Value.ref a, u] from .cons rfl (.cons ry .nil)) q) (fun v s' z => ?_) fun _ _ x => x)
  obtain ⟨x, H', I', rv, b, rfl, q'⟩ := z
  cases (show v = Value.bool b from rv)
  exact ⟨.bl b, H', I', rfl, q'⟩
/-- x != y by object.__ne__, which asks x's own == -/
def rOwnNe (K : PySem.W.Frag) (C : Addr) (sp : Sp) : R2 := fun x y H Q => ∃ (a dx : Addr) (fs : List (Str × V)) (tb : Value), x = .ref a ∧ H a = some (.ins C dx fs) ∧ TyX K H y tb ∧ PySem.W.notFirst K C tb = true ∧ sp [x, y] H (fun v H' => ∃ b, v = .bl b ∧ Q (.bl (!b)) H') C8.E0
theorem op_ownNe (M : OwnM X.prog X.w X.K X.mg X.base CX k C "__eq__" sp) (hr : Room (k + 1) X.A) (hx : NoEx CX) (hne : PySem.W.findIn X.K (.ref C) "__ne__" = some (some (.builtin "object.__ne__"))) (hob : PySem.W.mroIn X.K C (.type "object") = some true) :
    OpR X (compareOp .NotEq) (rOwnNe X.K C sp) := by
  intro pins s σ H x y v u Q I rx ry h
  obtain ⟨a, dx, fs, tb, rfl, ha, ty, hn, q⟩ := h
  obtain ⟨f, fd, ps, hs, hf, F, hb⟩ := M.ex
  cases (show v = Value.ref a from rx)
  obtain ⟨mA, J, _⟩ := ins_get I.hok ha
  obtain ⟨od, J, _⟩ := J.look
  obtain ⟨P', Z, p, _⟩ := kit_of I ry ty
  have hbT := Z.ty (model X.prog X.w) s.heap I.kIn p
  have X0 := I.kIn
  have one : wpAny (model X.prog X.w) X.A (tryCompare (.ref a) "__ne__" u) (fun r s' => ∃ v, r = some v ∧ EP X pins σ Q v s') X.xe s := by
    unfold tryCompare
    have sp : PySem.W.Looks (model X.prog X.w) s.heap (specialOf (.ref a) "__ne__") (some (.builtin "object.__ne__")) := J.type.andThen (PySem.W.looks_findIn X0 hne)
    have iv : PySem.W.Looks (model X.prog X.w) s.heap (isInstance (.ref a) (.type "object")) true := J.type.andThen (PySem.W.looks_mroIn X0 hob)
    refine wpAny_bind (NtL.csib (E := X.xe) sp (PySem.F.cmp_object.ne.bind _) ?_)
    refine wpAny_call (codeAny_call_builtin PySem.F.cmp_object.ne.plain PySem.F.cmpEntry_ne (PySem.W.check_slot PySem.F.cmpKind_ne PySem.F.cmpSplit_ne iv (PySem.F.cmpArgs_ne _ _) ?_))
    have hu : X.A.in1.units < cLine := hr.in1.units0
    unfold Builtin.«object.__ne__»
    repeat (first
      | with_reducible refine wpAny_cRoomFor hu ?_
      | (refine wpAny_bind (m := callSpecialIfBound? (.ref a) (Str.ofString "__eq__") [u]) (PySem.W.ifBound_K X0 J hs hf (wpAny_mono (run_in (E' := fun _ _ => False) F hr.in1 I.env0.in1 hb hx I (show Vals [V.ref a, y] [Value.ref a, u] from .cons rfl (.cons ry .nil)) q) (fun v s' z => ?_) fun _ _ x => x.elim)))
      | wp_step)
    obtain ⟨x, H', I', rv, b, rfl, q'⟩ := z
    cases (show v = Value.bool b from rv)
    show wpAny _ _ (truthy (.bool b) >>= _) _ _ _
    refine wpAny_bind (wpAny_truthy_bool ?_)
    exact wpAny_pure (wpAny_pure ⟨_, rfl, .bl (!b), H', I', rfl, q'⟩)
  show wpAny (model X.prog X.w) X.A (richCompare .NotEq (.ref a) u) (EP X pins σ Q) X.xe s
  unfold richCompare
  simp only [oneThing_ref]
  refine wpAny_holding (wpAny_bind (wpAny_cRoomFor hr.units0 ?_))
  refine wpAny_bind (J.type.here (wpAny_bind (hbT.here ?_)))
  split
  · rename_i z
    have e : PySem.W.subIn X.K tb (.ref C) = some false := by
      rcases Bool.or_eq_true_iff.mp hn with e | e
      · rw [beq_iff_eq.mp e] at z
        simp at z
      · exact beq_iff_eq.mp e
    refine wpAny_bind ((PySem.W.looks_subIn X0 e).here ?_)
    simp only [Bool.false_eq_true, if_false]
    refine wpAny_bind (wpAny_mono one (fun r s' z => ?_) fun _ _ e => e)
    obtain ⟨v, rfl, hq⟩ := z
    exact wpAny_pure hq
  · refine wpAny_bind (wpAny_pure ?_)
    simp only [Bool.false_eq_true, if_false]
    refine wpAny_bind (wpAny_mono one (fun r s' z => ?_) fun _ _ e => e)
    obtain ⟨v, rfl, hq⟩ := z
    exact wpAny_pure hq
/-- -x -/
def rOwnNeg (C : Addr) (sp : Sp) : V → Hp → VK → Prop := fun x H Q => ∃ (a dx : Addr) (fs : List (Str × V)), x = .ref a ∧ H a = some (.ins C dx fs) ∧ sp [x] H Q C8.E0
theorem un_ownNeg (M : OwnM X.prog X.w X.K X.mg X.base CX k C "__neg__" sp) (hr : Room k X.A) (hx : NoEx CX) : UnR X (unaryOp .USub) (rOwnNeg C sp) := by
  intro pins s σ H x v Q I rx h
  obtain ⟨a, dx, fs, rfl, ha, q⟩ := h
  obtain ⟨f, fd, ps, hs, hf, F, hb⟩ := M.ex
  cases (show v = Value.ref a from rx)
  obtain ⟨mA, J, _⟩ := ins_get I.hok ha
  obtain ⟨od, J, _⟩ := J.look
  obtain ⟨m, hF⟩ := I.fr
  exact PySem.W.ksp_neg hF I.ok.mod.kin J hs hf (run_in F hr I.env0 hb hx I (show Vals [V.ref a] [Value.ref a] from .cons rfl .nil) q)
end
end Fk
namespace PySem.W
open PySem PySem.Spec PyProof.Rows
section
variable {prog : Program} {w : World} {A : Around} {E : Value → Shared → Prop} {s : Shared} {K : Frag} {x C L f : Addr} {h₀ : Heap} {m : Str → Option Value} {ox : Obj} {od : Option Obj} {nm T : String}
theorem fk_binT {op : Operator} {b : Value} {fo ro rc : Option Value} {Q : Value → Shared → Prop} (F : Fr h₀ L s.heap m) (X₀ : K.In h₀) (I : InstAt s.heap x ox C od) (hb : Looks (model prog w) s.heap (typeOf b) (.type T)) (hc : selfFirst K C = true)
    (hs : findIn K (.ref C) (PySem.dunder op.info.2) = some (some (.ref f))) (hf : isFn K (.ref f) = true) (hr : findIn K (.ref C) (dunderR op.info.2) = some rc) (hp : rc = none ∨ ∃ g : Addr, rc = some (.ref g))
    (h1 : findIn K (.type T) (PySem.dunder op.info.2) = some fo) (h2 : findIn K (.type T) (dunderR op.info.2) = some ro) (hsub : subIn K (.type T) (.ref C) = some false)
    (h : wpAny (model prog w) A (call (.ref f) [.ref x, b]) (CmpBack Q) E s) : wpAny (model prog w) A (binaryOp op (.ref x) b) Q E s := by
  have X := X₀.keeps F.keep
  obtain ⟨cd, rest, hcd, hm⟩ := ksp_first hc
  rcases hi : op.info with ⟨sym, nm'⟩
  rw [hi] at hs hr h1 h2
  dsimp only at hs hr h1 h2
  have one := ksp_try X I hs hf h
  obtain ⟨hh, g, d, tt, os⟩ := s
  have L1 : Looks (model prog w) hh (typeOf (.ref x)) (.ref C) := I.type
  have L2 : Looks (model prog w) hh (typeOf b) (.type T) := hb
  have L3 : Looks (model prog w) hh (fillsNumberSlot (.ref C) nm') true := fills_K X hcd hm hs
  have L4 : Looks (model prog w) hh (fillsNumberSlot (.type T) nm') ((fo.isSome && !isSeqSlot fo) || (ro.isSome && !isSeqSlot ro)) := ksp_fillsT X h1 h2
  have L5 : Looks (model prog w) hh (isSubtype (.type T) (.ref C)) false := looks_subIn X hsub
  have L6 : Looks (model prog w) hh (numberSlotInPython (.ref C) nm') true := ksp_inPy X hs hr hp
  have L7 : Looks (model prog w) hh (numberSlotInPython (.type T) nm') false := Looks.of_pure rfl
  have L8 : Looks (model prog w) hh (typeLookup (.type T) (dunderR nm')) ro := looks_findIn X h2
  generalize ((fo.isSome && !isSeqSlot fo) || (ro.isSome && !isSeqSlot ro)) = right at L4
  have hne : (Value.ref C == Value.type T) = false := Bool.eq_false_iff.mpr fun q => by cases beq_iff_eq.mp q
  simp only [binaryOp, hi]
  refine wpAny_holding (wpAny_bind ?_)
  unfold binaryOp1
  refine wpAny_bind (L1.at (wpAny_bind (L2.at (wpAny_bind (L3.at ?_)))))
  simp only [hne, Bool.false_eq_true, if_false]
  cases right with
  | false =>
    ksp_lk
    refine wpAny_mono one (fun r s' hr' => ?_) fun _ _ e => e
    obtain ⟨v, rfl, hq⟩ := hr'
    ksp_lk
    exact hq
  | true =>
    ksp_lk
    refine wpAny_mono one (fun r s' hr' => ?_) fun _ _ e => e
    obtain ⟨v, rfl, hq⟩ := hr'
    ksp_lk
    exact hq
end
end PySem.W
namespace Fk
open PySem PySem.Spec PyProof.Rows L2
/-- what is asked of a class for its + -/
structure AddF (K : PySem.W.Frag) (C : Addr) : Prop where
  first : PySem.W.selfFirst K C = true
  noR : PySem.W.findIn K (.ref C) "__radd__" = some none
/-- what may stand on the right of an own + -/
inductive RightOf (K : PySem.W.Frag) (H : Hp) (C : Addr) : V → Prop where
  | ins {b dy : Addr} {gs : List (Str × V)} (h : H b = some (.ins C dy gs)) : RightOf K H C (.ref b)
  | ty {y : V} {T : String} {fo ro : Option Value} (h : TyX K H y (.type T)) (h1 : PySem.W.findIn K (.type T) "__add__" = some fo) (h2 : PySem.W.findIn K (.type T) "__radd__" = some ro) (hs : PySem.W.subIn K (.type T) (.ref C) = some false) : RightOf K H C y
/-- x + y by x's own +: what may be let out is E, at the slots; the answer is an object -/
def tOwnAdd (K : PySem.W.Frag) (C : Addr) (sp : Sp) (E : L2.St → XK) (ta tb : TE) : TE := fun σ H Q => ta σ H fun x H1 => tb σ H1 fun y H2 => ∃ (a dx : Addr) (fs : List (Str × V)), x = .ref a ∧ H2 a = some (.ins C dx fs) ∧ RightOf K H2 C y ∧
  sp [x, y] H2 (fun v H' => ∃ b, v = .ref b ∧ Q v H') (E σ)
theorem pe_ownAdd {X : Cx} {CX : CXT} {k : Nat} {C : Addr} {sp : Sp} {E : L2.St → XK} {a b : Expr} {ta tb : TE} {pos : Pos} (M : OwnM X.prog X.w X.K X.mg X.base CX k C "__add__" sp) (T : AddF X.K C) (hr : Room k X.A) (hx : ∀ σ, PassesAt CX X σ (E σ)) (ha : PE X a ta) (hb : PE X b tb) :
    PE X (.BinOp a .Add b pos) (tOwnAdd X.K C sp E ta tb) := by
  refine ⟨fun pins s σ H Q I h => ?_⟩
  refine wpAny_BinOp (binT ha hb I h fun v u s2 x y H2 I2 rx ry q => ?_)
  obtain ⟨a, dx, fs, rfl, ea, ri, q⟩ := q
  obtain ⟨f, fd, ps, hs, hf, F, hb⟩ := M.ex
  cases (show v = Value.ref a from rx)
  obtain ⟨mA, J, _⟩ := ins_get I2.hok ea
  obtain ⟨od, J, _⟩ := J.look
  obtain ⟨m, hF⟩ := I2.fr
  have go : wpAny (model X.prog X.w) X.A (call (.ref f) [.ref a, u]) (PySem.W.CmpBack (EP X pins σ Q)) X.xe s2 := by
    refine wpAny_mono (run_fnS F hr hb (hx σ) I2 (show Vals [V.ref a, y] [Value.ref a, u] from .cons rfl (.cons ry .nil)) q) (fun v s' z => ?_) fun _ _ e => e
    obtain ⟨x, H', I', rv, b, rfl, q'⟩ := z
    cases (show v = Value.ref b from rv)
    exact ⟨.ref b, H', I', rfl, q'⟩
  cases ri with
  | @ins b dy gs eb =>
    cases (show u = Value.ref b from ry)
    obtain ⟨mB, J', _⟩ := ins_get I2.hok eb
    obtain ⟨od', J', _⟩ := J'.look
    exact PySem.W.binop_K (op := .Add) hF I2.ok.mod.kin J J'.type T.first hs hf go
  | @ty _ T' fo ro ty h1 h2 hsb =>
    obtain ⟨P', Z, p, _⟩ := kit_of I2 ry ty
    exact PySem.W.fk_binT (op := .Add) hF I2.ok.mod.kin J (Z.ty _ _ I2.kIn p) T.first hs hf T.noR (.inl rfl) h1 h2 hsb go
end Fk

set_option maxHeartbeats 4000000
/-! len, in, [] of an own class; methods that may raise, in a try and out of it; classes made. -/
namespace Fk
open PySem PySem.Spec PyProof.Rows L2
section
variable {X : Cx} {CX : CXT} {k : Nat} {C : Addr} {sp : Sp}
/-- len(x) -/
theorem call_ownLen (M : OwnM X.prog X.w X.K X.mg X.base CX k C "__len__" sp) (hr : Room (k + 1) X.A) (hx : NoEx CX) :
    CallR X (.builtin "len") (fun xs H Q => ∃ (a dx : Addr) (fs : List (Str × V)), xs = [.ref a] ∧ H a = some (.ins C dx fs) ∧ sp xs H (fun v H' => ∃ n : Nat, v = .int n ∧ n ≤ 1000000 ∧ Q v H') C8.E0) := by
  intro pins s σ H xs us Q I r h
  obtain ⟨a, dx, fs, rfl, ha, q⟩ := h
  obtain ⟨u, rfl, ru⟩ := vals1 r
  cases (show u = Value.ref a from ru)
  obtain ⟨f, fd, ps, hs, hf, F, hb⟩ := M.ex
  obtain ⟨mA, J, _⟩ := ins_get I.hok ha
  obtain ⟨od, J, _⟩ := J.look
  obtain ⟨m, hF⟩ := I.fr
  refine PySem.W.len_K hF I.ok.mod.kin J hs hf (wpAny_mono (run_in F hr.in1 I.env0.in1 hb hx I (show Vals [V.ref a] [Value.ref a] from .cons rfl .nil) q) (fun v s' z => ?_) fun _ _ x => x)
  obtain ⟨x, H', I', rv, n, rfl, hn, q'⟩ := z
  obtain ⟨t, rfl⟩ := (show ∃ t, v = Value.int n t from rv)
  exact ⟨⟨by omega, by omega⟩, .int n, H', I'.tok _, ⟨_, rfl⟩, q'⟩
/-- y in x, y not in x -/
def rOwnIn (C : Addr) (sp : Sp) : R2 := fun y x H Q => ∃ (a dx : Addr) (fs : List (Str × V)), x = .ref a ∧ H a = some (.ins C dx fs) ∧ sp [x, y] H (fun v H' => ∃ b, v = .bl b ∧ Q (.bl b) H') C8.E0
def rOwnNotIn (C : Addr) (sp : Sp) : R2 := fun y x H Q => ∃ (a dx : Addr) (fs : List (Str × V)), x = .ref a ∧ H a = some (.ins C dx fs) ∧ sp [x, y] H (fun v H' => ∃ b, v = .bl b ∧ Q (.bl (!b)) H') C8.E0
theorem op_ownIn (M : OwnM X.prog X.w X.K X.mg X.base CX k C "__contains__" sp) (hr : Room k X.A) (hx : NoEx CX) : OpR X (compareOp .In) (rOwnIn C sp) := by
  intro pins s σ H y x u v Q I ry rx h
  obtain ⟨a, dx, fs, rfl, ha, q⟩ := h
  cases (show v = Value.ref a from rx)
  obtain ⟨f, fd, ps, hs, hf, F, hb⟩ := M.ex
  obtain ⟨mA, J, _⟩ := ins_get I.hok ha
  obtain ⟨od, J, _⟩ := J.look
  obtain ⟨m, hF⟩ := I.fr
  refine PySem.W.in_K hF I.ok.mod.kin J hs hf (wpAny_mono (run_in F hr I.env0 hb hx I (show Vals [V.ref a, y] [Value.ref a, u] from .cons rfl (.cons ry .nil)) q) (fun v s' z => ?_) fun _ _ x => x)
  obtain ⟨x, H', I', rv, b, rfl, q'⟩ := z
  cases (show v = Value.bool b from rv)
  exact wpAny_truthy_bool ⟨.bl b, H', I', rfl, q'⟩
theorem op_ownNotIn (M : OwnM X.prog X.w X.K X.mg X.base CX k C "__contains__" sp) (hr : Room k X.A) (hx : NoEx CX) : OpR X (compareOp .NotIn) (rOwnNotIn C sp) := by
  intro pins s σ H y x u v Q I ry rx h
  obtain ⟨a, dx, fs, rfl, ha, q⟩ := h
  cases (show v = Value.ref a from rx)
  obtain ⟨f, fd, ps, hs, hf, F, hb⟩ := M.ex
  obtain ⟨mA, J, _⟩ := ins_get I.hok ha
  obtain ⟨od, J, _⟩ := J.look
  obtain ⟨m, hF⟩ := I.fr
  refine PySem.W.notIn_K hF I.ok.mod.kin J hs hf (wpAny_mono (run_in F hr I.env0 hb hx I (show Vals [V.ref a, y] [Value.ref a, u] from .cons rfl (.cons ry .nil)) q) (fun v s' z => ?_) fun _ _ x => x)
  obtain ⟨x, H', I', rv, b, rfl, q'⟩ := z
  cases (show v = Value.bool b from rv)
  exact wpAny_truthy_bool ⟨.bl (!b), H', I', rfl, q'⟩
end
/-- a method of an own class with its defaults -/
structure MetX (P : Program) (w : World) (K : PySem.W.Frag) (mg : Str → Option Value) (base : Heap) (CX : CXT) (k : Nat) (C : Addr) (m : Str) (sp : Sp) (dvs : List V) : Prop where
  ex : ∃ (f : Addr) (fd : FuncData) (ps : List Str) (ds : List Value), Cls K C ∧ Meth K C m f ∧ FnOk P w K mg base CX k f fd ps sp ∧ Binds K fd ps ds ∧ Vals dvs ds
/-- a class that may be made -/
structure MakX (P : Program) (w : World) (K : PySem.W.Frag) (mg : Str → Option Value) (base : Heap) (CX : CXT) (k : Nat) (x : Str) (C : Addr) (sp : Sp) (dvs : List V) : Prop where
  ex : ∃ (f : Addr) (fd : FuncData) (ps : List Str) (ds : List Value), Mk K C f ∧ FnOk P w K mg base CX k f fd ps sp ∧ mg x = some (.ref C) ∧ Binds K fd ps ds ∧ Vals dvs ds
/-- a def that may raise -/
structure CalX (P : Program) (w : World) (K : PySem.W.Frag) (mg : Str → Option Value) (base : Heap) (CX : CXT) (k : Nat) (x : Str) (sp : Sp) (dvs : List V) : Prop where
  ex : ∃ (f : Addr) (fd : FuncData) (ps : List Str) (ds : List Value), FnOk P w K mg base CX k f fd ps sp ∧ mg x = some (.ref f) ∧ PySem.W.keepIn K (.ref f) = true ∧ Binds K fd ps ds ∧ Vals dvs ds
section
variable {X : Cx} {CX : CXT} {k j : Nat} {C : Addr} {sp : Sp} {dvs : List V} {m x : Str} {E : L2.St → XK} {o e : Expr} {es : List Expr} {ta : TE} {t : TA} {p pos apos : Pos}
theorem run_at {pins : List (Addr × Obj)} {σ : L2.St} {H : Hp} {s : Shared} {Q : VK} {f : Addr} {fd : FuncData} {ps : List Str} {us ds : List Value} {vs : List V} (F : FnOk X.prog X.w X.K X.mg X.base CX k f fd ps sp) (hr : Room k X.A) (hb : Binds X.K fd ps ds) (hd : Vals dvs ds) (hx : PassesAt CX X σ (E σ))
    (I : Inv X pins σ H s) (r : Vals vs us) (h : sp (vs ++ dvs) H Q (E σ)) : wpAny (model X.prog X.w) X.A (call (.ref f) us) (EP X pins σ Q) X.xe s := by
  have r2 : Vals (vs ++ dvs) (us ++ ds) := r.append hd
  have hl : (us ++ ds).length = ps.length := by
    rw [← r2.length]
    exact F.len _ _ _ _ h
  refine wpAny_call (codeAny_mono (F.run X.A X.stack s H ⟨us, []⟩ (us ++ ds) (vs ++ dvs) Q (E σ) hr I.env0 (hb s us I.kIn hl) r2 h) fun r s' hq => ?_)
  cases r with
  | error e => exact hx pins H s e s' I hq
  | ok fl =>
    cases fl with
    | ret u => exact I.after hq
    | next => exact hq.elim
    | brk => exact hq.elim
    | cont => exact hq.elim
/-- o.m(e, ..) -/
def tMx (C : Addr) (m : Str) (sp : Sp) (dvs : List V) (E : L2.St → XK) (ta : TE) (t : TA) : TE := fun σ H Q => ta σ H fun x H1 => ∃ (a dx : Addr) (fs : List (Str × V)), x = .ref a ∧ H1 a = some (.ins C dx fs) ∧ fs.lookup m = none ∧ t σ H1 fun vs H2 => sp (.ref a :: (vs ++ dvs)) H2 Q (E σ)
theorem pe_mx {pl : Sem Bool} (c : MetX X.prog X.w X.K X.mg X.base CX k C m sp dvs) (hr : Room j X.A) (hk : k ≤ j) (hx : ∀ σ, PassesAt CX X σ (E σ)) (he : PE X o ta) (ha : PA X (e :: es) t)
    (hst : starEach (e :: es) X.env = (false, eval e X.env) :: starEach es X.env := by rfl) (hpl : (backTo pos (starEach es X.env)).any (·.1) = false := by rfl)
    (ht : eval (.Call (.Attribute o m apos) (e :: es) [] pos) X.env = (do
      let ov ← eval o X.env
      standAt apos.atName
      let (f, first) ← holding [ov] (getMethod ov m pl)
      callWith pos f first (backTo pos (starEach (e :: es) X.env)) (backToKw pos (keywordEach [] X.env))) := by rfl) :
    PE X (.Call (.Attribute o m apos) (e :: es) [] pos) (tMx C m sp dvs E ta t) := by
  obtain ⟨f, fd, ps, ds, cl, hm, F, b, d⟩ := c.ex
  refine ⟨fun pins s σ H Q I h => ?_⟩
  refine PySem.W.methodCall_KW (pl := pl) (thn (he.run pins s σ H _ I h) fun u s1 ⟨x, H1, I1, rx, a, dx, fs, ex, ea, l, q⟩ => ?_) ht
  subst ex
  obtain rfl : u = Value.ref a := rx
  refine getmeth_ok I1 ea cl hm l ?_
  refine PySem.W.callWith_K (first := [.ref a]) (h₀ := X.base) I.ok.mod.kin hm.kp (thn (ha.run pos pins s1 σ H1 _ I1 q) fun us s2 ⟨vs, H2, I2, r, q2⟩ => ⟨I2.kIn, ?_⟩) hst hpl
  exact run_at (us := .ref a :: us) (vs := .ref a :: vs) F (hr.mono hk) b d (hx σ) I2 (.cons rfl r) q2
theorem pe_mx0 {pl : Sem Bool} (c : MetX X.prog X.w X.K X.mg X.base CX k C m sp dvs) (hr : Room j X.A) (hk : k ≤ j) (hx : ∀ σ, PassesAt CX X σ (E σ)) (he : PE X o ta)
    (ht : eval (.Call (.Attribute o m apos) [] [] pos) X.env = (do
      let ov ← eval o X.env
      standAt apos.atName
      let (f, first) ← holding [ov] (getMethod ov m pl)
      callWith pos f first (backTo pos (starEach [] X.env)) (backToKw pos (keywordEach [] X.env))) := by rfl) :
    PE X (.Call (.Attribute o m apos) [] [] pos) (tMx C m sp dvs E ta tNil) := by
  obtain ⟨f, fd, ps, ds, cl, hm, F, b, d⟩ := c.ex
  refine ⟨fun pins s σ H Q I h => ?_⟩
  refine PySem.W.methodCall_KW (pl := pl) (thn (he.run pins s σ H _ I h) fun u s1 ⟨x, H1, I1, rx, a, dx, fs, ex, ea, l, q⟩ => ?_) ht
  subst ex
  obtain rfl : u = Value.ref a := rx
  refine getmeth_ok I1 ea cl hm l ?_
  exact PySem.W.callWith_K0 (first := [.ref a]) I1.kIn hm.kp (run_at (us := [.ref a]) (vs := [.ref a]) F (hr.mono hk) b d (hx σ) I1 (.cons rfl .nil) q)
/-- a def by its name -/
def tCx (sp : Sp) (dvs : List V) (E : L2.St → XK) (t : TA) : TE := fun σ H Q => t σ H fun vs H1 => sp (vs ++ dvs) H1 Q (E σ)
theorem pe_cx (c : CalX X.prog X.w X.K X.mg X.base CX k x sp dvs) (hr : Room j X.A) (hk : k ≤ j) (hx : ∀ σ, PassesAt CX X σ (E σ)) (hg : Gl X x) (ha : PA X (e :: es) t)
    (hdb : (x == ("__debug__" : Str)) = false := by decide) (he : starEach (e :: es) X.env = (false, eval e X.env) :: starEach es X.env := by rfl) (hpl : (backTo pos (starEach es X.env)).any (·.1) = false := by rfl) :
    PE X (.Call (.Name x p) (e :: es) [] pos) (tCx sp dvs E t) := by
  obtain ⟨f, fd, ps, ds, F, hm, kp, b, d⟩ := c.ex
  refine ⟨fun pins s σ H Q I h => ?_⟩
  refine wpAny_Call_Name_kw (ld_glob I hg hm ?_ hdb)
  refine PySem.W.callWith_K (h₀ := X.base) I.ok.mod.kin kp (thn (ha.run pos pins s σ H _ I h) fun us s1 ⟨vs, H1, I1, r, q⟩ => ⟨I1.kIn, ?_⟩) he hpl
  exact run_at F (hr.mono hk) b d (hx σ) I1 r q
end
end Fk

set_option maxHeartbeats 4000000
/-! x != y of objects of one class without an own ==: whether they are two. -/
namespace Fk
open PySem PySem.Spec PyProof.Rows L2
structure PlainEq (K : PySem.W.Frag) (C : Addr) : Prop where
  ne : PySem.W.findIn K (.ref C) "__ne__" = some (some (.builtin "object.__ne__"))
  eq : PySem.W.findIn K (.ref C) "__eq__" = some (some (.builtin "object.__eq__"))
  ob : PySem.W.mroIn K C (.type "object") = some true
def rIdNe (C : Addr) : R2 := fun x y H Q => ∃ (a b dx dy : Addr) (fs gs : List (Str × V)), x = .ref a ∧ y = .ref b ∧ H a = some (.ins C dx fs) ∧ H b = some (.ins C dy gs) ∧ Q (.bl (!decide (a = b))) H
section
variable {X : Cx} {C : Addr}
theorem idEq {pins : List (Addr × Obj)} {σ : L2.St} {H : Hp} {s : Shared} {A : Around} {E : Value → Shared → Prop} {a b dx dy : Addr} {fs gs : List (Str × V)} {Q : Option Value → Shared → Prop} (T : PlainEq X.K C) (I : Inv X pins σ H s) (ha : H a = some (.ins C dx fs)) (hb : H b = some (.ins C dy gs))
    (h : Q (some (if a = b then .bool true else .notImplemented)) s) : wpAny (model X.prog X.w) A (callSpecialIfBound? (.ref a) "__eq__" [.ref b]) Q E s := by
  obtain ⟨mA, J, _⟩ := ins_get I.hok ha
  obtain ⟨od, J, _⟩ := J.look
  obtain ⟨mB, J', _⟩ := ins_get I.hok hb
  obtain ⟨od', J', _⟩ := J'.look
  have sp : PySem.W.Looks (model X.prog X.w) s.heap (specialOf (.ref a) "__eq__") (some (.builtin "object.__eq__")) := J.type.andThen (PySem.W.looks_findIn I.kIn T.eq)
  have iv : PySem.W.Looks (model X.prog X.w) s.heap (isInstance (.ref a) (.type "object")) true := J.type.andThen (PySem.W.looks_mroIn I.kIn T.ob)
  refine NtL.csib (E := E) sp (PySem.F.cmp_object.eq.bind _) ?_
  refine wpAny_call (codeAny_call_builtin PySem.F.cmp_object.eq.plain PySem.F.cmpEntry_eq (PySem.W.check_slot PySem.F.cmpKind_eq PySem.F.cmpSplit_eq iv (PySem.F.cmpArgs_eq _ _) ?_))
  by_cases e : a = b
  · subst e
    rw [if_pos rfl] at h
    exact objEq_entry_same h
  · rw [if_neg e] at h
    exact objEq_entry_other e J.at_ J'.at_ (by rw [J.cls]; intro z; cases z) h
theorem idNe {pins : List (Addr × Obj)} {σ : L2.St} {H : Hp} {s : Shared} {A : Around} {E : Value → Shared → Prop} {a b dx dy : Addr} {fs gs : List (Str × V)} {Q : Option Value → Shared → Prop} (T : PlainEq X.K C) (hu : A.units + 1 < cLine) (I : Inv X pins σ H s) (ha : H a = some (.ins C dx fs)) (hb : H b = some (.ins C dy gs))
    (h : Q (if a = b then some (.bool false) else none) s) : wpAny (model X.prog X.w) A (tryCompare (.ref a) "__ne__" (.ref b)) Q E s := by
  obtain ⟨mA, J, _⟩ := ins_get I.hok ha
  obtain ⟨od, J, _⟩ := J.look
  have sp : PySem.W.Looks (model X.prog X.w) s.heap (specialOf (.ref a) "__ne__") (some (.builtin "object.__ne__")) := J.type.andThen (PySem.W.looks_findIn I.kIn T.ne)
  have iv : PySem.W.Looks (model X.prog X.w) s.heap (isInstance (.ref a) (.type "object")) true := J.type.andThen (PySem.W.looks_mroIn I.kIn T.ob)
  have hu' : A.in1.units < cLine := hu
  unfold tryCompare
  refine wpAny_bind (NtL.csib (E := E) sp (PySem.F.cmp_object.ne.bind _) ?_)
  refine wpAny_call (codeAny_call_builtin PySem.F.cmp_object.ne.plain PySem.F.cmpEntry_ne (PySem.W.check_slot PySem.F.cmpKind_ne PySem.F.cmpSplit_ne iv (PySem.F.cmpArgs_ne _ _) ?_))
  unfold Builtin.«object.__ne__»
  repeat (first
    | with_reducible refine wpAny_cRoomFor hu' ?_
    | (refine wpAny_bind (m := callSpecialIfBound? (.ref a) (Str.ofString "__eq__") [.ref b]) (idEq T I ha hb ?_))
    | wp_step)
  by_cases e : a = b
  · rw [if_pos e] at h ⊢
    show wpAny _ _ (truthy (.bool true) >>= _) _ _ _
    refine wpAny_bind (wpAny_truthy_bool ?_)
    exact wpAny_pure (wpAny_pure h)
  · rw [if_neg e] at h ⊢
    exact wpAny_pure (wpAny_pure h)
theorem op_idNe (T : PlainEq X.K C) (hu : X.A.units + 1 < cLine) : OpR X (compareOp .NotEq) (rIdNe C) := by
  intro pins s σ H x y v u Q I rx ry h
  obtain ⟨a, b, dx, dy, fs, gs, rfl, rfl, ha, hb, q⟩ := h
  cases (show v = Value.ref a from rx)
  cases (show u = Value.ref b from ry)
  obtain ⟨mA, J, _⟩ := ins_get I.hok ha
  obtain ⟨od, J, _⟩ := J.look
  obtain ⟨mB, J', _⟩ := ins_get I.hok hb
  obtain ⟨od', J', _⟩ := J'.look
  show wpAny (model X.prog X.w) X.A (richCompare .NotEq (.ref a) (.ref b)) (EP X pins σ Q) X.xe s
  unfold richCompare
  simp only [oneThing_ref]
  refine wpAny_holding (wpAny_bind (wpAny_cRoomFor (by omega) ?_))
  refine wpAny_bind (J.type.here (wpAny_bind (J'.type.here ?_)))
  simp only [bne_self_eq_false, Bool.false_eq_true, if_false]
  refine wpAny_bind (wpAny_pure ?_)
  simp only [Bool.false_eq_true, if_false]
  refine wpAny_bind (idNe (E := X.xe) T hu I ha hb ?_)
  by_cases e : a = b
  · rw [if_pos e]
    exact wpAny_pure ⟨.bl false, H, I, rfl, by simpa [e] using q⟩
  · rw [if_neg e]
    simp only [Bool.not_false, if_true]
    refine wpAny_bind (idNe (E := X.xe) T hu I hb ha ?_)
    rw [if_neg (fun z => e z.symm)]
    refine wpAny_bind (m := isSame (.ref a) (.ref b)) (wpAny_isSame_ref_other e J.at_ J'.at_ (by rw [J.cls]; intro z; cases z) ?_)
    exact wpAny_pure ⟨.bl true, H, I, rfl, by simpa [e] using q⟩
end
end Fk

set_option maxHeartbeats 4000000
/-! dict(d); a displayed dict of ** alone. -/
namespace Fk
open PySem PySem.Spec PyProof.Rows L2
theorem call_dictC {X : Cx} : CallR X (.type "dict") (fun xs H Q => ∃ a kvs, xs = [.ref a] ∧ Rd H a (.dK kvs) ∧ ∀ p, H p = none → Q (.ref p) (upd H p (.dK kvs))) := by
  intro pins s σ H xs us Q I r h
  obtain ⟨a, kvs, rfl, e, q⟩ := h
  obtain ⟨u, rfl, ru⟩ := vals1 r
  cases (show u = Value.ref a from ru)
  exact d_copyOf I e fun p s' hp I' => ⟨.ref p, _, I', rfl, q p hp⟩
section
variable {prog : Program} {w : World} {K : Type} [DecidableEq K] {knd : KeyKind prog w K} {A : Around} {E : Value → Shared → Prop} {s : Shared}
theorem wpAny_dictPut {d : Addr} {kvs : List (K × Value)} {k : K} {key v : Value} {Q : Unit → Shared → Prop} (hkey : knd.is k key = true) (hm : s.heap.DictOf knd d kvs)
    (hQ : ∀ h', h'.DictOf knd d (stored kvs k v) → Heap.SameBut d s.heap h' → Q () { s with heap := h' }) (hsz : kvs.length ≤ sizeLine) :
    wpAny (model prog w) A (dictPut d (knd.hash k) key v) Q E s := by
  obtain ⟨o, es, ep, ho, hc, hd, hk, hp, hn⟩ := hm
  have hes : es.size ≤ sizeLine := by
    have e1 := hp.length
    have e2 : es.toList.length = es.size := by simp
    omega
  unfold dictPut
  try with_reducible refine wpAny_holding ?_
  refine wpAny_bind (wpAny_dictFind_of hkey ho hd hk ?_)
  have hidx : (es.findIdx? fun e => knd.is k e.key) = kvs.findIdx? fun kv => decide (kv.1 = k) := by
    rw [← hp.findIdx k]; obtain ⟨l⟩ := es; simp
  cases hi : es.findIdx? fun e => knd.is k e.key with
  | some i =>
    refine (wpAny_updateDict ho hd (hQ _ ⟨_, _, ep, Heap.get?_update_self _ ho (Obj.isFreed_of_dict (Obj.data_mapDict hd _)),
      hc.mapDict _, Obj.data_mapDict hd _, hk.modify _ _, ?_, ?_⟩ (Heap.SameBut.update ..)))
    · rw [stored, if_pos (any_of_findIdx_some (hidx ▸ hi))]
      have hl : (es.toList.findIdx? fun e => knd.is k e.key) = some i := by rw [← hi]; obtain ⟨l⟩ := es; simp
      have := hp.modify hn hl v
      obtain ⟨l⟩ := es
      simpa using this
    · rw [stored, if_pos (any_of_findIdx_some (hidx ▸ hi)), keys_map_store]; exact hn
  | none =>
    have hnot : k ∉ kvs.map (·.1) := not_mem_of_findIdx_none (hidx ▸ hi)
    have hany : ¬ (kvs.any fun kv => decide (kv.1 = k)) = true := by
      rw [List.any_eq_true]; rintro ⟨kv, hkv, he⟩
      exact hnot (List.mem_map.mpr ⟨kv, hkv, of_decide_eq_true he⟩)
    refine (wpAny_updateDictKeys (hz := hes) ho hd (hQ _ ⟨_, _, ep + 1, Heap.get?_update_self _ ho (Obj.isFreed_of_dict (Obj.data_mapDictKeys hd _)),
      hc.mapDictKeys _, Obj.data_mapDictKeys hd _, hk.push hkey _, ?_, ?_⟩ (Heap.SameBut.update ..)))
    · rw [stored, if_neg hany]
      have := hp.append hkey (knd.hash k) v
      obtain ⟨l⟩ := es
      simpa using this
    · rw [stored, if_neg hany, List.map_append, List.nodup_append]
      refine ⟨hn, by simp, ?_⟩
      intro a ha b hb
      simp only [List.map_cons, List.map_nil, List.mem_singleton] at hb
      subst hb
      exact fun e => hnot (e ▸ ha)
theorem dict_iter : typeLookup (.type "dict") "__iter__" = pure (some (.builtin "dict.__iter__")) := by rw [typeLookup_type, builtinLookup_eq_fast]; kernel_rfl
theorem wpAny_mergeMapping {d o : Addr} {kvs more : List (K × Value)} {Q : Unit → Shared → Prop} (hkr : ∀ (k : K) (a : Addr), knd.is k (.ref a) = false) (hdo : d ≠ o) (hoS : (o == sysModules) = false)
    (hd : s.heap.DictOf knd d kvs) (ho : s.heap.DictOf knd o more)
    (hQ : ∀ h', h'.DictOf knd d (merged kvs more) → h'.DictOf knd o more → Heap.SameBut d s.heap h' → Q () { s with heap := h' })
    (hsz : kvs.length + more.length ≤ sizeLine) :
    wpAny (model prog w) A (mergeMapping d (.ref o) false) Q E s := by
  obtain ⟨od, esd, epd, hod, hcd, hdd, hkd, hpd, hnd⟩ := id hd
  obtain ⟨oo, eso, epo, hoo, hco, hdo', hko, hpo, hno⟩ := id ho
  have hlen : more.length = eso.size := by rw [← hpo.length]; simp
  have loop : wpAny (model prog w) A (do
      let epoch ← dictEpoch o
      forIn (List.range eso.size) PUnit.unit fun i (_ : PUnit) => (do
          let l' ← dictEntries o
          match l'[i]? with
            | some e => do
              holding [e.key, e.val] (dictPut d e.hash e.key e.val)
              let ep' ← dictEpoch o
              if (ep' != epoch) = true then do
                  (unsupported "dict.changed-during-merge" : Sem PUnit)
                  pure (ForInStep.yield PUnit.unit)
                else pure (ForInStep.yield PUnit.unit)
            | _ => do
              (unsupported "dict.changed-during-merge" : Sem PUnit)
              pure (ForInStep.yield PUnit.unit) : Sem (ForInStep PUnit))
      pure ()) Q E s := by
    refine wpAny_bind (wpAny_dictEpoch hoo hdo' ?_)
    refine wpAny_bind ?_
    refine wpAny_forIn_list _
      (fun rest _ s' => ∃ h' i, s' = { s with heap := h' } ∧ rest = (List.range eso.size).drop i ∧ i ≤ eso.size ∧ h'.DictOf knd d (merged kvs (more.take i)) ∧ h'.get? o = some oo ∧ Heap.SameBut d s.heap h')
      _ ?_ ?_ _ _ ⟨s.heap, 0, rfl, rfl, Nat.zero_le _, by simpa [merged] using hd, hoo, Heap.SameBut.refl _ _⟩
    · rintro x rest b s' ⟨h', i, rfl, hr, hi, hd', hoo', hs'⟩
      have hlt : i < eso.size := by
        rcases Nat.lt_or_ge i eso.size with h | h
        · exact h
        · rw [List.drop_of_length_le (by rw [List.length_range]; exact h)] at hr; cases hr
      have hlt' : i < (List.range eso.size).length := by rw [List.length_range]; exact hlt
      rw [List.drop_eq_getElem_cons hlt', List.getElem_range] at hr
      injection hr with h1 hrest
      subst h1
      refine wpAny_bind (wpAny_dictEntries hoo' hdo' ?_)
      rw [Array.getElem?_eq_getElem hlt]
      obtain ⟨kv, hkv⟩ : ∃ kv, more[x]? = some kv := ⟨more[x]'(by rw [hlen]; exact hlt), List.getElem?_eq_getElem _⟩
      obtain ⟨k, v⟩ := kv
      obtain ⟨hkey, hval⟩ := hpo.get? (e := eso[x]) (by simp [hlt]) hkv
      obtain ⟨k', hkey', hhash⟩ := hko eso[x] (Array.getElem_mem hlt)
      obtain rfl : k' = k := knd.inj _ _ _ hkey' hkey
      show wpAny _ _ (holding [eso[x].key, eso[x].val] (dictPut d eso[x].hash eso[x].key eso[x].val) >>= _) _ _ _
      rw [hhash, hval]
      have hmx : (merged kvs (more.take x)).length ≤ sizeLine := by
        have e1 := merged_length_le kvs (more.take x)
        have e2 : (more.take x).length ≤ more.length := by rw [List.length_take]; omega
        omega
      refine wpAny_bind (wpAny_holding (wpAny_dictPut (hsz := hmx) hkey hd' fun h'' hd'' hs'' => ?_))
      have hoo'' : h''.get? o = some oo := (hs''.2 o (Ne.symm hdo)).trans hoo'
      refine wpAny_bind (wpAny_dictEpoch hoo'' hdo' ?_)
      rw [if_neg (by simp)]
      exact wpAny_pure ⟨h'', x + 1, rfl, hrest, hlt, by rw [merged_take_succ kvs more x (k', v) hkv]; exact hd'', hoo'', hs'.trans hs''⟩
    · rintro b s' ⟨h', i, rfl, hr, hi, hd', hoo', hs'⟩
      have hin : i = eso.size := by
        rcases Nat.lt_or_ge i eso.size with h | h
        · have hlt' : i < (List.range eso.size).length := by rw [List.length_range]; exact h
          rw [List.drop_eq_getElem_cons hlt'] at hr; exact nomatch hr
        · exact Nat.le_antisymm hi h
      refine wpAny_pure (hQ h' ?_ ⟨oo, eso, epo, hoo', hco, hdo', hko, hpo, hno⟩ hs')
      rw [hin, ← hlen, List.take_length] at hd'; exact hd'
  have loop2 : wpAny (model prog w) A (dictEntries o >>= fun l => (do
      let epoch ← dictEpoch o
      forIn (List.range l.size) PUnit.unit fun i (_ : PUnit) => (do
          let l' ← dictEntries o
          match l'[i]? with
            | some e => do
              holding [e.key, e.val] (dictPut d e.hash e.key e.val)
              let ep' ← dictEpoch o
              if (ep' != epoch) = true then do
                  (unsupported "dict.changed-during-merge" : Sem PUnit)
                  pure (ForInStep.yield PUnit.unit)
                else pure (ForInStep.yield PUnit.unit)
            | _ => do
              (unsupported "dict.changed-during-merge" : Sem PUnit)
              pure (ForInStep.yield PUnit.unit) : Sem (ForInStep PUnit))
      pure ())) Q E s := wpAny_bind (wpAny_dictEntries hoo hdo' loop)
  unfold mergeMapping
  refine wpAny_bind (m := isInstance (.ref o) (.type "dict")) (wpAny_isInstance ho.typeIs isSubtype_dict_dict ?_)
  simp only [if_true]
  refine wpAny_bind (m := specialOf (.ref o) "__iter__") (wpAny_specialOf ho.typeIs dict_iter ?_)
  rw [show ((some (Value.builtin "dict.__iter__") == some (Value.builtin "dict.__iter__")) = true) from beq_self_eq_true _]
  first | rw [if_neg (by rw [hoS]; exact Bool.false_ne_true)] | (refine wpAny_ite ?_; rw [if_neg (by rw [hoS]; exact Bool.false_ne_true)]) | (refine wpAny_pure ?_; rw [if_neg (by rw [hoS]; exact Bool.false_ne_true)])
  refine wpAny_bind (wpAny_dictEntries hod hdd ?_)
  split
  · refine wpAny_bind (wpAny_dictEntries hoo hdo' ?_)
    refine wpAny_bind ?_
    rw [← Array.forIn_toList]
    refine wpAny_forIn_list _ (fun rest _ s' => s' = s ∧ ∀ e ∈ rest, e ∈ eso.toList) _ ?_ ?_ _ _ ⟨rfl, fun e he => he⟩
    · rintro e rest b s' ⟨rfl, hr⟩
      obtain ⟨k, hk, _⟩ := hko e (Array.mem_toList_iff.mp (hr e List.mem_cons_self))
      have hrest : ∀ e' ∈ rest, e' ∈ eso.toList := fun e' he' => hr e' (List.mem_cons_of_mem _ he')
      cases hkey : e.key with
      | ref a =>
        rw [hkey, hkr] at hk
        cases hk
      | _ => exact wpAny_pure ⟨rfl, hrest⟩
    · rintro b s' ⟨rfl, _⟩
      exact loop2
  · exact loop2
end
end Fk

set_option maxHeartbeats 4000000
namespace Fk
open PySem PySem.Spec PyProof.Rows L2
section
variable {prog : Program} {w : World} {K : Type} [DecidableEq K] {knd : KeyKind prog w K} {A : Around} {E : Value → Shared → Prop} {s : Shared} {Q : Value → Shared → Prop}
theorem wp_stars {items : List (Option (Sem Value) × Sem Value)} (hkr : ∀ (k : K) (a : Addr), knd.is k (.ref a) = false) (hn : ∀ x ∈ items, x.1 = none) (hne : items ≠ []) (R : List (Option (Sem Value) × Sem Value) → Addr → Shared → Prop)
    (h0 : R items s.heap.objs.size { s with heap := s.heap.push { cls := .type "dict", data := .dict #[] } })
    (hs : ∀ x rest p s1, R (x :: rest) p s1 → wpAny (model prog w) A x.2 (fun m s2 => ∃ (a : Addr) (kvs more : List (K × Value)), m = .ref a ∧ p ≠ a ∧ (a == sysModules) = false ∧ s2.heap.DictOf knd p kvs ∧ s2.heap.DictOf knd a more ∧ kvs.length + more.length ≤ sizeLine ∧
      ∀ h', h'.DictOf knd p (merged kvs more) → h'.DictOf knd a more → Heap.SameBut p s2.heap h' → R rest p { s2 with heap := h' }) E s1)
    (hd : ∀ p s1, R [] p s1 → Q (.ref p) s1) : wpAny (model prog w) A (dictDisplay items) Q E s := by
  unfold dictDisplay
  dsimp only
  have turn : ∀ (x : Option (Sem Value) × Sem Value) (rest : List (Option (Sem Value) × Sem Value)) (p : Addr) (s1 : Shared) {Q' : ForInStep (Option Addr × List (Sem Value × Sem Value)) → Shared → Prop}, R (x :: rest) p s1 → (∀ s2, R rest p s2 → Q' (.yield (some p, [])) s2) →
      wpAny (model prog w) A (do
        let m ← holding [Value.ref p] x.2
        (((holding [Value.ref p, m] (mergeMapping p m false)).onRaise fun y => do
                    let _ ← holding [Value.ref p, m, y] (runValue (Code.builtin "proto.let_go" { }))
                    pure ()).tryCatch
                fun e => do
                let b ← isInstance e (Value.type "AttributeError")
                if b = true then do
                    rule "dict.display.not-a-mapping"
                    let n ← typeNameOf m
                    raiseErrorMade "TypeError"
                        (toString "'" ++ toString n ++ toString "' object is not a mapping")
                    throw e
                  else throw e).onRaise
            fun y => do
            let _ ← holding [Value.ref p, y] (runValue (Code.builtin "proto.let_go" { }))
            pure ()
        pure (ForInStep.yield (some p, ([] : List (Sem Value × Sem Value))))) Q' E s1 := by
    intro x rest p s1 Q' hr hq
    refine wpAny_bind (wpAny_holding (wpAny_mono (hs x rest p s1 hr) (fun m s2 q => ?_) fun _ _ e => e))
    obtain ⟨a, kvs, more, rfl, hpa, hoS, dp, da, hz, k⟩ := q
    refine wpAny_bind (wpAny_onRaise (wpAny_tryCatch (wpAny_onRaise (wpAny_holding (wpAny_mergeMapping hkr hpa hoS dp da (fun h' d1 d2 sb => ?_) hz)))))
    exact wpAny_pure (hq _ (k h' d1 d2 sb))
  refine wpAny_bind ?_
  refine wpAny_forIn_list _ (fun rest b s' => b.2 = [] ∧ (∀ x ∈ rest, x.1 = none) ∧ ((b.1 = none ∧ s' = s ∧ rest = items) ∨ ∃ p, b.1 = some p ∧ R rest p s')) _ ?_ ?_ _ _ ⟨rfl, hn, .inl ⟨rfl, rfl, rfl⟩⟩
  · rintro ⟨k, v⟩ rest ⟨main, run⟩ s' ⟨hb, hk, h⟩
    have hk0 : k = none := hk (k, v) List.mem_cons_self
    have hkr' : ∀ x ∈ rest, x.1 = none := fun x hx => hk x (List.mem_cons_of_mem _ hx)
    subst hk0
    dsimp only at hb h
    subst hb
    rcases h with ⟨rfl, rfl, rfl⟩ | ⟨p, rfl, hr⟩
    · refine wpAny_bind (wpAny_pure ?_)
      dsimp only
      refine wpAny_bind (wpAny_alloc ?_)
      exact turn (none, v) rest _ _ h0 fun s2 q => ⟨rfl, hkr', .inr ⟨_, rfl, q⟩⟩
    · refine wpAny_bind (wpAny_pure ?_)
      dsimp only
      refine wpAny_bind (wpAny_pure ?_)
      exact turn (none, v) rest p s' hr fun s2 q => ⟨rfl, hkr', .inr ⟨_, rfl, q⟩⟩
  · rintro ⟨main, run⟩ s' ⟨hb, _, h⟩
    dsimp only at hb h
    subst hb
    rcases h with ⟨_, _, e⟩ | ⟨p, rfl, hr⟩
    · exact (hne e.symm).elim
    · refine wpAny_bind (wpAny_pure ?_)
      exact wpAny_pure (hd p s' hr)
end
/-- the dict at p takes the dicts in turn -/
def goStars : List TE → Addr → TE
  | [], p => fun _ H Q => Q (.ref p) H
  | t :: ts, p => fun σ H Q => t σ H fun x H1 => ∃ (a : Addr) (kvs more : List (Key × V)), x = .ref a ∧ p ≠ a ∧ H1 p = some (.dK kvs) ∧ H1 a = some (.dK more) ∧ kvs.length + more.length ≤ sizeLine ∧ goStars ts p σ (upd H1 p (.dK (mergeK kvs more))) Q
def tStars (ts : List TE) : TE := fun σ H Q => ∀ p, H p = none → goStars ts p σ (upd H p (.dK [])) Q
theorem mix_noref {P : Program} {w : World} (k : Key) (a : Addr) : (mixKind P w).is k (.ref a) = false := by
  cases k <;> rfl
/-- {**e1, **e2, ..} -/
inductive StE (X : Cx) : List Expr → List TE → Prop where
  | nil : StE X [] []
  | cons {e : Expr} {es : List Expr} {t : TE} {ts : List TE} (h : PE X e t) (hs : StE X es ts) : StE X (e :: es) (t :: ts)
theorem pe_stars {X : Cx} {keys : List (Option Expr)} {values : List Expr} {pos : Pos} {ts : List TE} (h : StE X values ts) (hv : values ≠ []) (hk : keys = values.map fun _ => none) : PE X (.Dict keys values pos) (tStars ts) := by
  refine ⟨fun pins s σ H Q I q => ?_⟩
  have hn := I.hok.fresh (Nat.le_refl s.heap.objs.size)
  have I1 := I.laid (a := s.heap.objs.size) (o := .dK []) (h' := s.heap.push { cls := .type "dict", data := .dict #[] }) (t' := s.toks) (fun _ _ q => Heap.get?_push_of_some _ q) (Nat.le_refl _) (dk_empty s.heap I.big)
  rw [arm_eval_Dict]
  subst hk
  refine wpAny_bind (wpAny_standAt ?_)
  have hz : ∀ vs : List Expr, (evalEachOpt (vs.map fun _ => (none : Option Expr)) X.env).zip ((evalEach vs X.env).map fun v => do let x ← v; standAt pos; pure x) = vs.map fun e => ((none : Option (Sem Value)), (do let x ← eval e X.env; standAt pos; pure x : Sem Value)) := by
    intro vs
    induction vs with
    | nil => rfl
    | cons e r ih =>
      show ((none : Option (Sem Value)), (do let x ← eval e X.env; standAt pos; pure x : Sem Value)) :: _ = _
      rw [List.map_cons]
      congr 1
  rw [hz]
  refine wp_stars (knd := mixKind X.prog X.w) mix_noref (fun x hx => ?_) ?_ (fun rest p s' => ∃ es us H', rest = es.map (fun e => ((none : Option (Sem Value)), (do let x ← eval e X.env; standAt pos; pure x : Sem Value))) ∧ StE X es us ∧ Inv X pins σ H' s' ∧ goStars us p σ H' Q) ⟨values, ts, _, rfl, h, I1, q _ hn⟩ ?_ ?_
  · obtain ⟨e, _, rfl⟩ := List.mem_map.mp hx
    rfl
  · intro z
    exact hv (List.map_eq_nil_iff.mp z)
  · rintro x rest p s1 ⟨es, us, H', er, hs, I', g⟩
    cases hs with
    | nil => cases er
    | @cons e es t us he hs =>
      rw [List.map_cons] at er
      injection er with e1 e2
      subst e1
      subst e2
      refine wpAny_bind (wpAny_mono (he.run pins s1 σ H' _ I' g) (fun v s2 z => ?_) fun _ _ x => x)
      obtain ⟨y, H2, I2, ry, a, kvs, more, rfl, hpa, hp, ha, hz2, g2⟩ := z
      cases (show v = Value.ref a from ry)
      refine wpAny_bind (wpAny_standAt (wpAny_pure ?_))
      obtain ⟨z1, hd1, vs1, r1, d1⟩ := dk_of I2.hok hp
      obtain ⟨z2, hd2, vs2, r2, d2⟩ := dk_of I2.hok ha
      refine ⟨a, vs1, vs2, rfl, hpa, hd2, d1, d2, by rw [← r1.length, ← r2.length]; exact hz2, fun h' e1 e2 sb => ⟨es, us, _, rfl, hs, ?_, g2⟩⟩
      have he : ∃ q, h'.get? p = some q := let ⟨q, _, _, hq, _⟩ := e1; ⟨q, hq⟩
      refine d_write I2 (by rw [hp]; exact True.intro) sb he (dk_new ?_ hd1 (r2.merge r1) e1)
      have := length_mergeK more kvs
      omega
  · rintro p s1 ⟨es, us, H', er, hs, I', g⟩
    cases hs with
    | nil => exact ⟨.ref p, H', I', rfl, g⟩
    | cons => cases er
end Fk

set_option maxHeartbeats 4000000
/-! dicts of data: what they hold, == and != of them; repr. -/
namespace Fk
open PySem PySem.Spec PyProof.Rows L2
/-- a dict's entries are these data -/
def DD (K : PySem.W.Frag) (H : Hp) (kvs : List (Key × V)) (ds : List (Key × PyData)) : Prop := Paired (fun p q => p.1 = q.1 ∧ Dp K H p.2 q.2) kvs ds
def DatAt (K : PySem.W.Frag) (H : Hp) (a : Addr) (ds : List (Key × PyData)) : Prop := ∃ kvs, H a = some (.dK kvs) ∧ DD K H kvs ds
def valD (ds : List (Key × PyData)) (k : Key) : Option PyData := (ds.find? fun p => decide (p.1 = k)).map (·.2)
theorem valD_pos {p : Key × PyData} {r : List (Key × PyData)} {k : Key} (e : p.1 = k) : valD (p :: r) k = some p.2 := by simp [valD, List.find?_cons, e]
theorem valD_neg {p : Key × PyData} {r : List (Key × PyData)} {k : Key} (e : ¬ p.1 = k) : valD (p :: r) k = valD r k := by simp [valD, List.find?_cons, e]
def hitD (es : List (Key × PyData)) (p : Key × PyData) : Bool := match valD es p.1 with
  | none => false
  | some e => PyData.eqv p.2 e
def eqvDict (ds es : List (Key × PyData)) : Bool := decide (ds.length = es.length) && ds.all (hitD es)
def shapedAll (ds : List (Key × PyData)) : Prop := ∀ p ∈ ds, SeqAt.shaped p.2 = true
theorem DD.val {K : PySem.W.Frag} {H : Hp} {kvs : List (Key × V)} {ds : List (Key × PyData)} (h : DD K H kvs ds) (k : Key) : (valV kvs k = none ∧ valD ds k = none) ∨ ∃ v d, valV kvs k = some v ∧ valD ds k = some d ∧ Dp K H v d := by
  unfold DD at h
  induction h with
  | nil => exact .inl ⟨rfl, rfl⟩
  | @cons p q ps qs h t ih =>
    obtain ⟨h1, h2⟩ := h
    by_cases e : p.1 = k
    · exact .inr ⟨p.2, q.2, valV_pos e, valD_pos (h1 ▸ e), h2⟩
    · rw [valV_neg e, valD_neg (h1 ▸ e)]
      exact ih
theorem DD.len {K : PySem.W.Frag} {H : Hp} {kvs : List (Key × V)} {ds : List (Key × PyData)} (h : DD K H kvs ds) : kvs.length = ds.length := Paired.length h
mutual
theorem dp_same {K : PySem.W.Frag} {H H' : Hp} (f : Same H H') : ∀ {v : V} {d : PyData}, Dp K H v d → Dp K H' v d
  | _, _, .non => .non
  | _, _, .bl b => .bl b
  | _, _, .int i => .int i
  | _, _, .str x => .str x
  | _, _, .lst hs ha => .lst (by
      rcases hs with (h | ⟨o, h⟩) | h
      · exact .inl (.inl (f _ _ h))
      · exact .inl (.inr ⟨o, f _ _ h⟩)
      · exact .inr h) (dpAll_same f ha)
  | _, _, .tup hs ha => .tup (by
      rcases hs with (h | ⟨o, h⟩) | h
      · exact .inl (.inl (f _ _ h))
      · exact .inl (.inr ⟨o, f _ _ h⟩)
      · exact .inr h) (dpAll_same f ha)
theorem dpAll_same {K : PySem.W.Frag} {H H' : Hp} (f : Same H H') : ∀ {vs : List V} {ds : List PyData}, DpAll K H vs ds → DpAll K H' vs ds
  | _, _, .nil => .nil
  | _, _, .cons h t => .cons (dp_same f h) (dpAll_same f t)
end
theorem DD.same {K : PySem.W.Frag} {H H' : Hp} {kvs : List (Key × V)} {ds : List (Key × PyData)} (h : DD K H kvs ds) (f : Same H H') : DD K H' kvs ds := by
  unfold DD at h ⊢
  induction h with
  | nil => exact .nil
  | cons h t ih => exact .cons ⟨h.1, dp_same f h.2⟩ ih
theorem DatAt.same {K : PySem.W.Frag} {H H' : Hp} {a : Addr} {ds : List (Key × PyData)} (h : DatAt K H a ds) (f : Same H H') : DatAt K H' a ds := by
  obtain ⟨kvs, e, d⟩ := h
  exact ⟨kvs, f _ _ e, d.same f⟩
theorem room66 {k : Nat} {A : Around} (r : Room k A) : A.units + 66 < cLine := by
  have := r.un
  omega
section
variable {X : Cx}
theorem hits_data {pins : List (Addr × Obj)} {σ : L2.St} {H : Hp} {s : Shared} {A : Around} (I : Inv X pins σ H s) (hu : A.units + 64 < cLine) {ls : List (Key × V)} {es : List (Key × PyData)} {vb : List (Key × Value)} (rb : KV ls vb) (hb : DD X.K H ls es) (se : shapedAll es) {ks : List (Key × V)} {ds : List (Key × PyData)} {va : List (Key × Value)}
    (ra : KV ks va) (hd : DD X.K H ks ds) (sd : shapedAll ds) : PySem.W.KeqHits A s vb va (ds.all (hitD es)) := by
  unfold KV at ra
  unfold DD at hd
  induction ra generalizing ds with
  | nil =>
    cases hd
    exact .nil
  | @cons p q ps qs h t ih =>
    cases hd with
    | @cons _ d _ ds hd1 hds =>
      obtain ⟨h1, h2⟩ := h
      obtain ⟨e1, e2⟩ := hd1
      obtain ⟨key, v⟩ := q
      have h1' : p.1 = key := h1
      have tl := ih hds (fun x hx => sd x (List.mem_cons_of_mem _ hx))
      rw [List.all_cons]
      rcases hb.val key with ⟨n1, n2⟩ | ⟨y, e, v1, v2, dy⟩
      · have : hitD es d = false := by
          unfold hitD
          rw [← e1, h1', n2]
        rw [this, Bool.false_and]
        refine .miss ?_
        have rr : RelO none (valueAt vb key) := by rw [← n1]; exact rb.val key
        cases z : valueAt vb key with
        | none => rfl
        | some u =>
          rw [z] at rr
          cases rr
      · have : hitD es d = PyData.eqv d.2 e := by
          unfold hitD
          rw [← e1, h1', v2]
        rw [this]
        have rr : RelO (some y) (valueAt vb key) := by rw [← v1]; exact rb.val key
        obtain ⟨u, hy, ry⟩ := rr.some_of
        obtain ⟨as, r1⟩ := Dp.reads I d.2 p.2 v e2 h2
        obtain ⟨bs, r2⟩ := Dp.reads I e y u dy ry
        have s1 := sd d List.mem_cons_self
        have s2 : SeqAt.shaped e = true := by
          unfold valD at v2
          cases z : es.find? (fun p => decide (p.1 = key)) with
          | none => rw [z] at v2; cases v2
          | some w =>
            rw [z] at v2
            cases v2
            exact se _ (List.mem_of_find?_eq_some z)
        exact .hit hy (SeqAt.eqAt_reads d.2 e A s v u as bs r1 r2 (SeqAt.canLay_of_shaped s1) (SeqAt.canLay_of_shaped s2) (SeqAt.room_of_shaped s1 hu)) tl
/-- d == e of dicts of data -/
def rEqDD (K : PySem.W.Frag) : R2 := fun x y H Q => ∃ a b ds es, x = .ref a ∧ y = .ref b ∧ DatAt K H a ds ∧ DatAt K H b es ∧ shapedAll ds ∧ shapedAll es ∧ Q (.bl (eqvDict ds es)) H
def rNeDD (K : PySem.W.Frag) : R2 := fun x y H Q => ∃ a b ds es, x = .ref a ∧ y = .ref b ∧ DatAt K H a ds ∧ DatAt K H b es ∧ shapedAll ds ∧ shapedAll es ∧ Q (.bl (!eqvDict ds es)) H
theorem op_eqDD (hu : X.A.units + 66 < cLine) : OpR X (compareOp .Eq) (rEqDD X.K) := by
  intro pins s σ H x y v u Q I rx ry h
  obtain ⟨a, b, ds, es, rfl, rfl, ⟨ks, ea, da⟩, ⟨ls, eb, db⟩, sd, se, q⟩ := h
  obtain rfl : v = Value.ref a := rx
  obtain rfl : u = Value.ref b := ry
  obtain ⟨_, ya, va, ra, dda⟩ := (show ObjOk X.prog X.w H s.heap a (.dK ks) from I.hok a _ ea)
  obtain ⟨_, yb, vb, rb, ddb⟩ := (show ObjOk X.prog X.w H s.heap b (.dK ls) from I.hok b _ eb)
  have e : (va.length == vb.length && ds.all (hitD es)) = eqvDict ds es := by
    unfold eqvDict
    rw [← ra.length, ← rb.length, da.len, db.len]
    rfl
  refine PySem.W.keq_eq (knd := mixKind X.prog X.w) (r := ds.all (hitD es)) ya yb dda ddb (by omega) (fun _ => hits_data I ?_ rb db se ra da sd) ?_
  · show X.A.units + 1 + 64 < cLine
    omega
  · rw [e]
    exact ⟨.bl _, H, I, rfl, q⟩
theorem op_neDD (hu : X.A.units + 66 < cLine) : OpR X (compareOp .NotEq) (rNeDD X.K) := by
  intro pins s σ H x y v u Q I rx ry h
  obtain ⟨a, b, ds, es, rfl, rfl, ⟨ks, ea, da⟩, ⟨ls, eb, db⟩, sd, se, q⟩ := h
  obtain rfl : v = Value.ref a := rx
  obtain rfl : u = Value.ref b := ry
  obtain ⟨_, ya, va, ra, dda⟩ := (show ObjOk X.prog X.w H s.heap a (.dK ks) from I.hok a _ ea)
  obtain ⟨_, yb, vb, rb, ddb⟩ := (show ObjOk X.prog X.w H s.heap b (.dK ls) from I.hok b _ eb)
  have e : (va.length == vb.length && ds.all (hitD es)) = eqvDict ds es := by
    unfold eqvDict
    rw [← ra.length, ← rb.length, da.len, db.len]
    rfl
  refine PySem.W.keq_ne (knd := mixKind X.prog X.w) (r := ds.all (hitD es)) ya yb dda ddb (by omega) (fun _ => hits_data I ?_ rb db se ra da sd) ?_
  · show X.A.units + 1 + 64 < cLine
    omega
  · rw [e]
    exact ⟨.bl _, H, I, rfl, q⟩
end
end Fk

set_option maxHeartbeats 4000000
/-! Walks and comprehensions by an invariant, over lists, tuples, dicts; a raise within a locked walk; frames. -/
namespace Fk
open PySem PySem.Spec PyProof.Rows L2
/-! ### frames -/
/-- all that was tracked is as it was, but what stands at L -/
def FrL (L : List Addr) (H H' : Hp) : Prop := ∀ b o, b ∉ L → H b = some o → H' b = some o
theorem FrL.refl (L : List Addr) (H : Hp) : FrL L H H := fun _ _ _ h => h
theorem FrL.trans {L : List Addr} {H H1 H2 : Hp} (x : FrL L H H1) (y : FrL L H1 H2) : FrL L H H2 := fun b o n h => y b o n (x b o n h)
theorem FrL.mono {L M : List Addr} {H H' : Hp} (x : FrL L H H') (h : ∀ a ∈ L, a ∈ M) : FrL M H H' := fun b o n e => x b o (fun z => n (h b z)) e
theorem FrL.at {L : List Addr} {a : Addr} {H : Hp} {o : HO} (h : a ∈ L) : FrL L H (upd H a o) := fun b u n e => by
  have z : b ≠ a := fun z => n (by rw [z]; exact h)
  rw [upd_ne z]
  exact e
theorem FrL.same {L : List Addr} {H H' : Hp} (h : Same H H') : FrL L H H' := fun b o _ e => h b o e
theorem FrL.to {H H' : Hp} (h : FrL [] H H') : Same H H' := fun b o e => h b o (fun z => nomatch z) e
theorem FrL.of {a : Addr} {H H' : Hp} (h : Fr a H H') : FrL [a] H H' := fun b o n e => h b o (fun z => n (z ▸ List.mem_singleton_self a)) e
theorem FrL.new {L : List Addr} {p : Addr} {H : Hp} {o : HO} (h : H p = none) : FrL L H (upd H p o) := FrL.same (same_new h)
/-! ### what is yielded -/
theorem yields_keys {d : Addr} {o : Obj} {kvs : List (Key × V)} : Yields (Itk d o kvs) (kvs.map fun p => kV p.1) (fun H => H d = some (.frz o (.dK kvs))) where
  go := fun k H g h => ⟨g, by rw [List.length_map] at h; exact h⟩
  stop := fun H g => ⟨g, by rw [List.length_map]; exact Nat.le_refl _⟩
  yld := fun k H x H' _ g h => by
    obtain ⟨e, key, v, hk, hx⟩ := h
    refine ⟨e, ?_⟩
    rw [List.getElem?_map, hk, hx]
    rfl
theorem yields_tup {K : PySem.W.Frag} {a : Addr} {xs : List V} : Yields (Itt K a) xs (fun H => SqT K H a xs) where
  go := fun k H g h => ⟨xs, xs[k], g, List.getElem?_eq_getElem h⟩
  stop := fun H g => ⟨xs, g, Nat.le_refl _⟩
  yld := fun k H x H' _ g h => ⟨h.1, h.2 xs g⟩
/-! ### comprehensions -/
theorem lcG {J : It} {items : List V} {G : Hp → Prop} {H1 : Hp} {D : Addr} {σ : L2.St} {vs : List Nat} {g : TG} {tt : TT} {te : TE} {Q : Hp → Prop} (Y : Yields J items G) (I : Nat → List V → Hp → Prop)
    (hG : ∀ k acc H, I k acc H → H D = some (.lst acc) → G H) (h0 : I 0 [] (upd H1 D (.lst [])))
    (hs : ∀ k acc H x, I k acc H → H D = some (.lst acc) → items[k]? = some x → acc.length ≤ k → k < 1000000 → g x (wipe σ vs) H fun σ2 H2 => wipe σ2 vs = wipe σ vs ∧ tt σ2 H2 fun b H3 =>
      if b = true then te σ2 H3 fun y H4 => ∃ acc, H4 D = some (.lst acc) ∧ acc.length < sizeLine ∧ LcN I D (k + 1) (upd H4 D (.lst (acc ++ [y]))) else LcN I D (k + 1) H3)
    (hl : items.length ≤ 1000000) (hd : ∀ acc H, I items.length acc H → H D = some (.lst acc) → acc.length ≤ items.length → Q H) :
    ∃ W : Nat → Nat → Hp → Prop, (∃ m, W 0 m (upd H1 D (.lst []))) ∧ ∀ k m H, W k m H →
      (J.stop k H ∧ Q H) ∨ (J.go k H ∧ ∃ Nx : Hp → Prop, (∀ H', Nx H' → ∃ m', m' < m ∧ W (k + 1) m' H') ∧ ∀ x H', J.yld k H x H' → g x (wipe σ vs) H' fun σ2 H2 => wipe σ2 vs = wipe σ vs ∧ tt σ2 H2 fun b H3 =>
        if b = true then te σ2 H3 fun y H4 => ∃ acc, H4 D = some (.lst acc) ∧ acc.length < sizeLine ∧ Nx (upd H4 D (.lst (acc ++ [y]))) else Nx H3) := by
  refine ⟨fun k m H => m = items.length - k ∧ k ≤ items.length ∧ LcN I D k H, ⟨items.length, by omega, Nat.zero_le _, [], upd_same, Nat.zero_le _, h0⟩, ?_⟩
  rintro k m H ⟨rfl, hk, acc, hD, hacc, hI⟩
  by_cases hlt : k < items.length
  · refine .inr ⟨Y.go k H (hG _ _ _ hI hD) hlt, LcN I D (k + 1), fun H' q => ⟨items.length - (k + 1), by omega, rfl, hlt, q⟩, fun x H' y => ?_⟩
    obtain ⟨rfl, hx⟩ := Y.yld k H x H' hlt (hG _ _ _ hI hD) y
    exact hs k acc _ x hI hD hx hacc (by omega)
  · have e : k = items.length := by omega
    subst e
    exact .inl ⟨Y.stop H (hG _ _ _ hI hD), hd acc H hI hD hacc⟩
/-- behind k turns of a dict's comprehension -/
def DcN (I : Nat → List (Key × V) → Hp → Prop) (D : Addr) (k : Nat) (H : Hp) : Prop := ∃ kvs, H D = some (.dK kvs) ∧ kvs.length ≤ k ∧ I k kvs H
theorem dc_take {I : Nat → List (Key × V) → Hp → Prop} {D : Addr} {k : Nat} {H5 : Hp} {key : Key} {z : V} {kvs : List (Key × V)} (h : H5 D = some (.dK kvs)) (l : kvs.length ≤ k) (hk : k < 1000000) (q : I (k + 1) (putK kvs key z) (upd H5 D (.dK (putK kvs key z)))) :
    ∃ kvs k', (kV key) = kV k' ∧ H5 D = some (.dK kvs) ∧ kvs.length < sizeLine ∧ DcN I D (k + 1) (upd H5 D (.dK (putK kvs k' z))) :=
  ⟨kvs, key, rfl, h, small_lt (by omega), _, upd_same, by have := length_putK kvs key z; omega, q⟩
theorem dc_skip {I : Nat → List (Key × V) → Hp → Prop} {D : Addr} {k : Nat} {H5 : Hp} {kvs : List (Key × V)} (h : H5 D = some (.dK kvs)) (l : kvs.length ≤ k) (q : I (k + 1) kvs H5) : DcN I D (k + 1) H5 := ⟨kvs, h, by omega, q⟩
theorem dcG {J : It} {items : List V} {G : Hp → Prop} {H1 : Hp} {D : Addr} {σ : L2.St} {vs : List Nat} {g : TG} {tt : TT} {tk tv : TE} {Q : Hp → Prop} (Y : Yields J items G) (I : Nat → List (Key × V) → Hp → Prop)
    (hG : ∀ k kvs H, I k kvs H → H D = some (.dK kvs) → G H) (h0 : I 0 [] (upd H1 D (.dK [])))
    (hs : ∀ k kvs H x, I k kvs H → H D = some (.dK kvs) → items[k]? = some x → kvs.length ≤ k → k < 1000000 → g x (wipe σ vs) H fun σ2 H2 => wipe σ2 vs = wipe σ vs ∧ tt σ2 H2 fun b H3 =>
      if b = true then tk σ2 H3 fun y H4 => tv σ2 H4 fun z H5 => ∃ kvs key, y = kV key ∧ H5 D = some (.dK kvs) ∧ kvs.length < sizeLine ∧ DcN I D (k + 1) (upd H5 D (.dK (putK kvs key z))) else DcN I D (k + 1) H3)
    (hl : items.length ≤ 1000000) (hd : ∀ kvs H, I items.length kvs H → H D = some (.dK kvs) → kvs.length ≤ items.length → Q H) :
    ∃ W : Nat → Nat → Hp → Prop, (∃ m, W 0 m (upd H1 D (.dK []))) ∧ ∀ k m H, W k m H →
      (J.stop k H ∧ Q H) ∨ (J.go k H ∧ ∃ Nx : Hp → Prop, (∀ H', Nx H' → ∃ m', m' < m ∧ W (k + 1) m' H') ∧ ∀ x H', J.yld k H x H' → g x (wipe σ vs) H' fun σ2 H2 => wipe σ2 vs = wipe σ vs ∧ tt σ2 H2 fun b H3 =>
        if b = true then tk σ2 H3 fun y H4 => tv σ2 H4 fun z H5 => ∃ kvs key, y = kV key ∧ H5 D = some (.dK kvs) ∧ kvs.length < sizeLine ∧ Nx (upd H5 D (.dK (putK kvs key z))) else Nx H3) := by
  refine ⟨fun k m H => m = items.length - k ∧ k ≤ items.length ∧ DcN I D k H, ⟨items.length, by omega, Nat.zero_le _, [], upd_same, Nat.zero_le _, h0⟩, ?_⟩
  rintro k m H ⟨rfl, hk, kvs, hD, hacc, hI⟩
  by_cases hlt : k < items.length
  · refine .inr ⟨Y.go k H (hG _ _ _ hI hD) hlt, DcN I D (k + 1), fun H' q => ⟨items.length - (k + 1), by omega, rfl, hlt, q⟩, fun x H' y => ?_⟩
    obtain ⟨rfl, hx⟩ := Y.yld k H x H' hlt (hG _ _ _ hI hD) y
    exact hs k kvs _ x hI hD hx hacc (by omega)
  · have e : k = items.length := by omega
    subst e
    exact .inl ⟨Y.stop H (hG _ _ _ hI hD), hd kvs H hI hD hacc⟩
/-! ### walks -/
theorem forG {J : It} {items : List V} {G : Hp → Prop} {g : TG} {tb : TS} {D : Ends} {σ : L2.St} {H : Hp} (Y : Yields J items G) (Pv : Nat → L2.St → Hp → Prop) (h0 : Pv 0 σ H) (hG : ∀ i σ H, Pv i σ H → G H)
    (hs : ∀ i x σ H, items[i]? = some x → Pv i σ H → g x σ H fun σ2 H2 => tb { D with nx := Pv (i + 1), ct := Pv (i + 1), bk := D.nx } σ2 H2) (hd : ∀ σ H, Pv items.length σ H → D.nx σ H) :
    ∃ W : Nat → Nat → L2.St → Hp → Prop, (∃ m, W 0 m σ H) ∧ ∀ i m σ H, W i m σ H →
      (J.stop i H ∧ D.nx σ H) ∨ (J.go i H ∧ ∃ N : L2.St → Hp → Prop, (∀ σ' H', N σ' H' → ∃ m', m' < m ∧ W (i + 1) m' σ' H') ∧ ∀ x H', J.yld i H x H' → g x σ H' fun σ2 H2 => tb { D with nx := N, ct := N, bk := D.nx } σ2 H2) := by
  refine ⟨fun i m σ H => m = items.length - i ∧ i ≤ items.length ∧ Pv i σ H, ⟨items.length, by omega, Nat.zero_le _, h0⟩, ?_⟩
  rintro i m σ H ⟨rfl, hi, p⟩
  by_cases hlt : i < items.length
  · refine .inr ⟨Y.go i H (hG _ _ _ p) hlt, Pv (i + 1), fun σ' H' p' => ⟨items.length - (i + 1), by omega, rfl, hlt, p'⟩, fun x H' y => ?_⟩
    obtain ⟨rfl, hx⟩ := Y.yld i H x H' hlt (hG _ _ _ p) y
    exact hs i x σ _ hx p
  · have e : i = items.length := by omega
    subst e
    exact .inl ⟨Y.stop H (hG _ _ _ p), hd σ H p⟩
/-! ### a raise within a locked walk -/
/-- what is let out of a locked walk, told of the heap with the lock off -/
def wLock (X : Cx) (W : WX) : WX := fun cls dd σ H => ∃ (d : Addr) (od : Obj) (u : HO), H d = some (.frz od u) ∧ (∀ o' u', X.H_0 d ≠ some (.frz o' u')) ∧ W cls dd σ (upd H d u)
theorem takes_lock {X : Cx} {W : WX} (tk : Takes X W) : Takes X (wLock X W) := by
  rintro v s' ⟨a, B, sI, pins, σ, H, cls, dd, e, I, nb, up, sky, na, os, ag, d, od, u, hd, hn, w⟩
  refine tk v s' ⟨a, B, sI, pins, σ, upd H d u, cls, dd, e, I.unlock hd hn, nb, up, sky, ?_, os, ag, w⟩
  rw [upd_ne (fun z => by rw [z, hd] at na; cases na)]
  exact na
end Fk

set_option maxHeartbeats 4000000
/-! A dict's comprehension that is given a name; tables with texts as keys; texts in order. -/
namespace Fk
open PySem PySem.Spec PyProof.Rows L2
section
variable {X : Cx}
theorem sw_trueD {kx vx : Expr} {gs : List Comprehension} {scope : Scope} {pos py : Pos} {y : Str} {l : Nat} {env : Env} (hk : env.scope.kind = .function) (hy : env.scope.names.lookup y = some .local) (hl : (py.line == pos.line) = true)
    (ha : (scope.names.any fun (n, k) => n == y && (k == .local || k == .cell)) = false) : swapsWith (.DictComp kx vx gs scope pos) (some (.Name y py)) l env = pure true := by
  have ky : env.kindOf y = some .local := hy
  have hb : env.blockKind = .function := by unfold Env.blockKind; rw [hk]; rfl
  unfold swapsWith
  simp only [hb, ky, ha, Expr.pos, hl]
  rfl
/-- name = {k: v for ..} on one line, the name a local -/
theorem ps_setDc {i : Nat} {y : Str} {py : Pos} {kx vx tg iter : Expr} {ifs : List Expr} {scope : Scope} {own : List (Str × Nat)} {pos spos : Pos} {wi : TI} {g : TG} {tt : TT} {tk tv : TE} (hc : X.calm = true) (hN : X.N.Nodup) (hy : X.N[i]? = some y) (hyl : X.env.scope.names.lookup y = some .local)
    (hsw : swapsWith (.DictComp kx vx [⟨tg, iter, ifs, 0⟩] scope pos) (some (.Name y py)) spos.line X.env = pure true) (hi : PI X tg iter wi) (ok : BlkOk X.N X.env.scope scope own)
    (hg : ∀ (s : Shared) (H : Hp) (C : Addr) (cl : List (Str × Addr)) (fp : List Addr), PG (X.blk s H scope (compEnvC scope cl C X.env) fp) tg g) (ht : ∀ (s : Shared) (H : Hp) (C : Addr) (cl : List (Str × Addr)) (fp : List Addr), PTs (X.blk s H scope (compEnvC scope cl C X.env) fp) ifs tt)
    (hk : ∀ (s : Shared) (H : Hp) (C : Addr) (cl : List (Str × Addr)) (fp : List Addr), PE (X.blk s H scope (compEnvC scope cl C X.env) fp) kx tk)
    (he : ∀ (s : Shared) (H : Hp) (C : Addr) (cl : List (Str × Addr)) (fp : List Addr), PE (X.blk s H scope (compEnvC scope cl C X.env) fp) vx tv) (hs : ∀ x, foldedSetIterable iter X.env x = pure x := by intro _; rfl) :
    PS X (.Assign [.Name y py] (.DictComp kx vx [⟨tg, iter, ifs, 0⟩] scope pos) spos) (tAsg (tDc wi g tt tk tv (own.map (·.2))) (gName i)) := by
  refine ⟨fun pins s σ H D I h => ?_⟩
  rw [exec_Assign_Name_used _ _ _ _ hsw]
  refine wpAny_bind (wpAny_standAt (wpAny_bind ?_))
  show wpAny _ X.A (do let _ ← comprehension (.DictComp kx vx [⟨tg, iter, ifs, 0⟩] scope pos) scope X.env (firstIterPos [⟨tg, iter, ifs, 0⟩] pos) newDict false (eval iter X.env) (some (assign (.Name y py) X.env))) _ _ s
  have h : tDc wi g tt tk tv (own.map (·.2)) σ H (fun x H1 => gName i x σ H1 D.nx) := h
  refine wpAny_bind (thn (dc_core (Qf := fun _ s' => SP X pins D .next s') hc hN I hi ok hg ht hk he hs h fun L C s' m H' I' q hn f => ?_) fun _ s' hq => wpAny_pure (wpAny_pure hq))
  show wpAny _ _ (assign (.Name y py) X.env (.ref L)) _ _ _
  refine wpAny_assign_Name (store_ok2 (v := V.ref L) I' hN hy (.inl hyl) rfl (fun s2 I2 ⟨a, sb, ha⟩ => ?_) (.inr hyl))
  obtain ⟨f0, f1, f2, f3, f4, f5⟩ := f
  have haC : C ≠ a := by
    rcases ha with z | z
    · rw [z]; exact f1
    · exact fun e => f4 y a z e.symm
  refine ⟨m, hn.sameBut sb haC, fun h3 sb3 => ?_⟩
  exact ⟨_, H', I2.turned (t' := s2.toks) (fun b o hb e => (sb3.2 b hb).trans e) f0 f1 f3 f4 f5, q⟩
end
/-! ### tables with texts as keys -/
abbrev Tab := List (Str × V)
def kT (t : Tab) : List (Key × V) := t.map fun p => (.inr p.1, p.2)
theorem valV_kT (t : Tab) (x : Str) : valV (kT t) (.inr x) = valV t x := by
  induction t with
  | nil => rfl
  | cons p r ih =>
    show valV ((.inr p.1, p.2) :: kT r) (.inr x) = _
    by_cases h : p.1 = x
    · rw [valV_pos (show (Sum.inr p.1 : Key) = .inr x by rw [h]), valV_pos h]
    · rw [valV_neg (fun e => h (Sum.inr.inj e)), valV_neg h, ih]
theorem any_kT (t : Tab) (x : Str) : ((kT t).any fun kv => decide (kv.1 = .inr x)) = t.any fun kv => decide (kv.1 = x) := by
  rw [valV_any, valV_any, valV_kT]
theorem putK_kT (t : Tab) (x : Str) (v : V) : putK (kT t) (.inr x) v = kT (putK t x v) := by
  unfold putK
  rw [any_kT]
  split
  · unfold kT
    rw [List.map_map, List.map_map]
    refine List.map_congr_left fun p _ => ?_
    show (if (Sum.inr p.1 : Key) = .inr x then _ else _) = _
    by_cases h : p.1 = x
    · rw [if_pos (by rw [h])]
      show _ = ((Sum.inr (if p.1 = x then (p.1, v) else p).1, (if p.1 = x then (p.1, v) else p).2) : Key × V)
      rw [if_pos h]
    · rw [if_neg (fun e => h (Sum.inr.inj e))]
      show _ = ((Sum.inr (if p.1 = x then (p.1, v) else p).1, (if p.1 = x then (p.1, v) else p).2) : Key × V)
      rw [if_neg h]
  · unfold kT
    rw [List.map_append]
    rfl
theorem dropK_kT (t : Tab) (x : Str) : dropK (kT t) (.inr x) = kT (dropK t x) := by
  unfold dropK kT
  rw [List.filter_map]
  congr 1
  refine List.filter_congr fun p _ => ?_
  show decide ((Sum.inr p.1 : Key) ≠ .inr x) = decide (p.1 ≠ x)
  exact decide_eq_decide.mpr ⟨fun n e => n (by rw [e]), fun n e => n (Sum.inr.inj e)⟩
theorem keys_kT (t : Tab) : (kT t).map (·.1) = (t.map (·.1)).map Sum.inr := by
  unfold kT
  rw [List.map_map, List.map_map]
  rfl
theorem kV_kT (t : Tab) : ((kT t).map fun p => kV p.1) = (t.map (·.1)).map V.str := by
  unfold kT
  rw [List.map_map, List.map_map]
  rfl
theorem len_kT (t : Tab) : (kT t).length = t.length := List.length_map ..
/-- what a[x] is -/
theorem dget_kT {H : Hp} {a : Addr} {t : Tab} (h : Rd H a (.dK (kT t))) (x : Str) : DGet H a (.str x) (valV t x) := .inl ⟨kT t, .inr x, h, rfl, (valV_kT t x).symm⟩
theorem valV_drop {κ : Type} [DecidableEq κ] (t : List (κ × V)) (x y : κ) : valV (dropK t x) y = if y = x then none else valV t y := by
  induction t with
  | nil => split <;> rfl
  | cons p r ih =>
    by_cases h : p.1 = x
    · rw [dropK_pos h, ih]
      by_cases e : y = x
      · rw [if_pos e, if_pos e]
      · rw [if_neg e, if_neg e, valV_neg (fun z => e (by rw [← z, h]))]
    · rw [dropK_neg h]
      by_cases e : p.1 = y
      · rw [valV_pos e, valV_pos e, if_neg (fun z => h (by rw [e, z]))]
      · rw [valV_neg e, valV_neg e, ih]
/-- no key twice -/
def Nd (t : Tab) : Prop := (t.map (·.1)).Nodup
theorem nd_put {t : Tab} (h : Nd t) (x : Str) (v : V) : Nd (putK t x v) := by
  cases e : valV t x with
  | none => exact nd_putK v h e
  | some u =>
    unfold Nd putK
    rw [if_pos (by rw [valV_any, e]; rfl), List.map_map]
    have : ((fun p : Str × V => p.1) ∘ fun kv : Str × V => if kv.1 = x then (kv.1, v) else kv) = fun p => p.1 := by
      funext p
      show (if p.1 = x then (p.1, v) else p).1 = p.1
      split <;> rfl
    rw [this]
    exact h
theorem nd_drop {t : Tab} (h : Nd t) (x : Str) : Nd (dropK t x) := nd_dropK h
theorem mem_val {t : Tab} {x : Str} : x ∈ t.map (·.1) ↔ (valV t x).isSome = true := by
  rw [← valV_any, List.any_eq_true]
  constructor
  · intro m
    obtain ⟨p, hp, e⟩ := List.mem_map.mp m
    exact ⟨p, hp, decide_eq_true e⟩
  · rintro ⟨p, hp, e⟩
    exact List.mem_map.mpr ⟨p, hp, of_decide_eq_true e⟩
/-- tables with the same keys -/
theorem keys_perm {t u : Tab} (ht : Nd t) (hu : Nd u) (h : ∀ x, (valV t x).isSome = (valV u x).isSome) : (t.map (·.1)).Perm (u.map (·.1)) :=
  (List.perm_ext_iff_of_nodup ht hu).mpr fun x => by rw [mem_val, mem_val, h]
/-! ### texts in order -/
def leS (a b : Str) : Prop := ¬ b.cps.toList < a.cps.toList
theorem leS_trans {a b c : Str} (h : leS a b) (k : leS b c) : leS a c := by
  unfold leS at *
  intro z
  exact h (List.lt_of_le_of_lt (List.not_lt.mp k) z)
theorem str_ext {a b : Str} (h : a.cps.toList = b.cps.toList) : a = b := by
  cases a; cases b
  congr 1
  exact Array.toList_inj.mp h
theorem leS_anti {a b : Str} (h : leS a b) (k : leS b a) : a = b := str_ext (List.le_antisymm (List.not_lt.mp h) (List.not_lt.mp k))
theorem rising_pw : ∀ (l : List Str) (p : Str), risingS p l = true → (p :: l).Pairwise leS
  | [], p, _ => List.pairwise_singleton _ _
  | x :: r, p, h => by
    have h : (!ltCps x.cps.toList p.cps.toList && risingS x r) = true := h
    obtain ⟨h1, h2⟩ := Bool.and_eq_true_iff.mp h
    have ih := rising_pw r x h2
    have px : leS p x := fun z => by
      rw [ltCps_eq, decide_eq_true z] at h1
      exact absurd h1 (by decide)
    refine List.pairwise_cons.mpr ⟨fun y hy => ?_, ih⟩
    rcases List.mem_cons.mp hy with e | hy
    · rw [e]
      exact px
    · exact leS_trans px ((List.pairwise_cons.mp ih).1 y hy)
theorem sorted_pw {l : List Str} (h : sortedS l = true) : l.Pairwise leS := by
  cases l with
  | nil => exact List.Pairwise.nil
  | cons x r => exact rising_pw r x h
theorem pw_uniq : ∀ {l m : List Str}, l.Pairwise leS → m.Pairwise leS → l.Perm m → l = m
  | [], m, _, _, p => (List.nil_perm.mp p).symm ▸ rfl
  | a :: r, [], _, _, p => absurd (List.perm_nil.mp p) (by simp)
  | a :: r, b :: s, h, k, p => by
    obtain ⟨h1, h2⟩ := List.pairwise_cons.mp h
    obtain ⟨k1, k2⟩ := List.pairwise_cons.mp k
    have e : a = b := by
      rcases List.mem_cons.mp (p.mem_iff.mp List.mem_cons_self) with z | z
      · exact z
      · rcases List.mem_cons.mp (p.mem_iff.mpr (List.mem_cons_self (a := b))) with y | y
        · exact y.symm
        · exact leS_anti (h1 b y) (k1 a z)
    subst e
    rw [pw_uniq h2 k2 ((List.perm_cons a).mp p)]
theorem sort_uniq {l m : List Str} (h : sortedS l = true) (k : sortedS m = true) (p : l.Perm m) : l = m := pw_uniq (sorted_pw h) (sorted_pw k) p
end Fk

set_option maxHeartbeats 4000000
/-! Statements that are never come to; methods with a keyword; methods that may raise. -/
namespace Fk
open PySem PySem.Spec PyProof.Rows L2
section
variable {X : Cx}
/-- what is never come to -/
theorem ps_never {st : Stmt} : PS X st (fun _ _ _ => False) := ⟨fun _ _ _ _ _ _ h => h.elim⟩
theorem pe_never {e : Expr} : PE X e (fun _ _ _ => False) := ⟨fun _ _ _ _ _ _ h => h.elim⟩
variable {k j : Nat} {C : Addr} {m : Str} {sp : Sp} {E : L2.St → XK} {o e : Expr} {es : List Expr} {kws : List Keyword} {ta : TE} {t tk : TA} {pos apos : Pos} {ks : List Str} {gV : List V → List V → List V}
/-- a method with these keywords -/
structure MetK (P : Program) (w : World) (K : PySem.W.Frag) (mg : Str → Option Value) (base : Heap) (k : Nat) (C : Addr) (m : Str) (sp : Sp) (ks : List Str) (gV : List V → List V → List V) : Prop where
  ex : ∃ (f : Addr) (fd : FuncData) (ps : List Str) (g : List Value → List Value → List Value), Cls K C ∧ Meth K C m f ∧ FnOk P w K mg base C8.CX0 k f fd ps sp ∧ KBinds K fd ps ks g gV
def tMeK (C : Addr) (m : Str) (sp : Sp) (gV : List V → List V → List V) (ta : TE) (t tk : TA) : TE := fun σ H Q => ta σ H fun x H1 => ∃ (a dx : Addr) (fs : List (Str × V)), x = .ref a ∧ H1 a = some (.ins C dx fs) ∧ fs.lookup m = none ∧
  t σ H1 fun vs H2 => tk σ H2 fun zs H3 => sp (gV (x :: vs) zs) H3 Q C8.E0
/-- o.m(e, .., k = v, ..) -/
theorem pe_mtK {pl : Sem Bool} (c : MetK X.prog X.w X.K X.mg X.base k C m sp ks gV) (hr : Room j X.A) (hk : k ≤ j) (he : PE X o ta) (ha : PA X (e :: es) t) (hkw : PK X kws tk)
    (hall : (backToKw pos (keywordEach kws X.env)).all (·.1.isSome) = true := by rfl) (hks : (backToKw pos (keywordEach kws X.env)).filterMap (·.1) = ks := by rfl)
    (hst : starEach (e :: es) X.env = (false, eval e X.env) :: starEach es X.env := by rfl) (hpl : ((backTo pos (starEach (e :: es) X.env)).any (·.1) || (backToKw pos (keywordEach kws X.env)).any (·.1.isNone)) = false := by rfl)
    (ht : eval (.Call (.Attribute o m apos) (e :: es) kws pos) X.env = (do
      let ov ← eval o X.env
      standAt apos.atName
      let (f, first) ← holding [ov] (getMethod ov m pl)
      callWith pos f first (backTo pos (starEach (e :: es) X.env)) (backToKw pos (keywordEach kws X.env))) := by rfl) :
    PE X (.Call (.Attribute o m apos) (e :: es) kws pos) (tMeK C m sp gV ta t tk) := by
  obtain ⟨f, fd, ps, g, cl, hm, F, b⟩ := c.ex
  refine ⟨fun pins s σ H Q I h => ?_⟩
  refine PySem.W.methodCall_KW (pl := pl) (thn (he.run pins s σ H _ I h) fun u s1 ⟨x, H1, I1, rx, a, dx, fs, ex, ea, l, q⟩ => ?_) ht
  subst ex
  obtain rfl : u = Value.ref a := rx
  refine getmeth_ok I1 ea cl hm l ?_
  refine PySem.W.callWith_KW (first := [.ref a]) (h₀ := X.base) I.ok.mod.kin hm.kp hall (thn (ha.run pos pins s1 σ H1 _ I1 q) fun us s2 ⟨vs, H2, I2, r, q2⟩ => ?_) hpl hst
  refine thn (hkw.run pos pins s2 σ H2 _ I2 q2) fun ws s3 ⟨zs, H3, I3, rz, q3⟩ => ⟨I3.kIn, ?_⟩
  rw [hks]
  exact run_fnk F (hr.mono hk) b C8.pass0 I3 (show Vals (.ref a :: vs) (.ref a :: us) from .cons rfl r) rz q3
end
section
variable {P : Program} {w : World} {K : PySem.W.Frag} {mg : Str → Option Value} {base : Heap}
/-- a method of the text as it stands behind the top, with no defaults -/
structure MDef (K : PySem.W.Frag) (C : Addr) (m qual : Str) (st : Stmt) : Prop where
  ex : ∃ (f : Addr) (fd : FuncData), C8.Fun K m qual st f fd ∧ Meth K C m f ∧ fd.defaults = .none
theorem met_of {m qual : Str} {C : Addr} {st : Stmt} {N ps : List Str} {k : Nat} {sp : Sp} (c : Cls K C) (D : MDef K C m qual st) (S : FnScope N ps (C8.fnScope st))
    (hb : ∀ (kV doc pm : Value) (an : Option Addr) (cdv ct : Value) (us : List Value), us.length = ps.length → bindArgs (PySem.W.fnOf m qual (C8.fnArgs st) (C8.fnBody st) (C8.fnScope st) .none kV doc pm an cdv ct) ⟨us, []⟩ = pure (ps.zip us))
    (len : ∀ vs H Q E, sp vs H Q E → vs.length = ps.length)
    (hbody : ∀ (f : Addr) (cdv : Value) (A : Around) (outer : List Env) (s : Shared) (H : Hp) (vs : List V) (Q : VK) (E : XK), Room k (A.deeper (envOfC qual (C8.fnScope st) s.heap.objs.size f cdv)) → sp vs H Q E →
      ∃ t, PSs (cxOf C8.CX0 P w K mg base N qual (C8.fnScope st) f cdv A outer s H E).nox (C8.fnBody st) t ∧ t { nx := fun _ H' => Q .non H', rt := Q } (start N vs) H) : C8.Met P w K mg base (k + 1) C m sp [] := by
  obtain ⟨f, fd, F, M, df⟩ := D.ex
  exact C8.met0 c M F (F.binds df hb) S len (hbody f)
/-- a method that may let errors out -/
theorem metX_of {m qual : Str} {C : Addr} {st : Stmt} {N ps : List Str} {k : Nat} {sp : Sp} (c : Cls K C) (D : MDef K C m qual st) (S : FnScope N ps (C8.fnScope st))
    (hb : ∀ (kV doc pm : Value) (an : Option Addr) (cdv ct : Value) (us : List Value), us.length = ps.length → bindArgs (PySem.W.fnOf m qual (C8.fnArgs st) (C8.fnBody st) (C8.fnScope st) .none kV doc pm an cdv ct) ⟨us, []⟩ = pure (ps.zip us))
    (len : ∀ vs H Q E, sp vs H Q E → vs.length = ps.length)
    (hbody : ∀ (f : Addr) (cdv : Value) (A : Around) (outer : List Env) (s : Shared) (H : Hp) (vs : List V) (Q : VK) (E : XK), Room k (A.deeper (envOfC qual (C8.fnScope st) s.heap.objs.size f cdv)) → sp vs H Q E →
      ∃ t, PSs (cxOf (L2.CX P w) P w K mg base N qual (C8.fnScope st) f cdv A outer s H E) (C8.fnBody st) t ∧ t { nx := fun _ H' => Q .non H', rt := Q } (start N vs) H) : MetX P w K mg base (L2.CX P w) (k + 1) C m sp [] := by
  obtain ⟨f, fd, F, M, df⟩ := D.ex
  obtain ⟨oc, od, dV, kV, doc, pm, an, cdv, ct, osl, rfl, lk, hcd⟩ := F.ex
  exact ⟨f, _, ps, [], c, M, fn_of lk hcd S len fun A outer s H vs Q E hr hsp => hbody f cdv A outer s H vs Q E hr hsp, F.binds df hb, .nil⟩
end
end Fk

set_option maxHeartbeats 4000000
/-! A comprehension with two fors that changes nothing; the prefixes of paths. -/
namespace Fk
open PySem PySem.Spec PyProof.Rows L2
theorem same_frl {D : Addr} {H1 H H' : Hp} (h : H1 D = none) (s : Same H1 H) (f : FrL [D] H H') : Same H1 H' := fun b o e => f b o (fun z => by
  rw [List.mem_singleton.mp z, h] at e
  cases e) (s b o e)
theorem lc2_pure {α β : Type} {J : It} {us : List α} {g : α → V} {h : β → V} {G : Hp → Prop} {H1 : Hp} {D : Addr} {σ : L2.St} {vs : List Nat} {i j : Nat} {wi1 : TI} {te : TE} {Q : Hp → Prop} (Y : Yields J (us.map g) G) (fs : α → List β) (f : α → β → V) (hD1 : H1 D = none) (hG : ∀ H, Same H1 H → G H)
    (e1 : ∀ x, wipe ((wipe σ vs).set i (some x)) vs = wipe σ vs)
    (e2 : ∀ x y, wipe ((wipe ((wipe σ vs).set i (some x)) [j]).set j (some y)) [j] = wipe ((wipe σ vs).set i (some x)) [j])
    (hw : ∀ H u, Same H1 H → H D ≠ none → u ∈ us → ∀ (R : It → Hp → Prop), (∀ J1 G1 H3, Yields J1 ((fs u).map h) G1 → Same H H3 → (∀ H', FrL [D] H3 H' → G1 H') → R J1 H3) → wi1 ((wipe σ vs).set i (some (g u))) H R)
    (he : ∀ H u w, Same H1 H → u ∈ us → w ∈ fs u → ∀ (R : VK), (∀ H3, Same H H3 → R (f u w) H3) → te ((wipe ((wipe σ vs).set i (some (g u))) [j]).set j (some (h w))) H R)
    (hl : (us.flatMap fs).length ≤ 1000000) (hd : ∀ H, Same H1 H → H D = some (.lst (us.flatMap fun u => (fs u).map (f u))) → Q H) :
    ∃ W : Nat → Nat → Hp → Prop, (∃ m, W 0 m (upd H1 D (.lst []))) ∧ ∀ k m H, W k m H →
      (J.stop k H ∧ Q H) ∨ (J.go k H ∧ ∃ Nx : Hp → Prop, (∀ H', Nx H' → ∃ m', m' < m ∧ W (k + 1) m' H') ∧ ∀ x H', J.yld k H x H' → gName i x (wipe σ vs) H' fun σ2 H2 => wipe σ2 vs = wipe σ vs ∧ tYes σ2 H2 fun b H3 =>
        if b = true then wi1 σ2 H3 fun J1 H4 => ∃ W1 : Nat → Nat → Hp → Prop, (∃ m, W1 0 m H4) ∧ ∀ k2 m2 H, W1 k2 m2 H →
          (J1.stop k2 H ∧ Nx H) ∨ (J1.go k2 H ∧ ∃ Nx1 : Hp → Prop, (∀ H', Nx1 H' → ∃ k', k' < m2 ∧ W1 (k2 + 1) k' H') ∧ ∀ x H', J1.yld k2 H x H' → gName j x (wipe σ2 [j]) H' fun σ3 H5 => wipe σ3 [j] = wipe σ2 [j] ∧ tYes σ3 H5 fun b H6 =>
            if b = true then te σ3 H6 fun y H7 => ∃ acc, H7 D = some (.lst acc) ∧ acc.length < sizeLine ∧ Nx1 (upd H7 D (.lst (acc ++ [y]))) else Nx1 H6)
        else Nx H3) := by
  refine ⟨fun k m H => m = us.length - k ∧ k ≤ us.length ∧ Same H1 H ∧ H D = some (.lst ((us.take k).flatMap fun u => (fs u).map (f u))), ⟨us.length, by omega, Nat.zero_le _, same_new hD1, upd_same⟩, ?_⟩
  rintro k m H ⟨rfl, hk, sm, hD⟩
  by_cases hlt : k < us.length
  · refine .inr ⟨Y.go k H (hG _ sm) (by rw [List.length_map]; exact hlt), fun H' => Same H1 H' ∧ H' D = some (.lst ((us.take (k + 1)).flatMap fun u => (fs u).map (f u))), fun H' q => ⟨us.length - (k + 1), by omega, rfl, hlt, q⟩, fun x H' y => ?_⟩
    obtain ⟨rfl, hx⟩ := Y.yld k H x H' (by rw [List.length_map]; exact hlt) (hG _ sm) y
    rw [List.getElem?_map, List.getElem?_eq_getElem hlt] at hx
    obtain rfl := Option.some.inj hx
    have hu : us[k] ∈ us := List.getElem_mem hlt
    refine ⟨e1 _, ?_⟩
    dsimp only [tYes]
    first | rw [if_pos (rfl : true = true)] | skip
    refine hw _ us[k] sm (by rw [hD]; exact fun z => nomatch z) hu _ fun J1 G1 H3 Y1 s3 hG1 => ?_
    have et : us.take (k + 1) = us.take k ++ [us[k]] := by rw [List.take_add_one, List.getElem?_eq_getElem hlt]; rfl
    have total : ((us.take k).flatMap fun u => (fs u).map (f u)).length + (fs us[k]).length ≤ 1000000 := by
      have e : us.flatMap fs = ((us.take (k + 1)) ++ us.drop (k + 1)).flatMap fs := by rw [List.take_append_drop]
      rw [e, List.flatMap_append, et, List.flatMap_append, List.length_append, List.length_append] at hl
      have e2 : ∀ l : List α, (l.flatMap fun u => (fs u).map (f u)).length = (l.flatMap fs).length := fun l => by
        induction l with
        | nil => rfl
        | cons a r ih => rw [List.flatMap_cons, List.flatMap_cons, List.length_append, List.length_append, ih, List.length_map]
      rw [e2]
      have : ([us[k]].flatMap fs).length = (fs us[k]).length := by simp
      omega
    refine ⟨fun k2 m2 H => m2 = (fs us[k]).length - k2 ∧ k2 ≤ (fs us[k]).length ∧ FrL [D] H3 H ∧ H D = some (.lst (((us.take k).flatMap fun u => (fs u).map (f u)) ++ ((fs us[k]).take k2).map (f us[k]))),
      ⟨(fs us[k]).length, by omega, Nat.zero_le _, FrL.refl _ _, by rw [List.take_zero, List.map_nil, List.append_nil]; exact s3 _ _ hD⟩, ?_⟩
    rintro k2 m2 H5 ⟨rfl, hk2, f5, hD5⟩
    by_cases hlt2 : k2 < (fs us[k]).length
    · refine .inr ⟨Y1.go k2 H5 (hG1 _ f5) (by rw [List.length_map]; exact hlt2), _, fun H' q => ⟨(fs us[k]).length - (k2 + 1), by omega, rfl, hlt2, q⟩, fun x H' y => ?_⟩
      obtain ⟨rfl, hx⟩ := Y1.yld k2 H5 x H' (by rw [List.length_map]; exact hlt2) (hG1 _ f5) y
      rw [List.getElem?_map, List.getElem?_eq_getElem hlt2] at hx
      obtain rfl := Option.some.inj hx
      refine ⟨e2 _ _, ?_⟩
      first | rw [if_pos (rfl : true = true)] | skip
      have s5 : Same H1 _ := same_frl hD1 (sm.trans s3) f5
      refine he _ us[k] (fs us[k])[k2] s5 hu (List.getElem_mem hlt2) _ fun H6 s6 => ?_
      refine ⟨_, s6 _ _ hD5, small_lt (by rw [List.length_append, List.length_map, List.length_take]; omega), FrL.trans (f5.trans (FrL.same s6)) (FrL.at (List.mem_singleton_self D)), ?_⟩
      rw [upd_same, List.take_add_one, List.getElem?_eq_getElem hlt2, List.append_assoc, List.map_append]
      rfl
    · have e : k2 = (fs us[k]).length := by omega
      subst e
      refine .inl ⟨by have := Y1.stop H5 (hG1 _ f5); rw [List.length_map] at this; exact this, same_frl hD1 (sm.trans s3) f5, ?_⟩
      rw [hD5, et, List.flatMap_append, List.take_length]
      simp
  · have e : k = us.length := by omega
    subst e
    refine .inl ⟨by have := Y.stop H (hG _ sm); rw [List.length_map] at this; exact this, hd _ sm ?_⟩
    rw [hD, List.take_length]
/-! ### prefixes -/
def prefixesF (x : Str) : List Str := (List.range ((segs x).length - 1)).map fun k => Txt.join "/" ((segs x).take (k + 1))
def haveF (ks : List Str) : Bool := ks.any fun x => (prefixesF x).any fun y => decide (y ∈ ks)
theorem have_perm {ks ls : List Str} (h : ks.Perm ls) : haveF ks = haveF ls := by
  have e : ∀ a b : List Str, a.Perm b → haveF a = true → haveF b = true := fun a b p z => by
    obtain ⟨x, hx, z⟩ := List.any_eq_true.mp z
    obtain ⟨y, hy, z⟩ := List.any_eq_true.mp z
    exact List.any_eq_true.mpr ⟨x, p.mem_iff.mp hx, List.any_eq_true.mpr ⟨y, hy, decide_eq_true (p.mem_iff.mp (of_decide_eq_true z))⟩⟩
  cases c : haveF ls with
  | true => exact e ls ks h.symm c
  | false => exact Bool.eq_false_iff.mpr fun z => by rw [e ks ls h z] at c; cases c
theorem pre_len (x : Str) (h : x.length ≤ 100000) : (prefixesF x).length ≤ 100000 := by
  unfold prefixesF
  rw [List.length_map, List.length_range]
  have := (segs_len x h).1
  omega
theorem any_flat {α β : Type} (us : List α) (fs : α → List β) (f : α → β → Bool) : (us.flatMap fun u => (fs u).map (f u)).any id = us.any fun u => (fs u).any (f u) := by
  induction us with
  | nil => rfl
  | cons a r ih => rw [List.flatMap_cons, List.any_append, ih, List.any_cons, List.any_map]; rfl
end Fk
namespace Fk
open PySem PySem.Spec PyProof.Rows L2
theorem segs_lens (x : Str) : (segs x).length ≤ x.length + 1 ∧ ∀ y ∈ segs x, y.length ≤ x.length := by
  have e := TL.split_spl x "/" (by decide +kernel) (TL.kind_ok (by decide +kernel))
  have e2 : ∀ l k acc, (TL.spl (TL.tl "/") k acc l).length ≤ l.length + 1 ∧ ∀ y ∈ TL.spl (TL.tl "/") k acc l, y.length ≤ acc.length + l.length := by
    intro l
    induction l with
    | nil => intro k acc; rw [TL.spl_nil]; exact ⟨Nat.le_refl _, fun y hy => by rw [List.mem_singleton.mp hy]; simp⟩
    | cons c r ih =>
      intro k acc
      cases k with
      | zero =>
        unfold TL.spl
        split
        · obtain ⟨i1, i2⟩ := ih ((TL.tl "/").length - 1) []
          refine ⟨by simp only [List.length_cons]; omega, fun y hy => ?_⟩
          rcases List.mem_cons.mp hy with rfl | hy
          · simp only [List.length_cons]; omega
          · have := i2 y hy
            simp only [List.length_cons, List.length_nil] at this ⊢
            omega
        · obtain ⟨i1, i2⟩ := ih 0 (acc ++ [c])
          refine ⟨by simp only [List.length_cons]; omega, fun y hy => ?_⟩
          have := i2 y hy
          simp only [List.length_cons, List.length_append, List.length_nil] at this ⊢
          omega
      | succ k =>
        obtain ⟨i1, i2⟩ := ih k acc
        unfold TL.spl
        refine ⟨by simp only [List.length_cons]; omega, fun y hy => ?_⟩
        have := i2 y hy
        simp only [List.length_cons] at this ⊢
        omega
  obtain ⟨i1, i2⟩ := e2 (TL.tl x) 0 []
  rw [← e] at i1 i2
  rw [List.length_map, ← TL.len_tl] at i1
  refine ⟨?_, fun y hy => ?_⟩
  · show (Txt.split x "/").length ≤ _
    omega
  · have := i2 (TL.tl y) (List.mem_map_of_mem hy)
    rw [← TL.len_tl, ← TL.len_tl] at this
    simp at this
    omega
theorem sum_most (n : Nat) : ∀ ps : List Str, (∀ p ∈ ps, p.length ≤ n) → (ps.map (·.length)).sum ≤ ps.length * n := by
  intro ps h
  induction ps with
  | nil => exact Nat.zero_le _
  | cons p r ih =>
    rw [List.map_cons, List.sum_cons, List.length_cons, Nat.succ_mul]
    have := ih fun q hq => h q (List.mem_cons_of_mem _ hq)
    have := h p List.mem_cons_self
    omega
theorem cut_front {α : Type} (l : List α) (g : α → V) (k : Nat) : cutV (l.map g) none (some (1 + (k : Int))) = (l.take (k + 1)).map g := by
  have e : (1 + (k : Int)) = ((k + 1 : Nat) : Int) := by omega
  unfold cutV
  rw [e, HT.sIx_none, HT.sIx_nat, List.drop_zero, Nat.sub_zero, List.map_take]
  rcases Nat.le_total (k + 1) (l.map g).length with h | h
  · rw [Nat.min_eq_left h]
  · rw [Nat.min_eq_right h, List.take_length, List.take_of_length_le h]
/-! ### rules whose reading names the written part, within a comprehension -/
section
variable {X : Cx} {K : PySem.W.Frag} {o e : Expr} {to te : TE} {f : Str}
theorem slK_list (h : X.K = K) : SlR X (rSlL K) := h ▸ sl_list
theorem ixK_list (h : X.K = K) : IxR X (rIxL K) := h ▸ ix_list
theorem ixK_tup (h : X.K = K) : IxR X (rIxT K) := h ▸ ix_tup
theorem pi_listK {tg : Expr} (h : X.K = K) (he : PE X e te) : PI X tg e (iList K te) := h ▸ pi_list he
theorem pi_tupK {tg : Expr} (h : X.K = K) (he : PE X e te) : PI X tg e (iTup K te) := h ▸ pi_tup he
theorem pg_tupK {es : List Expr} {k : Nat} {t : TGs} {n : Nat} {pos : Pos} (h : X.K = K) (hc : X.calm = true) (hp : PGs X es t)
    (hn : (assignEach es X.env).length = n := by rfl) (hst : (assignEach es X.env).findIdx? (·.1) = none := by rfl) : PG X (.Tuple es k pos) (gTup K n t) := h ▸ pg_tup hc hp hn hst
theorem pe_fldK {pos : Pos} (h : X.K = K) (he : PE X e te) (hb : attributeBase e f X.env (eval e X.env) = eval e X.env) : PE X (.Attribute e f pos) (tFld K te f) := h ▸ pe_fld he hb
def rJoin (K : PySem.W.Frag) : V → List V → Hp → VK → Prop := fun x xs H Q => ∃ a p, ∃ ys : List Str, x = .str a ∧ xs = [.ref p] ∧ (SqL K H p (ys.map V.str) ∨ SqT K H p (ys.map V.str)) ∧
  (ys.map (·.length)).sum + ys.length * a.length ≤ 16777216 ∧ Q (.str (Txt.join a ys)) H
theorem pe_joinK {apos pos : Pos} (h : X.K = K) (ho : PE X o to) (he : PE X e te) (hs : starEach [e] X.env = [(false, eval e X.env)] := by rfl) (hbase : attributeBase o "join" X.env (eval o X.env) = eval o X.env := by rfl) (hline : (apos.endLine == pos.line) = true := by rfl) :
    PE X (.Call (.Attribute o "join" apos) [e] [] pos) (tM1 (rJoin K) to te) := by
  subst h
  exact pe_join ho he hs hbase hline
end
end Fk

set_option maxHeartbeats 4000000
/-! Lists and dicts that comprehensions make of tuples; tuples of tuples. -/
namespace Fk
open PySem PySem.Spec PyProof.Rows L2
/-- at these addresses stand tuples of these things -/
def Tups (H : Hp) (as : List Addr) (ls : List (List V)) : Prop := as.length = ls.length ∧ ∀ (i : Nat) (a : Addr) (l : List V), as[i]? = some a → ls[i]? = some l → H a = some (.tup l)
def TupsAt (H : Hp) (p : Addr) (ls : List (List V)) : Prop := ∃ as : List Addr, H p = some (.tup (as.map V.ref)) ∧ Tups H as ls
/-- tuples stay -/
def TupKeep (H H' : Hp) : Prop := ∀ b xs, H b = some (.tup xs) → H' b = some (.tup xs)
theorem TupKeep.of {H H' : Hp} (s : Same H H') : TupKeep H H' := fun b xs e => s b _ e
theorem TupKeep.refl (H : Hp) : TupKeep H H := fun _ _ e => e
theorem TupKeep.trans {H H1 H2 : Hp} (a : TupKeep H H1) (b : TupKeep H1 H2) : TupKeep H H2 := fun c xs e => b c xs (a c xs e)
theorem TupKeep.at {a : Addr} {H : Hp} {o : HO} (n : ∀ xs, H a ≠ some (.tup xs)) : TupKeep H (upd H a o) := fun b xs e => by
  have z : b ≠ a := fun z => n xs (by rw [← z]; exact e)
  rw [upd_ne z]
  exact e
theorem Tups.keep {H H' : Hp} {as : List Addr} {ls : List (List V)} (t : Tups H as ls) (k : TupKeep H H') : Tups H' as ls := ⟨t.1, fun i a l h1 h2 => k _ _ (t.2 i a l h1 h2)⟩
theorem TupsAt.keep {H H' : Hp} {p : Addr} {ls : List (List V)} (t : TupsAt H p ls) (k : TupKeep H H') : TupsAt H' p ls := by
  obtain ⟨as, h, t⟩ := t
  exact ⟨as, k _ _ h, t.keep k⟩
theorem Tups.nil {H : Hp} : Tups H [] [] := ⟨rfl, fun i a l h => by simp at h⟩
theorem Tups.snoc {H : Hp} {as : List Addr} {ls : List (List V)} {a : Addr} {l : List V} (t : Tups H as ls) (h : H a = some (.tup l)) : Tups H (as ++ [a]) (ls ++ [l]) := by
  obtain ⟨e, t⟩ := t
  refine ⟨by rw [List.length_append, List.length_append, e]; rfl, fun i b m h1 h2 => ?_⟩
  by_cases hi : i < as.length
  · rw [List.getElem?_append_left hi] at h1
    rw [List.getElem?_append_left (by omega)] at h2
    exact t i b m h1 h2
  · rw [List.getElem?_append_right (by omega)] at h1
    rw [List.getElem?_append_right (by omega)] at h2
    have i1 := (List.getElem?_eq_some_iff.mp h1).1
    have e0 : i - as.length = 0 := by
      rw [List.length_singleton] at i1
      omega
    rw [e0] at h1
    rw [← e, e0] at h2
    rw [← Option.some.inj h1, ← Option.some.inj h2]
    exact h
theorem Tups.get {H : Hp} {as : List Addr} {ls : List (List V)} (t : Tups H as ls) {u : Addr × List V} (h : u ∈ as.zip ls) : H u.1 = some (.tup u.2) := by
  obtain ⟨i, hi⟩ := List.mem_iff_getElem?.mp h
  rw [List.getElem?_zip_eq_some] at hi
  exact t.2 i _ _ hi.1 hi.2
theorem zip_fst {as : List Addr} {ls : List (List V)} (e : as.length = ls.length) : (as.zip ls).map (fun u => V.ref u.1) = as.map V.ref := by
  have : (fun u : Addr × List V => V.ref u.1) = V.ref ∘ Prod.fst := rfl
  rw [this, ← List.map_map, List.map_fst_zip (by omega)]
theorem zip_snd {as : List Addr} {ls : List (List V)} (e : as.length = ls.length) : (as.zip ls).map (·.2) = ls := List.map_snd_zip (by omega)
/-- a tuple of the written part -/
def KTup (K : PySem.W.Frag) (a : Addr) (xs : List V) : Prop := ∃ (o : Obj) (its : Array Value) (n : Nat), K.lookup a = some o ∧ o.cls = .type "tuple" ∧ o.data = .seq its n ∧ its.size ≤ sizeLine ∧ Vals xs its.toList
/-- a tuple, tracked or of the written part -/
def TupK (K : PySem.W.Frag) (H : Hp) (a : Addr) (xs : List V) : Prop := H a = some (.tup xs) ∨
  ∃ (o : Obj) (its : Array Value) (n : Nat), K.lookup a = some o ∧ o.cls = .type "tuple" ∧ o.data = .seq its n ∧ its.size ≤ sizeLine ∧ Vals xs its.toList
theorem TupK.sq {K : PySem.W.Frag} {H : Hp} {a : Addr} {xs : List V} (h : TupK K H a xs) : SqT K H a xs := h.imp (fun e => .inl e) id
theorem TupK.keep {K : PySem.W.Frag} {H H' : Hp} {a : Addr} {xs : List V} (h : TupK K H a xs) (k : TupKeep H H') : TupK K H' a xs := h.imp (fun e => k _ _ e) id
def TupsK (K : PySem.W.Frag) (H : Hp) (p : Addr) (ls : List (List V)) : Prop := ∃ as : List Addr, TupK K H p (as.map V.ref) ∧ Tups H as ls
theorem TupsK.of {K : PySem.W.Frag} {H : Hp} {p : Addr} {ls : List (List V)} (h : TupsAt H p ls) : TupsK K H p ls := let ⟨as, a, b⟩ := h; ⟨as, .inl a, b⟩
theorem TupsK.keep {K : PySem.W.Frag} {H H' : Hp} {p : Addr} {ls : List (List V)} (h : TupsK K H p ls) (k : TupKeep H H') : TupsK K H' p ls := let ⟨as, a, b⟩ := h; ⟨as, a.keep k, b.keep k⟩
section
variable {α : Type} {J : It} {us : List α} {val : α → V} {G : Hp → Prop} {H1 : Hp} {D : Addr} {σ : L2.St} {vs : List Nat} {g : TG} {tt : TT} {te tk tv : TE} {Q : Hp → Prop}
/-- a list of new tuples -/
theorem lc_new (Y : Yields J (us.map val) G) (f : α → List V) (p : α → Bool) (σf : α → L2.St) (hD1 : H1 D = none) (hG : ∀ H, Same H1 H → G H) (hw : ∀ u ∈ us, wipe (σf u) vs = wipe σ vs)
    (hg : ∀ H u, Same H1 H → u ∈ us → ∀ (R : L2.St → Hp → Prop), R (σf u) H → g (val u) (wipe σ vs) H R)
    (ht : ∀ H u, Same H1 H → u ∈ us → ∀ (R : Bool → Hp → Prop), (∀ H3, Same H H3 → R (p u) H3) → tt (σf u) H R)
    (he : ∀ H u, Same H1 H → u ∈ us → p u = true → ∀ (R : VK), (∀ a H3, Same H H3 → H3 a = some (.tup (f u)) → R (.ref a) H3) → te (σf u) H R)
    (hl : us.length ≤ 1000000) (hd : ∀ as H, Same H1 H → H D = some (.lst (as.map V.ref)) → Tups H as ((us.filter p).map f) → Q H) :
    ∃ W : Nat → Nat → Hp → Prop, (∃ m, W 0 m (upd H1 D (.lst []))) ∧ ∀ k m H, W k m H →
      (J.stop k H ∧ Q H) ∨ (J.go k H ∧ ∃ Nx : Hp → Prop, (∀ H', Nx H' → ∃ m', m' < m ∧ W (k + 1) m' H') ∧ ∀ x H', J.yld k H x H' → g x (wipe σ vs) H' fun σ2 H2 => wipe σ2 vs = wipe σ vs ∧ tt σ2 H2 fun b H3 =>
        if b = true then te σ2 H3 fun y H4 => ∃ acc, H4 D = some (.lst acc) ∧ acc.length < sizeLine ∧ Nx (upd H4 D (.lst (acc ++ [y]))) else Nx H3) := by
  refine lcG Y (fun k acc H => Same H1 H ∧ ∃ as : List Addr, acc = as.map V.ref ∧ Tups H as (((us.take k).filter p).map f)) (fun k acc H h _ => hG H h.1) ⟨same_new hD1, [], rfl, by simpa using Tups.nil⟩ (fun k acc H x hI hD hx hacc hk => ?_) (by rw [List.length_map]; exact hl) (fun acc H hI hD _ => ?_)
  · obtain ⟨sm, as, ea, tp⟩ := hI
    rw [List.getElem?_map] at hx
    cases hu : us[k]? with
    | none => rw [hu] at hx; cases hx
    | some u =>
      rw [hu] at hx
      cases hx
      have hm : u ∈ us := List.mem_of_getElem? hu
      have et : us.take (k + 1) = us.take k ++ [u] := by
        rw [List.take_add_one, hu]
        rfl
      refine hg H u sm hm _ ⟨hw u hm, ?_⟩
      refine ht H u sm hm _ (fun H3 s3 => ?_)
      by_cases hp : p u = true
      · rw [if_pos hp]
        refine he H3 u (sm.trans s3) hm hp _ (fun a H4 s4 h4 => ?_)
        have hD4 := s4 _ _ (s3 _ _ hD)
        have kp : TupKeep H4 (upd H4 D (.lst (acc ++ [V.ref a]))) := TupKeep.at fun xs z => by rw [hD4] at z; cases z
        refine lc_take hD4 hacc hk ⟨same_mut ((sm.trans s3).trans s4) hD1, as ++ [a], by rw [ea, List.map_append]; rfl, ?_⟩
        rw [et, List.filter_append, List.map_append, List.filter_cons, hp]
        exact ((tp.keep (TupKeep.of (s3.trans s4))).snoc h4).keep kp
      · rw [if_neg hp]
        refine lc_skip (s3 _ _ hD) hacc ⟨sm.trans s3, as, ea, ?_⟩
        rw [et, List.filter_append, List.map_append, List.filter_cons, if_neg hp]
        simpa using tp.keep (TupKeep.of s3)
  · obtain ⟨sm, as, ea, tp⟩ := hI
    rw [List.length_map, List.take_length] at tp
    rw [ea] at hD
    exact hd as H sm hD tp
/-- a dict with texts as its keys -/
theorem dc_tab (Y : Yields J (us.map val) G) (kf : α → Str) (vf : α → V) (p : α → Bool) (σf : α → L2.St) (hD1 : H1 D = none) (hG : ∀ H, Same H1 H → G H) (hw : ∀ u ∈ us, wipe (σf u) vs = wipe σ vs)
    (hg : ∀ H u, Same H1 H → u ∈ us → ∀ (R : L2.St → Hp → Prop), R (σf u) H → g (val u) (wipe σ vs) H R)
    (ht : ∀ H u, Same H1 H → u ∈ us → ∀ (R : Bool → Hp → Prop), (∀ H3, Same H H3 → R (p u) H3) → tt (σf u) H R)
    (hk : ∀ H u, Same H1 H → u ∈ us → p u = true → ∀ (R : VK), (∀ H3, Same H H3 → R (.str (kf u)) H3) → tk (σf u) H R)
    (hv : ∀ H u, Same H1 H → u ∈ us → p u = true → ∀ (R : VK), (∀ H3, Same H H3 → R (vf u) H3) → tv (σf u) H R)
    (hl : us.length ≤ 1000000) (nd : ((us.filter p).map kf).Nodup) (hd : ∀ H, Same H1 H → H D = some (.dK (kT ((us.filter p).map fun u => (kf u, vf u)))) → Q H) :
    ∃ W : Nat → Nat → Hp → Prop, (∃ m, W 0 m (upd H1 D (.dK []))) ∧ ∀ k m H, W k m H →
      (J.stop k H ∧ Q H) ∨ (J.go k H ∧ ∃ Nx : Hp → Prop, (∀ H', Nx H' → ∃ m', m' < m ∧ W (k + 1) m' H') ∧ ∀ x H', J.yld k H x H' → g x (wipe σ vs) H' fun σ2 H2 => wipe σ2 vs = wipe σ vs ∧ tt σ2 H2 fun b H3 =>
        if b = true then tk σ2 H3 fun y H4 => tv σ2 H4 fun z H5 => ∃ kvs key, y = kV key ∧ H5 D = some (.dK kvs) ∧ kvs.length < sizeLine ∧ Nx (upd H5 D (.dK (putK kvs key z))) else Nx H3) := by
  refine dcG Y (fun k kvs H => Same H1 H ∧ kvs = kT (((us.take k).filter p).map fun u => (kf u, vf u))) (fun k acc H h _ => hG H h.1) ⟨same_new hD1, rfl⟩ (fun k kvs H x hI hD hx hacc hk' => ?_) (by rw [List.length_map]; exact hl) (fun acc H hI hD _ => ?_)
  · obtain ⟨sm, ea⟩ := hI
    rw [List.getElem?_map] at hx
    cases hu : us[k]? with
    | none => rw [hu] at hx; cases hx
    | some u =>
      rw [hu] at hx
      cases hx
      have hm : u ∈ us := List.mem_of_getElem? hu
      have et : us.take (k + 1) = us.take k ++ [u] := by
        rw [List.take_add_one, hu]
        rfl
      refine hg H u sm hm _ ⟨hw u hm, ?_⟩
      refine ht H u sm hm _ (fun H3 s3 => ?_)
      by_cases hp : p u = true
      · rw [if_pos hp]
        refine hk H3 u (sm.trans s3) hm hp _ (fun H4 s4 => ?_)
        refine hv H4 u ((sm.trans s3).trans s4) hm hp _ (fun H5 s5 => ?_)
        have new : valV (((us.take k).filter p).map fun u => (kf u, vf u)) (kf u) = none := by
          cases c : valV (((us.take k).filter p).map fun u => (kf u, vf u)) (kf u) with
          | none => rfl
          | some z =>
            have m := valV_in c
            rw [List.map_map] at m
            have e : us.filter p = (us.take k).filter p ++ (u :: (us.drop (k + 1)).filter p) := by
              conv => lhs; rw [← List.take_append_drop (k + 1) us, et, List.filter_append, List.filter_append, List.filter_cons, hp]
              simp
            rw [e, List.map_append] at nd
            have := (List.nodup_append.mp nd).2.2 (kf u) m (kf u) List.mem_cons_self
            exact absurd rfl this
        refine dc_take (key := .inr (kf u)) (s5 _ _ (s4 _ _ (s3 _ _ hD))) hacc hk' ⟨same_mut (((sm.trans s3).trans s4).trans s5) hD1, ?_⟩
        rw [ea, putK_kT, putK_new _ new, et, List.filter_append, List.map_append, List.filter_cons, hp]
        rfl
      · rw [if_neg hp]
        refine dc_skip (s3 _ _ hD) hacc ⟨sm.trans s3, ?_⟩
        rw [et, List.filter_append, List.map_append, List.filter_cons, if_neg hp]
        simp [ea]
  · obtain ⟨sm, ea⟩ := hI
    rw [List.length_map, List.take_length] at ea
    rw [ea] at hD
    exact hd H sm hD
end
theorem val_keys (f : Str → V) (z : Str) : ∀ ys : List Str, valV (ys.map fun x => (x, f x)) z = if z ∈ ys then some (f z) else none
  | [] => rfl
  | y :: r => by
    show valV ((y, f y) :: r.map fun x => (x, f x)) z = _
    by_cases h : y = z
    · rw [valV_pos h, if_pos (by rw [h]; exact List.mem_cons_self), h]
    · rw [valV_neg h, val_keys f z r]
      by_cases m : z ∈ r
      · rw [if_pos m, if_pos (List.mem_cons_of_mem _ m)]
      · rw [if_neg m, if_neg (fun k => (List.mem_cons.mp k).elim (fun e => h e.symm) m)]
/-- the rows of a table in order -/
def SortOf (t u : Tab) : Prop := sortedS (u.map (·.1)) = true ∧ (u.map (·.1)).Perm (t.map (·.1)) ∧ ∀ x, valV u x = valV t x
theorem sortOf_keys {t : Tab} {ys : List Str} (hp : ys.Perm (t.map (·.1))) (hs : sortedS ys = true) : SortOf t (ys.map fun x => (x, (valV t x).getD .non)) := by
  have e : (ys.map fun x => (x, (valV t x).getD .non)).map (·.1) = ys := by
    rw [List.map_map]
    exact List.map_id' ys
  refine ⟨by rw [e]; exact hs, by rw [e]; exact hp, fun z => ?_⟩
  rw [val_keys (fun x => (valV t x).getD .non)]
  cases c : valV t z with
  | none => rw [if_neg (fun m => by have := mem_val.mp (hp.mem_iff.mp m); rw [c] at this; cases this)]
  | some v => rw [if_pos (hp.mem_iff.mpr (mem_val.mpr (by rw [c]; rfl)))]; rfl
theorem SortOf.nd {t u : Tab} (h : SortOf t u) (n : Nd t) : Nd u := h.2.1.nodup_iff.mpr n
theorem SortOf.len {t u : Tab} (h : SortOf t u) : u.length = t.length := by
  have := h.2.1.length_eq
  rw [List.length_map, List.length_map] at this
  exact this
def rowL (e : Str × V) : List V := [.str e.1, e.2]
/-! ### moves -/
def moveL (m : Str × V × V) : List V := [.str m.1, m.2.1, m.2.2]
def newsT (ms : List (Str × V × V)) : Tab := ms.map fun m => (m.1, m.2.2)
def notNon : V → Bool
  | .non => false
  | _ => true
def keptT (t n : Tab) : Tab := t.filter fun p => (valV n p.1).isNone
def madeT (n : Tab) : Tab := n.filter fun p => notNon p.2
def afterT (t : Tab) (ms : List (Str × V × V)) : Tab := keptT t (newsT ms) ++ madeT (newsT ms)
theorem zip_ms {α : Type} {as : List Addr} {ms : List α} (e : as.length = ms.length) : (as.zip ms).map (fun u => V.ref u.1) = as.map V.ref := by
  have : (fun u : Addr × α => V.ref u.1) = V.ref ∘ Prod.fst := rfl
  rw [this, ← List.map_map, List.map_fst_zip (by omega)]
theorem tups_get {α : Type} {H : Hp} {as : List Addr} {ms : List α} {f : α → List V} (tp : Tups H as (ms.map f)) {u : Addr × α} (h : u ∈ as.zip ms) : H u.1 = some (.tup (f u.2)) := by
  obtain ⟨i, hi⟩ := List.mem_iff_getElem?.mp h
  rw [List.getElem?_zip_eq_some] at hi
  refine tp.2 i _ _ hi.1 ?_
  rw [List.getElem?_map, hi.2]
  rfl
theorem ne_of_none' {H : Hp} {D a : Addr} {o : HO} (h : H D = none) (k : H a = some o) : D ≠ a := (ne_of_none k h).symm
theorem same_unlock {H H2 : Hp} {d : Addr} {od : Obj} {u : HO} (s : Same (upd H d (.frz od u)) H2) (h : H d = some u) : Same H (upd H2 d u) := fun b o e => by
  by_cases hb : b = d
  · rw [hb, upd_same, ← h, ← hb, e]
  · rw [upd_ne hb]
    exact s _ _ (by rw [upd_ne hb]; exact e)
theorem lock_ne {H : Hp} {d D : Addr} {o : HO} (h : upd H d o D = none) : D ≠ d := fun z => by
  rw [z, upd_same] at h
  cases h
theorem lock_free {H : Hp} {d D : Addr} {o : HO} (h : upd H d o D = none) : H D = none := by
  have n := lock_ne h
  rw [upd_ne n] at h
  exact h
/-- a walk over a locked table -/
theorem yields_tab {d : Addr} {o : Obj} {t : Tab} : Yields (Itk d o (kT t)) (t.map fun e => V.str e.1) (fun H => H d = some (.frz o (.dK (kT t)))) := by
  have : (t.map fun e => V.str e.1) = (kT t).map fun p => kV p.1 := by
    unfold kT
    rw [List.map_map]
    rfl
  rw [this]
  exact yields_keys
theorem yields_zip {α : Type} {K : PySem.W.Frag} {a : Addr} {as : List Addr} {ms : List α} (e : as.length = ms.length) : Yields (Itt K a) ((as.zip ms).map fun u => V.ref u.1) (fun H => SqT K H a (as.map V.ref)) := by
  rw [zip_ms e]
  exact yields_tup
theorem nd_filter {t : Tab} (h : Nd t) (p : Str × V → Bool) : Nd (t.filter p) := List.Nodup.sublist ((List.filter_sublist).map _) h
theorem nd_news {ms : List (Str × V × V)} (h : (ms.map (·.1)).Nodup) : Nd (newsT ms) := by
  unfold Nd newsT
  rw [List.map_map]
  exact h
theorem nd_after {t : Tab} {ms : List (Str × V × V)} (h : Nd t) (k : (ms.map (·.1)).Nodup) : Nd (afterT t ms) := by
  unfold Nd afterT
  rw [List.map_append]
  refine List.nodup_append.mpr ⟨nd_filter h _, nd_filter (nd_news k) _, fun x hx y hy e => ?_⟩
  obtain ⟨p, hp, rfl⟩ := List.mem_map.mp hx
  obtain ⟨q, hq, rfl⟩ := List.mem_map.mp hy
  have h1 := (List.mem_filter.mp hp).2
  have h2 := val_nodup (nd_news k) q (List.mem_filter.mp hq).1
  rw [e, h2] at h1
  cases h1
theorem len_after {t : Tab} {ms : List (Str × V × V)} : (afterT t ms).length ≤ t.length + ms.length := by
  unfold afterT
  rw [List.length_append]
  have h1 := List.length_filter_le (fun p : Str × V => (valV (newsT ms) p.1).isNone) t
  have h2 := List.length_filter_le (fun p : Str × V => notNon p.2) (newsT ms)
  have h3 : (newsT ms).length = ms.length := List.length_map ..
  unfold keptT madeT
  omega
theorem val_app {t u : Tab} (x : Str) : valV (t ++ u) x = (valV t x).or (valV u x) := by
  induction t with
  | nil => rfl
  | cons p r ih =>
    by_cases h : p.1 = x
    · rw [List.cons_append, valV_pos h, valV_pos h]
      rfl
    · rw [List.cons_append, valV_neg h, valV_neg h, ih]
theorem merge_kT : ∀ {t u : Tab}, Nd (t ++ u) → mergeK (kT t) (kT u) = kT (t ++ u)
  | t, [], _ => by rw [List.append_nil]; rfl
  | t, p :: r, h => by
    have e : t ++ p :: r = (t ++ [p]) ++ r := by rw [List.append_assoc]; rfl
    have new : valV t p.1 = none := by
      cases c : valV t p.1 with
      | none => rfl
      | some v =>
        have h : ((t ++ p :: r).map (·.1)).Nodup := h
        rw [List.map_append] at h
        exact absurd rfl ((List.nodup_append.mp h).2.2 _ (valV_in c) p.1 List.mem_cons_self)
    show mergeK (putK (kT t) (.inr p.1) p.2) (kT r) = _
    rw [putK_kT, putK_new _ new, e]
    rw [e] at h
    exact merge_kT h
/-- what a table holds behind moves -/
theorem val_filter {t : Tab} (h : Nd t) (p : Str × V → Bool) (x : Str) : valV (t.filter p) x = (valV t x).bind fun v => if p (x, v) = true then some v else none := by
  induction t with
  | nil => rfl
  | cons q r ih =>
    obtain ⟨h1, h2⟩ := List.nodup_cons.mp (show ((q :: r).map (·.1)).Nodup from h)
    have ih := ih h2
    have nr : q.1 = x → valV r x = none := fun e => by
      cases c : valV r x with
      | none => rfl
      | some v => exact absurd (show q.1 ∈ r.map (·.1) by rw [e]; exact valV_in c) h1
    rw [List.filter_cons]
    by_cases e : q.1 = x
    · rw [valV_pos e]
      have eq : q = (x, q.2) := by rw [← e]
      by_cases hp : p q = true
      · rw [if_pos hp, valV_pos e]
        show some q.2 = if p (x, q.2) = true then some q.2 else none
        rw [← eq, if_pos hp]
      · rw [if_neg hp, ih, nr e]
        show none = if p (x, q.2) = true then some q.2 else none
        rw [← eq, if_neg hp]
    · rw [valV_neg e]
      by_cases hp : p q = true
      · rw [if_pos hp, valV_neg e, ih]
      · rw [if_neg hp, ih]
theorem val_after {t : Tab} {ms : List (Str × V × V)} (h : Nd t) (k : (ms.map (·.1)).Nodup) (x : Str) : valV (afterT t ms) x = match valV (newsT ms) x with
    | none => valV t x
    | some v => if notNon v = true then some v else none := by
  unfold afterT keptT madeT
  rw [val_app, val_filter h, val_filter (nd_news k)]
  cases c : valV (newsT ms) x with
  | none =>
    cases d : valV t x with
    | none => rfl
    | some v => simp [c]
  | some v =>
    cases d : valV t x with
    | none => simp
    | some w => simp [c]
/-! ### logs -/
/-- the table tells the logs: tuples of entries -/
def LogsOk (H : Hp) (t : Tab) (L : Str → List (List V)) : Prop := ∀ x, (valV t x = none ∧ L x = []) ∨ ∃ p, (L x ≠ [] ∧ valV t x = some (.ref p)) ∧ TupsAt H p (L x)
def logPut (L : Str → List (List V)) (x : Str) (e : List V) : Str → List (List V) := fun y => if y = x then L y ++ [e] else L y
def logMoves (L : Str → List (List V)) (note : List V) (ms : List (Str × V × V)) : Str → List (List V) := ms.foldl (fun L m => logPut L m.1 ([m.2.1, m.2.2] ++ note)) L
theorem LogsOk.keep {H H' : Hp} {t : Tab} {L : Str → List (List V)} (h : LogsOk H t L) (k : TupKeep H H') : LogsOk H' t L := fun x => (h x).imp id fun ⟨p, a, b⟩ => ⟨p, a, b.keep k⟩
theorem LogsOk.of {H : Hp} {t u : Tab} {L : Str → List (List V)} (h : LogsOk H t L) (e : ∀ x, valV u x = valV t x) : LogsOk H u L := fun x => by
  rw [e]
  exact h x
theorem LogsOk.put {H : Hp} {t : Tab} {L : Str → List (List V)} (h : LogsOk H t L) {x : Str} {p : Addr} {e : List V} (tp : TupsAt H p (L x ++ [e])) : LogsOk H (putK t x (.ref p)) (logPut L x e) := fun y => by
  unfold logPut
  rw [valV_put]
  by_cases c : y = x
  · rw [if_pos c, if_pos c, c]
    exact .inr ⟨p, ⟨List.append_ne_nil_of_right_ne_nil _ (fun z => nomatch z), rfl⟩, tp⟩
  · rw [if_neg c, if_neg c]
    exact h y
theorem len_put (t : Tab) (x : Str) (v : V) : (putK t x v).length ≤ t.length + 1 := length_putK t x v
theorem logMoves_take {L : Str → List (List V)} {note : List V} {ms : List (Str × V × V)} {i : Nat} {m : Str × V × V} (h : ms[i]? = some m) : logMoves L note (ms.take (i + 1)) = logPut (logMoves L note (ms.take i)) m.1 ([m.2.1, m.2.2] ++ note) := by
  unfold logMoves
  rw [List.take_add_one, h, List.foldl_append]
  rfl
theorem catA {K : PySem.W.Frag} {H : Hp} {a b : Addr} {xs ys : List V} {Q : VK} (ha : SqT K H a xs) (hb : H b = some (.tup ys)) (ny : ys ≠ []) (hz : xs.length + ys.length ≤ 1000000) (q : ∀ p H', Same H H' → H' p = some (.tup (xs ++ ys)) → Q (.ref p) H') : rCatA K (.ref a) (.ref b) H Q :=
  ⟨a, b, xs, ys, rfl, rfl, ha, SqT.of hb, small_line hz, fun e => q b H (Same.refl H) (by rw [e]; exact hb), fun _ e => absurd e ny, fun _ _ p hp => q p _ (same_new hp) upd_same⟩
/-- an entry is put behind the log of a name -/
theorem log_step {K : PySem.W.Frag} {H : Hp} {D2 nt : Addr} {lt : Tab} {L : Str → List (List V)} {x : Str} {v1 v2 n1 n2 n3 : V} {tk t1 t2 td tn : TE} {D : Ends} {σ : L2.St} (hD : H D2 = some (.dK (kT lt))) (lk : LogsOk H lt L) (hnt : H nt = some (.tup [n1, n2, n3]))
    (b : (L x).length ≤ 100000) (hl : lt.length ≤ 1000) (ek : ∀ H' Q, Q (.str x) H' → tk σ H' Q) (e1 : ∀ H' Q, Q v1 H' → t1 σ H' Q) (e2 : ∀ H' Q, Q v2 H' → t2 σ H' Q) (ed : ∀ H' Q, Q (.ref D2) H' → td σ H' Q) (en : ∀ H' Q, Q (.ref nt) H' → tn σ H' Q)
    (q : ∀ H' p, FrL [D2] H H' → TupKeep H H' → H' D2 = some (.dK (kT (putK lt x (.ref p)))) → LogsOk H' (putK lt x (.ref p)) (logPut L x ([v1, v2] ++ [n1, n2, n3])) → D.nx σ H') :
    sDPut td tk (tOp (rCatA K) (tDGet2 td tk (tTup tNil)) (tTup (tCons (tOp (rCatA K) (tTup (tCons t1 (tCons t2 tNil))) tn) tNil))) D σ H := by
  refine ed _ _ ⟨D2, rfl, .inl ⟨_, .inl hD⟩, ek _ _ ⟨Nat.zero_le _, fun pe hpe => ⟨valV lt x, ?_, ?_⟩⟩⟩
  · exact dget_kT (.inl (by rw [upd_ne (ne_of_none hD hpe)]; exact hD)) x
  · have s0 : Same H (upd H pe (.tup [])) := same_new hpe
    have p0 : (upd H pe (.tup [])) pe = some (.tup []) := upd_same
    generalize upd H pe (.tup []) = H0 at s0 p0
    obtain ⟨a, as, ea, ha, ta⟩ : ∃ (a : Addr) (as : List Addr), (valV lt x).getD (.ref pe) = .ref a ∧ H0 a = some (.tup (as.map V.ref)) ∧ Tups H0 as (L x) := by
      rcases lk x with ⟨e, l⟩ | ⟨p, ⟨_, e⟩, as, h, t⟩
      · exact ⟨pe, [], by rw [e]; rfl, p0, by rw [l]; exact Tups.nil⟩
      · exact ⟨p, as, by rw [e]; rfl, s0 _ _ h, t.keep (TupKeep.of s0)⟩
    rw [ea]
    have la : as.length ≤ 100000 := by rw [ta.1]; exact b
    refine e1 _ _ (e2 _ _ ⟨(by show 2 ≤ sizeLine; decide), fun p2 hp2 => en _ _ ?_⟩)
    refine catA (SqT.of upd_same) ((same_new hp2) _ _ (s0 _ _ hnt)) (fun z => nomatch z) (by show 2 + 3 ≤ _; decide) fun p3 H3 s3 h3 => ?_
    refine ⟨(by show 1 ≤ sizeLine; decide), fun p4 hp4 => ?_⟩
    have s04 : Same H0 (upd H3 p4 (.tup [V.ref p3])) := ((same_new hp2).trans s3).trans (same_new hp4)
    have h3' : (upd H3 p4 (.tup [V.ref p3])) p3 = some (.tup ([v1, v2] ++ [n1, n2, n3])) := (same_new hp4) _ _ h3
    have h4' : (upd H3 p4 (.tup [V.ref p3])) p4 = some (.tup [V.ref p3]) := upd_same
    generalize upd H3 p4 (.tup [V.ref p3]) = H4 at s04 h3' h4'
    refine catA (SqT.of (s04 _ _ ha)) h4' (fun z => nomatch z) (by rw [List.length_map]; show _ + 1 ≤ _; omega) fun p5 H5 s5 h5 => ?_
    have s05 := (s0.trans s04).trans s5
    have hD5 := s05 _ _ hD
    refine ed _ _ (ek _ _ ⟨D2, _, rfl, .inl ⟨kT lt, .inr x, hD5, rfl, small_lt (by rw [len_kT]; omega), rfl⟩, ?_⟩)
    rw [putK_kT]
    have kp : TupKeep H5 (upd H5 D2 (.dK (kT (putK lt x (.ref p5))))) := TupKeep.at fun xs z => by rw [hD5] at z; cases z
    have kp2 : TupKeep H (upd H5 D2 (.dK (kT (putK lt x (.ref p5))))) := (TupKeep.of s05).trans kp
    refine q _ p5 ((FrL.same s05).trans (FrL.at (List.mem_singleton_self D2))) kp2 upd_same ?_
    refine (lk.keep kp2).put ⟨as ++ [p3], ?_, ?_⟩
    · refine kp _ _ ?_
      rw [h5, List.map_append]
      rfl
    · exact ((ta.keep (TupKeep.of (s04.trans s5))).snoc (s5 _ _ h3')).keep kp
theorem logMoves_len (L : Str → List (List V)) (note : List V) (x : Str) : ∀ ms : List (Str × V × V), (logMoves L note ms x).length ≤ (L x).length + ms.length := by
  intro ms
  induction ms generalizing L with
  | nil => exact Nat.le_refl _
  | cons m r ih =>
    have := ih (logPut L m.1 ([m.2.1, m.2.2] ++ note))
    have e : (logPut L m.1 ([m.2.1, m.2.2] ++ note) x).length ≤ (L x).length + 1 := by
      unfold logPut
      split
      · rw [List.length_append]
        exact Nat.le_refl _
      · omega
    show (logMoves (logPut L m.1 ([m.2.1, m.2.2] ++ note)) note r x).length ≤ _
    rw [List.length_cons]
    omega
theorem dp_head {K : PySem.W.Frag} {H : Hp} {p : Addr} {a b : Str} (h : TupK K H p [.str a, .str b]) : Dp K H (.ref p) (.tuple [.str a, .str b]) := .tup h.sq (.cons (.str a) (.cons (.str b) .nil))
theorem shaped_head {a b : Str} (ha : OkS a) (hb : OkS b) : SeqAt.shaped (.tuple [.str a, .str b]) = true := by
  simp [SeqAt.shaped, PyData.canLay0, PyData.canLayAll0, strOk_of ha, strOk_of hb, PyData.depth, PyData.depthAll]
theorem eqv_head (a b c d : Str) : PyData.eqv (.tuple [.str a, .str b]) (.tuple [.str c, .str d]) = decide ((c, d) = (a, b)) := by
  simp only [PyData.eqv, PyData.eqvAll]
  rw [Bool.eq_iff_iff]
  simp only [Bool.and_eq_true, beq_iff_eq, decide_eq_true_eq, Prod.mk.injEq, and_true]
  exact ⟨fun ⟨x, y⟩ => ⟨x.symm, y.symm⟩, fun ⟨x, y⟩ => ⟨x.symm, y.symm⟩⟩
def flatN : V → Prop
  | .non => True
  | .str _ => True
  | _ => False
theorem scal_flat {x y : V} (hx : flatN x) (hy : flatN y) : scal x y = true := by
  cases x <;> cases y <;> first | rfl | exact hx.elim | exact hy.elim
def ledF (t : Tab) (x n : Str) : V := if x = "id" then .str n else (valV t n).getD .non
theorem flat_val {t : Tab} (h : ∀ e ∈ t, flatN e.2) (x : Str) : flatN ((valV t x).getD .non) := by
  induction t with
  | nil => exact True.intro
  | cons p r ih =>
    by_cases e : p.1 = x
    · rw [valV_pos e]
      exact h p List.mem_cons_self
    · rw [valV_neg e]
      exact ih fun q hq => h q (List.mem_cons_of_mem _ hq)
theorem flat_led {t : Tab} (h : ∀ e ∈ t, flatN e.2) (x n : Str) : flatN (ledF t x n) := by
  unfold ledF
  split
  · exact True.intro
  · exact flat_val h n
theorem flat_after {t : Tab} {ms : List (Str × V × V)} (h : ∀ e ∈ t, flatN e.2) (k : ∀ m ∈ ms, flatN m.2.2) : ∀ e ∈ afterT t ms, flatN e.2 := fun e he => by
  rcases List.mem_append.mp he with he | he
  · exact h e (List.mem_filter.mp he).1
  · obtain ⟨m, hm, rfl⟩ := List.mem_map.mp (List.mem_filter.mp he).1
    exact k m hm
end Fk

set_option maxHeartbeats 4000000
/-! What stands where references and edits are. -/
namespace Fk
open PySem PySem.Spec PyProof.Rows L2
/-- the fields of references -/
def rf (lk tb hd lg : Addr) : List (Str × V) := [("_locks", .ref lk), ("_table", .ref tb), ("_head", .ref hd), ("_logs", .ref lg)]
/-- the fields of an edit -/
def ef (R nt cl : Addr) (nh : V) (b : Bool) : List (Str × V) := [("_refs", .ref R), ("_note", .ref nt), ("_calls", .ref cl), ("_new_head", nh), ("closed", .bl b)]
/-- the calls of an edit: names, what they shall have, what they had -/
def CallsAt (H : Hp) (cl : Addr) (cs : List (Str × V × V)) : Prop := ∃ zs : List (Addr × (Str × V × V)), zs.map (·.2) = cs ∧ H cl = some (.dK (kT (zs.map fun z => (z.2.1, .ref z.1)))) ∧ ∀ z ∈ zs, H z.1 = some (.tup [z.2.2.1, z.2.2.2])
/-- the locks: those of closed edits and those of the edit at E -/
def LocksAt (H : Hp) (CE lk E : Addr) (n : Nat) : Prop := ∃ kt : Tab, H lk = some (.dK (kT kt)) ∧ Nd kt ∧ kt.length ≤ 64 ∧ (kt.filter fun p => decide (p.2 = .ref E)).length ≤ n ∧ ∀ p ∈ kt, p.2 = .ref E ∨ ∃ e dx fs, p.2 = .ref e ∧ H e = some (.ins CE dx fs) ∧ fs.lookup ("closed" : Str) = some (.bl true)
theorem mem_putK {t : Tab} {x : Str} {v : V} {p : Str × V} (h : p ∈ putK t x v) : p ∈ t ∨ p.2 = v := by
  unfold putK at h
  split at h
  · obtain ⟨q, hq, e⟩ := List.mem_map.mp h
    by_cases c : q.1 = x
    · rw [if_pos c] at e
      exact .inr (by rw [← e])
    · rw [if_neg c] at e
      exact .inl (by rw [← e]; exact hq)
  · rcases List.mem_append.mp h with h | h
    · exact .inl h
    · exact .inr (by rw [List.mem_singleton.mp h])
theorem LocksAt.keep {H H' : Hp} {CE lk E : Addr} {n : Nat} (h : LocksAt H CE lk E n) (e : ∀ o, H lk = some o → H' lk = some o) (k : ∀ a dx fs, H a = some (.ins CE dx fs) → fs.lookup ("closed" : Str) = some (.bl true) → H' a = some (.ins CE dx fs)) : LocksAt H' CE lk E n := by
  obtain ⟨kt, a, b, c, c', d⟩ := h
  exact ⟨kt, e _ a, b, c, c', fun p hp => (d p hp).imp id fun ⟨x, dx, fs, h1, h2, h3⟩ => ⟨x, dx, fs, h1, k _ _ _ h2 h3, h3⟩⟩
theorem LocksAt.same {H H' : Hp} {CE lk E : Addr} {n : Nat} (h : LocksAt H CE lk E n) (s : Same H H') : LocksAt H' CE lk E n := h.keep (fun o e => s _ _ e) fun _ _ _ e _ => s _ _ e
theorem FrL.out {L : List Addr} {H H' : Hp} (f : FrL L H H') {b : Addr} {o : HO} (e : H b = some o) (n : ∀ a ∈ L, b ≠ a) : H' b = some o := f b o (fun z => n b z rfl) e
theorem not1 {a b : Addr} (h : b ≠ a) : ∀ c ∈ [a], b ≠ c := fun c hc => by rw [List.mem_singleton.mp hc]; exact h
theorem not2 {a c b : Addr} (h : b ≠ a) (k : b ≠ c) : ∀ d ∈ [a, c], b ≠ d := fun d hd => by
  rcases List.mem_cons.mp hd with e | hd
  · rw [e]; exact h
  · rw [List.mem_singleton.mp hd]; exact k
theorem at_ne {H : Hp} {a b : Addr} {o u : HO} (h : H a = some o) (k : H b = some u) (n : o ≠ u) : a ≠ b := fun z => by
  rw [z, k] at h
  exact n (Option.some.inj h).symm
/-- what an edit has behind a call -/
def callPut (cs : List (Str × V × V)) (x : Str) (v o : V) : List (Str × V × V) := cs.filter (fun c => decide (c.1 ≠ x)) ++ [(x, v, o)]
theorem CallsAt.keep {H H' : Hp} {cl : Addr} {cs : List (Str × V × V)} (h : CallsAt H cl cs) (k : TupKeep H H') (e : ∀ o, H cl = some o → H' cl = some o) : CallsAt H' cl cs := by
  obtain ⟨zs, a, b, c⟩ := h
  exact ⟨zs, a, e _ b, fun z hz => k _ _ (c z hz)⟩
theorem calls_drop (zs : List (Addr × (Str × V × V))) (x : Str) : dropK (zs.map fun z => (z.2.1, V.ref z.1)) x = (zs.filter fun z => decide (z.2.1 ≠ x)).map fun z => (z.2.1, V.ref z.1) := by
  unfold dropK
  rw [List.filter_map]
  rfl
theorem calls_put {H : Hp} {cl p : Addr} {zs : List (Addr × (Str × V × V))} {x : Str} {v o : V} (hc : H cl = some (.dK (kT (putK (dropK (zs.map fun z => (z.2.1, V.ref z.1)) x) x (.ref p))))) (hz : ∀ z ∈ zs, H z.1 = some (.tup [z.2.2.1, z.2.2.2])) (hp : H p = some (.tup [v, o])) :
    CallsAt H cl (callPut (zs.map (·.2)) x v o) := by
  refine ⟨zs.filter (fun z => decide (z.2.1 ≠ x)) ++ [(p, x, v, o)], ?_, ?_, fun z h => ?_⟩
  · unfold callPut
    rw [List.map_append, List.filter_map]
    rfl
  · rw [hc, calls_drop, putK_new]
    · rw [List.map_append]
      rfl
    · rw [← calls_drop, valV_drop, if_pos rfl]
  · rcases List.mem_append.mp h with h | h
    · exact hz z (List.mem_filter.mp h).1
    · rw [List.mem_singleton.mp h]
      exact hp
/-! ### errors that are raised -/
def spErr (K : PySem.W.Frag) (f : Str) : Sp := fun vs H Q _ => ∃ (a C fI : Addr) (y : V), vs = [.ref a, y] ∧ XC K C fI ∧ PySem.W.findIn K (.ref C) f = some none ∧ H a = some (exo a C none) ∧
  ∀ dx, H dx = none → dx ≠ a → Q .non (upd (upd H dx (exd dx [(f, y)])) a (exo a C (some dx)))
/-- what is asked of an error's class to be raised -/
structure OexW (K : PySem.W.Frag) (C : Addr) : Prop where
  exC : PySem.W.subIn K (.ref C) (.type "BaseException") = some true
  tyC : PySem.W.typeIn K (.ref C) = some (.type "type")
instance {K : PySem.W.Frag} {C : Addr} : Coe (OexC K C) (OexW K C) := ⟨fun h => ⟨h.exC, h.tyC⟩⟩
structure ErrC (K : PySem.W.Frag) (mg : Str → Option Value) (nm f : Str) (C fI : Addr) : Prop where
  mgc : mg nm = some (.ref C)
  ox : OexW K C
  xc : XC K C fI
  nf : PySem.W.findIn K (.ref C) f = some none
  ini : ∃ fd, (∀ (P : Program) (w : World) (base : Heap), FnOk P w K mg base C8.CX0 1 fI fd ["self", f] (spErr K f)) ∧ Binds K fd ["self", f] []
section
variable {X : Cx} {nm f : Str} {C fI : Addr} {e : Expr} {es : List Expr} {t : TA} {p pos : Pos}
theorem rs_of (T : ErrC X.K X.mg nm f C fI) (hr : Room 2 X.A) (hg : Gl X nm) (ha : PA X (e :: es) t) (hdb : (nm == ("__debug__" : Str)) = false := by decide)
    (he : starEach (e :: es) X.env = (false, eval e X.env) :: starEach es X.env := by rfl) (hpl : (backTo pos (starEach es X.env)).any (·.1) = false := by rfl) :
    PMk X (.Call (.Name nm p) (e :: es) [] pos) (tMkO C (spErr X.K f) [] t) := by
  obtain ⟨fd, FI, bI⟩ := T.ini
  have F1 := FI X.prog X.w X.base
  intro pn s σ H Q I h
  obtain ⟨B, newId, initId, bmB, cn, cq, N, bs, bm, sn, sub, ab, col, dd, k0, k1, k2, k3, k5, FB, ok, _, _, hC⟩ := T.xc.cls
  refine wpAny_Call_Name_kw (ld_glob I hg T.mgc ?_ hdb)
  refine PySem.W.callWith_K (h₀ := X.base) I.ok.mod.kin T.xc.kC (thn (ha.run pos pn s σ H _ I h) fun us sA ⟨vs, HA, IA, rA, zA, qA⟩ => ⟨IA.kIn, ?_⟩) he hpl
  show wpAny _ _ (call (.ref C) us) _ _ _
  obtain ⟨hp, g, dr, tk, os⟩ := sA
  have szE : hp.objs.size ≤ hp.objs.size + 1 := Nat.le_succ _
  have qE := qA (hp.objs.size + 1) (IA.hok.fresh szE)
  rw [List.append_nil] at qE
  have stays : ∀ b o, hp.get? b = some o → ((hp.push (PySem.W.kdv_tup us)).push (PySem.HandSPX.excO C hp.objs.size)).get? b = some o := fun b o z => Heap.get?_push_of_some _ (Heap.get?_push_of_some _ z)
  have atE : ((hp.push (PySem.W.kdv_tup us)).push (PySem.HandSPX.excO C hp.objs.size)).get? (hp.objs.size + 1) = some (PySem.HandSPX.excO C hp.objs.size) := by heap_get
  have IB : Inv X pn σ (upd HA (hp.objs.size + 1) (exo (hp.objs.size + 1) C none)) ⟨(hp.push (PySem.W.kdv_tup us)).push (PySem.HandSPX.excO C hp.objs.size), g, dr, tk, os⟩ :=
    IA.laid (t' := tk) (a := hp.objs.size + 1) (o := exo (hp.objs.size + 1) C none) (h' := (hp.push (PySem.W.kdv_tup us)).push (PySem.HandSPX.excO C hp.objs.size)) stays szE (exo_ok atE)
  have rB : Vals (V.ref (hp.objs.size + 1) :: vs) (Value.ref (hp.objs.size + 1) :: us) := .cons rfl rA
  have lB : (Value.ref (hp.objs.size + 1) :: us ++ []).length = [("self" : Str), f].length := by
    rw [List.append_nil, ← F1.len _ _ _ _ qE]
    exact rB.length.symm
  have usz : us.length ≤ sizeLine := by
    rw [← Paired.length rA, sizeLine_eq]; omega
  have bB := bI _ (Value.ref (hp.objs.size + 1) :: us) IB.kIn lB
  rw [List.append_nil] at bB
  refine wpAny_call (xcall FB ok (IA.kIn _ _ hC) (PySem.W.looks_findIn IA.kIn T.xc.iC) (fun self => PySem.W.bind_fn IA.kIn self T.xc.tI) usz
    (codeAny_mono (F1.run _ X.stack _ _ ⟨Value.ref (hp.objs.size + 1) :: us, []⟩ (Value.ref (hp.objs.size + 1) :: us) _ _ (fun _ _ _ => False) (hr.make C us []) (IB.env0.make C us []) bB rB qE) fun r s' z => ?_))
  rcases r with er | (_ | _ | _ | u)
  · exact absurd z id
  · exact z.elim
  · exact z.elim
  · exact z.elim
  · obtain ⟨v, HB, osB, bareB, unB, okB, rvB, ev, d, fs, ea, ed, nd, qB⟩ := z
    subst ev
    obtain ⟨hB, gB, dB, tB, osC⟩ := s'
    exact ⟨rvB, mk_end (raises_own T.ox.exC T.ox.tyC) IA szE stays unB okB osB bareB ea ed nd qB⟩
end
/-- an error made to be raised -/
theorem do_raise {K : PySem.W.Frag} {mg : Str → Option Value} {nm f : Str} {C fI : Addr} (T : ErrC K mg nm f C fI) {Hc : Hp} {y : V} {Q : XK} (q : ∀ d H', Same Hc H' → Hc d = none → H' d = some (.xd [(f, y)]) → Q (.ref C) (some d) H') :
    ∀ a, Hc a = none → spErr K f (.ref a :: ([y] ++ [])) (upd Hc a (exo a C none)) (fun v H2 => v = .non ∧ ∃ (d : Addr) (fs : List (Str × V)), H2 a = some (exo a C (some d)) ∧ H2 d = some (exd d fs) ∧ Hc d = none ∧ Q (.ref C) (some d) (upd (del H2 a) d (.xd fs))) (fun _ _ _ => False) := by
  intro a na
  refine ⟨a, C, fI, y, rfl, T.xc, T.nf, upd_same, fun dx nd ne => ⟨rfl, dx, [(f, y)], upd_same, by rw [upd_ne ne]; exact upd_same, ?_, ?_⟩⟩
  · rw [upd_ne ne] at nd
    exact nd
  · have nd' : Hc dx = none := by rw [upd_ne ne] at nd; exact nd
    refine q dx _ (fun b o e => ?_) nd' upd_same
    have n1 : b ≠ a := ne_of_none e na
    have n2 : b ≠ dx := ne_of_none e nd'
    rw [upd_ne n2]
    unfold del
    rw [if_neg n1, upd_ne n1, upd_ne n2, upd_ne n1]
    exact e
/-! ### what an edit moves -/
def bad (t : Tab) (c : Str × V × V) : Bool := !decide (c.2.2 = .str "") && !decide (c.2.2 = (valV t c.1).getD .non)
def staleF (t : Tab) (cs : List (Str × V × V)) : Option Str := (cs.find? (bad t)).map (·.1)
def newT (cs : List (Str × V × V)) : Tab := cs.map fun c => (c.1, c.2.1)
def rowsF (t : Tab) (cs : List (Str × V × V)) (ys : List Str) : List (Str × V × V) := ys.map fun x => (x, (valV t x).getD .non, (valV (newT cs) x).getD .non)
def movesF (t : Tab) (cs : List (Str × V × V)) (ys : List Str) : List (Str × V × V) := (rowsF t cs ys).filter fun m => !decide (m.2.1 = m.2.2)
theorem stale_at {t : Tab} {cs : List (Str × V × V)} {i : Nat} {c : Str × V × V} (h : cs[i]? = some c) (g : ∀ d ∈ cs.take i, bad t d = false) (b : bad t c = true) : staleF t cs = some c.1 := by
  have e : cs = cs.take i ++ c :: cs.drop (i + 1) := by
    have hi := (List.getElem?_eq_some_iff.mp h)
    obtain ⟨hi, hc⟩ := hi
    rw [← hc, List.getElem_cons_drop, List.take_append_drop]
  unfold staleF
  rw [e, List.find?_append]
  have n : (cs.take i).find? (bad t) = none := List.find?_eq_none.mpr fun d hd z => by rw [g d hd] at z; cases z
  rw [n, List.find?_cons, b]
  rfl
theorem stale_none {t : Tab} {cs : List (Str × V × V)} (g : ∀ d ∈ cs, bad t d = false) : staleF t cs = none := by
  unfold staleF
  rw [List.find?_eq_none.mpr fun d hd z => by rw [g d hd] at z; cases z]
  rfl
theorem movesF_nd {t : Tab} {cs : List (Str × V × V)} {ys : List Str} (h : ys.Nodup) : ((movesF t cs ys).map (·.1)).Nodup := by
  refine List.Nodup.sublist ((List.filter_sublist).map _) ?_
  unfold rowsF
  rw [List.map_map]
  have : ((fun x : Str × V × V => x.1) ∘ fun x : Str => (x, (valV t x).getD V.non, (valV (newT cs) x).getD V.non)) = id := rfl
  rw [this, List.map_id]
  exact h
theorem movesF_len (t : Tab) (cs : List (Str × V × V)) (ys : List Str) : (movesF t cs ys).length ≤ ys.length := by
  have := List.length_filter_le (fun m : Str × V × V => !decide (m.2.1 = m.2.2)) (rowsF t cs ys)
  unfold rowsF at this
  rw [List.length_map] at this
  exact this
theorem flat_new {cs : List (Str × V × V)} (h : ∀ c ∈ cs, flatN c.2.1) : ∀ e ∈ newT cs, flatN e.2 := fun e he => by
  obtain ⟨c, hc, rfl⟩ := List.mem_map.mp he
  exact h c hc
theorem flat_moves {t : Tab} {cs : List (Str × V × V)} {ys : List Str} (ht : ∀ e ∈ t, flatN e.2) (h : ∀ c ∈ cs, flatN c.2.1) : ∀ m ∈ rowsF t cs ys, flatN m.2.1 ∧ flatN m.2.2 := fun m hm => by
  obtain ⟨x, _, rfl⟩ := List.mem_map.mp hm
  exact ⟨flat_val ht x, flat_val (flat_new h) x⟩
theorem have_after {t u : Tab} {ms : List (Str × V × V)} (nt : Nd t) (so : SortOf t u) (nm : (ms.map (·.1)).Nodup) : haveF ((afterT u ms).map (·.1)) = haveF ((afterT t ms).map (·.1)) :=
  have_perm (keys_perm (nd_after (so.nd nt) nm) (nd_after nt nm) fun x => by rw [val_after (so.nd nt) nm, val_after nt nm, so.2.2])
theorem yields_zipL {α : Type} {K : PySem.W.Frag} {a : Addr} {as : List Addr} {ms : List α} (e : as.length = ms.length) : Yields (Itl K a) ((as.zip ms).map fun u => V.ref u.1) (fun H => SqL K H a (as.map V.ref)) := by
  rw [zip_ms e]
  exact yields_list
end Fk

set_option maxHeartbeats 4000000
/-! x[y] of an own class. -/
namespace Fk
open PySem PySem.Spec PyProof.Rows L2
section
variable {P : Program} {w : World} {K : PySem.W.Frag} {mg : Str → Option Value} {base : Heap} {k : Nat} {C : Addr} {m : Str} {sp : Sp}
theorem ownM_of (M : C8.Met P w K mg base k C m sp []) : OwnM P w K mg base C8.CX0 k C m sp := by
  obtain ⟨f, fd, ps, ds, _, hm, F, b, d⟩ := M.ex
  cases d
  exact ⟨f, fd, ps, hm.at_, hm.fn, F, b⟩
/-- .. whose def is known as a def -/
structure GetM (P : Program) (w : World) (K : PySem.W.Frag) (mg : Str → Option Value) (base : Heap) (k : Nat) (C : Addr) (sp : Sp) : Prop where
  ex : ∃ (f : Addr) (fd : FuncData) (ps : List Str), PySem.W.findIn K (.ref C) "__getitem__" = some (some (.ref f)) ∧ PySem.W.isFn K (.ref f) = true ∧ PySem.W.fnIn K f = true ∧ FnOk P w K mg base C8.CX0 k f fd ps sp ∧ Binds K fd ps []
theorem getM_of {qual : Str} {st : Stmt} {N ps : List Str} (D : MDef K C "__getitem__" qual st) (S : FnScope N ps (C8.fnScope st))
    (hb : ∀ (kV doc pm : Value) (an : Option Addr) (cdv ct : Value) (us : List Value), us.length = ps.length → bindArgs (PySem.W.fnOf "__getitem__" qual (C8.fnArgs st) (C8.fnBody st) (C8.fnScope st) .none kV doc pm an cdv ct) ⟨us, []⟩ = pure (ps.zip us))
    (len : ∀ vs H Q E, sp vs H Q E → vs.length = ps.length)
    (hbody : ∀ (f : Addr) (cdv : Value) (A : Around) (outer : List Env) (s : Shared) (H : Hp) (vs : List V) (Q : VK) (E : XK), Room k (A.deeper (envOfC qual (C8.fnScope st) s.heap.objs.size f cdv)) → sp vs H Q E →
      ∃ t, PSs (cxOf C8.CX0 P w K mg base N qual (C8.fnScope st) f cdv A outer s H E).nox (C8.fnBody st) t ∧ t { nx := fun _ H' => Q .non H', rt := Q } (start N vs) H) : GetM P w K mg base (k + 1) C sp := by
  obtain ⟨f, fd, F, M, df⟩ := D.ex
  have G := C8.fn0 (P := P) (w := w) (mg := mg) (base := base) F S len (hbody f)
  have b := F.binds df hb
  obtain ⟨oc, od, dV, kV, doc, pm, an, cdv, ct, osl, rfl, lk, hcd⟩ := F.ex
  refine ⟨f, _, ps, M.at_, M.fn, ?_, G, b⟩
  unfold PySem.W.fnIn
  rw [lk]
end
section
variable {X : Cx} {k : Nat} {C : Addr} {sp : Sp} {o i : Expr} {td ty : TE} {pos : Pos}
def tOwnGet (C : Addr) (sp : Sp) (td ty : TE) : TE := fun σ H Q => td σ H fun x H1 => ty σ H1 fun y H2 => ∃ (a dx : Addr) (fs : List (Str × V)), x = .ref a ∧ H2 a = some (.ins C dx fs) ∧ sp [x, y] H2 Q C8.E0
theorem pe_ownGet (M : GetM X.prog X.w X.K X.mg X.base k C sp) (hr : Room (k + 1) X.A) (ho : PE X o td) (hi : PE X i ty)
    (hsl : ∀ x iv, subscripted i true (.ref x) iv = runValue (.builtin "lifetime.subscript" ⟨[.ref x, iv], []⟩) := by intro _ _; with_unfolding_all rfl) : PE X (.Subscript o i pos) (tOwnGet C sp td ty) := by
  refine ⟨fun pins s σ H Q I h => ?_⟩
  refine Subscript_ (thn (ho.run pins s σ H _ I h) fun v s1 ⟨x, H1, I1, rx, q1⟩ => thn (hi.run pins s1 σ H1 _ I1 q1) fun u s2 ⟨y, H2, I2, ry, a, dx, fs, ex, ha, q⟩ => ?_)
  subst ex
  obtain rfl : v = Value.ref a := rx
  obtain ⟨f, fd, ps, hs, hf, hfi, F, hb⟩ := M.ex
  obtain ⟨mA, J, _⟩ := ins_get I2.hok ha
  obtain ⟨od, J, _⟩ := J.look
  obtain ⟨m, hF⟩ := I2.fr
  exact PySem.W.sub_K hF I2.ok.mod.kin J hs hfi hf (run_in F hr.in1 I2.env0.in1 hb noEx0 I2 (show Vals [V.ref a, y] [Value.ref a, u] from .cons rfl (.cons ry .nil)) q) (hsl _ _)
end
end Fk

set_option maxHeartbeats 4000000
/-! xs[::-1] of a list, t[::-1] of a tuple. -/
namespace Fk
open PySem PySem.Spec PyProof.Rows L2 HT
theorem back_places (n : Nat) : Builtin.Slice.sliceAdjust none none (-1) (n : Int) = ((n : Int) - 1, -1) ∧ Builtin.Slice.slicePlaces ((n : Int) - 1) (-1) (-1) = n := by
  constructor
  · first | rfl | simp [Builtin.Slice.sliceAdjust]
  · unfold Builtin.Slice.slicePlaces
    rw [if_neg (by decide)]
    by_cases h : (n : Int) - 1 > -1
    · rw [if_pos h, show (- -1 : Int) = 1 by decide, Int.ediv_one]
      omega
    · rw [if_neg h]
      omega
theorem sliceApplied_back {prog : Program} {w : World} {A : Around} {E : Value → Shared → Prop} {s : Shared} {sl : Addr} {vk : Value} {n : Nat} {Q : Int × Int × Nat → Shared → Prop} (hs : s.heap.IsSliceOf sl .none .none vk) (pk : IsPart vk (some (-1)))
    (h : Q ((n : Int) - 1, -1, n) s) : wpAny (model prog w) A (Builtin.Slice.sliceApplied (.ref sl) (pure (n : Int))) Q E s := by
  obtain ⟨os, hos, hcs, hds⟩ := id hs
  unfold Builtin.Slice.sliceApplied Builtin.Slice.sliceFields
  refine wpAny_bind (wpAny_bind (wpAny_field hos hds (x := .none) rfl (wpAny_bind (wpAny_field hos hds (x := .none) rfl (wpAny_bind (wpAny_field hos hds (x := vk) rfl (wpAny_pure ?_)))))))
  refine wpAny_bind (slicePart_ pk ?_)
  show wpAny _ _ (if ((-1 : Int) == 0) = true then _ else _) _ _ s
  rw [if_neg (by decide)]
  refine wpAny_bind (slicePart_ .none (wpAny_bind (slicePart_ .none (wpAny_bind (wpAny_pure ?_)))))
  show wpAny _ _ (match Builtin.Slice.sliceAdjust none none (-1) (n : Int) with | (lo, hi) => pure (lo, (-1 : Int), Builtin.Slice.slicePlaces lo hi (-1))) _ _ s
  rw [(back_places n).1]
  show wpAny _ _ (pure ((n : Int) - 1, (-1 : Int), Builtin.Slice.slicePlaces ((n : Int) - 1) (-1) (-1))) _ _ s
  rw [(back_places n).2]
  exact wpAny_pure h
theorem fm_congr {α β : Type} {f g : α → Option β} : ∀ {l : List α}, (∀ x ∈ l, f x = g x) → l.filterMap f = l.filterMap g
  | [], _ => rfl
  | a :: r, h => by
    rw [List.filterMap_cons, List.filterMap_cons, h a List.mem_cons_self, fm_congr fun x hx => h x (List.mem_cons_of_mem _ hx)]
theorem pick_back (items : Array Value) : ((List.range items.size).filterMap fun (k : Nat) => items[((items.size : Int) - 1 + (k : Int) * (-1)).toNat]?) = items.toList.reverse := by
  have e : ((List.range items.size).filterMap fun (k : Nat) => items[((items.size : Int) - 1 + (k : Int) * (-1)).toNat]?) = ((List.range items.size).map fun k => items.size - 1 - k).filterMap (items[·]?) := by
    rw [List.filterMap_map]
    refine fm_congr fun k hk => ?_
    have := List.mem_range.mp hk
    show _ = items[items.size - 1 - k]?
    congr 1
    omega
  rw [e, PySem.W.krv_range, List.filterMap_reverse, PySem.W.krv_all]
theorem getItem_tuple_back {prog : Program} {w : World} {A : Around} {E : Value → Shared → Prop} {s : Shared} {t sl : Addr} {items : Array Value} {vk : Value} {Q : Value → Shared → Prop} (ht : IsTup s.heap t items) (hs : s.heap.IsSliceOf sl .none .none vk) (pk : IsPart vk (some (-1)))
    (h : Q (.ref s.heap.objs.size) { s with heap := s.heap.push { cls := .type "tuple", data := .seq items.toList.reverse.toArray } }) (hsz : items.size ≤ sizeLine) : wpAny (model prog w) A (getItem (.ref t) (.ref sl)) Q E s := by
  have htake : sizeOk (.seq items.toList.reverse.toArray) := by
    show items.toList.reverse.toArray.size ≤ sizeLine
    rw [List.size_toArray, List.length_reverse, Array.length_toList]
    exact hsz
  obtain ⟨os, hos, hcs, hds⟩ := id hs
  have hTs : s.TypeIs (.ref sl) "slice" := ⟨os, hos, hcs⟩
  unfold getItem
  try with_reducible refine wpAny_holding ?_
  first | refine wpAny_bind (wpAny_pure ?_) | skip
  refine wpAny_bind (wpAny_sequenceKey ht.typeIs (by decide) ?_)
  refine wpAny_bind (wpAny_callSpecial?_slot (name := Str.ofString "__getitem__") ht.typeIs PyProof.Rows.slot_tuple_getitem
    (wpAny_call_entry PyProof.Rows.slot_tuple_getitem ht.typeIs entry_tuple_getitem ?_ (args_tuple_getitem _ _)))
  show wpAny _ _ (Builtin.Tuple.tupleItemsOf (.ref t) >>= _) _ _ s
  refine wpAny_bind (tupleItemsOf_ ht ?_)
  refine wpAny_bind (wpAny_typeOf hTs ?_)
  rw [if_pos (by decide)]
  refine wpAny_bind (sliceApplied_back hs pk ?_)
  have hno : ¬ ((((items.size : Int) - 1) == 0 && (-1 : Int) == 1 && items.size == items.size) = true) := by
    rw [show ((-1 : Int) == 1) = false from by decide, Bool.and_false, Bool.false_and]
    exact Bool.false_ne_true
  show wpAny _ _ (if (((items.size : Int) - 1) == 0 && (-1 : Int) == 1 && items.size == items.size) = true then _ else _) _ _ s
  rw [if_neg hno, pick_back]
  first
    | exact wpAny_bind (m := Builtin.Tuple.tupleExact _) (wpAny_newObj_type (wpAny_pure ⟨_, rfl, wpAny_pure h⟩) htake)
    | exact wpAny_bind (m := Builtin.Tuple.tupleExact _) (wpAny_newObj_type (wpAny_bind (wpAny_pure (wpAny_pure ⟨_, rfl, wpAny_pure h⟩))) htake)
    | exact wpAny_bind (wpAny_bind (m := Builtin.Tuple.tupleExact _) (wpAny_newObj_type (wpAny_pure (wpAny_pure ⟨_, rfl, wpAny_pure h⟩)) htake))
    | exact wpAny_bind (wpAny_bind (m := Builtin.Tuple.tupleExact _) (wpAny_newObj_type (wpAny_pure ⟨_, rfl, wpAny_pure h⟩) htake))
def rBack (K : PySem.W.Frag) : V → Hp → VK → Prop := fun x H Q => (∃ a xs, x = .ref a ∧ SqL K H a xs ∧ ∀ p, H p = none → Q (.ref p) (upd H p (.lst xs.reverse))) ∨ ∃ a xs, x = .ref a ∧ SqT K H a xs ∧ ∀ p, H p = none → Q (.ref p) (upd H p (.tup xs.reverse))
def tBack (K : PySem.W.Frag) (te ts : TE) : TE := fun σ H Q => te σ H fun x H1 => ts σ H1 fun y H2 => y = .int (-1) ∧ rBack K x H2 Q
theorem vals_rev {xs : List V} {us : List Value} (r : Vals xs us) : Vals xs.reverse us.reverse := by
  induction r with
  | nil => exact .nil
  | cons h t ih =>
    rw [List.reverse_cons, List.reverse_cons]
    exact ih.append (.cons h .nil)
/-- e[::-1] -/
theorem pe_back {X : Cx} {e st : Expr} {te ts : TE} {p2 pos : Pos} (he : PE X e te) (hst : PE X st ts) (hp : evalPart (some st) X.env = eval st X.env := by rfl)
    (hsub : ∀ x sl : Addr, ∃ ops, subscripted (.Slice none none (some st) p2) false (.ref x) (.ref sl) = operate ops (getItem (.ref x) (.ref sl)) := by intro x sl; exact ⟨_, by with_unfolding_all rfl⟩) : PE X (.Subscript e (.Slice none none (some st) p2) pos) (tBack X.K te ts) := by
  refine ⟨fun pins s σ H Q I h => ?_⟩
  refine Subscript_ (thn (he.run pins s σ H _ I h) fun v s1 ⟨x, H1, I1, r1, q1⟩ => ?_)
  refine wpAny_Slice ?_
  rw [evalPart_none]
  refine wpAny_pure (wpAny_pure ?_)
  rw [hp]
  refine thn (hst.run pins s1 σ H1 _ I1 q1) fun vk s3 ⟨y, H3, I3, pk, ey, q3⟩ => ?_
  subst ey
  obtain ⟨tk, rfl⟩ := (show ∃ t, vk = Value.int (-1) t from pk)
  have pk' : IsPart (.int (-1) tk) (some (-1)) := .int _ _
  have I4 : Inv X pins σ H3 { s3 with heap := s3.heap.push { cls := .type "slice", data := .fields #[.none, .none, .int (-1) tk] } } := I3.kept (t' := s3.toks) fun b ob q => Heap.get?_push_of_some _ q
  have hs : Heap.IsSliceOf (s3.heap.push { cls := .type "slice", data := .fields #[.none, .none, .int (-1) tk] }) s3.heap.objs.size .none .none (.int (-1) tk) := Heap.IsSliceOf.new ..
  generalize hS : ({ s3 with heap := s3.heap.push { cls := .type "slice", data := .fields #[.none, .none, .int (-1) tk] } } : Shared) = S at I4
  have hs' : S.heap.IsSliceOf s3.heap.objs.size .none .none (.int (-1) tk) := by rw [← hS]; exact hs
  show wpAny (model X.prog X.w) X.A (subscriptTail e (.Slice none none (some st) p2) v (.ref s3.heap.objs.size)) (EP X pins σ Q) X.xe S
  rcases q3 with ⟨a, xs, rfl, hx, q⟩ | ⟨a, xs, rfl, hx, q⟩
  · cases (show v = Value.ref a from r1)
    obtain ⟨its, r, hl, hz⟩ := I4.list hx
    have hlen : its.toArray.size = xs.length := by rw [List.size_toArray]; exact r.length.symm
    obtain ⟨ops, eo⟩ := hsub a s3.heap.objs.size
    refine tail_any (T := "list") (ops := ops) hl.isList.typeIs slot_list_getitem.lookup ?_ eo
    refine wpAny_getItem_list_slice hl.isList hs' .none .none pk' (by decide) ?_ (by rw [hlen]; exact hz)
    rw [PySem.W.krv_pick]
    refine ⟨.ref S.heap.objs.size, _, I4.laid (t' := S.toks) (o := .lst xs.reverse) (fun b ob q => Heap.get?_push_of_some _ q) (Nat.le_refl _) ?_, rfl, q _ (I4.hok.fresh (Nat.le_refl _))⟩
    exact ⟨by rw [List.length_reverse]; exact hz, _, 0, (vals_rev r), Heap.get?_push_size _ rfl⟩
  · cases (show v = Value.ref a from r1)
    obtain ⟨its, r, ht, hz⟩ := I4.tuple hx
    have hlen : its.toArray.size = xs.length := by rw [List.size_toArray]; exact r.length.symm
    obtain ⟨ops, eo⟩ := hsub a s3.heap.objs.size
    refine tail_any (T := "tuple") (ops := ops) ht.typeIs PyProof.Rows.slot_tuple_getitem.lookup ?_ eo
    refine getItem_tuple_back ht hs' pk' ?_ (by rw [hlen]; exact hz)
    refine ⟨.ref S.heap.objs.size, _, I4.laid (t' := S.toks) (o := .tup xs.reverse) (fun b ob q => Heap.get?_push_of_some _ q) (Nat.le_refl _) ?_, rfl, q _ (I4.hok.fresh (Nat.le_refl _))⟩
    exact ⟨by rw [List.length_reverse]; exact hz, _, (vals_rev r), IsTup.new _ _⟩
end Fk

set_option maxHeartbeats 4000000
/-! text.encode("ascii") of a text below 128 -/
namespace Fk
open PySem PySem.Spec PySem.Calls PyProof.Rows L2
open Builtin PySem.W
def AsX (x : PySem.Str) : Prop := ∀ c ∈ x.cps.toList, c < 128
def byts (x : PySem.Str) : Array UInt8 := ⟨x.cps.toList.map (·.toUInt8)⟩
theorem byts_size (x : PySem.Str) : (byts x).size = x.length := by simp only [byts, List.size_toArray, List.length_map, Array.length_toList]; rfl
theorem fold_b (l : List Nat) : ∀ acc : Array UInt8, l.foldl (fun a y => a ++ ([y.toUInt8] : List UInt8).toArray) acc = acc ++ (⟨l.map (·.toUInt8)⟩ : Array UInt8) := by
  induction l with
  | nil => intro acc; simp
  | cons c r ih => intro acc; rw [List.foldl_cons, ih]; apply Array.toList_inj.mp; simp
theorem none_bad {x : PySem.Str} (h : AsX x) : x.cps.findIdx? (fun c => decide (c ≥ 128)) = none := by
  refine Array.findIdx?_eq_none_iff.mpr fun c hc => decide_eq_false ?_
  have := h c (Array.mem_toList_iff.mpr hc); omega
section
variable {M : Model} {A : Around} {E : Value → Shared → Prop} {s : Shared} {x : PySem.Str} {id : String} {self : Value}
theorem all_of (y : Array Nat) : y.extract 0 y.size = y := by simp
theorem wp_narrow {Q : Array UInt8 → Shared → Prop} (ha : AsX x) (hz : x.length ≤ 16777216) (h : Q (byts x) s) : wpAny M A (_codecs.encodeNarrow id _codecs.asciiCodec none self x) Q E s := by
  have z0 : ¬ sizeLine < (#[] : Array UInt8).size := by rw [sizeLine_eq]; decide
  have z1 : ¬ sizeLine < (byts x).size := by rw [byts_size, sizeLine_eq]; omega
  have out : ((x.cps.extract 0 x.cps.size).extract 0 x.cps.size).foldl (fun a y => a ++ (_codecs.asciiCodec.bytesOf y).toArray) #[] = byts x := by
    rw [all_of, all_of, ← Array.foldl_toList]; exact (fold_b x.cps.toList #[]).trans (by simp [byts])
  unfold _codecs.encodeNarrow; refine wpAny_bind ?_; rw [KPc.range_list]
  cases hn : x.length with
  | zero =>
    have e : byts x = #[] := Array.eq_empty_of_size_eq_zero ((byts_size x).trans hn)
    rw [e] at h; show wpAny M A (forIn ([] : List Nat) _ _) _ E s; rw [List.forIn_nil]
    exact wpAny_pure (wpAny_pure h)
  | succ n =>
    have h0 : 0 < x.cps.size := by have : x.cps.size = n + 1 := hn; omega
    have hg : x.cps[0]? = some (x.cps[0]'h0) := Array.getElem?_eq_getElem h0
    have hb : _codecs.asciiCodec.bad (x.cps[0]'h0) = false := decide_eq_false (by have := ha _ (Array.mem_toList_iff.mpr (Array.getElem_mem h0)); omega)
    have hc : (((x.cps.extract 0 x.cps.size).findIdx? _codecs.asciiCodec.bad).getD (x.cps.extract 0 x.cps.size).size) = x.cps.size := by
      rw [all_of]; show ((x.cps.findIdx? (fun c => decide (c ≥ 128))).getD x.cps.size) = _; rw [none_bad ha]; rfl
    rw [List.range'_succ]; refine KPc.turn (wpAny_ite (KBy.ite_no z0 ?_)); (try dsimp only); rw [hg]; (try dsimp only)
    refine wpAny_ite (KBc.ite_yes (by rw [hb]; rfl) ?_); rw [hc, out]; (try dsimp only)
    cases n with
    | zero =>
      refine wpAny_pure ?_; show wpAny M A (forIn ([] : List Nat) _ _) _ E s; rw [List.forIn_nil]
      exact wpAny_pure (wpAny_pure h)
    | succ m =>
      refine wpAny_pure ?_; rw [List.range'_succ]; refine KPc.turn (wpAny_ite (KBy.ite_no z1 ?_)); (try dsimp only)
      have he : x.cps[0 + x.cps.size]? = none := Array.getElem?_eq_none (by omega)
      rw [he]; (try dsimp only); exact wpAny_pure (wpAny_pure h)
end
theorem enc_tree2 (x : PySem.Str) (t t2 : Tok) : «str.encode» ⟨[.str x t, .str (Str.ofString "ascii") t2], []⟩ = (do ret (← _codecs.encodeRoad "str.encode" (.str x t) x (Str.ofString "ascii") none)) := by
  first | rfl | kernel_rfl
theorem road_ascii (id : String) (self : Value) (x : PySem.Str) : _codecs.encodeRoad id self x (Str.ofString "ascii") none = (do mkBytes (← _codecs.encodeNarrow id _codecs.asciiCodec none self x)) := by
  first | rfl | (unfold _codecs.encodeRoad; rfl) | (unfold _codecs.encodeRoad; simp only []; rfl)
theorem meets_ascii {x : PySem.Str} {t t2 : Tok} (ha : AsX x) (hz : x.length ≤ 16777216) : Meets («str.encode» ⟨[.str x t, .str (Str.ofString "ascii") t2], []⟩) (fun _ R s => ∀ t' k, R (.ok (.ret (.bytes (byts x) t'))) { s with toks := k }) := by
  refine .of_wp fun prog w A R s h => ?_
  rw [enc_tree2, road_ascii]
  refine wpAny_bind (wpAny_bind (wp_narrow ha hz (wpAny_mkBytes ?_ (by rw [byts_size, sizeLine_eq]; exact hz))))
  exact wpAny_pure ⟨_, rfl, h _ _⟩
/-- text.encode("ascii") -/
theorem mt_ascii {X : Cx} : MtR X "str.encode" (fun x xs H Q => ∃ a : Str, x = .str a ∧ xs = [.str (Str.ofString "ascii")] ∧ AsX a ∧ a.length ≤ 16777216 ∧ Q (.byt (byts a)) H) := by
  intro pins s σ H x xs v us Q I rx rs h
  obtain ⟨a, rfl, rfl, ha, hz, q⟩ := h
  obtain ⟨t, rfl⟩ := rx
  cases rs with
  | cons r1 r2 =>
    cases r2
    obtain ⟨t2, rfl⟩ := r1
    exact call_meets F.slot_str_encode (typeIs_str s a t) F.entry_str_encode (F.args_str_encode_2 _ _) (meets_ascii ha hz) fun t' k => ⟨.byt (byts a), H, I.tok k, ⟨t', rfl⟩, q⟩
end Fk

set_option maxHeartbeats 4000000
/-! f"{n:016x}" of a number that is not negative -/
namespace Fk
open PySem PySem.Spec PySem.Calls PyProof.Rows L2
open Builtin PySem.W
def figs (n : Nat) : List Nat := (Nat.toDigits 16 n).map Char.toNat
def hex16 (n : Nat) : PySem.Str := ⟨(List.replicate (16 - (figs n).length) 48 ++ figs n).toArray⟩
def spec16 : Float.FormatSpec := match Float.parseFormatSpec (Str.ofString "016x").cps.toList "int" 62 with
  | .ok f => f
  | .error _ => ⟨0, 0, none, false, false, none, none, none, none⟩
def text16 (a : Int) : PySem.Str := intField' spec16 (decide (a < 0)) [] ((Nat.toDigits 16 a.natAbs).map fun c => (if (120 : Nat) == 88 then c.toUpper else c).toNat) [] 4
theorem spec_is : spec16.fill = 48 ∧ spec16.align = 61 ∧ spec16.width = some 16 ∧ spec16.grouping = none ∧ spec16.sign = none := by decide +kernel
theorem meets_hex {a : Int} {t : Tok} (hl : (text16 a).length ≤ sizeLine) : ∀ u, Meets («int.__format__» ⟨[.int a t, .str (Str.ofString "016x") u], []⟩) (fun _ R s => ∀ t' k, R (.ok (.ret (.str (text16 a) t'))) { s with toks := k }) := by
  intro _
  apply KPc.meets_of
  intro _ _ _ _ _ _ hq
  unfold Builtin.«int.__format__»; refine wpAny_bind (wpAny_of_eq (a := (_, _)) rfl ?_); refine wpAny_bind (wpAny_of_eq (a := _) rfl ?_)
  kxf_if
  refine wpAny_bind (wpAny_typeNameOf (T := "str") (typeIs_str _ _ _) (by decide) fun _ => ?_); refine wpAny_bind (wpAny_of_eq (a := some _) rfl ?_)
  kxf_if; kxf_if
  refine wpAny_bind (wpAny_typeNameOfCut_int ?_)
  repeat kxf_if
  refine KXf.ret_text (T := text16 a) ?_ ?_ hq
  · first | rfl | kernel_rfl
  · exact hl
theorem core_len (b : Nat) (hb : 1 < b) : ∀ (k fuel n : Nat) (ds : List Char), 1 ≤ k → n < b ^ k → (Nat.toDigitsCore b fuel n ds).length ≤ ds.length + k
  | _, 0, _, ds, _, _ => by unfold Nat.toDigitsCore; omega
  | k, fuel + 1, n, ds, hk, hn => by
    unfold Nat.toDigitsCore; simp only
    split
    · simp only [List.length_cons]; omega
    · rename_i h0
      cases k with
      | zero => omega
      | succ j =>
        cases j with
        | zero => exact absurd (Nat.div_eq_of_lt (by simpa using hn)) h0
        | succ i =>
          have h1 : n / b < b ^ (i + 1) := Nat.div_lt_of_lt_mul (by rw [Nat.pow_succ, Nat.mul_comm] at hn; exact hn)
          have := core_len b hb (i + 1) fuel (n / b) (Nat.digitChar (n % b) :: ds) (by omega) h1
          simp only [List.length_cons] at this; omega
theorem figs_len {n : Nat} (h : n < 16 ^ 16) : (figs n).length ≤ 16 := by
  have := core_len 16 (by decide) 16 (n + 1) n [] (by decide) h
  unfold figs; rw [List.length_map]; simpa [Nat.toDigits] using this
theorem figs_ne (n : Nat) : (figs n).isEmpty = false := by
  have := tDigits_len_ge 16 n
  cases e : figs n with
  | nil => have h2 : (figs n).length = 0 := by rw [e]; rfl
           unfold figs at h2; rw [List.length_map] at h2; omega
  | cons c r => rfl
theorem text_hex {n : Nat} (h : n < 16 ^ 16) : text16 (n : Int) = hex16 n := by
  obtain ⟨f1, f2, f3, f4, f5⟩ := spec_is
  have hl := figs_len h
  have hn := figs_ne n
  have e0 : decide ((n : Int) < 0) = false := decide_eq_false (by omega)
  have e1 : ((Nat.toDigits 16 (n : Int).natAbs).map fun c => (if (120 : Nat) == 88 then c.toUpper else c).toNat) = figs n := rfl
  unfold text16 intField' hex16
  rw [e0, e1]
  simp only [f1, f2, f3, f4, f5, hn, Bool.false_eq_true, if_false, List.length_nil, List.append_nil, List.nil_append, List.length_append, List.length_replicate, beq_self_eq_true, Bool.and_true, if_true]
  simp
  omega
theorem hex_len {n : Nat} (h : n < 16 ^ 16) : (hex16 n).length = 16 := by
  have := figs_len h
  show ((List.replicate (16 - (figs n).length) 48 ++ figs n).toArray).size = 16
  rw [List.size_toArray, List.length_append, List.length_replicate]; omega
def HX : List Nat := [48, 49, 50, 51, 52, 53, 54, 55, 56, 57, 97, 98, 99, 100, 101, 102]
theorem dig_in : ∀ d : Fin 16, (Nat.digitChar d).toNat ∈ HX := by decide +kernel
theorem core_in : ∀ (fuel n : Nat) (ds : List Char), (∀ c ∈ ds, c.toNat ∈ HX) → ∀ c ∈ Nat.toDigitsCore 16 fuel n ds, c.toNat ∈ HX
  | 0, _, ds, h => by unfold Nat.toDigitsCore; exact h
  | fuel + 1, n, ds, h => by
    have h2 : ∀ c ∈ Nat.digitChar (n % 16) :: ds, c.toNat ∈ HX := fun c hc => by
      rcases List.mem_cons.mp hc with rfl | hc
      · exact dig_in ⟨n % 16, Nat.mod_lt _ (by decide)⟩
      · exact h c hc
    unfold Nat.toDigitsCore; simp only
    split
    · exact h2
    · exact core_in fuel (n / 16) _ h2
theorem hex_in {n c : Nat} (h : c ∈ (hex16 n).cps.toList) : c ∈ HX := by
  have h : c ∈ List.replicate (16 - (figs n).length) 48 ++ figs n := h
  rcases List.mem_append.mp h with h | h
  · rw [(List.mem_replicate.mp h).2]; decide
  · obtain ⟨d, hd, rfl⟩ := List.mem_map.mp h
    exact core_in (n + 1) n [] (fun c hc => by cases hc) d hd
/-- {n:016x} -/
def tHex (te : TE) : TE := fun σ H Q => te σ H fun x H1 => ∃ n : Nat, x = .int n ∧ n < 16 ^ 16 ∧ Q (.str (hex16 n)) H1
theorem pe_hex {X : Cx} {e sp : Expr} {te : TE} {pos : Pos} (he : PE X e te) (hs : PE X sp (tC (.str (Str.ofString "016x")))) : PE X (.FormattedValue e (-1) (some sp) pos) (tHex te) := by
  refine ⟨fun pins s σ H Q I h => wpAny_FormattedValue_spec (thn (he.run pins s σ H _ I h) fun v s1 hv => ?_)⟩
  obtain ⟨x, H1, I1, r1, n, rfl, hn, q⟩ := hv
  obtain ⟨t, rfl⟩ := r1
  refine thn (hs.run pins s1 σ H1 (fun y H2 => y = .str (Str.ofString "016x") ∧ H2 = H1) I1 ⟨rfl, rfl⟩) fun u s2 hu => ?_
  obtain ⟨y, H2, I2, r2, rfl, rfl⟩ := hu
  obtain ⟨t2, rfl⟩ := r2
  have hz : (text16 (n : Int)).length ≤ sizeLine := by rw [text_hex hn, hex_len hn]; decide
  refine ⟨_, t2, rfl, KXf.field_int (y := text16 (n : Int)) rfl (by decide) (by decide) (fun u => meets_hex hz u) fun t' k => ?_⟩
  rw [text_hex hn]
  exact ⟨.str (hex16 n), H2, I2.tok k, ⟨t', rfl⟩, q⟩
end Fk

set_option maxHeartbeats 4000000
/-! What calls make of a table, one by one and by moves. -/
namespace Fk
open PySem PySem.Spec PyProof.Rows L2
def stepT (u : Tab) (c : Str × V × V) : Tab := if notNon c.2.1 = true then putK (dropK u c.1) c.1 c.2.1 else dropK u c.1
def lawT (t : Tab) (cs : List (Str × V × V)) : Tab := cs.foldl stepT t
theorem nd_step {t : Tab} (h : Nd t) (c : Str × V × V) : Nd (stepT t c) := by
  unfold stepT
  split
  · exact nd_put (nd_drop h c.1) _ _
  · exact nd_drop h c.1
theorem nd_lawT {t : Tab} (h : Nd t) : ∀ cs, Nd (lawT t cs) := fun cs => by
  unfold lawT
  induction cs generalizing t with
  | nil => exact h
  | cons c r ih => exact ih (nd_step h c)
theorem len_step (t : Tab) (c : Str × V × V) : (stepT t c).length ≤ t.length + 1 := by
  unfold stepT
  have h := dropK_le t c.1
  split
  · have := len_put (dropK t c.1) c.1 c.2.1
    omega
  · omega
theorem len_lawT (t : Tab) (cs : List (Str × V × V)) : (lawT t cs).length ≤ t.length + cs.length := by
  unfold lawT
  induction cs generalizing t with
  | nil => exact Nat.le_refl _
  | cons c r ih =>
    have := ih (stepT t c)
    have := len_step t c
    rw [List.foldl_cons, List.length_cons]
    omega
theorem val_step (t : Tab) (c : Str × V × V) (x : Str) : valV (stepT t c) x = if x = c.1 then (if notNon c.2.1 = true then some c.2.1 else none) else valV t x := by
  unfold stepT
  by_cases h : notNon c.2.1 = true
  · rw [if_pos h, valV_put, valV_drop]
    by_cases e : x = c.1
    · rw [if_pos e, if_pos e, if_pos h]
    · rw [if_neg e, if_neg e, if_neg e]
  · rw [if_neg h, valV_drop]
    by_cases e : x = c.1
    · rw [if_pos e, if_pos e, if_neg h]
    · rw [if_neg e, if_neg e]
theorem val_lawT (x : Str) : ∀ (cs : List (Str × V × V)) (t : Tab), (cs.map (·.1)).Nodup → valV (lawT t cs) x = match valV (newT cs) x with
    | none => valV t x
    | some v => if notNon v = true then some v else none
  | [], t, _ => rfl
  | c :: r, t, h => by
    obtain ⟨h1, h2⟩ := List.nodup_cons.mp (show (c.1 :: r.map (·.1)).Nodup from h)
    show valV (lawT (stepT t c) r) x = match valV ((c.1, c.2.1) :: newT r) x with
      | none => valV t x
      | some v => if notNon v = true then some v else none
    rw [val_lawT x r (stepT t c) h2]
    by_cases e : c.1 = x
    · have n : valV (newT r) x = none := by
        cases q : valV (newT r) x with
        | none => rfl
        | some v =>
          have m := valV_in q
          unfold newT at m
          rw [List.map_map] at m
          exact absurd (show c.1 ∈ r.map (·.1) by rw [e]; exact m) h1
      rw [n, valV_pos e]
      show valV (stepT t c) x = if notNon c.2.1 = true then some c.2.1 else none
      rw [val_step, if_pos e.symm]
    · rw [valV_neg e]
      cases q : valV (newT r) x with
      | none =>
        show valV (stepT t c) x = valV t x
        rw [val_step, if_neg (fun z => e z.symm)]
      | some v => rfl
theorem news_moves (t : Tab) (cs : List (Str × V × V)) {ys : List Str} (h : ys.Nodup) (x : Str) : valV (newsT (movesF t cs ys)) x = if x ∈ ys ∧ ¬ (valV t x).getD .non = (valV (newT cs) x).getD .non then some ((valV (newT cs) x).getD .non) else none := by
  have e : newsT (movesF t cs ys) = (ys.map fun x => (x, (valV (newT cs) x).getD .non)).filter fun p => !decide ((valV t p.1).getD .non = p.2) := by
    unfold newsT movesF rowsF
    rw [List.filter_map, List.filter_map, List.map_map]
    rfl
  have nd : Nd (ys.map fun x => (x, (valV (newT cs) x).getD .non)) := by
    unfold Nd
    rw [List.map_map]
    have : ((fun x : Str × V => x.1) ∘ fun x : Str => (x, (valV (newT cs) x).getD V.non)) = id := rfl
    rw [this, List.map_id]
    exact h
  rw [e, val_filter nd, val_keys (fun x => (valV (newT cs) x).getD .non)]
  by_cases m : x ∈ ys
  · rw [if_pos m]
    by_cases d : (valV t x).getD .non = (valV (newT cs) x).getD .non
    · rw [if_neg (fun z => z.2 d)]
      simp [d]
    · rw [if_pos ⟨m, d⟩]
      simp [d]
  · rw [if_neg m, if_neg (fun z => m z.1)]
    rfl
theorem notNon_some {v : V} (h : notNon v = true) : v ≠ .non := fun z => by rw [z] at h; cases h
theorem nn_of {v : V} (h : ¬ notNon v = true) : v = .non := by
  cases v <;> first | rfl | exact absurd rfl h
/-- moves and calls make the same -/
theorem after_law {t : Tab} {cs : List (Str × V × V)} {ys : List Str} (nt : Nd t) (vs : ∀ e ∈ t, notNon e.2 = true) (nc : (cs.map (·.1)).Nodup) (hp : ys.Perm (cs.map (·.1))) (x : Str) : valV (afterT t (movesF t cs ys)) x = valV (lawT t cs) x := by
  have ny : ys.Nodup := hp.nodup_iff.mpr nc
  rw [val_after nt (movesF_nd ny), news_moves t cs ny, val_lawT x cs t nc]
  have mk : x ∈ ys ↔ (valV (newT cs) x).isSome = true := by
    rw [hp.mem_iff, ← mem_val]
    unfold newT
    rw [List.map_map]
    rfl
  cases q : valV (newT cs) x with
  | none =>
    have nx : ¬ x ∈ ys := fun z => by have := mk.mp z; rw [q] at this; cases this
    rw [if_neg (fun z => nx z.1)]
  | some v =>
    have yx : x ∈ ys := mk.mpr (by rw [q]; rfl)
    by_cases d : (valV t x).getD .non = v
    · rw [if_neg (fun z => z.2 d)]
      show valV t x = if notNon v = true then some v else none
      cases c : valV t x with
      | none =>
        rw [c] at d
        rw [← d]
        rfl
      | some w =>
        rw [c] at d
        have d : w = v := d
        obtain ⟨p, hp2, ep⟩ := List.mem_map.mp (valV_in c)
        have v1 := val_nodup nt p hp2
        rw [ep, c] at v1
        have := vs p hp2
        rw [← Option.some.inj v1, d] at this
        rw [if_pos this, d]
    · rw [if_pos ⟨yx, d⟩]
      rfl
/-- moves, name by name -/
theorem movesF_snoc (t : Tab) (cs : List (Str × V × V)) (ys : List Str) (y : Str) : movesF t cs (ys ++ [y]) = movesF t cs ys ++ (if (valV t y).getD .non = (valV (newT cs) y).getD .non then [] else [(y, (valV t y).getD .non, (valV (newT cs) y).getD .non)]) := by
  unfold movesF rowsF
  rw [List.map_append, List.filter_append]
  congr 1
  by_cases d : (valV t y).getD .non = (valV (newT cs) y).getD .non
  · rw [if_pos d]
    simp [d]
  · rw [if_neg d]
    simp [d]
theorem logMoves_app (L : Str → List (List V)) (note : List V) (ms : List (Str × V × V)) (m : Str × V × V) : logMoves L note (ms ++ [m]) = logPut (logMoves L note ms) m.1 ([m.2.1, m.2.2] ++ note) := by
  unfold logMoves
  rw [List.foldl_append]
  rfl
/-- lists stay -/
def LstKeep (H H' : Hp) : Prop := ∀ b xs, H b = some (.lst xs) → H' b = some (.lst xs)
theorem LstKeep.of {H H' : Hp} (s : Same H H') : LstKeep H H' := fun b xs e => s b _ e
theorem LstKeep.trans {H H1 H2 : Hp} (a : LstKeep H H1) (b : LstKeep H1 H2) : LstKeep H H2 := fun c xs e => b c xs (a c xs e)
theorem LstKeep.at {a : Addr} {H : Hp} {o : HO} (n : ∀ xs, H a ≠ some (.lst xs)) : LstKeep H (upd H a o) := fun b xs e => by
  have z : b ≠ a := fun z => n xs (by rw [← z]; exact e)
  rw [upd_ne z]
  exact e
/-! ### the model -/
def modelT (mt mh ml : Addr) : Tab := [("table", .ref mt), ("head", .ref mh), ("logs", .ref ml)]
/-- the model's logs: lists of entries -/
def LogsL (H : Hp) (t : Tab) (L : Str → List (List V)) : Prop := ∀ x, (valV t x = none ∧ L x = []) ∨ ∃ (p : Addr) (as : List Addr), valV t x = some (.ref p) ∧ H p = some (.lst (as.map V.ref)) ∧ Tups H as (L x)
def ModAt (K : PySem.W.Frag) (H : Hp) (m mt mh ml : Addr) (t lt : Tab) (x n : Str) : Prop := H m = some (.dK (kT (modelT mt mh ml))) ∧ H mt = some (.dK (kT t)) ∧ TupK K H mh [.str x, .str n] ∧ H ml = some (.dK (kT lt))
theorem mod_get {H : Hp} {m mt mh ml : Addr} (h : H m = some (.dK (kT (modelT mt mh ml)))) : DGet H m (.str "table") (some (.ref mt)) ∧ DGet H m (.str "head") (some (.ref mh)) ∧ DGet H m (.str "logs") (some (.ref ml)) := ⟨dget_kT (.inl h) "table", dget_kT (.inl h) "head", dget_kT (.inl h) "logs"⟩
theorem ModAt.same {K : PySem.W.Frag} {H H' : Hp} {m mt mh ml : Addr} {t lt : Tab} {x n : Str} (h : ModAt K H m mt mh ml t lt x n) (s : Same H H') : ModAt K H' m mt mh ml t lt x n := ⟨s _ _ h.1, s _ _ h.2.1, h.2.2.1.keep (TupKeep.of s), s _ _ h.2.2.2⟩
theorem LogsL.same {H H' : Hp} {t : Tab} {L : Str → List (List V)} (h : LogsL H t L) (s : Same H H') : LogsL H' t L := fun x => (h x).imp id fun ⟨p, as, a, b, c⟩ => ⟨p, as, a, s _ _ b, c.keep (TupKeep.of s)⟩
theorem LogsL.keep {H H' : Hp} {t : Tab} {L : Str → List (List V)} (h : LogsL H t L) (k : TupKeep H H') (l : LstKeep H H') : LogsL H' t L := fun x => (h x).imp id fun ⟨p, as, a, b, c⟩ => ⟨p, as, a, l _ _ b, c.keep k⟩
theorem LogsL.put {H : Hp} {t : Tab} {L : Str → List (List V)} (h : LogsL H t L) {x : Str} {p : Addr} {e : List V} {as : List Addr} (hp : H p = some (.lst (as.map V.ref))) (tp : Tups H as (L x ++ [e])) : LogsL H (putK t x (.ref p)) (logPut L x e) := fun y => by
  unfold logPut
  rw [valV_put]
  by_cases c : y = x
  · rw [if_pos c, if_pos c, c]
    exact .inr ⟨p, as, rfl, hp, tp⟩
  · rw [if_neg c, if_neg c]
    exact h y
theorem log_stepL {H : Hp} {ml en : Addr} {lt : Tab} {L : Str → List (List V)} {x : Str} {ent : List V} {tk td te : TE} {D : Ends} {σ : L2.St} (hD : H ml = some (.dK (kT lt))) (ll : LogsL H lt L) (he : H en = some (.tup ent))
    (b : (L x).length ≤ 100000) (hl : lt.length ≤ 1000) (ek : ∀ H' Q, Q (.str x) H' → tk σ H' Q) (ed : ∀ H' Q, Same H H' → Q (.ref ml) H' → td σ H' Q) (ee : ∀ H' Q, Q (.ref en) H' → te σ H' Q)
    (q : ∀ H' p, FrL [ml] H H' → TupKeep H H' → LstKeep H H' → H' ml = some (.dK (kT (putK lt x (.ref p)))) → LogsL H' (putK lt x (.ref p)) (logPut L x ent) → D.nx σ H') :
    sDPut td tk (tOp rCat (tDGet2 td tk (tLst tNil)) (tLst (tCons te tNil))) D σ H := by
  refine ed _ _ (Same.refl H) ⟨ml, rfl, .inl ⟨_, .inl hD⟩, ek _ _ ⟨Nat.zero_le _, fun pe hpe => ⟨valV lt x, ?_, ?_⟩⟩⟩
  · exact dget_kT (.inl (by rw [upd_ne (ne_of_none hD hpe)]; exact hD)) x
  · have s0 : Same H (upd H pe (.lst [])) := same_new hpe
    have p0 : (upd H pe (.lst [])) pe = some (.lst []) := upd_same
    generalize upd H pe (.lst []) = H0 at s0 p0
    obtain ⟨a, as, ea, ha, ta⟩ : ∃ (a : Addr) (as : List Addr), (valV lt x).getD (.ref pe) = .ref a ∧ H0 a = some (.lst (as.map V.ref)) ∧ Tups H0 as (L x) := by
      rcases ll x with ⟨e, l⟩ | ⟨p, as, e, h, t⟩
      · exact ⟨pe, [], by rw [e]; rfl, p0, by rw [l]; exact Tups.nil⟩
      · exact ⟨p, as, by rw [e]; rfl, s0 _ _ h, t.keep (TupKeep.of s0)⟩
    rw [ea]
    have la : as.length ≤ 100000 := by rw [ta.1]; exact b
    refine ee _ _ ⟨(by show 1 ≤ sizeLine; decide), fun p2 hp2 => ⟨a, p2, _, _, rfl, rfl, (same_new hp2) _ _ ha, upd_same, small_line (by rw [List.length_map]; show _ + 1 ≤ _; omega), fun p3 hp3 => ?_⟩⟩
    have s03 : Same H0 (upd (upd H0 p2 (.lst [V.ref en])) p3 (.lst (as.map V.ref ++ [V.ref en]))) := (same_new hp2).trans (same_new hp3)
    have h3 : (upd (upd H0 p2 (.lst [V.ref en])) p3 (.lst (as.map V.ref ++ [V.ref en]))) p3 = some (.lst ((as ++ [en]).map V.ref)) := by
      rw [upd_same, List.map_append]
      rfl
    generalize upd (upd H0 p2 (.lst [V.ref en])) p3 (.lst (as.map V.ref ++ [V.ref en])) = H5 at s03 h3
    have s05 := s0.trans s03
    have hD5 := s05 _ _ hD
    refine ed _ _ s05 (ek _ _ ⟨ml, _, rfl, .inl ⟨kT lt, .inr x, hD5, rfl, small_lt (by rw [len_kT]; omega), rfl⟩, ?_⟩)
    rw [putK_kT]
    have kp : TupKeep H5 (upd H5 ml (.dK (kT (putK lt x (.ref p3))))) := TupKeep.at fun xs z => by rw [hD5] at z; cases z
    have kl : LstKeep H5 (upd H5 ml (.dK (kT (putK lt x (.ref p3))))) := LstKeep.at fun xs z => by rw [hD5] at z; cases z
    have kp2 := (TupKeep.of s05).trans kp
    have kl2 := (LstKeep.of s05).trans kl
    refine q _ p3 ((FrL.same s05).trans (FrL.at (List.mem_singleton_self ml))) kp2 kl2 upd_same ?_
    exact (ll.keep kp2 kl2).put (kl _ _ h3) (((ta.keep (TupKeep.of s03)).snoc (s05 _ _ he)).keep kp)
def callL (c : Str × V × V) : List V := [.str c.1, c.2.1, c.2.2]
/-- the law's own list of the calls -/
def CallsL (H : Hp) (lc : Addr) (cs : List (Str × V × V)) : Prop := ∃ as : List Addr, H lc = some (.lst (as.map V.ref)) ∧ Tups H as (cs.map callL)
theorem ok_prefixes {x : Str} (h : OkS x) : ∀ y ∈ prefixesF x, OkS y := fun y hy => by
  obtain ⟨k, _, rfl⟩ := List.mem_map.mp hy
  exact ok_join ok_slash fun p hp => segs_ok x h p (List.mem_of_mem_take hp)
theorem have_any {ks : List Str} (h : haveF ks = false) : ∀ x ∈ ks, ((prefixesF x).any fun y => decide (y ∈ ks)) = false := fun x hx => by
  unfold haveF at h
  exact Bool.eq_false_iff.mpr fun z => by
    rw [List.any_eq_true.mpr ⟨x, hx, z⟩] at h
    cases h
theorem law_new_at {t : Tab} {cs : List (Str × V × V)} {y : Str} (nc : (cs.map (·.1)).Nodup) (h : y ∈ cs.map (·.1)) : (valV (lawT t cs) y).getD .non = (valV (newT cs) y).getD .non := by
  rw [val_lawT y cs t nc]
  have m : (valV (newT cs) y).isSome = true := by
    rw [← mem_val]
    unfold newT
    rw [List.map_map]
    exact h
  cases c : valV (newT cs) y with
  | none => rw [c] at m; cases m
  | some v =>
    show (if notNon v = true then some v else none).getD .non = v
    by_cases d : notNon v = true
    · rw [if_pos d]
      rfl
    · rw [if_neg d, nn_of d]
      rfl
theorem mem_keys_put {t : Tab} {x y : Str} {v : V} (h : y ∈ (putK t x v).map (·.1)) : y ∈ t.map (·.1) ∨ y = x := by
  have := mem_val.mp h
  rw [valV_put] at this
  by_cases c : y = x
  · exact .inr c
  · rw [if_neg c] at this
    exact .inl (mem_val.mpr this)
theorem flat_lawT {t : Tab} {cs : List (Str × V × V)} (ht : ∀ e ∈ t, flatN e.2) (hc : ∀ c ∈ cs, flatN c.2.1) : ∀ e ∈ lawT t cs, flatN e.2 := by
  unfold lawT
  induction cs generalizing t with
  | nil => exact ht
  | cons c r ih =>
    refine ih (fun e he => ?_) fun d hd => hc d (List.mem_cons_of_mem _ hd)
    unfold stepT at he
    have dr : ∀ e ∈ dropK t c.1, flatN e.2 := fun e he => ht e (dropK_mem he)
    split at he
    · rcases mem_putK he with h | h
      · exact dr e h
      · rw [h]
        exact hc c List.mem_cons_self
    · exact dr e he
end Fk

set_option maxHeartbeats 4000000
/-! A try with several except clauses, of which any may have a name. -/
namespace Fk
open PySem PySem.Spec PyProof.Rows L2
/-- a clause with a name: slot i is the error's within the suite, and nothing's behind it -/
def asTS (i : Nat) (ts : Addr → Value → Option Addr → TS) : Addr → Value → Option Addr → TS := fun a cls d D σ H =>
  ts a cls d { nx := fun σ' H' => D.nx (σ'.set i none) H', rt := D.rt, bk := fun σ' H' => D.bk (σ'.set i none) H', ct := fun σ' H' => D.ct (σ'.set i none) H' } (σ.set i (some (.ref a))) H
inductive HdA (X : Cx) : List ExceptHandler → List (Value × (Addr → Value → Option Addr → TS)) → Prop
  | nil : HdA X [] []
  | cons {x : Str} {c : Value} {ts : Addr → Value → Option Addr → TS} {b₀ : Stmt} {suite : List Stmt} {np pos' : Pos} {hds : List ExceptHandler} {l : List (Value × (Addr → Value → Option Addr → TS))} (hc : Names X x c)
      (hsu : ∀ (a : Addr) (oe : Obj) (cls : Value) (d : Option Addr) (pn : List (Addr × Obj)), Zc cls d oe → (∃ vs, oe.data = .fields vs) → PSs (X.suite a ((a, oe) :: pn)) (b₀ :: suite) (ts a cls d)) (r : HdA X hds l) :
      HdA X (.ExceptHandler (some (.Name x np)) none (b₀ :: suite) pos' :: hds) ((c, ts) :: l)
  | as {x n : Str} {i : Nat} {c : Value} {ts : Addr → Value → Option Addr → TS} {b₀ : Stmt} {suite : List Stmt} {np pos' : Pos} {hds : List ExceptHandler} {l : List (Value × (Addr → Value → Option Addr → TS))} (hN : X.N.Nodup) (hi : X.N[i]? = some n) (hln : X.env.kindOf n = some .local) (hc : Names X x c)
      (hsu : ∀ (a : Addr) (oe : Obj) (cls : Value) (d : Option Addr) (pn : List (Addr × Obj)), Zc cls d oe → (∃ vs, oe.data = .fields vs) → PSs (X.suite a ((a, oe) :: pn)) (b₀ :: suite) (ts a cls d)) (r : HdA X hds l) :
      HdA X (.ExceptHandler (some (.Name x np)) (some n) (b₀ :: suite) pos' :: hds) ((c, asTS i ts) :: l)
section
variable {X : Cx} {body : List Stmt} {h₀ : ExceptHandler} {hds : List ExceptHandler} {l : List (Value × (Addr → Value → Option Addr → TS))} {pos : Pos} {tb : WX → TS} {Wout : WX}
theorem ps_tryA (hs : X.stack = X.env :: X.outer) (hf : X.env.frame = some X.env.locals) (tk : Takes X Wout)
    (hb : ∀ (W : WX) (pn : List (Addr × Obj)) (xe : Value → Shared → Prop), Takes (X.tr pn xe) W → PassesOwn (model X.prog X.w) X.A X.env xe → PSs (X.tr pn xe) body (tb W))
    (hh : HdA X (h₀ :: hds) l) : PS X (.Try body (h₀ :: hds) [] [] pos) (fun D σ H => tb (wMany X.K Wout D l) D σ H) := by
  refine ⟨fun pins s σ H D I h => ?_⟩
  have ok := I.ok
  have hfr : X.A.frames = some (X.env :: X.outer) := by rw [ok.frames, hs]
  refine wpAny_Try_except ?_
  refine wpAny_mono ((hb (wMany X.K Wout D l) (X.pn ++ pins) (fun e s₁ => wpAny (model X.prog X.w) X.A (noteFrame e X.env) (fun _ s₂ => wpAny (model X.prog X.w) X.A (setFlight e none) (fun _ s₃ =>
    wpAny (model X.prog X.w) X.A (handleBy e X.env (h₀ :: hds)) (SP X pins D) X.xe s₃) X.xe s₂) X.xe s₁) (fun u s' xx => ?_) PassesOwn.looking).run [] s σ H D (I.toTry _) h) (fun f s1 hsp => ?_) (fun e s1 he => he)
  · obtain ⟨a, B, sI, pins', σ', H', cls, d, rfl, J', nb, up, sky, na, os, ag, w⟩ := xx
    have J : Inv X pins σ' H' sI := J'.ofTry ok
    have sky' : Sky B (X.env :: X.outer) a (Zc cls d) X.env.locals s'.heap := by rw [← hs]; exact sky
    show wpAny (model X.prog X.w) X.A (noteFrame (.ref a) X.env) _ _ _
    refine Sky.land Zc.steady hfr hf sky' fun h3 fl3 up3 => ?_
    have J3 : Inv X pins σ' H' { s' with heap := h3 } := J.landed nb fl3.1 (up.trans up3) os ag
    obtain ⟨oe3, vs3, he3, hz3, hd3⟩ := fl3.there
    have notFr : ∀ {h : Heap} {o : Obj} {vs : Array Value}, h.FunFrames B (X.env :: X.outer) → h.get? a = some o → o.data = .fields vs → a ∉ frs (X.env :: X.outer) := fun {h o vs} ff e dd hm => by
      obtain ⟨_, o', e', hnf⟩ := ff.mem hm
      rw [e] at e'; cases e'
      exact hnf _ dd
    have nfr := notFr fl3.2.2.1 he3 hd3
    have nL : a ≠ X.env.locals := fun z => nfr (List.mem_filterMap.mpr ⟨X.env, List.mem_cons_self, by rw [hf, z]⟩)
    have nF : a ∉ X.fs := fun hm => by
      obtain ⟨e, he, q⟩ := List.mem_filterMap.mp hm
      exact nfr (List.mem_filterMap.mpr ⟨e, List.mem_cons_of_mem _ he, q⟩)
    have S3 := J3.suite he3 hd3 na nL nF
    have go : ∀ {hds' : List ExceptHandler} {l' : List (Value × (Addr → Value → Option Addr → TS))}, HdA X hds' l' → wMany X.K Wout D l' cls d σ' H' →
        wpAny (model X.prog X.w) X.A (handleBy (.ref a) X.env hds') (SP X pins D) X.xe { s' with heap := h3 } := by
      intro hds' l' hk
      induction hk with
      | nil =>
        intro w
        refine wpAny_handleBy_nil ?_
        obtain ⟨k1, k2, k3, oe, vs, T, oT, ts', he, hz, hd, h1, hr⟩ := id fl3
        unfold PySem.passOn
        refine wpAny_bind (wpAny_field he hd h1 ?_)
        rw [if_neg (show ¬ ((Value.ref T == Value.none) = true) from by simp)]
        have fin : wpAny (model X.prog X.w) X.A (setFlight (.ref a) X.env.frame) (fun _ s4 => wpAny (model X.prog X.w) X.A (throw (.ref a) : Sem Flow) (SP X pins D) X.xe s4) X.xe { s' with heap := h3 } := by
          rw [hf]
          refine HandSPX.setFlight_upZ fl3 fun h4 hh4 up4 => wpAny_throw (tk _ _ ?_)
          exact ⟨a, B, sI, pins, σ', H', cls, d, rfl, J, nb, (up.trans up3).trans up4, .inr (.inr (by rw [hs]; exact hh4)), na, os, ag, w⟩
        first
          | exact wpAny_bind (wpAny_pure (wpAny_bind fin))
          | exact wpAny_bind fin
      | @cons x c ts b₀ suite np pos' hds2 l2 hc hsu r ih =>
        intro w
        obtain ⟨b, hb1, hyes, hno⟩ := w
        refine wpAny_handleBy_cons (codeAny_handlers_test ?_) (by intro q; cases q)
        have LT : PySem.W.Looks (model X.prog X.w) h3 (typeOf (.ref a)) cls := fun A Q E s k q => wpAny_typeOf_ref (k _ _ he3) (by rw [hz3.1]; exact q)
        have LM := PySem.W.exm_one (M := model X.prog X.w) (J3.kIn) LT hb1
        have test : ∀ {Q : Value → Shared → Prop} {E : Value → Shared → Prop}, Q c { s' with heap := h3 } → wpAny (model X.prog X.w) (X.A.mark (some (.ref a))) (eval (.Name x np) X.env) Q E { s' with heap := h3 } := fun {Q E} q => by
          obtain ⟨hg, hdbg, hm | ⟨hm, hv, hnn⟩⟩ := hc
          · exact ld_glob (X := X.suite a ((a, oe3) :: (X.pn ++ pins))) S3 hg hm q hdbg
          · exact ld_blt (X := X.suite a ((a, oe3) :: (X.pn ++ pins))) S3 hg hm hv q hnn hdbg
        refine test (LM.here ?_)
        cases b with
        | true =>
          refine codeAny_handlers_suite ?_
          refine HandSPX.lands_againZ fl3 fun h4 fl4 up4 => ?_
          have J4 : Inv X pins σ' H' { s' with heap := h4 } := J.landed nb fl4.1 ((up.trans up3).trans up4) os ag
          obtain ⟨oe4, vs4, he4, hz4, hd4⟩ := fl4.there
          have S4 := J4.suite he4 hd4 na nL nF
          refine wpAny_mono ((hsu a oe4 cls d (X.pn ++ pins) hz4 ⟨_, hd4⟩).run [] _ _ H' _ S4 (hyes rfl a na)) (fun f s6 hsp => ?_) (fun _ _ z => False.elim z)
          cases f with
          | next =>
            obtain ⟨σ6, H6, S6, q6⟩ := hsp
            exact ⟨_, _, S6.unsuite ok, q6⟩
          | brk =>
            obtain ⟨σ6, H6, S6, q6⟩ := hsp
            exact ⟨_, _, S6.unsuite ok, q6⟩
          | cont =>
            obtain ⟨σ6, H6, S6, q6⟩ := hsp
            exact ⟨_, _, S6.unsuite ok, q6⟩
          | ret u =>
            obtain ⟨v6, σ6, H6, S6, r6, q6⟩ := hsp
            exact ⟨_, _, _, S6.unsuite ok, r6, q6⟩
        | false =>
          show wpAny _ X.A (handleBy (.ref a) X.env hds2) _ _ _
          exact ih (hno rfl)
      | @as x n i c ts b₀ suite np pos' hds2 l2 hN hi hln hc hsu r ih =>
        intro w
        have hloc : Loc X.env.scope n := .inl hln
        obtain ⟨b, hb1, hyes, hno⟩ := w
        refine wpAny_handleBy_cons (codeAny_handlers_test ?_) (by intro q; cases q)
        have LT : PySem.W.Looks (model X.prog X.w) h3 (typeOf (.ref a)) cls := fun A Q E s k q => wpAny_typeOf_ref (k _ _ he3) (by rw [hz3.1]; exact q)
        have LM := PySem.W.exm_one (M := model X.prog X.w) (J3.kIn) LT hb1
        have test : ∀ {Q : Value → Shared → Prop} {E : Value → Shared → Prop}, Q c { s' with heap := h3 } → wpAny (model X.prog X.w) (X.A.mark (some (.ref a))) (eval (.Name x np) X.env) Q E { s' with heap := h3 } := fun {Q E} q => by
          obtain ⟨hg, hdbg, hm | ⟨hm, hv, hnn⟩⟩ := hc
          · exact ld_glob (X := X.suite a ((a, oe3) :: (X.pn ++ pins))) S3 hg hm q hdbg
          · exact ld_blt (X := X.suite a ((a, oe3) :: (X.pn ++ pins))) S3 hg hm hv q hnn hdbg
        refine test (LM.here ?_)
        cases b with
        | true =>
          refine codeAny_handlers_suite_as ?_
          refine HandSPX.lands_againZ fl3 fun h4 fl4 up4 => ?_
          have J4 : Inv X pins σ' H' { s' with heap := h4 } := J.landed nb fl4.1 ((up.trans up3).trans up4) os ag
          obtain ⟨oe4, vs4, he4, hz4, hd4⟩ := fl4.there
          have S4 := J4.suite he4 hd4 na nL nF
          refine store_ok (X := X.suite a ((a, oe4) :: (X.pn ++ pins))) (v := .ref a) S4 hN hi hloc rfl (fun s5 S5 => ?_) (.inr hln)
          refine wpAny_mono ((hsu a oe4 cls d (X.pn ++ pins) hz4 ⟨_, hd4⟩).run [] s5 _ H' _ S5 (hyes rfl a na)) (fun f s6 hsp => ?_) (fun _ _ z => False.elim z)
          have end_ : ∀ {σ6 : L2.St} {H6 : Hp} {Q : Shared → Prop}, Inv (X.suite a ((a, oe4) :: (X.pn ++ pins))) [] σ6 H6 s6 → (∀ s7, Inv X pins (σ6.set i none) H6 s7 → Q s7) →
              wpAny (model X.prog X.w) X.A (do bindName X.env n .none; unbindBehindTheSuite X.env n pos') (fun _ s7 => Q s7) X.xe s6 := fun {σ6 H6 Q} S6 hq => gone_ok (S6.unsuite ok) hN hi hln hq
          cases f with
          | next =>
            obtain ⟨σ6, H6, S6, q6⟩ := hsp
            exact end_ S6 fun s7 J7 => ⟨_, _, J7, q6⟩
          | brk =>
            obtain ⟨σ6, H6, S6, q6⟩ := hsp
            exact end_ S6 fun s7 J7 => ⟨_, _, J7, q6⟩
          | cont =>
            obtain ⟨σ6, H6, S6, q6⟩ := hsp
            exact end_ S6 fun s7 J7 => ⟨_, _, J7, q6⟩
          | ret u =>
            obtain ⟨v6, σ6, H6, S6, r6, q6⟩ := hsp
            exact end_ S6 fun s7 J7 => ⟨_, _, _, J7, r6, q6⟩
        | false =>
          show wpAny _ X.A (handleBy (.ref a) X.env hds2) _ _ _
          exact ih (hno rfl)
    exact go hh w
  · cases f with
    | next =>
      obtain ⟨σ', H', J', q⟩ := hsp
      exact wpAny_execs_nil ⟨σ', H', J'.ofTry ok, q⟩
    | brk =>
      obtain ⟨σ', H', J', q⟩ := hsp
      exact ⟨σ', H', J'.ofTry ok, q⟩
    | cont =>
      obtain ⟨σ', H', J', q⟩ := hsp
      exact ⟨σ', H', J'.ofTry ok, q⟩
    | ret u =>
      obtain ⟨v, σ', H', J', r, q⟩ := hsp
      exact ⟨v, σ', H', J'.ofTry ok, r, q⟩
end
end Fk

set_option maxHeartbeats 4000000
/-! Frames one after the other; logs that stay; references and a model that agree, moved to another heap. -/
namespace Fk
open PySem PySem.Spec PyProof.Rows L2
theorem FrL.then {L M : List Addr} {H H1 H2 : Hp} (f : FrL L H H1) (g : FrL M H1 H2) (h : ∀ b ∈ M, b ∈ L ∨ H b = none) : FrL L H H2 := fun b o n e =>
  g b o (fun hm => (h b hm).elim n (fun z => by rw [e] at z; cases z)) (f b o n e)
theorem FrL.then1 {L : List Addr} {a : Addr} {H H1 H2 : Hp} (f : FrL L H H1) (g : FrL [a] H1 H2) (h : a ∈ L ∨ H a = none) : FrL L H H2 := f.then g fun b hb => by rw [List.mem_singleton.mp hb]; exact h
theorem FrL.free {L : List Addr} {H H1 : Hp} (f : FrL L H H1) {b : Addr} (n : b ∉ L) (e : H1 b = none) : H b = none := by
  cases c : H b with
  | none => rfl
  | some o => rw [f b o n c] at e; cases e
theorem val_mem {t : Tab} {x : Str} {v : V} (h : valV t x = some v) : (x, v) ∈ t := by
  unfold valV at h
  cases c : t.find? fun kv => decide (kv.1 = x) with
  | none => rw [c] at h; cases h
  | some p =>
    rw [c] at h
    have m := List.mem_of_find?_eq_some c
    have e : p.1 = x := by have := List.find?_some (p := fun kv : Str × V => decide (kv.1 = x)) c; exact of_decide_eq_true this
    obtain ⟨a, b⟩ := p
    cases h
    cases e
    exact m
theorem Tups.cons {H : Hp} {a : Addr} {as : List Addr} {l : List V} {ls : List (List V)} (h : H a = some (.tup l)) (t : Tups H as ls) : Tups H (a :: as) (l :: ls) := by
  refine ⟨by rw [List.length_cons, List.length_cons, t.1], fun i b m h1 h2 => ?_⟩
  cases i with
  | zero => cases h1; cases h2; exact h
  | succ j => exact t.2 j b m h1 h2
theorem Tups.head {H : Hp} {a : Addr} {as : List Addr} {l : List V} {ls : List (List V)} (t : Tups H (a :: as) (l :: ls)) : H a = some (.tup l) := t.2 0 a l rfl rfl
theorem Tups.tail {H : Hp} {a : Addr} {as : List Addr} {l : List V} {ls : List (List V)} (t : Tups H (a :: as) (l :: ls)) : Tups H as ls := ⟨by have := t.1; rw [List.length_cons, List.length_cons] at this; omega, fun i b m h1 h2 => t.2 (i + 1) b m h1 h2⟩
theorem tups_filter {α : Type} {H : Hp} (f : α → List V) (p : α → Bool) : ∀ (cs : List α) (as : List Addr), Tups H as (cs.map f) → ∃ bs : List Addr, ((as.zip cs).filter fun z => p z.2).map (fun z => V.ref z.1) = bs.map V.ref ∧ Tups H bs ((cs.filter p).map f)
  | [], as, _ => ⟨[], by rw [List.zip_nil_right]; rfl, Tups.nil⟩
  | c :: cs, [], t => absurd t.1 (by simp)
  | c :: cs, a :: as, t => by
    obtain ⟨bs, e, tb⟩ := tups_filter f p cs as t.tail
    rw [List.zip_cons_cons, List.filter_cons, List.filter_cons]
    by_cases h : p c = true
    · refine ⟨a :: bs, ?_, ?_⟩
      · rw [if_pos h, List.map_cons, List.map_cons, e]
      · rw [if_pos h, List.map_cons]
        exact Tups.cons t.head tb
    · refine ⟨bs, ?_, ?_⟩
      · rw [if_neg h, e]
      · rw [if_neg h]
        exact tb
theorem int_refs {x y z : Int} {as : List Addr} : ([V.int x, .int y, .int z] : List V) ≠ as.map V.ref := fun h => by
  cases as with
  | nil => cases h
  | cons b r => injection h with h _; cases h
theorem LogsL.out {H H' : Hp} {t : Tab} {L : Str → List (List V)} {M : List Addr} (h : LogsL H t L) (k : TupKeep H H') (f : FrL M H H') (n : ∀ b ∈ M, ∀ as : List Addr, H b ≠ some (.lst (as.map V.ref))) : LogsL H' t L := fun x =>
  (h x).imp id fun ⟨p, as, a, b, c⟩ => ⟨p, as, a, f p _ (fun hm => n p hm as b) b, c.keep k⟩
theorem CallsL.out {H H' : Hp} {lc : Addr} {cs : List (Str × V × V)} {M : List Addr} (h : CallsL H lc cs) (k : TupKeep H H') (f : FrL M H H') (n : lc ∉ M) : CallsL H' lc cs := by
  obtain ⟨as, a, b⟩ := h
  exact ⟨as, f lc _ n a, b.keep k⟩
theorem CallsL.same {H H' : Hp} {lc : Addr} {cs : List (Str × V × V)} (h : CallsL H lc cs) (s : Same H H') : CallsL H' lc cs := by
  obtain ⟨as, a, b⟩ := h
  exact ⟨as, s _ _ a, b.keep (TupKeep.of s)⟩
theorem callPut_nd {cs : List (Str × V × V)} {x : Str} {v o : V} (h : (cs.map (·.1)).Nodup) : ((callPut cs x v o).map (·.1)).Nodup := by
  unfold callPut
  rw [List.map_append, List.nodup_append]
  refine ⟨List.Nodup.sublist ((List.filter_sublist).map _) h, by simp, fun a ha b hb => ?_⟩
  obtain ⟨c, hc, rfl⟩ := List.mem_map.mp ha
  have := of_decide_eq_true (List.mem_filter.mp hc).2
  simp at hb
  rw [hb]
  exact this
theorem callPut_len (cs : List (Str × V × V)) (x : Str) (v o : V) : (callPut cs x v o).length ≤ cs.length + 1 := by
  unfold callPut
  rw [List.length_append]
  have := List.length_filter_le (fun c : Str × V × V => decide (c.1 ≠ x)) cs
  show _ + 1 ≤ _
  omega
theorem mem_callPut {cs : List (Str × V × V)} {x : Str} {v o : V} {c : Str × V × V} (h : c ∈ callPut cs x v o) : c ∈ cs ∨ c = (x, v, o) := by
  rcases List.mem_append.mp h with h | h
  · exact .inl (List.mem_filter.mp h).1
  · exact .inr (List.mem_singleton.mp h)
end Fk

set_option maxHeartbeats 4000000
/-! A comprehension over zip of two tuples. -/
namespace Fk
open PySem PySem.Spec PyProof.Rows L2 RZ
theorem lc_zipT {K : PySem.W.Frag} {a b D : Addr} {xs ys : List V} {σ : L2.St} {vs : List Nat} {g : TG} {tt : TT} {te : TE} {Q : Hp → Prop} {H1 : Hp} {n : Nat} (f : Nat → V) (hD1 : H1 D = none) (ha : ∀ H, Same H1 H → SqT K H a xs) (hb : ∀ H, Same H1 H → SqT K H b ys)
    (hx : n ≤ xs.length) (hy : n ≤ ys.length) (hn : xs.length ≤ n ∨ ys.length ≤ n) (hl : n ≤ 1000000)
    (hs : ∀ i x y T H, i < n → xs[i]? = some x → ys[i]? = some y → Same H1 H → H T = some (.tup [x, y]) → ∀ (N : VK) (M : Hp → Prop), (∀ H3, Same H H3 → N (f i) H3) →
      g (.ref T) (wipe σ vs) H fun σ2 H2 => wipe σ2 vs = wipe σ vs ∧ tt σ2 H2 fun bb H3 => if bb = true then te σ2 H3 N else M H3)
    (hd : ∀ H, Same H1 H → H D = some (.lst ((List.range n).map f)) → Q H) :
    ∃ W : Nat → Nat → Hp → Prop, (∃ m, W 0 m (upd H1 D (.lst []))) ∧ ∀ k m H, W k m H →
      ((ItzT K a b).stop k H ∧ Q H) ∨ ((ItzT K a b).go k H ∧ ∃ Nx : Hp → Prop, (∀ H', Nx H' → ∃ m', m' < m ∧ W (k + 1) m' H') ∧ ∀ x H', (ItzT K a b).yld k H x H' → g x (wipe σ vs) H' fun σ2 H2 => wipe σ2 vs = wipe σ vs ∧ tt σ2 H2 fun bb H3 =>
        if bb = true then te σ2 H3 fun y H4 => ∃ acc, H4 D = some (.lst acc) ∧ acc.length < sizeLine ∧ Nx (upd H4 D (.lst (acc ++ [y]))) else Nx H3) := by
  refine ⟨fun k m H => m = n - k ∧ k ≤ n ∧ Same H1 H ∧ H D = some (.lst ((List.range k).map f)), ⟨n, by omega, Nat.zero_le _, same_new hD1, upd_same⟩, ?_⟩
  rintro k m H ⟨rfl, hk, s1, hD⟩
  by_cases hlt : k < n
  · have lx : k < xs.length := by omega
    have ly : k < ys.length := by omega
    refine .inr ⟨⟨xs, ys, xs[k], ys[k], ha H s1, hb H s1, List.getElem?_eq_getElem lx, List.getElem?_eq_getElem ly⟩, fun H' => Same H1 H' ∧ H' D = some (.lst ((List.range (k + 1)).map f)), fun H' q => ⟨n - (k + 1), by omega, rfl, hlt, q⟩, fun x H' y => ?_⟩
    obtain ⟨T, u, v, rfl, hT, rfl, gx, gy⟩ := y
    have s2 := same_new (o := .tup [u, v]) hT
    refine hs k u v T _ hlt (gx xs (ha H s1)) (gy ys (hb H s1)) (s1.trans s2) upd_same _ _ fun H3 s3 => ⟨_, s3 _ _ (s2 _ _ hD), small_lt (by rw [List.length_map, List.length_range]; omega), fun c o e => ?_, ?_⟩
    · rw [upd_ne (ne_of_none e hD1)]
      exact s3 _ _ (s2 _ _ (s1 _ _ e))
    · rw [upd_same, List.range_succ, List.map_append]
      rfl
  · have e : k = n := by omega
    subst e
    exact .inl ⟨⟨xs, ys, ha H s1, hb H s1, hn⟩, hd H s1 hD⟩
theorem lc_gen {α : Type} {J : It} {us : List α} {val : α → V} {G : Hp → Prop} {H1 : Hp} {D : Addr} {σ : L2.St} {vs : List Nat} {g : TG} {tt : TT} {te : TE} {Q : Hp → Prop} (Y : Yields J (us.map val) G) (f : α → V) (p : α → Bool) (σf : α → L2.St) (hD1 : H1 D = none) (hG : ∀ H, Same H1 H → G H) (hw : ∀ u ∈ us, wipe (σf u) vs = wipe σ vs)
    (hg : ∀ H u, Same H1 H → u ∈ us → ∀ (R : L2.St → Hp → Prop), R (σf u) H → g (val u) (wipe σ vs) H R)
    (ht : ∀ H u, Same H1 H → u ∈ us → ∀ (R : Bool → Hp → Prop), (∀ H3, Same H H3 → R (p u) H3) → tt (σf u) H R)
    (he : ∀ H u, Same H1 H → u ∈ us → p u = true → ∀ (R : VK), (∀ H3, Same H H3 → R (f u) H3) → te (σf u) H R)
    (hl : us.length ≤ 1000000) (hd : ∀ H, Same H1 H → H D = some (.lst ((us.filter p).map f)) → Q H) :
    ∃ W : Nat → Nat → Hp → Prop, (∃ m, W 0 m (upd H1 D (.lst []))) ∧ ∀ k m H, W k m H →
      (J.stop k H ∧ Q H) ∨ (J.go k H ∧ ∃ Nx : Hp → Prop, (∀ H', Nx H' → ∃ m', m' < m ∧ W (k + 1) m' H') ∧ ∀ x H', J.yld k H x H' → g x (wipe σ vs) H' fun σ2 H2 => wipe σ2 vs = wipe σ vs ∧ tt σ2 H2 fun b H3 =>
        if b = true then te σ2 H3 fun y H4 => ∃ acc, H4 D = some (.lst acc) ∧ acc.length < sizeLine ∧ Nx (upd H4 D (.lst (acc ++ [y]))) else Nx H3) := by
  refine lcG Y (fun k acc H => Same H1 H ∧ acc = ((us.take k).filter p).map f) (fun k acc H h _ => hG H h.1) ⟨same_new hD1, rfl⟩ (fun k acc H x hI hD hx hacc hk => ?_) (by rw [List.length_map]; exact hl) (fun acc H hI hD _ => ?_)
  · obtain ⟨sm, ea⟩ := hI
    rw [List.getElem?_map] at hx
    cases hu : us[k]? with
    | none => rw [hu] at hx; cases hx
    | some u =>
      rw [hu] at hx
      cases hx
      have hm : u ∈ us := List.mem_of_getElem? hu
      have et : us.take (k + 1) = us.take k ++ [u] := by
        rw [List.take_add_one, hu]
        rfl
      refine hg H u sm hm _ ⟨hw u hm, ?_⟩
      refine ht H u sm hm _ (fun H3 s3 => ?_)
      by_cases hp : p u = true
      · rw [if_pos hp]
        refine he H3 u (sm.trans s3) hm hp _ (fun H4 s4 => ?_)
        refine lc_take (s4 _ _ (s3 _ _ hD)) hacc hk ⟨same_mut ((sm.trans s3).trans s4) hD1, ?_⟩
        rw [et, List.filter_append, List.map_append, List.filter_cons, hp, ea]
        rfl
      · rw [if_neg hp]
        refine lc_skip (s3 _ _ hD) hacc ⟨sm.trans s3, ?_⟩
        rw [et, List.filter_append, List.map_append, List.filter_cons, if_neg hp, ea]
        simp
  · obtain ⟨sm, ea⟩ := hI
    rw [List.length_map, List.take_length] at ea
    exact hd H sm (by rw [hD, ea])
def rLenQ (K : PySem.W.Frag) : List V → Hp → VK → Prop := fun xs H Q => ∃ p ys, xs = [.ref p] ∧ (SqL K H p ys ∨ SqT K H p ys) ∧ Q (.int ys.length) H
theorem ciK {X : Cx} {K : PySem.W.Frag} (h : X.K = K) : CallR X (.builtin "isinstance") (rIsi K) := h ▸ call_isi
theorem clK {X : Cx} {K : PySem.W.Frag} (h : X.K = K) : CallR X (.builtin "len") (rLenQ K) := h ▸ call_len_seq
end Fk

/-! truth of a thing within a comprehension, K given -/
namespace Fk
open PySem PySem.Spec PyProof.Rows L2
def tTruK (K : PySem.W.Frag) (ta : TE) : TT := fun σ H Q => ta σ H fun x H' => ∃ k, TruV K x H' k ∧ Q k H'
theorem ptK_truth {X : Cx} {K : PySem.W.Frag} {a : Expr} {ta : TE} (h : X.K = K) (ha : PE X a ta) (he : ∀ whole, isTrue a X.env whole = (do let v ← whole; standAt a.pos; holding [v] (truthy v))) : PT X a (tTruK K ta) := h ▸ pt_truth ha he
end Fk

set_option maxHeartbeats 4000000
/-! iter(bytes); a walk over zip of eight times the same iterator of bytes. -/
namespace Fk
open PySem PySem.Spec PyProof.Rows L2 PySem.W.KBw
open PySem.Sem (wp)
abbrev I8 (it : Addr) : Array Value := #[.ref it, .ref it, .ref it, .ref it, .ref it, .ref it, .ref it, .ref it]
abbrev IsT8 (h : Heap) (T : Addr) (xs : Array Value) : Prop := h.get? T = some { cls := .type "tuple", data := .seq xs }
section
variable {prog : Program} {w : World} {A : Around} {E : Value → Shared → Prop} {s : Shared} {b : Array UInt8} {t : Tok}
theorem nextOf_bytes_item {it : Addr} {i : Nat} {c : UInt8} {Q : Value → Shared → Prop} (hit : IsBytesIter s.heap it b t i) (hx : b[i]? = some c)
    (hQ : ∀ h', IsBytesIter h' it b t (i + 1) → Heap.SameBut it s.heap h' → Q (.int (c.toNat : Int) s.toks) { s with heap := h', toks := s.toks + 1 }) :
    wpAny (model prog w) A (Builtin.SmallTypes.nextOf (.ref it)) Q E s := by
  obtain ⟨o, ho, hc, hd⟩ := id hit
  unfold Builtin.SmallTypes.nextOf
  refine wpAny_bind (wpAny_callSpecial?_slot (name := Str.ofString "__next__") (iter_typeIs hit) slot_next
    (wpAny_call_entry slot_next (iter_typeIs hit) entry_next ?_ (args_next _)))
  show wpAny _ _ (field (.ref it) 0 >>= _) _ _ s
  refine wpAny_bind (wpAny_field ho hd (x := .bytes b t) rfl ?_)
  show wpAny _ _ (if (Value.bytes b t == Value.none) = true then _ else _) _ _ s
  rw [if_neg (show ¬ ((Value.bytes b t == Value.none) = true) from Bool.false_ne_true)]
  show wpAny _ _ (field (.ref it) 1 >>= _) _ _ s
  refine wpAny_bind (wpAny_field ho hd (x := .int i 0) rfl ?_)
  refine wpAny_bind (wpAny_of_eq (a := b) rfl ?_)
  simp only [Int.toNat_natCast, hx]
  refine wpAny_bind (wpAny_setField ho hd (by simp) (wpAny_bind (wpAny_mkInt (wpAny_pure ⟨_, rfl, wpAny_pure (hQ _ ?_ (Heap.SameBut.update ..))⟩))))
  exact ⟨_, Heap.get?_update_self _ ho (Obj.isFreed_of_fields (Obj.data_mapFields hd _)), (Obj.cls_mapFields ..).trans hc, by
    rw [Obj.data_mapFields hd]; simp [rawInt]⟩
theorem nextOf_bytes_end {it : Addr} {i : Nat} {Q : Value → Shared → Prop} (hh : A.handled = none) (hit : IsBytesIter s.heap it b t i) (hx : b[i]? = none)
    (hE : ∀ h' e, Heap.ExtBut it s.heap h' → (∃ o, h'.get? e = some o ∧ o.cls = .type "StopIteration") → E (.ref e) { s with heap := h' }) :
    wpAny (model prog w) A (Builtin.SmallTypes.nextOf (.ref it)) Q E s := by
  obtain ⟨o, ho, hc, hd⟩ := id hit
  unfold Builtin.SmallTypes.nextOf
  refine wpAny_bind (wpAny_callSpecial?_slot (name := Str.ofString "__next__") (iter_typeIs hit) slot_next
    (wpAny_call_entry slot_next (iter_typeIs hit) entry_next ?_ (args_next _)))
  show wpAny _ _ (field (.ref it) 0 >>= _) _ _ s
  refine wpAny_bind (wpAny_field ho hd (x := .bytes b t) rfl ?_)
  show wpAny _ _ (if (Value.bytes b t == Value.none) = true then _ else _) _ _ s
  rw [if_neg (show ¬ ((Value.bytes b t == Value.none) = true) from Bool.false_ne_true)]
  show wpAny _ _ (field (.ref it) 1 >>= _) _ _ s
  refine wpAny_bind (wpAny_field ho hd (x := .int i 0) rfl ?_)
  refine wpAny_bind (wpAny_of_eq (a := b) rfl ?_)
  simp only [Int.toNat_natCast, hx]
  refine wpAny_bind (wpAny_rule (wpAny_bind (wpAny_setField ho hd (by simp) ?_)))
  show wpAny _ _ (newExc (.type "StopIteration") [] >>= _) _ _ _
  refine wpAny_bind ?_
  simp only [newExc, newTuple]
  refine wpAny_bind (wpAny_newObj_type ?_ (by size_fits))
  refine wpAny_bind (m := firstArgMember _ _) (wpAny_of_eq (a := Value.none) (by first | rfl | (simp only [firstArgMember]; rfl)) ?_)
  refine wpAny_newObj_type ?_ (by size_fits)
  simp only [raiseNew]
  refine wpAny_bind (wpAny_handled ?_)
  first | rw [show A.in1.handled = none from hh] | rw [hh]
  refine wpAny_bind (wpAny_pure (wpAny_throw ?_))
  exact hE _ _ (((Heap.SameBut.update ..).extBut.push _).push _) ⟨_, Heap.get?_push_size _ rfl, rfl⟩
theorem updateSeq_t8 {T : Addr} {xs : Array Value} {x : Value} {k : Nat} {Q : Unit → Shared → Prop} (hT : IsT8 s.heap T xs) (hz : xs.size ≤ 100)
    (h : ∀ h', IsT8 h' T (xs.setIfInBounds k x) → Heap.SameBut T s.heap h' → Q () { s with heap := h' }) :
    wpAny (model prog w) A (updateSeq T (·.setIfInBounds k x)) Q E s := by
  refine wpAny_updateSeq hT rfl (h _ ?_ (Heap.SameBut.update ..)) (Nat.le_trans hz (by decide)) (by rw [Array.size_setIfInBounds]; exact Nat.le_trans hz (by decide))
  show (s.heap.update T _).get? T = _
  rw [Heap.get?_update_self _ hT rfl]
  simp [Obj.mapSeq]
end
section
variable {prog : Program} {w : World} {A : Around} {E : Value → Shared → Prop} {b : Array UInt8} {t : Tok}
theorem nextOf_bytes_item' {hp g d tk os} {it : Addr} {i : Nat} {c : UInt8} {Q : Value → Shared → Prop} (hit : IsBytesIter hp it b t i) (hx : b[i]? = some c)
    (hQ : ∀ h', IsBytesIter h' it b t (i + 1) → Heap.SameBut it hp h' → Q (.int (c.toNat : Int) tk) ⟨h', g, d, tk + 1, os⟩) :
    wpAny (model prog w) A (Builtin.SmallTypes.nextOf (.ref it)) Q E ⟨hp, g, d, tk, os⟩ := nextOf_bytes_item (s := ⟨hp, g, d, tk, os⟩) hit hx hQ
theorem updateSeq_t8' {hp g d tk os} {T : Addr} {xs : Array Value} {x : Value} {k : Nat} {Q : Unit → Shared → Prop} (hT : IsT8 hp T xs) (hz : xs.size ≤ 100)
    (h : ∀ h', IsT8 h' T (xs.setIfInBounds k x) → Heap.SameBut T hp h' → Q () ⟨h', g, d, tk, os⟩) :
    wpAny (model prog w) A (updateSeq T (·.setIfInBounds k x)) Q E ⟨hp, g, d, tk, os⟩ := updateSeq_t8 (s := ⟨hp, g, d, tk, os⟩) hT hz h
theorem seqItems_t8' {hp g d tk os} {T : Addr} {xs : Array Value} {Q : Option (Array Value) → Shared → Prop} (hT : IsT8 hp T xs) (h : Q (some xs) ⟨hp, g, d, tk, os⟩) : wpAny (model prog w) A (seqItems? (.ref T)) Q E ⟨hp, g, d, tk, os⟩ := wpAny_seqItems hT rfl h
theorem setField_z' {hp g d tk os} {a : Addr} {cls : Value} {vs : Array Value} {k : Nat} {x : Value} {Q : Unit → Shared → Prop}
    (ho : hp.get? a = some { cls := cls, dict := none, data := .fields vs, slots := #[] }) (hk : k < vs.size)
    (h : ∀ h', h'.get? a = some { cls := cls, dict := none, data := .fields (vs.setIfInBounds k x), slots := #[] } → Heap.SameBut a hp h' → Q () ⟨h', g, d, tk, os⟩) :
    wpAny (model prog w) A (setField (.ref a) k x) Q E ⟨hp, g, d, tk, os⟩ := wpAny_setField_rec (s := ⟨hp, g, d, tk, os⟩) ho hk h
theorem newTuple_z' {hp g d tk os} {items : List Value} {Q : Value → Shared → Prop} (h : Q (.ref hp.objs.size) ⟨hp.push { cls := .type "tuple", data := .seq items.toArray }, g, d, tk, os⟩)
    (hsz : items.length ≤ sizeLine) : wpAny (model prog w) A (newTuple items) Q E ⟨hp, g, d, tk, os⟩ := wpAny_newTuple (s := ⟨hp, g, d, tk, os⟩) h hsz
/-- the bytes from m0 on, as ints -/
def bI (b : Array UInt8) (k : Nat) : Int := ((b.getD k 0).toNat : Int)
theorem bI_get {b : Array UInt8} {k : Nat} (h : k < b.size) : b[k]? = some (b.getD k 0) := by
  rw [Array.getElem?_eq_getElem h, Array.getD_eq_getD_getElem?, Array.getElem?_eq_getElem h] <;> rfl
def RowI (b : Array UInt8) (m0 : Nat) (us : List Value) : Prop := ∀ i v, us[i]? = some v → ∃ t, v = Value.int (bI b (m0 + i)) t
theorem RowI.snoc {b : Array UInt8} {m0 : Nat} {us : List Value} (h : RowI b m0 us) (t : Tok) : RowI b m0 (us ++ [.int (bI b (m0 + us.length)) t]) := fun i v e => by
  by_cases c : i < us.length
  · rw [List.getElem?_append_left c] at e
    exact h i v e
  · rw [List.getElem?_append_right (by omega)] at e
    have e0 : i - us.length = 0 := by
      by_cases q : i - us.length = 0
      · exact q
      · rw [List.getElem?_eq_none (by simp; omega)] at e
        cases e
    rw [e0] at e
    have ei : i = us.length := by omega
    cases e
    exact ⟨t, by rw [ei]⟩
/-- what j draws leave -/
structure Dr (b : Array UInt8) (t : Tok) (z TI TO it : Addr) (h0 : Heap) (m0 j : Nat) (h : Heap) : Prop where
  hz : IsZip h z TI TO .ellipsis
  hTO : ∃ us rest : List Value, us.length = j ∧ us.length + rest.length = 8 ∧ RowI b m0 us ∧ IsT8 h TO (us ++ rest).toArray
  hit : IsBytesIter h it b t (m0 + j)
  hk : ∀ c o, c ≠ z → c ≠ TO → c ≠ it → h0.get? c = some o → h.get? c = some o
  sz : h.objs.size = h0.objs.size
/-- apart -/
structure Z8 (z TI TO it : Addr) : Prop where
  zi : z ≠ it
  zO : z ≠ TO
  Oi : TO ≠ it
  Iz : TI ≠ z
  IO : TI ≠ TO
  Ii : TI ≠ it
theorem forIn_draws {β : Type} {body : (Value × Nat) → β → Sem (ForInStep β)} {init : β} {z TI TO it : Addr} {h0 : Heap} {m0 : Nat} {gs dr os}
    (hbody : ∀ (h : Heap) (tk : Nat) (j : Nat) (Q : ForInStep β → Shared → Prop), Dr b t z TI TO it h0 m0 j h → j < 8 → (∀ h' tk', Dr b t z TI TO it h0 m0 (j + 1) h' → Q (.yield init) ⟨h', gs, dr, tk', os⟩) → wpAny (model prog w) A (body (.ref it, j) init) Q E ⟨h, gs, dr, tk, os⟩)
    {Q : β → Shared → Prop} (hQ : ∀ h tk, Dr b t z TI TO it h0 m0 8 h → Q init ⟨h, gs, dr, tk, os⟩) :
    ∀ (n j : Nat) (h : Heap) (tk : Nat), n + j = 8 → Dr b t z TI TO it h0 m0 j h → wpAny (model prog w) A (forIn ((List.replicate n (Value.ref it)).zipIdx j) init body) Q E ⟨h, gs, dr, tk, os⟩ := by
  intro n
  induction n with
  | zero =>
    intro j h tk e D
    rw [show j = 8 by omega] at D
    simp only [List.replicate_zero, List.zipIdx_nil, List.forIn_nil]
    exact wpAny_pure (hQ h tk D)
  | succ n ih =>
    intro j h tk e D
    rw [List.replicate_succ, List.zipIdx_cons, List.forIn_cons]
    refine wpAny_bind (hbody h tk j _ D (by omega) fun h' tk' D' => ?_)
    exact ih (j + 1) h' tk' (by omega) D'
theorem zip8_item {s : Shared} {z TI TO it : Addr} {m : Nat} {xs : List Value} {Q : Value → Shared → Prop} (Z : Z8 z TI TO it)
    (hz : IsZip s.heap z TI TO .none) (hTI : IsT8 s.heap TI (I8 it)) (hTO : IsT8 s.heap TO xs.toArray) (hxz : xs.length = 8) (hit : IsBytesIter s.heap it b t m) (hb : m + 8 ≤ b.size)
    (hQ : ∀ h' tk us, us.length = 8 → RowI b m us → IsZip h' z TI TO (rawInt s.heap.objs.size) → IsT8 h' TO us.toArray → IsBytesIter h' it b t (m + 8) → IsT8 h' s.heap.objs.size us.toArray →
      (∀ c o, c ≠ z → c ≠ TO → c ≠ it → s.heap.get? c = some o → h'.get? c = some o) → Q (.ref s.heap.objs.size) { s with heap := h', toks := tk }) :
    wpAny (model prog w) A (Builtin.«zip.__next__» ⟨[.ref z], []⟩) (fun fin s' => ∃ v, fin = .done (.ret v) ∧ Q v s') E s := by
  obtain ⟨hp, gs, dr, tk, os⟩ := s
  replace hz : IsZip hp z TI TO .none := hz
  replace hTO : IsT8 hp TO xs.toArray := hTO
  replace hTI : IsT8 hp TI (I8 it) := hTI
  replace hit : IsBytesIter hp it b t m := hit
  show wpAny _ _ (field (.ref z) 2 >>= _) _ _ _
  refine wpAny_bind (wpAny_field hz rfl (x := .bool false) rfl ?_)
  show wpAny _ _ (field (.ref z) 3 >>= _) _ _ _
  refine wpAny_bind (wpAny_field hz rfl (x := .ref TI) rfl ?_)
  refine wpAny_bind (seqItems_t8' hTI ?_)
  show wpAny _ _ (Builtin.SmallTypes.ownedTupleIsFree (.ref z) >>= _) _ _ _
  refine wpAny_bind ?_
  unfold Builtin.SmallTypes.ownedTupleIsFree
  refine wpAny_bind (wpAny_field hz rfl (x := .none) rfl (wpAny_pure ?_))
  simp only [if_true]
  refine wpAny_bind (wpAny_rule ?_)
  refine wpAny_bind (wpAny_field hz rfl (x := .ref TO) rfl ?_)
  refine wpAny_bind (setField_z' hz (by simp) fun h₀ hz₀ hs₀ => ?_)
  have D0 : Dr b t z TI TO it hp m 0 h₀ := ⟨hz₀, ⟨[], xs, rfl, by rw [hxz]; rfl, fun i v e => by simp at e, hs₀.extBut _ _ Z.zO.symm hTO⟩, (by obtain ⟨o, ho, r⟩ := hit; exact ⟨o, hs₀.extBut _ _ Z.zi.symm ho, r⟩), fun c o c1 _ _ e => hs₀.extBut _ _ c1 e, hs₀.1⟩
  clear hz₀ hs₀
  refine wpAny_bind ?_
  show wpAny _ _ (forIn ((List.replicate 8 (Value.ref it)).zipIdx 0) _ _) _ _ _
  refine forIn_draws (b := b) (t := t) (z := z) (TI := TI) (TO := TO) (h0 := hp) (m0 := m) (fun h tk j Q D hj hq => ?_) (fun h tk D => ?_) 8 0 h₀ tk rfl D0
  · refine wpAny_bind (wpAny_onRaise ?_)
    show wpAny _ _ (Builtin.SmallTypes.nextOf (.ref it) >>= _) _ _ _
    refine wpAny_bind (nextOf_bytes_item' D.hit (bI_get (by omega)) fun g ig sg => wpAny_pure ?_)
    obtain ⟨us, rest, e1, e2, ri, hT⟩ := D.hTO
    cases rest with
    | nil => simp at e2; omega
    | cons r rest =>
      have hT1 := sg.extBut _ _ Z.Oi hT
      refine wpAny_bind (seqItems_t8' hT1 ?_)
      refine wpAny_bind (updateSeq_t8' hT1 (by simp only [List.size_toArray, List.length_append]; omega) fun h1 t1 s1 => ?_)
      refine wpAny_bind (wpAny_letGo (wpAny_pure (hq h1 _ ?_)))
      refine ⟨s1.extBut _ _ Z.zO (sg.extBut _ _ Z.zi D.hz), ⟨us ++ [.int (bI b (m + us.length)) tk], rest, by rw [List.length_append, e1]; rfl, by rw [List.length_append]; simp at e2 ⊢; omega, ri.snoc tk, ?_⟩, ?_, fun c o c1 c2 c3 e => s1.extBut _ _ c2 (sg.extBut _ _ c3 (D.hk c o c1 c2 c3 e)), by rw [s1.1, sg.1, D.sz]⟩
      · have ex : ((us ++ r :: rest).toArray).setIfInBounds j (Value.int (bI b (m + us.length)) tk) = (us ++ [Value.int (bI b (m + us.length)) tk] ++ rest).toArray := by
          rw [List.setIfInBounds_toArray, List.set_append_right _ _ (by omega), show j - us.length = 0 by omega, List.append_assoc]
          rfl
        rw [← ex]
        rw [show m + us.length = m + j by rw [e1]]
        exact t1
      · obtain ⟨o, ho, rr⟩ := ig
        exact ⟨o, s1.extBut _ _ Z.Oi.symm ho, rr⟩
  · obtain ⟨us, rest, e1, e2, ri, hT⟩ := D.hTO
    have er : rest = [] := List.eq_nil_of_length_eq_zero (by omega)
    subst er
    rw [List.append_nil] at hT
    have hlz : z < h.objs.size := Heap.lt_size D.hz
    refine wpAny_bind (seqItems_t8' hT ?_)
    refine wpAny_bind (newTuple_z' ?_ (by show us.length ≤ sizeLine; rw [e1]; decide))
    show wpAny _ _ (Builtin.SmallTypes.ownedTupleHandOut (.ref z) (.ref h.objs.size) >>= _) _ _ _
    refine wpAny_bind ?_
    unfold Builtin.SmallTypes.ownedTupleHandOut
    refine wpAny_bind (setField_z' (Heap.get?_push_of_some _ D.hz) (by simp) fun h₇ hz₇ hs₇ => ?_)
    replace hz₇ : IsZip h₇ z TI TO (rawInt h.objs.size) := hz₇
    refine setField_z' hz₇ (by simp) fun h₈ hz₈ hs₈ => ?_
    replace hz₈ : IsZip h₈ z TI TO (rawInt h.objs.size) := hz₈
    have up : ∀ c o, c ≠ z → h.get? c = some o → h₈.get? c = some o := fun c o c1 e => hs₈.extBut _ _ c1 (hs₇.extBut _ _ c1 (Heap.get?_push_of_some _ e))
    have hT₈ : IsT8 h₈ h.objs.size us.toArray := hs₈.extBut _ _ (Nat.ne_of_gt hlz) (hs₇.extBut _ _ (Nat.ne_of_gt hlz) (Heap.get?_push_size _ rfl))
    rw [D.sz] at hz₈ hT₈
    refine wpAny_pure ⟨_, rfl, ?_⟩
    show Q (.ref h.objs.size) _
    rw [D.sz]
    refine hQ h₈ _ us e1 ri hz₈ (up _ _ Z.zO.symm hT) ?_ hT₈ fun c o c1 c2 c3 e => up c o c1 (D.hk c o c1 c2 c3 e)
    obtain ⟨o, ho, r⟩ := D.hit
    exact ⟨o, up _ o Z.zi.symm ho, r⟩
theorem zip8_end {s : Shared} {z TI TO it : Addr} {m : Nat} {xs : Array Value} {Q : Fin → Shared → Prop} (hh : A.handled = none) (Z : Z8 z TI TO it)
    (hz : IsZip s.heap z TI TO .none) (hTI : IsT8 s.heap TI (I8 it)) (hTO : IsT8 s.heap TO xs) (hit : IsBytesIter s.heap it b t m) (hx : b[m]? = none)
    (hE : ∀ h' e, (∀ c o, c ≠ z → c ≠ TO → c ≠ it → s.heap.get? c = some o → h'.get? c = some o) → (∃ o, h'.get? e = some o ∧ o.cls = .type "StopIteration") → E (.ref e) { s with heap := h' }) :
    wpAny (model prog w) A (Builtin.«zip.__next__» ⟨[.ref z], []⟩) Q E s := by
  show wpAny _ _ (field (.ref z) 2 >>= _) _ _ _
  refine wpAny_bind (wpAny_field hz rfl (x := .bool false) rfl ?_)
  show wpAny _ _ (field (.ref z) 3 >>= _) _ _ _
  refine wpAny_bind (wpAny_field hz rfl (x := .ref TI) rfl ?_)
  refine wpAny_bind (wpAny_seqItems hTI rfl ?_)
  show wpAny _ _ (Builtin.SmallTypes.ownedTupleIsFree (.ref z) >>= _) _ _ _
  refine wpAny_bind ?_
  unfold Builtin.SmallTypes.ownedTupleIsFree
  refine wpAny_bind (wpAny_field hz rfl (x := .none) rfl (wpAny_pure ?_))
  simp only [if_true]
  refine wpAny_bind (wpAny_rule ?_)
  refine wpAny_bind (wpAny_field hz rfl (x := .ref TO) rfl ?_)
  refine wpAny_bind (wpAny_setField_rec hz (by simp) fun h₁ hz₁ hs₁ => ?_)
  replace hz₁ : IsZip h₁ z TI TO .ellipsis := hz₁
  refine wpAny_bind ?_
  simp only [List.zipIdx_cons, List.zipIdx_nil, List.forIn_cons, List.forIn_nil]
  refine wpAny_bind (wpAny_bind (wpAny_onRaise ?_))
  show wpAny _ _ (Builtin.SmallTypes.nextOf (.ref it) >>= _) _ _ _
  have hit₁ : IsBytesIter h₁ it b t m := by obtain ⟨o, ho, r⟩ := hit; exact ⟨o, hs₁.extBut _ _ Z.zi.symm ho, r⟩
  refine wpAny_bind (nextOf_bytes_end hh hit₁ hx fun h₂ e hs₂ he => ?_)
  obtain ⟨oe, hoe, hce⟩ := he
  have hz₂ : IsZip h₂ z TI TO .ellipsis := hs₂ _ _ Z.zi hz₁
  have hez : e ≠ z := fun x => by subst x; rw [hz₂] at hoe; cases hoe; simp at hce
  exact wpAny_setField_rec hz₂ (by simp) fun h₃ _ hs₃ => hE h₃ e (fun c o c1 _ c3 x => hs₃.extBut _ _ c1 (hs₂ _ _ c3 (hs₁.extBut _ _ c1 x))) ⟨oe, hs₃.extBut _ _ hez hoe, hce⟩
end
end Fk

set_option maxHeartbeats 4000000
/-! iter(bytes); for .. in zip(it, .. eight times): the rules. -/
namespace Fk
open PySem PySem.Spec PyProof.Rows L2 PySem.W.KBw
theorem typeCall_zip_8 (a : Value) : checkTypeCall "zip" ⟨[a, a, a, a, a, a, a, a], []⟩ = pure () := by kernel_rfl
theorem newCall_zip_8 (a : Value) : checkBuiltinCall "zip.__new__" ⟨[.type "zip", a, a, a, a, a, a, a, a], []⟩ = pure () := by kernel_rfl
theorem args_oi_9 (o a : Value) : argsOk "object.__init__" ⟨[o, a, a, a, a, a, a, a, a], []⟩ := by
  unfold argsOk; rw [signature?_of (id := "object.__init__") (n := ['_', '_', 't', 'i', 'n', 'i', '_', '_']) (o := ['t', 'c', 'e', 'j', 'b', 'o']) (by kernel_rfl) F.owner_object]; kernel_rfl
abbrev z8H1 (h : Heap) (it : Addr) : Heap := h.push { cls := .type "tuple", data := .seq (I8 it) }
abbrev z8H2 (h : Heap) (it : Addr) : Heap := (z8H1 h it).push { cls := .type "tuple", data := .seq #[.none, .none, .none, .none, .none, .none, .none, .none] }
abbrev z8H3 (h : Heap) (it : Addr) : Heap := (z8H2 h it).push { cls := .type "zip", data := .fields #[.none, .bool false, .bool false, .ref h.objs.size, .ref (z8H1 h it).objs.size] }
theorem meets_zip8 (it : Addr) (b : Array UInt8) (t : Tok) :
    Meets (Builtin.«zip.__new__» ⟨[.type "zip", .ref it, .ref it, .ref it, .ref it, .ref it, .ref it, .ref it, .ref it], []⟩) (fun _ R s => IsBytesIter s.heap it b t 0 ∧
      R (.ok (.ret (.ref (z8H2 s.heap it).objs.size))) { s with heap := z8H3 s.heap it }) :=
  .of_wp fun prog w A R s h => by
    obtain ⟨hp, g, d, tk, os⟩ := s; obtain ⟨hi, h⟩ := h
    have hsub := sub_zip
    have hI : IsBytesIter (Shared.heap ⟨hp, g, d, tk, os⟩) it b t 0 := hi
    wp_walk using pyIter_self hI
    exact ⟨_, rfl, h⟩
section
variable {prog : Program} {w : World} {A : Around} {E : Value → Shared → Prop} {s : Shared} {b : Array UInt8} {t : Tok}
theorem call_zip8 {it : Addr} {Q : Value → Shared → Prop} (hi : IsBytesIter s.heap it b t 0)
    (h : ∀ h', IsZip h' (s.heap.objs.size + 2) s.heap.objs.size (s.heap.objs.size + 1) .none → IsT8 h' s.heap.objs.size (I8 it) → IsT8 h' (s.heap.objs.size + 1) #[.none, .none, .none, .none, .none, .none, .none, .none] →
      (∀ c o, s.heap.get? c = some o → h'.get? c = some o) → Q (.ref (s.heap.objs.size + 2)) { s with heap := h' }) :
    wpAny (model prog w) A (call (.type "zip") [.ref it, .ref it, .ref it, .ref it, .ref it, .ref it, .ref it, .ref it]) Q E s := by
  refine callType_new F.called_zip (by decide) (typeCall_zip_8 _) (newCall_zip_8 _) (fun obj => args_oi_9 obj _) F.entry_zip_new
    (meets_zip8 it b t) ⟨hi, ?_⟩
  have z1 : (z8H1 s.heap it).objs.size = s.heap.objs.size + 1 := Heap.size_push ..
  have z2 : (z8H2 s.heap it).objs.size = s.heap.objs.size + 2 := by rw [Heap.size_push, z1]
  have g3 : (z8H3 s.heap it).get? (z8H2 s.heap it).objs.size = some _ := Heap.get?_push_size _ rfl
  have g2 : (z8H3 s.heap it).get? (z8H1 s.heap it).objs.size = some _ := Heap.get?_push_of_some _ (Heap.get?_push_size _ rfl)
  have g1 : (z8H3 s.heap it).get? s.heap.objs.size = some _ := Heap.get?_push_of_some _ (Heap.get?_push_of_some _ (Heap.get?_push_size _ rfl))
  show _ ∧ _
  rw [z1, z2] at g3
  rw [z1] at g2
  rw [z2]
  exact ⟨⟨_, g3, rfl⟩, h _ g3 g1 g2 fun c o x => Heap.get?_push_of_some _ (Heap.get?_push_of_some _ (Heap.get?_push_of_some _ x))⟩
theorem pyNext_zip8_item {z TI TO it : Addr} {m : Nat} {xs : List Value} {Q : Option Value → Shared → Prop} (Z : Z8 z TI TO it)
    (hz : IsZip s.heap z TI TO .none) (hTI : IsT8 s.heap TI (I8 it)) (hTO : IsT8 s.heap TO xs.toArray) (hxz : xs.length = 8) (hit : IsBytesIter s.heap it b t m) (hb : m + 8 ≤ b.size)
    (hQ : ∀ h' tk us, us.length = 8 → RowI b m us → IsZip h' z TI TO (rawInt s.heap.objs.size) → IsT8 h' TO us.toArray → IsBytesIter h' it b t (m + 8) → IsT8 h' s.heap.objs.size us.toArray →
      (∀ c o, c ≠ z → c ≠ TO → c ≠ it → s.heap.get? c = some o → h'.get? c = some o) → Q (some (.ref s.heap.objs.size)) { s with heap := h', toks := tk }) :
    wpAny (model prog w) A (pyNext (.ref z)) Q E s := by
  have hT : s.TypeIs (.ref z) "zip" := ⟨_, hz, rfl⟩
  unfold pyNext
  exact wpAny_bind (wpAny_attempt (wpAny_callSpecial?_slot (name := Str.ofString "__next__") hT F.slot_zip_next
    (wpAny_call_entry F.slot_zip_next hT F.entry_zip_next
      (zip8_item Z hz hTI hTO hxz hit hb fun h' tk us a0 a1 a2 a3 a4 a5 a6 => wpAny_pure (hQ h' tk us a0 a1 a2 a3 a4 a5 a6)) (F.args_zip_next_1 _))))
theorem pyNext_zip8_end {z TI TO it : Addr} {m : Nat} {xs : Array Value} {Q : Option Value → Shared → Prop} (hh : A.handled = none) (Z : Z8 z TI TO it)
    (hz : IsZip s.heap z TI TO .none) (hTI : IsT8 s.heap TI (I8 it)) (hTO : IsT8 s.heap TO xs) (hit : IsBytesIter s.heap it b t m) (hx : b[m]? = none)
    (hQ : ∀ h', (∀ c o, c ≠ z → c ≠ TO → c ≠ it → s.heap.get? c = some o → h'.get? c = some o) → Q none { s with heap := h' }) : wpAny (model prog w) A (pyNext (.ref z)) Q E s := by
  have hT : s.TypeIs (.ref z) "zip" := ⟨_, hz, rfl⟩
  unfold pyNext
  refine wpAny_bind (wpAny_attempt (wpAny_callSpecial?_slot (name := Str.ofString "__next__") hT F.slot_zip_next
    (wpAny_call_entry F.slot_zip_next hT F.entry_zip_next (zip8_end hh Z hz hTI hTO hit hx fun h' e hk he => ?_) (F.args_zip_next_1 _))))
  obtain ⟨o, ho, hc⟩ := he
  refine wpAny_bind (wpAny_isInstance (T := "StopIteration") (b := true) ⟨o, ho, hc⟩ isSubtype_stop ?_)
  exact wpAny_pure (hQ _ hk)
end
theorem RowI.vals {b : Array UInt8} : ∀ (us : List Value) (m : Nat), RowI b m us → Vals ((List.range us.length).map fun k => V.int (bI b (m + k))) us := by
  intro us
  induction us with
  | nil => intro m _; exact .nil
  | cons u us ih =>
    intro m h
    rw [List.length_cons, List.range_succ_eq_map, List.map_cons, List.map_map]
    obtain ⟨t, rfl⟩ := h 0 u rfl
    refine .cons ⟨t, rfl⟩ ?_
    have q := ih (m + 1) fun i v e => by
      obtain ⟨t', e'⟩ := h (i + 1) v e
      exact ⟨t', by rw [e', show m + (i + 1) = m + 1 + i by omega]⟩
    refine (congrArg (fun l => Vals l us) (List.map_congr_left fun k _ => ?_)).mp q
    show V.int (bI b (m + 1 + k)) = V.int (bI b (m + (k + 1)))
    rw [show m + 1 + k = m + (k + 1) by omega]
def row8 (b : Array UInt8) (i : Nat) : List V := [.int (bI b (8 * i + 0)), .int (bI b (8 * i + 1)), .int (bI b (8 * i + 2)), .int (bI b (8 * i + 3)), .int (bI b (8 * i + 4)), .int (bI b (8 * i + 5)), .int (bI b (8 * i + 6)), .int (bI b (8 * i + 7))]
theorem row8_vals {b : Array UInt8} {us : List Value} {i : Nat} (h : RowI b (8 * i) us) (hl : us.length = 8) : Vals (row8 b i) us := by
  have q := h.vals us
  rw [hl] at q
  exact q
def It8 (b : Array UInt8) : It := ⟨fun i _ => 8 * i + 8 ≤ b.size, fun i H v H' => ∃ T, v = .ref T ∧ H T = none ∧ H' = upd H T (.tup (row8 b i)), fun i _ => b.size ≤ 8 * i⟩
theorem turn_zip8 {P : Program} {w : World} {K : PySem.W.Frag} {elts : List Expr} {kk : Nat} {tpos : Pos} {z TI TO it : Addr} (Z : Z8 z TI TO it) (b : Array UInt8) (t : Tok) :
    Turn P w K (.Tuple elts kk tpos) (It8 b) [z, TI, TO, it] z (fun i h => IsZip h z TI TO .none ∧ IsT8 h TI (I8 it) ∧ (∃ xs : List Value, xs.length = 8 ∧ IsT8 h TO xs.toArray) ∧ IsBytesIter h it b t (8 * i)) where
  mem := by simp
  obj := fun i h st c hc => by
    obtain ⟨hz, hTI, ⟨xs, hxz, hTO⟩, ⟨o1, e1, _, d1⟩⟩ := st
    have e' : c = z ∨ c = TI ∨ c = TO ∨ c = it := by simpa using hc
    rcases e' with q | q | q | q
    · rw [q]; exact ⟨_, hz, fun v q => nomatch q⟩
    · rw [q]; exact ⟨_, hTI, fun v q => nomatch q⟩
    · rw [q]; exact ⟨_, hTO, fun v q => nomatch q⟩
    · rw [q]; exact ⟨o1, e1, fun v q => by rw [d1] at q; cases q⟩
  keep := fun i h h' st k => by
    obtain ⟨hz, hTI, ⟨xs, hxz, hTO⟩, ⟨o1, e1, r⟩⟩ := st
    exact ⟨k z (by simp) _ hz, k TI (by simp) _ hTI, ⟨xs, hxz, k TO (by simp) _ hTO⟩, ⟨o1, k it (by simp) o1 e1, r⟩⟩
  item := by
    intro X hP hw hK hc i pins s σ H E I hf st hg
    subst hP hw hK
    obtain ⟨hz, hTI, ⟨xs, hxz, hTO⟩, hit⟩ := st
    have hg : 8 * i + 8 ≤ b.size := hg
    have hzl : z < s.heap.objs.size := Heap.lt_size hz
    refine pyNext_zip8_item Z hz hTI hTO hxz hit hg fun h' tk us hl ri z' TO' it' hT hk => ?_
    refine ⟨_, rfl, wpAny_letOwnedTupleGo_zip (s := { s with heap := h', toks := tk }) z' fun h'' z'' sb => ?_⟩
    have hT2 : IsT8 h'' s.heap.objs.size _ := (sb.2 _ (Nat.ne_of_gt hzl)).trans hT
    have new : ObjOk X.prog X.w (upd H s.heap.objs.size (.tup (row8 b i))) h'' s.heap.objs.size (.tup (row8 b i)) :=
      ⟨by show 8 ≤ sizeLine; decide, us, row8_vals ri hl, ⟨_, hT2, rfl, _, rfl⟩⟩
    have I1 : Inv X pins σ (upd H s.heap.objs.size (.tup (row8 b i))) { s with heap := h'', toks := tk } :=
      I.turnedNew (t' := tk) (ch := [z, TI, TO, it]) (fun c o hb q => (sb.2 c (fun q' => hb (by simp [q']))).trans (hk c o (fun q' => hb (by simp [q'])) (fun q' => hb (by simp [q'])) (fun q' => hb (by simp [q'])) q)) hf (Nat.le_refl _) new
    refine ⟨.ref s.heap.objs.size, _, I1, rfl, ⟨_, rfl, I.hok.fresh (Nat.le_refl _), rfl⟩, ⟨z'', ?_, ⟨us, hl, ?_⟩, ?_⟩, fun c hcm => ?_⟩
    · exact (sb.2 _ Z.Iz).trans (hk _ _ Z.Iz Z.IO Z.Ii hTI)
    · exact (sb.2 _ Z.zO.symm).trans TO'
    · obtain ⟨o, ho, r⟩ := it'
      exact ⟨o, (sb.2 _ Z.zi.symm).trans ho, r⟩
    · have hlt : c < s.heap.objs.size := by
        have e' : c = z ∨ c = TI ∨ c = TO ∨ c = it := by simpa using hcm
        rcases e' with q | q | q | q
        · rw [q]; exact hzl
        · rw [q]; exact Heap.lt_size hTI
        · rw [q]; exact Heap.lt_size hTO
        · rw [q]; obtain ⟨_, e1, _⟩ := hit; exact Heap.lt_size e1
      rw [upd_ne (Nat.ne_of_lt hlt)]
      exact (hf c hcm).1
  done := by
    intro X hP hw hK hc i pins s σ H E I hf st hg
    subst hP hw hK
    obtain ⟨hz, hTI, ⟨xs, hxz, hTO⟩, hit⟩ := st
    exact pyNext_zip8_end (I.ok.hd hc) Z hz hTI hTO hit (Array.getElem?_eq_none hg) fun h' hk => ⟨rfl, I.turnedL (t' := s.toks) (ch := [z, TI, TO, it]) (fun c o hb q =>
      hk c o (fun q' => hb (by simp [q'])) (fun q' => hb (by simp [q'])) (fun q' => hb (by simp [q'])) q) hf⟩
  self := fun A i s Q E st h => wpAny_pyIter_zip st.1 h
/-! ### iter(b) -/
def BiO (b : Array UInt8) (it : Addr) : HO := .ext fun h => ∃ t, IsBytesIter h it b t 0
theorem call_iterB {X : Cx} : CallR X (.builtin "iter") (fun xs H Q => ∃ b, xs = [.byt b] ∧ ∀ it, H it = none → X.s_0.heap.objs.size ≤ it → Q (.ref it) (upd H it (BiO b it))) := by
  intro pins s σ H xs us Q I r h
  obtain ⟨b, rfl, q⟩ := h
  obtain ⟨u, rfl, ru⟩ := vals1 r
  obtain ⟨t, rfl⟩ := ru
  refine Calls.call_function_entry (by decide +kernel) (by decide +kernel) PySem.W.kdk_entry_iter (PySem.W.kdk_args_iter _) ?_
  unfold Builtin.«iter»
  refine wpAny_bind (m := someArgs "iter" 1 2 _) (wpAny_of_eq (a := [Value.bytes b t]) (by first | rfl | kernel_rfl!) ?_)
  show wpAny _ _ (pyIter (.bytes b t) >>= _) _ _ _
  refine wpAny_bind (pyIter_bytes (wpAny_pure ⟨_, rfl, ?_⟩))
  have st : IsBytesIter (s.heap.push { cls := .type "bytes_iterator", data := .fields #[.bytes b t, .int 0 0] }) s.heap.objs.size b t 0 := ⟨_, Heap.get?_push_size _ rfl, rfl, rfl⟩
  refine ⟨.ref s.heap.objs.size, _, I.laid (t' := s.toks) (fun b u e => Heap.get?_push_of_some _ e) (Nat.le_refl _) (o := BiO b s.heap.objs.size) ⟨⟨t, st⟩, ⟨_, Heap.get?_push_size _ rfl⟩, fun h1 h2 ⟨t, o, ho, r⟩ k => ⟨t, o, k _ ho, r⟩⟩, rfl, q _ (I.hok.fresh (Nat.le_refl _)) I.sz⟩
/-! ### for .. in zip(it, ..) -/
def iZip8 (n : Nat) (ta : TA) : TI := fun σ H R => ta σ H fun vs H1 => ∃ it b, vs = [.ref it, .ref it, .ref it, .ref it, .ref it, .ref it, .ref it, .ref it] ∧ H1 it = some (BiO b it) ∧ n ≤ it ∧ R (It8 b) (ItX.dropH H1 it)
theorem pi_zip8 {X : Cx} {e0 e1 e2 e3 e4 e5 e6 e7 : Expr} {ta : TA} {p pos tpos : Pos} {elts : List Expr} {kk : Nat} (hg : Gl X "zip") (hm : X.mg "zip" = none) (ha : PA X [e0, e1, e2, e3, e4, e5, e6, e7] ta)
    (hs : starEach [e0, e1, e2, e3, e4, e5, e6, e7] X.env = (false, eval e0 X.env) :: starEach [e1, e2, e3, e4, e5, e6, e7] X.env := by rfl) (hpl : (backTo pos (starEach [e1, e2, e3, e4, e5, e6, e7] X.env)).any (·.1) = false := by rfl) :
    PI X (.Tuple elts kk tpos) (.Call (.Name "zip" p) [e0, e1, e2, e3, e4, e5, e6, e7] [] pos) (iZip8 X.s_0.heap.objs.size ta) := by
  refine ⟨fun pins s σ H R I h => ?_⟩
  refine Call_ (ld_blt I hg hm PyProof.Rows.boot_zip (PyProof.Rows.callWith_type1 (thn (ha.run pos pins s σ H _ I h) fun us s1 ⟨vs, H1, I1, r1, q1⟩ => ?_) hs hpl))
  obtain ⟨it, b, ex, hi, hn, q⟩ := q1
  subst ex
  obtain ⟨t, st⟩ := (I1.hok it _ hi).1
  have eu : us = [.ref it, .ref it, .ref it, .ref it, .ref it, .ref it, .ref it, .ref it] := by
    have z : ∀ (n : Nat) (us : List Value), Vals (List.replicate n (V.ref it)) us → us = List.replicate n (Value.ref it) := fun n => by
      induction n with
      | zero => intro us r; cases r; rfl
      | succ n ih =>
        intro us r
        cases r with
        | cons r0 r =>
          rw [ih _ r, show _ = Value.ref it from r0]
          rfl
    exact z 8 us r1
  subst eu
  have Id : Inv X pins σ (ItX.dropH H1 it) s1 := ItX.inv_drop I1 hi
  have hlt : it < s1.heap.objs.size := by obtain ⟨_, e1, _⟩ := st; exact Heap.lt_size e1
  refine call_zip8 st fun h' hz hTI hTO hk => wpAny_pyIter_zip hz ?_
  have I2 : Inv X pins σ (ItX.dropH H1 it) { s1 with heap := h' } := Id.kept (t' := s1.toks) hk
  have Z : Z8 (s1.heap.objs.size + 2) s1.heap.objs.size (s1.heap.objs.size + 1) it := ⟨by show s1.heap.objs.size + 2 ≠ it; exact Nat.ne_of_gt (Nat.lt_add_right 2 hlt), Nat.ne_of_gt (Nat.lt_succ_self _), by show s1.heap.objs.size + 1 ≠ it; exact Nat.ne_of_gt (Nat.lt_add_right 1 hlt), Nat.ne_of_lt (Nat.lt_add_of_pos_right (by decide)), Nat.ne_of_lt (Nat.lt_succ_self _), Nat.ne_of_gt hlt⟩
  refine ⟨s1.heap.objs.size + 2, [s1.heap.objs.size + 2, s1.heap.objs.size, s1.heap.objs.size + 1, it], _, It8 b, ItX.dropH H1 it, rfl, I2, turn_zip8 Z b t, ⟨hz, hTI, ⟨[.none, .none, .none, .none, .none, .none, .none, .none], rfl, hTO⟩, ?_⟩, fun c hcm => ?_, q⟩
  · obtain ⟨o, ho, r⟩ := st
    exact ⟨o, hk _ _ ho, r⟩
  · have e' : c = s1.heap.objs.size + 2 ∨ c = s1.heap.objs.size ∨ c = s1.heap.objs.size + 1 ∨ c = it := by simpa using hcm
    have fr : s1.heap.objs.size ≤ c → FpOk X pins (ItX.dropH H1 it) c := fun hle => Id.fpOk hle (Id.hok.fresh hle)
    rcases e' with z | z | z | z
    · exact fr (by rw [z]; exact Nat.le_add_right _ _)
    · exact fr (by rw [z]; exact Nat.le_refl _)
    · exact fr (by rw [z]; exact Nat.le_add_right _ _)
    · rw [z]; exact ItX.inv_fp I1 hi hn
/-- a loop over the bytes by eights -/
theorem for_zip8 {b : Array UInt8} {n : Nat} (hn : b.size = 8 * n) {g : TG} {tb : TS} {D : Ends} {σ : L2.St} {H : Hp} (Pv : Nat → L2.St → Hp → Prop) (h0 : Pv 0 σ H)
    (hs : ∀ (i : Nat) (T : Addr) (σ : L2.St) (H : Hp), i < n → Pv i σ H → H T = none → g (.ref T) σ (upd H T (.tup (row8 b i))) fun σ2 H2 => tb { D with nx := Pv (i + 1), ct := Pv (i + 1), bk := D.nx } σ2 H2) (hd : ∀ σ H, Pv n σ H → D.nx σ H) :
    ∃ W : Nat → Nat → L2.St → Hp → Prop, (∃ m, W 0 m σ H) ∧ ∀ i m σ H, W i m σ H →
      ((It8 b).stop i H ∧ D.nx σ H) ∨ ((It8 b).go i H ∧ ∃ N : L2.St → Hp → Prop, (∀ σ' H', N σ' H' → ∃ m', m' < m ∧ W (i + 1) m' σ' H') ∧ ∀ v H', (It8 b).yld i H v H' → g v σ H' fun σ2 H2 => tb { D with nx := N, ct := N, bk := D.nx } σ2 H2) := by
  refine ⟨fun i m σ H => m = n - i ∧ i ≤ n ∧ Pv i σ H, ⟨n, rfl, Nat.zero_le _, h0⟩, ?_⟩
  rintro i m σ H ⟨rfl, hi, p⟩
  by_cases hlt : i < n
  · refine .inr ⟨by show 8 * i + 8 ≤ b.size; omega, Pv (i + 1), fun σ' H' p' => ⟨n - (i + 1), by omega, rfl, hlt, p'⟩, fun v H' y => ?_⟩
    obtain ⟨T, rfl, hT, rfl⟩ := y
    exact hs i T σ H hlt p hT
  · have e : i = n := by omega
    subst e
    exact .inl ⟨by show b.size ≤ 8 * i; omega, hd σ H p⟩
end Fk

set_option maxHeartbeats 4000000
/-! list(text); classes and defs called with keywords; properties. -/
namespace Fk
open PySem PySem.Spec PyProof.Rows L2
section
variable {X : Cx}
/-- list(x), x a text -/
def rListS : List V → Hp → VK → Prop := fun xs H Q => ∃ x : Str, xs = [.str x] ∧ x.length ≤ sizeLine ∧ ∀ q, H q = none → Q (.ref q) (upd H q (.lst ((TL.tl x).map sgn)))
theorem call_listS (hc : X.calm = true) : CallR X (.type "list") rListS := by
  intro pins s σ H xs us Q I r h
  obtain ⟨x, e, hz, q⟩ := h
  subst e
  obtain ⟨u, eu, rx⟩ := vals1 r
  subst eu
  obtain ⟨t, rfl⟩ := rx
  refine PySem.call_list_str (I.ok.hd hc) x t (fun h' tk acc' c' hk hS hacc => ?_) hz
  refine ⟨.ref s.heap.objs.size, upd H s.heap.objs.size (.lst ((TL.tl x).map sgn)), I.laid hk (Nat.le_refl _) (show ObjOk X.prog X.w _ _ _ (.lst ((TL.tl x).map sgn)) from ⟨?_, acc'.toList, c', ?_, ?_⟩), rfl, q _ (I.hok.fresh (Nat.le_refl _))⟩
  · rw [List.length_map, ← TL.len_tl]; exact hz
  · have el : acc'.toList.length = acc'.size := by simp
    refine vals_of_at (by rw [List.length_map, el, hacc.1, ← TL.len_tl]; rfl) fun j x' w h1 h2 => ?_
    obtain ⟨c, u, hcx, rfl⟩ := hacc.2 j w (by rw [← Array.getElem?_toList]; exact h2)
    rw [List.getElem?_map, show (TL.tl x)[j]? = some c from by rw [← hcx]; exact Array.getElem?_toList] at h1
    cases h1
    exact ⟨u, rfl⟩
  · rw [Array.toArray_toList]; exact hS
end
/-! ### classes and defs called with keywords -/
def IniK (K : PySem.W.Frag) (C : Addr) (qual : Str) (st : Stmt) (ps : List Str) (n : Nat) (ks : List Str) (gV : List V → List V → List V) : Prop := ∃ (f : Addr) (fd : FuncData) (g : List Value → List Value → List Value), Mk K C f ∧ C8.Fun K "__init__" qual st f fd ∧ KBn K fd ps n ks g gV
structure MakK (P : Program) (w : World) (K : PySem.W.Frag) (mg : Str → Option Value) (base : Heap) (k : Nat) (x : Str) (C : Addr) (sp : Sp) (n : Nat) (ks : List Str) (gV : List V → List V → List V) : Prop where
  ex : ∃ (f : Addr) (fd : FuncData) (ps : List Str) (g : List Value → List Value → List Value), Mk K C f ∧ FnOk P w K mg base C8.CX0 k f fd ps sp ∧ mg x = some (.ref C) ∧ KBn K fd ps n ks g gV
def DefK (K : PySem.W.Frag) (mg : Str → Option Value) (x : Str) (st : Stmt) (ps : List Str) (n : Nat) (ks : List Str) (gV : List V → List V → List V) : Prop := ∃ (f : Addr) (fd : FuncData) (g : List Value → List Value → List Value), C8.Fun K x x st f fd ∧ mg x = some (.ref f) ∧ PySem.W.keepIn K (.ref f) = true ∧ KBn K fd ps n ks g gV
structure CalK (P : Program) (w : World) (K : PySem.W.Frag) (mg : Str → Option Value) (base : Heap) (k : Nat) (x : Str) (sp : Sp) (n : Nat) (ks : List Str) (gV : List V → List V → List V) : Prop where
  ex : ∃ (f : Addr) (fd : FuncData) (ps : List Str) (g : List Value → List Value → List Value), FnOk P w K mg base C8.CX0 k f fd ps sp ∧ mg x = some (.ref f) ∧ PySem.W.keepIn K (.ref f) = true ∧ KBn K fd ps n ks g gV
section
variable {P : Program} {w : World} {K : PySem.W.Frag} {mg : Str → Option Value} {base : Heap}
theorem makK {x qual : Str} {C : Addr} {st : Stmt} {ps ks : List Str} {n k : Nat} {sp : Sp} {gV : List V → List V → List V} (I : IniK K C qual st ps n ks gV) (hm : mg x = some (.ref C)) (F : ∀ f fd, C8.Fun K "__init__" qual st f fd → FnOk P w K mg base C8.CX0 k f fd ps sp) : MakK P w K mg base k x C sp n ks gV := by
  obtain ⟨f, fd, g, M, U, b⟩ := I
  exact ⟨f, fd, ps, g, M, F f fd U, hm, b⟩
theorem calK {x : Str} {st : Stmt} {ps ks : List Str} {n k : Nat} {sp : Sp} {gV : List V → List V → List V} (I : DefK K mg x st ps n ks gV) (F : ∀ f fd, C8.Fun K x x st f fd → FnOk P w K mg base C8.CX0 k f fd ps sp) : CalK P w K mg base k x sp n ks gV := by
  obtain ⟨f, fd, g, U, hm, hk, b⟩ := I
  exact ⟨f, fd, ps, g, F f fd U, hm, hk, b⟩
/-- a property of a class, by its getter -/
structure PDef (K : PySem.W.Frag) (C : Addr) (f qual : Str) (st : Stmt) : Prop where
  ex : ∃ (p g : Addr) (fd : FuncData), PropOf K C f p g ∧ C8.Fun K f qual st g fd ∧ fd.defaults = .none
structure Prp (P : Program) (w : World) (K : PySem.W.Frag) (mg : Str → Option Value) (base : Heap) (k : Nat) (C : Addr) (f : Str) (sp : Sp) : Prop where
  ex : ∃ (p g : Addr) (fd : FuncData) (ps : List Str), Cls K C ∧ PropOf K C f p g ∧ FnOk P w K mg base C8.CX0 k g fd ps sp ∧ Binds K fd ps []
theorem prp_of {f qual : Str} {C : Addr} {st : Stmt} {N ps : List Str} {k : Nat} {sp : Sp} (c : Cls K C) (D : PDef K C f qual st) (S : FnScope N ps (C8.fnScope st))
    (hb : ∀ (kV doc pm : Value) (an : Option Addr) (cdv ct : Value) (us : List Value), us.length = ps.length → bindArgs (PySem.W.fnOf f qual (C8.fnArgs st) (C8.fnBody st) (C8.fnScope st) .none kV doc pm an cdv ct) ⟨us, []⟩ = pure (ps.zip us))
    (len : ∀ vs H Q E, sp vs H Q E → vs.length = ps.length)
    (hbody : ∀ (f : Addr) (cdv : Value) (A : Around) (outer : List Env) (s : Shared) (H : Hp) (vs : List V) (Q : VK) (E : XK), Room k (A.deeper (envOfC qual (C8.fnScope st) s.heap.objs.size f cdv)) → sp vs H Q E →
      ∃ t, PSs (cxOf C8.CX0 P w K mg base N qual (C8.fnScope st) f cdv A outer s H E).nox (C8.fnBody st) t ∧ t { nx := fun _ H' => Q .non H', rt := Q } (start N vs) H) : Prp P w K mg base (k + 1) C f sp := by
  obtain ⟨p, g, fd, hp, F, df⟩ := D.ex
  exact ⟨p, g, fd, ps, c, hp, C8.fn0 F S len (hbody g), F.binds df hb⟩
end
section
variable {X : Cx} {k j n : Nat} {C : Addr} {x f : Str} {sp : Sp} {p pos : Pos} {e : Expr} {es : List Expr} {kws : List Keyword} {ks : List Str} {t tk : TA} {ta : TE} {gV : List V → List V → List V}
/-- C(e, .., k = v, ..) -/
theorem pe_mkK (c : MakK X.prog X.w X.K X.mg X.base k x C sp (n + 1) ks gV) (hr : Room j X.A) (hk : k + 1 ≤ j) (hg : Gl X x) (ha : PA X (e :: es) t) (hkw : PK X kws tk)
    (hall : (backToKw pos (keywordEach kws X.env)).all (·.1.isSome) = true := by rfl) (hks : (backToKw pos (keywordEach kws X.env)).filterMap (·.1) = ks := by rfl) (hdb : (x == ("__debug__" : Str)) = false := by decide)
    (he : starEach (e :: es) X.env = (false, eval e X.env) :: starEach es X.env := by rfl) (hpl : ((backTo pos (starEach (e :: es) X.env)).any (·.1) || (backToKw pos (keywordEach kws X.env)).any (·.1.isNone)) = false := by rfl) :
    PE X (.Call (.Name x p) (e :: es) kws pos) (tMakeK C n ks.length sp gV C8.E0 t tk) := by
  obtain ⟨f, fd, ps, g, M, F, hm, b⟩ := c.ex
  exact pe_makeK M F (hr.mono hk) hg hm b C8.pass0 ha hkw hall hks hdb he hpl
/-- C(k = v, ..) -/
theorem pe_mkK0 (c : MakK X.prog X.w X.K X.mg X.base k x C sp 1 ks gV) (hr : Room j X.A) (hk : k + 1 ≤ j) (hg : Gl X x) (hkw : PK X kws tk)
    (hall : (backToKw pos (keywordEach kws X.env)).all (·.1.isSome) = true := by rfl) (hks : (backToKw pos (keywordEach kws X.env)).filterMap (·.1) = ks := by rfl) (hdb : (x == ("__debug__" : Str)) = false := by decide)
    (hpl : ((backTo pos (starEach [] X.env)).any (·.1) || (backToKw pos (keywordEach kws X.env)).any (·.1.isNone)) = false := by rfl) :
    PE X (.Call (.Name x p) [] kws pos) (tMakeK C 0 ks.length sp gV C8.E0 tNil tk) := by
  obtain ⟨f, fd, ps, g, M, F, hm, b⟩ := c.ex
  exact pe_makeK0 M F (hr.mono hk) hg hm b C8.pass0 hkw hall hks hdb hpl
/-- x(e, .., k = v, ..) -/
theorem pe_cK (c : CalK X.prog X.w X.K X.mg X.base k x sp n ks gV) (hr : Room j X.A) (hk : k ≤ j) (hg : Gl X x) (ha : PA X (e :: es) t) (hkw : PK X kws tk)
    (hall : (backToKw pos (keywordEach kws X.env)).all (·.1.isSome) = true := by rfl) (hks : (backToKw pos (keywordEach kws X.env)).filterMap (·.1) = ks := by rfl) (hdb : (x == ("__debug__" : Str)) = false := by decide)
    (he : starEach (e :: es) X.env = (false, eval e X.env) :: starEach es X.env := by rfl) (hpl : ((backTo pos (starEach (e :: es) X.env)).any (·.1) || (backToKw pos (keywordEach kws X.env)).any (·.1.isNone)) = false := by rfl) :
    PE X (.Call (.Name x p) (e :: es) kws pos) (tCallN n ks.length sp gV C8.E0 t tk) := by
  obtain ⟨f, fd, ps, g, F, hm, hkp, b⟩ := c.ex
  exact pe_callN F (hr.mono hk) hg hm hkp b C8.pass0 ha hkw hall hks hdb he hpl
/-- e.f, a property -/
theorem pe_pr (c : Prp X.prog X.w X.K X.mg X.base k C f sp) (hr : Room j X.A) (hk : k + 1 ≤ j) (he : PE X e ta) (hab : attributeBase e f X.env (eval e X.env) = eval e X.env := by rfl) : PE X (.Attribute e f pos) (tProp C sp [] C8.E0 ta) := by
  obtain ⟨p, g, fd, ps, cl, hp, F, b⟩ := c.ex
  exact pe_prop he cl hp F (hr.mono hk) b .nil C8.pass0 hab
/-- e, locked behind its making: a thing of its own that is walked -/
def tLocked (te : TE) : TE := fun σ H Q => te σ H fun x H1 => ∃ d u, x = .ref d ∧ H1 d = some u ∧ Mut (some u) ∧ ∀ od, Q x (upd H1 d (.frz od u))
theorem pe_locked (he : PE X e ta) : PE X e (tLocked ta) := by
  refine ⟨fun pins s σ H Q I h => thn (he.run pins s σ H _ I h) fun v s1 ⟨x, H1, I1, r, d, u, ex, hd, mu, q⟩ => ?_⟩
  obtain ⟨od, I2⟩ := I1.lock hd mu
  exact ⟨x, _, I2, r, q od⟩
end
end Fk

set_option maxHeartbeats 4000000
/-! sorted(set(xs)), xs a list of texts. -/
namespace Fk
open PySem PySem.Spec PyProof.Rows L2 PySem.Froz

/-- what walking over the set asks of its table -/
def Pl (w : World) (t : SetTable) : Prop := Ris t.place.toList ∧ (w.params.followText "set-order" = true ∨ t.led = true)
theorem pl_add {w : World} {D : SD} {h : Int} {v : Value} (p : Pl w D.2.2) : Pl w (addTx h v D).2.2 := by
  obtain ⟨es, ep, t⟩ := D
  have p1 : Pl w (layNew t es h v).2.1 := ⟨layNew_ris t es h v p.1, p.2.imp id fun z => by rw [layNew_led t es h v]; exact z⟩
  have p2 : Pl w (if (layNew t es h v).2.1.plain = true then { (layNew t es h v).2.1 with plain := false } else (layNew t es h v).2.1) := by
    split <;> exact p1
  show Pl w (tailTx ep (layNew t es h v).1 (if (layNew t es h v).2.1.plain = true then { (layNew t es h v).2.1 with plain := false } else (layNew t es h v).2.1) (layNew t es h v).2.2.1).2.2
  generalize (if (layNew t es h v).2.1.plain = true then { (layNew t es h v).2.1 with plain := false } else (layNew t es h v).2.1) = t2 at p2 ⊢
  unfold tailTx
  split
  · exact ⟨relayAll_ris _ _ _, p2.2.imp id fun z => by rw [relayAll_led]; exact z⟩
  · exact p2
theorem perm_add (h : Int) (v : Value) (D : SD) : (addTx h v D).1.toList.Perm (D.1.toList ++ [(h, v)]) := by
  obtain ⟨es, ep, t⟩ := D
  have pm := layNew_perm t es h v
  rw [Array.toList_push] at pm
  show (tailTx ep (layNew t es h v).1 (if (layNew t es h v).2.1.plain = true then { (layNew t es h v).2.1 with plain := false } else (layNew t es h v).2.1) (layNew t es h v).2.2.1).1.toList.Perm _
  generalize (if (layNew t es h v).2.1.plain = true then { (layNew t es h v).2.1 with plain := false } else (layNew t es h v).2.1) = t2
  unfold tailTx
  split
  · exact (relayAll_perm _ _ _).trans pm
  · exact pm
def strOf : Value → Str
  | .str k _ => k
  | _ => Str.empty
/-- the set at a holds the texts l -/
structure TxR (P : Program) (w : World) (h : Heap) (a : Addr) (l : List Str) : Prop where
  ob : ∃ D : SD, h.get? a = some (sObj "set" D) ∧ TxOk P w D l ∧ Pl w D.2.2 ∧ (∀ e ∈ D.1.toList, ∃ k t, e.2 = Value.str k t) ∧ (D.1.toList.map fun e => strOf e.2).Perm l
  nd : l.Nodup
theorem TxR.at {P : Program} {w : World} {h h' : Heap} {a : Addr} {l : List Str} (R : TxR P w h a l) (k : ∀ o, h.get? a = some o → h'.get? a = some o) : TxR P w h' a l := by
  obtain ⟨⟨D, ho, r⟩, nd⟩ := R
  exact ⟨⟨D, k _ ho, r⟩, nd⟩
theorem txr_new {P : Program} {w : World} {h : Heap} {a : Addr} (ho : h.get? a = some { cls := .type "set", dict := none, data := .set #[] 0 (.fresh 0 0 (!w.params.followText "set-order")) }) : TxR P w h a [] := by
  refine ⟨⟨(#[], 0, .fresh 0 0 (!w.params.followText "set-order")), ho, TxOk.nil (by rfl), ⟨List.Pairwise.nil, ?_⟩, fun e he => by simp at he, by simp⟩, .nil⟩
  show _ ∨ (!w.params.followText "set-order") = true
  cases w.params.followText "set-order"
  · exact .inr rfl
  · exact .inl rfl
section
variable {P : Program} {w : World} {A : Around} {E : Value → Shared → Prop} {s : Shared}
theorem txr_same {a : Addr} {l : List Str} {k : Str} {u : Tok} {Q : Bool → Shared → Prop} (R : TxR P w s.heap a l) (hk : k ∈ l) (hb : l.length < scanBound) (h : Q false s) :
    wpAny (model P w) A (setAddHashed a (.str k u) ((strKind P w).hash k)) Q E s := by
  obtain ⟨⟨⟨es, ep, t⟩, ho, F, _⟩, _⟩ := R
  have hd : (sObj "set" (es, ep, t)).data = .set es ep t := rfl
  have hf : t.fits es.size = true := F.fit
  have hel : ElemsOf (strKind P w) es.toList := F.el
  have hsz : es.size = l.length := F.sz
  have hkey : (strKind P w).is k (.str k u) = true := is_str k u
  unfold setAddHashed setAddHashedIn
  refine wpAny_holding (wpAny_bind (wpAny_setState_of ho hd hf ?_))
  dsimp only
  rw [byScan_of rfl (by omega) hel]
  simp only [↓reduceIte]
  unfold setAddByScan
  refine wpAny_bind ?_
  refine wpAny_bind (wpAny_rule ?_)
  refine wpAny_bind (wpAny_setScan_of (knd := strKind P w) (k := k) hkey ho hd hf hel ?_)
  cases hr : List.findIdx? (fun e => (strKind P w).is k e.2) es.toList with
  | none =>
    obtain ⟨e, he, q⟩ := (F.mem k).mp hk
    have c := List.findIdx?_eq_none_iff.mp hr e he
    rw [q] at c
    cases c
  | some j =>
    dsimp only
    exact wpAny_pure (wpAny_pure h)
theorem txr_add {a : Addr} {l : List Str} {k : Str} {u : Tok} {Q : Bool → Shared → Prop} (R : TxR P w s.heap a l) (hb : l.length + 1 < scanBound)
    (h : ∀ (b : Bool) h', Heap.SameBut a s.heap h' → TxR P w h' a (if k ∈ l then l else k :: l) → Q b { s with heap := h' }) :
    wpAny (model P w) A (setAddHashed a (.str k u) ((strKind P w).hash k)) Q E s := by
  by_cases hk : k ∈ l
  · rw [if_pos hk] at h
    exact txr_same R hk (by omega) (h false s.heap (Heap.SameBut.refl a s.heap) R)
  · rw [if_neg hk] at h
    obtain ⟨⟨D, ho, F, p, st, pm⟩, nd⟩ := R
    refine add_x ho F hk hb (h true _ ?_ ⟨⟨_, get_upd _ ho rfl, add_ok u F, pl_add p, fun e he => ?_, ?_⟩, List.nodup_cons.mpr ⟨hk, nd⟩⟩)
    · exact Heap.SameBut.update _ _ _
    · rcases List.mem_append.mp ((perm_add _ _ D).mem_iff.mp he) with z | z
      · exact st e z
      · rw [List.mem_singleton] at z
        exact ⟨k, u, by rw [z]⟩
    · refine ((perm_add _ _ D).map fun e => strOf e.2).trans ?_
      rw [List.map_append]
      exact (List.perm_append_comm).trans (pm.cons k)

theorem set_update_strs {I : Addr} {fp wr : List Addr} {G : Array GenState → Array GenState → Prop} {n : Nat} {Pv : Nat → Value → Prop} {St : Nat → Shared → Prop} {R : Result → Shared → Prop}
    (W : WalksS P w A.in1 I fp wr G n Pv St) (S : Addr) (hSf : S ∉ fp) (ks : List Str) (hn : n = ks.length) (hb : ks.length + 1 < scanBound) (hval : ∀ i v, Pv i v → ∃ k t, ks[i]? = some k ∧ v = .str k t) :
    ∀ (m i : Nat) (s : Shared), n - i = m → i ≤ n → St i s → (∃ l, l.length ≤ i ∧ (∀ k, k ∈ l ↔ k ∈ ks.take i) ∧ TxR P w s.heap S l) →
      (∀ s' l, Moved (S :: wr) G s s' → l.length ≤ n → (∀ k, k ∈ l ↔ k ∈ ks) → TxR P w s'.heap S l → R (.ok (.ret .none)) s') →
      codeAny (model P w) A (.builtin "set.update.loop" ⟨[.ref S, .ref I], []⟩) R s := by
  have hSw : S ∉ wr := fun h => hSf (W.sub _ h)
  have hsub : ∀ b ∈ wr, b ∈ S :: wr := fun b hb => List.mem_cons_of_mem _ hb
  intro m
  induction m with
  | zero =>
    intro i s hk' hi hst ⟨l, hc, hm0, hS⟩ hR
    have hin : i = n := by omega
    subst hin
    refine codeAny_builtin F.entry_set_update_loop ?_
    rw [Around.under_plainId F.plain_set_update_loop _]
    show wpAny _ A.in1 (pyNext (.ref I) >>= _) _ _ s
    refine wpAny_bind (W.done s _ _ hst fun s' hm => ?_)
    show wpAny _ A.in1 (ret Value.none) _ _ s'
    rw [List.take_of_length_le (by omega)] at hm0
    exact wpAny_pure (hR s' l (hm.mono hsub) hc hm0 (hS.at fun o e => hm.heap S o hSw e))
  | succ m ih =>
    intro i s hk' hi hst ⟨l, hc, hm0, hS⟩ hR
    have hlt : i < n := by omega
    refine codeAny_builtin F.entry_set_update_loop ?_
    rw [Around.under_plainId F.plain_set_update_loop _]
    show wpAny _ A.in1 (pyNext (.ref I) >>= _) _ _ s
    refine wpAny_bind (W.item i s _ _ hlt hst fun v s' hP hst' hm => ?_)
    obtain ⟨z, t, hz, rfl⟩ := hval i v hP
    have hS' : TxR P w s'.heap S l := hS.at fun o e => hm.heap S o hSw e
    show wpAny _ A.in1 (holding [Value.str z t] (setAdd S (.str z t)) >>= _) _ _ s'
    refine wpAny_bind (wpAny_holding ?_)
    unfold setAdd
    refine wpAny_holding ?_
    refine wpAny_bind ((strKind P w).pyHash (k := z) (is_str _ _) ?_)
    refine txr_add (s := { s' with toks := s'.toks + 1 }) hS' (by omega) fun _ h' hsb hS2 => ?_
    have hm2 : ∀ k, k ∈ (if z ∈ l then l else z :: l) ↔ k ∈ ks.take (i + 1) := fun k => by
      have e : ks.take (i + 1) = ks.take i ++ [z] := by
        rw [List.take_add_one, hz]; rfl
      rw [e, List.mem_append, List.mem_singleton, ← hm0 k]
      by_cases c : z ∈ l
      · rw [if_pos c]
        exact ⟨.inl, fun q => q.elim id fun q => q ▸ c⟩
      · rw [if_neg c, List.mem_cons]
        exact Or.comm
    have hc2 : (if z ∈ l then l else z :: l).length ≤ i + 1 := by
      split
      · omega
      · rw [List.length_cons]; omega
    refine wpAny_pure ⟨plainId_quiet F.plain_set_update_loop _, ih (i + 1) _ (by omega) hlt (W.frame _ s' _ _ hst' (Nat.le_succ _) fun b hb o e => ?_) ⟨_, hc2, hm2, hS2⟩ fun s'' l2 hm'' hc'' hm3 hS'' => ?_⟩
    · rw [hsb.2 b (fun h : b = S => hSf (by rw [← h]; exact hb))]; exact e
    · refine hR s'' l2 (Moved.trans W.gtrans ((hm.mono hsub).then_heap (Nat.le_succ _) fun b o hb e => ?_) hm'') hc'' hm3 hS''
      rw [hsb.2 b (fun h : b = S => hb (by rw [h]; exact List.mem_cons_self))]; exact e

theorem str_vals : ∀ {us : List Value} {ks : List Str}, StrsAre us ks → ∀ (i : Nat) (v : Value), us[i]? = some v → ∃ k t, ks[i]? = some k ∧ v = .str k t
  | _, _, .nil, i, v, h => by simp at h
  | _, _, .cons n t hr, 0, v, h => ⟨n, t, rfl, (Option.some.inj h).symm⟩
  | _, _, .cons n t hr, i + 1, v, h => str_vals hr i v (by simpa using h)
theorem str_len : ∀ {us : List Value} {ks : List Str}, StrsAre us ks → us.length = ks.length
  | _, _, .nil => rfl
  | _, _, .cons n t hr => by rw [List.length_cons, List.length_cons, str_len hr]

set_option maxHeartbeats 6400000 in
theorem call_set_strs {l : Addr} {items : Array Value} (ks : List Str) {Q : Value → Shared → Prop} (hh : A.handled = none) (hl : s.heap.IsList l items) (hit : StrsAre items.toList ks) (hb : ks.length + 1 < scanBound)
    (h : ∀ (h' : Heap) (tk : Nat) L, TxR P w h' s.heap.objs.size L → L.length ≤ ks.length → (∀ k, k ∈ L ↔ k ∈ ks) → (∀ b o, s.heap.get? b = some o → h'.get? b = some o) → Q (.ref s.heap.objs.size) { s with heap := h', toks := tk }) :
    wpAny (model P w) A (call (.type "set") [.ref l]) Q E s := by
  have hisz : items.size = ks.length := by
    have q := str_len hit
    rw [Array.length_toList] at q
    exact q
  obtain ⟨c, tl, hmro⟩ := F.called_set.mro
  have hmade := F.called_set.made
  have hsub := F.called_set.sub
  refine wpAny_call (codeAny_of_tree ?_)
  show wpAny _ _ (callAny (.type "set") _) _ _ _
  refine wpAny_pure ⟨Code.quiet_builtin _ (by decide +kernel), codeAny_builtin F.entry_type_call ?_⟩
  rw [Around.under_plain (weight_type_call_type "set" [.ref l] []) rfl]
  have h1 := F.called_set.notType
  have h2 := F.called_set.canCreate
  have hct := F.typeCall_set_1 (.ref l)
  repeat (any_goals (first | assumption | wp_step))
  generalize hO : ({ cls := .type "set", dict := none, data := .set #[] 0 (.fresh 0 0 (!w.params.followText "set-order")) } : Obj) = O
  have hOc : O.cls = .type "set" := by rw [← hO]
  have hOf : O.isFreed = false := by rw [← hO]; rfl
  refine codeAny_mono (code_set_led1 (.ref l) (E := E) (Q₁ := fun obj s₁ => obj = .ref s.heap.objs.size ∧ s₁ = { s with heap := s.heap.push O }) ⟨rfl, by rw [hO]⟩) fun r s₁ hr => ?_
  cases r with
  | error e => exact hr
  | ok fl =>
    cases fl with
    | ret obj =>
      obtain ⟨rfl, rfl⟩ := hr
      have hS : (s.heap.push O).get? s.heap.objs.size = some O := Heap.get?_push_size _ hOf
      have hT : Shared.TypeIs { s with heap := s.heap.push O } (.ref s.heap.objs.size) "set" := ⟨_, hS, hOc⟩
      have hli := F.called_set.init.lookup
      have hbi := F.called_set.init.bind (.ref s.heap.objs.size)
      repeat (any_goals (first | assumption | wp_step))
      refine codeAny_mono (codeAny_call_builtin (R := wants (fun r s₂ => r = .none ∧ ∃ h' tk L, s₂ = { s with heap := h', toks := tk } ∧ TxR P w h' s.heap.objs.size L ∧ L.length ≤ ks.length ∧ (∀ k, k ∈ L ↔ k ∈ ks) ∧
          (∀ b o, s.heap.get? b = some o → h'.get? b = some o)) E) F.called_set.init.plain F.entry_set_init (check_set_init_1 hT ?_)) fun r₂ s₂ hr₂ => ?_
      · obtain ⟨ol, hol, hcl, nl, hdl⟩ := hl
        obtain ⟨ocls, odict, odata, oslots⟩ := ol
        simp only at hcl hdl
        subst hcl; subst hdl
        have hol' : (s.heap.push O).get? l = some { cls := .type "list", dict := odict, data := .seq items nl, slots := oslots } := Heap.get?_push_of_some _ hol
        subst hO
        have hsls := F.sub_list_set
        have hslf := F.sub_list_frozenset
        have hne : (Value.type "list" == Value.type "dict") = false := by decide
        have hl1 : (s.heap.push ({ cls := .type "set", dict := none, data := .set #[] 0 (.fresh 0 0 (!w.params.followText "set-order")) } : Obj)).IsList l items := ⟨_, hol', rfl, nl, rfl⟩
        unfold Builtin.«set.__init__» noKeywords Builtin.Frozenset.updateFrom
        generalize hPI : pyIter = PI
        wp_walk
        subst hPI
        refine wpAny_pyIter_list (s := { s with heap := s.heap.push ({ cls := .type "set", dict := none, data := .set #[] 0 (.fresh 0 0 (!w.params.followText "set-order")) } : Obj) }) hl1 ?_
        refine wpAny_bind (wpAny_runValue ?_)
        have hlS : l < s.heap.objs.size := Heap.lt_size hol
        have hh3 : A.in1.in1.in1.handled = none := by simp [hh]
        have hneI : l ≠ (s.heap.push ({ cls := .type "set", dict := none, data := .set #[] 0 (.fresh 0 0 (!w.params.followText "set-order")) } : Obj)).objs.size := by
          rw [Heap.size_push]; exact Nat.ne_of_lt (Nat.lt_succ_of_lt hlS)
        have hSf : s.heap.objs.size ∉ [(s.heap.push ({ cls := .type "set", dict := none, data := .set #[] 0 (.fresh 0 0 (!w.params.followText "set-order")) } : Obj)).objs.size, l] := by
          rw [Heap.size_push]; simp only [List.mem_cons, List.mem_singleton, List.not_mem_nil, or_false, not_or]
          exact ⟨Nat.ne_of_lt (Nat.lt_succ_self _), Nat.ne_of_gt hlS⟩
        refine set_update_strs ((Walks.list hh3 _ l hneI items).toS) s.heap.objs.size
          hSf ks hisz hb (fun i v hv => str_vals hit i v (by rw [Array.getElem?_toList]; exact hv)) (items.size - 0) 0 _ (by omega) (Nat.zero_le _)
          ⟨⟨_, Heap.get?_push_size _ rfl, rfl, rfl⟩, (hl1.push _)⟩ ⟨[], Nat.le_refl _, (fun k => by simp), txr_new (by exact Heap.get?_push_of_some _ hS)⟩ fun s' L hm hlen hmem hS' => ?_
        obtain ⟨h', g2, d', tk', os'⟩ := s'
        have eg : g2 = s.gens := hm.gens
        have ed : d' = s.drawn := hm.drawn
        have eo : os' = s.os := hm.os
        subst eg; subst ed; subst eo
        show wpAny _ _ _ _ _ _
        refine wpAny_pure ?_
        show wpAny _ _ (ret Value.none) _ _ _
        refine wpAny_pure ⟨rfl, h', tk', L, rfl, hS', by omega, hmem, fun b o e => ?_⟩
        have hb0 : b < s.heap.objs.size := Heap.lt_size e
        have hb2 : b ≠ (s.heap.push ({ cls := .type "set", dict := none, data := .set #[] 0 (.fresh 0 0 (!w.params.followText "set-order")) } : Obj)).objs.size := by
          rw [Heap.size_push]; exact Nat.ne_of_lt (Nat.lt_succ_of_lt hb0)
        exact hm.heap b o (by simp only [List.mem_cons, List.mem_singleton, List.not_mem_nil, or_false, not_or]; exact ⟨Nat.ne_of_lt hb0, hb2⟩) (Heap.get?_push_of_some _ (Heap.get?_push_of_some _ e))
      · cases r₂ with
        | error e => exact hr₂
        | ok fl₂ =>
          cases fl₂ with
          | ret r =>
            obtain ⟨rfl, h', tk, L, rfl, hS', hc', hm', hk'⟩ := hr₂
            repeat (any_goals (first | assumption | wp_step))
            exact h _ _ _ hS' hc' hm' hk'
          | _ => exact hr₂.elim
    | _ => exact hr.elim

theorem strs_of_vals : ∀ (vs : List Value), (∀ v ∈ vs, ∃ k t, v = Value.str k t) → StrsAre vs (vs.map strOf)
  | [], _ => .nil
  | v :: vs, h => by
    obtain ⟨k, t, rfl⟩ := h v List.mem_cons_self
    exact .cons k t (strs_of_vals vs fun u hu => h u (List.mem_cons_of_mem _ hu))
/-- sorted(the set) -/
theorem sorted_txr {a : Addr} {l : List Str} {Q : Value → Shared → Prop} (R : TxR P w s.heap a l) (hh : A.handled = none) (h64 : l.length < 64)
    (hQ : ∀ s' p (out : List Value) (c : Nat) (ys : List Str), (∀ b o, s.heap.get? b = some o → s'.heap.get? b = some o) → s'.gens = s.gens → s'.os = s.os → s.heap.objs.size ≤ p →
      s'.heap.get? p = some (seqObj "list" out.toArray c) → StrsAre out ys → ys.Perm l → sortedS ys = true → Q (.ref p) s') :
    wpAny (model P w) A (call (.builtin "sorted") [.ref a]) Q E s := by
  obtain ⟨⟨⟨es, ep, t⟩, ho, F, pl, st, pm0⟩, nd⟩ := R
  have hsz : es.size = l.length := F.sz
  refine Calls.call_function_entry PyProof.Rows.kind_sorted PyProof.Rows.plain_sorted PyProof.Rows.entry_sorted (PyProof.Rows.args_sorted1 _) ?_
  unfold Builtin.«sorted»
  refine wpAny_bind (m := checkCount "sorted" 1 1 _) (wpAny_pure ?_)
  refine wpAny_bind (collect_set (A := A.in1) hh ⟨_, ho, rfl, rfl⟩ F.fit (by show es.size < scanBound; unfold scanBound; omega) pl.1 pl.2 fun s1 vs k1 hz g1 o1 pm => ?_)
  have hvl : vs.length < 64 := by rw [pm.length_eq, List.length_map, Array.length_toList]; exact hsz ▸ h64
  have hS : StrsAre vs (vs.map strOf) := strs_of_vals vs fun v hv => by
    obtain ⟨e, he, q⟩ := List.mem_map.mp (pm.mem_iff.mp hv)
    obtain ⟨k, tk, z⟩ := st e he
    exact ⟨k, tk, by rw [← q]; exact z⟩
  have pk : (vs.map strOf).Perm l := by
    have q := pm.map strOf
    rw [List.map_map] at q
    exact q.trans pm0
  refine wpAny_bind (wpAny_newList ?_ (by rw [sizeLine_eq]; omega))
  have hoL : (s1.heap.push (seqObj "list" vs.toArray 0)).get? s1.heap.objs.size = some (seqObj "list" vs.toArray 0) := Heap.get?_push_size _ rfl
  refine wpAny_bind (wpAny_holding (wpAny_call_entry PyProof.Rows.slot_list_sort ⟨_, hoL, rfl⟩ PyProof.Rows.entry_list_sort
    (list_sort_treeK strKind_oneLt (s := { s1 with heap := s1.heap.push (seqObj "list" vs.toArray 0) }) hoL hS.keysOf (fun v₁ v₂ rest e => keyKind_strs (by rw [← e]; exact hS)) hvl fun st' hp hs => ⟨_, rfl, ?_⟩)
    (PyProof.Rows.args_list_sort _)))
  obtain ⟨ys, g1', g2, g3⟩ := sorted_out_str hS hp hs
  obtain ⟨c, hc⟩ := PyProof.Rows.sortedHeap_at (vs := vs) (out := (arrOf st').map (·.2)) hoL
  refine wpAny_pure ⟨_, rfl, hQ _ s1.heap.objs.size ((arrOf st').map (·.2)).toList c ys (fun b u e => ?_) g1 o1 hz (by rw [Array.toArray_toList]; exact hc) g1' (g2.trans pk) g3⟩
  have q := k1 b u e
  have hlt := Heap.lt_size q
  show (sortedHeap (s1.heap.push (seqObj "list" vs.toArray 0)) s1.heap.objs.size vs _).get? b = some u
  rw [PyProof.Rows.sortedHeap_old (Nat.ne_of_lt hlt) (by rw [size_push']; exact Nat.lt_succ_of_lt hlt)]
  exact Heap.get?_push_of_some _ q
end
section
variable {X : Cx}
/-- sorted(set(xs)), xs a list of fewer than 64 texts -/
def tSortSetS (K : PySem.W.Frag) (ta : TE) : TE := fun σ H Q => ta σ H fun x H1 => ∃ (l : Addr) (xs : List Str), x = .ref l ∧ SqL K H1 l (xs.map V.str) ∧ xs.length < 64 ∧
  ∀ ys p, ys.Nodup → (∀ k, k ∈ ys ↔ k ∈ xs) → sortedS ys = true → ys.length ≤ xs.length → H1 p = none → Q (.ref p) (upd H1 p (.lst (ys.map V.str)))
theorem pe_sortSetS {a : Expr} {ta : TE} {p p2 q pos : Pos} (hc : X.calm = true) (hg : Gl X "sorted") (hm : X.mg "sorted" = none) (hg2 : Gl X "set") (hm2 : X.mg "set" = none) (ha : PE X a ta)
    (na : starEach [a] X.env = (false, eval a X.env) :: starEach [] X.env := by rfl) : PE X (.Call (.Name "sorted" p) [.Call (.Name "set" p2) [a] [] q] [] pos) (tSortSetS X.K ta) := by
  refine ⟨fun pins s σ H Q I h => ?_⟩
  refine Call_ (ld_blt I hg hm boot_sorted ?_)
  refine PyProof.Rows.callWith_builtin1 (PyProof.Rows.args_cons ?_ rfl) rfl rfl
  refine Call_ (ld_blt I hg2 hm2 boot_set ?_)
  refine PyProof.Rows.callWith_type1 (PyProof.Rows.args_cons (thn (ha.run pins s σ H _ I h) fun v s1 ⟨x, H1, I1, r1, q1⟩ => PyProof.Rows.args_nil ?_) na) na rfl
  obtain ⟨l, xs, rfl, hq, h1, q1⟩ := q1
  cases r1
  obtain ⟨its, r, pl, hz⟩ := I1.list hq
  refine call_set_strs xs (I1.ok.hd hc) pl.isList (by simpa using strsAre_of r) (by unfold scanBound; omega) fun h' tk L R hl hmem hk => ?_
  refine PyProof.Rows.args_nil ?_
  obtain ⟨s2, e2⟩ : ∃ s2 : Shared, s2 = { s1 with heap := h', toks := tk } := ⟨_, rfl⟩
  rw [← e2]
  have I2 : Inv X pins σ H1 s2 := by rw [e2]; exact I1.kept fun b o e => hk b o e
  have R2 : TxR X.prog X.w s2.heap s1.heap.objs.size L := by rw [e2]; exact R
  refine sorted_txr R2 (I2.ok.hd hc) (by omega) fun s' p out c ys k g o hp hgp hs pm hsort => ?_
  have hlen : (ys.map V.str).length ≤ sizeLine := by rw [List.length_map, pm.length_eq, sizeLine_eq]; omega
  have hn : H1 p = none := I2.hok.fresh hp
  have J : Inv X pins σ (upd H1 p (.lst (ys.map V.str))) { s2 with heap := s'.heap, gens := s'.gens, drawn := s'.drawn, toks := s'.toks } :=
    I2.call (ch := []) (Un.laid k hp hn) (I2.hok.laid k hp ⟨hlen, out, c, vals_of_strs hs, hgp⟩) (by rw [g]; exact I2.bare) (fun _ z => nomatch z)
  have e : s' = { s2 with heap := s'.heap, gens := s'.gens, drawn := s'.drawn, toks := s'.toks } := by
    obtain ⟨h3, g3, d3, t3, o3⟩ := s'
    have eo : o3 = s2.os := o
    subst eo
    rfl
  rw [e]
  exact ⟨.ref p, _, J, rfl, q1 ys p (pm.nodup_iff.mpr R.nd) (fun k => by rw [pm.mem_iff, hmem k]) hsort (by rw [pm.length_eq]; exact hl) hn⟩
end
end Fk

set_option maxHeartbeats 4000000
/-! len(set(t)) of a tuple of texts. -/
namespace Fk
open PySem PySem.Spec PyProof.Rows L2 PySem.Froz
section
variable {P : Program} {w : World} {A : Around} {E : Value → Shared → Prop} {s : Shared}
set_option maxHeartbeats 6400000 in
theorem call_set_strsT {l : Addr} {items : Array Value} (ks : List Str) {Q : Value → Shared → Prop} (hh : A.handled = none) (hl : s.heap.IsTuple l items) (hit : StrsAre items.toList ks) (hb : ks.length + 1 < scanBound)
    (h : ∀ (h' : Heap) (tk : Nat) L, TxR P w h' s.heap.objs.size L → L.length ≤ ks.length → (∀ k, k ∈ L ↔ k ∈ ks) → (∀ b o, s.heap.get? b = some o → h'.get? b = some o) → Q (.ref s.heap.objs.size) { s with heap := h', toks := tk }) :
    wpAny (model P w) A (call (.type "set") [.ref l]) Q E s := by
  have hisz : items.size = ks.length := by
    have q := str_len hit
    rw [Array.length_toList] at q
    exact q
  obtain ⟨c, tl, hmro⟩ := F.called_set.mro
  have hmade := F.called_set.made
  have hsub := F.called_set.sub
  refine wpAny_call (codeAny_of_tree ?_)
  show wpAny _ _ (callAny (.type "set") _) _ _ _
  refine wpAny_pure ⟨Code.quiet_builtin _ (by decide +kernel), codeAny_builtin F.entry_type_call ?_⟩
  rw [Around.under_plain (weight_type_call_type "set" [.ref l] []) rfl]
  have h1 := F.called_set.notType
  have h2 := F.called_set.canCreate
  have hct := F.typeCall_set_1 (.ref l)
  repeat (any_goals (first | assumption | wp_step))
  generalize hO : ({ cls := .type "set", dict := none, data := .set #[] 0 (.fresh 0 0 (!w.params.followText "set-order")) } : Obj) = O
  have hOc : O.cls = .type "set" := by rw [← hO]
  have hOf : O.isFreed = false := by rw [← hO]; rfl
  refine codeAny_mono (code_set_led1 (.ref l) (E := E) (Q₁ := fun obj s₁ => obj = .ref s.heap.objs.size ∧ s₁ = { s with heap := s.heap.push O }) ⟨rfl, by rw [hO]⟩) fun r s₁ hr => ?_
  cases r with
  | error e => exact hr
  | ok fl =>
    cases fl with
    | ret obj =>
      obtain ⟨rfl, rfl⟩ := hr
      have hS : (s.heap.push O).get? s.heap.objs.size = some O := Heap.get?_push_size _ hOf
      have hT : Shared.TypeIs { s with heap := s.heap.push O } (.ref s.heap.objs.size) "set" := ⟨_, hS, hOc⟩
      have hli := F.called_set.init.lookup
      have hbi := F.called_set.init.bind (.ref s.heap.objs.size)
      repeat (any_goals (first | assumption | wp_step))
      refine codeAny_mono (codeAny_call_builtin (R := wants (fun r s₂ => r = .none ∧ ∃ h' tk L, s₂ = { s with heap := h', toks := tk } ∧ TxR P w h' s.heap.objs.size L ∧ L.length ≤ ks.length ∧ (∀ k, k ∈ L ↔ k ∈ ks) ∧
          (∀ b o, s.heap.get? b = some o → h'.get? b = some o)) E) F.called_set.init.plain F.entry_set_init (check_set_init_1 hT ?_)) fun r₂ s₂ hr₂ => ?_
      · obtain ⟨ol, hol, hcl, nl, hdl⟩ := hl
        obtain ⟨ocls, odict, odata, oslots⟩ := ol
        simp only at hcl hdl
        subst hcl; subst hdl
        have hol' : (s.heap.push O).get? l = some { cls := .type "tuple", dict := odict, data := .seq items nl, slots := oslots } := Heap.get?_push_of_some _ hol
        subst hO
        have hsls := F.sub_tuple_set
        have hslf := F.sub_tuple_frozenset
        have hne : (Value.type "tuple" == Value.type "dict") = false := by decide
        have hl1 : (s.heap.push ({ cls := .type "set", dict := none, data := .set #[] 0 (.fresh 0 0 (!w.params.followText "set-order")) } : Obj)).IsTuple l items := ⟨_, hol', rfl, nl, rfl⟩
        unfold Builtin.«set.__init__» noKeywords Builtin.Frozenset.updateFrom
        generalize hPI : pyIter = PI
        wp_walk
        subst hPI
        refine wpAny_pyIter_tuple (s := { s with heap := s.heap.push ({ cls := .type "set", dict := none, data := .set #[] 0 (.fresh 0 0 (!w.params.followText "set-order")) } : Obj) }) hl1 ?_
        refine wpAny_bind (wpAny_runValue ?_)
        have hlS : l < s.heap.objs.size := Heap.lt_size hol
        have hh3 : A.in1.in1.in1.handled = none := by simp [hh]
        have hneI : l ≠ (s.heap.push ({ cls := .type "set", dict := none, data := .set #[] 0 (.fresh 0 0 (!w.params.followText "set-order")) } : Obj)).objs.size := by
          rw [Heap.size_push]; exact Nat.ne_of_lt (Nat.lt_succ_of_lt hlS)
        have hSf : s.heap.objs.size ∉ [(s.heap.push ({ cls := .type "set", dict := none, data := .set #[] 0 (.fresh 0 0 (!w.params.followText "set-order")) } : Obj)).objs.size, l] := by
          rw [Heap.size_push]; simp only [List.mem_cons, List.mem_singleton, List.not_mem_nil, or_false, not_or]
          exact ⟨Nat.ne_of_lt (Nat.lt_succ_self _), Nat.ne_of_gt hlS⟩
        refine set_update_strs ((Walks.tuple hh3 _ l hneI items).toS) s.heap.objs.size
          hSf ks hisz hb (fun i v hv => str_vals hit i v (by rw [Array.getElem?_toList]; exact hv)) (items.size - 0) 0 _ (by omega) (Nat.zero_le _)
          ⟨⟨_, Heap.get?_push_size _ rfl, rfl, rfl⟩, (hl1.push _)⟩ ⟨[], Nat.le_refl _, (fun k => by simp), txr_new (by exact Heap.get?_push_of_some _ hS)⟩ fun s' L hm hlen hmem hS' => ?_
        obtain ⟨h', g2, d', tk', os'⟩ := s'
        have eg : g2 = s.gens := hm.gens
        have ed : d' = s.drawn := hm.drawn
        have eo : os' = s.os := hm.os
        subst eg; subst ed; subst eo
        show wpAny _ _ _ _ _ _
        refine wpAny_pure ?_
        show wpAny _ _ (ret Value.none) _ _ _
        refine wpAny_pure ⟨rfl, h', tk', L, rfl, hS', by omega, hmem, fun b o e => ?_⟩
        have hb0 : b < s.heap.objs.size := Heap.lt_size e
        have hb2 : b ≠ (s.heap.push ({ cls := .type "set", dict := none, data := .set #[] 0 (.fresh 0 0 (!w.params.followText "set-order")) } : Obj)).objs.size := by
          rw [Heap.size_push]; exact Nat.ne_of_lt (Nat.lt_succ_of_lt hb0)
        exact hm.heap b o (by simp only [List.mem_cons, List.mem_singleton, List.not_mem_nil, or_false, not_or]; exact ⟨Nat.ne_of_lt hb0, hb2⟩) (Heap.get?_push_of_some _ (Heap.get?_push_of_some _ e))
      · cases r₂ with
        | error e => exact hr₂
        | ok fl₂ =>
          cases fl₂ with
          | ret r =>
            obtain ⟨rfl, h', tk, L, rfl, hS', hc', hm', hk'⟩ := hr₂
            repeat (any_goals (first | assumption | wp_step))
            exact h _ _ _ hS' hc' hm' hk'
          | _ => exact hr₂.elim
    | _ => exact hr.elim

end
section
variable {X : Cx}
/-- len(set(t)), t a tuple of texts: how many different ones -/
def tLenSetT (K : PySem.W.Frag) (ta : TE) : TE := fun σ H Q => ta σ H fun x H1 => ∃ (l : Addr) (xs : List Str), x = .ref l ∧ SqT K H1 l (xs.map V.str) ∧ xs.length < 64 ∧ ∀ n : Nat, (∀ ys : List Str, ys.Nodup → (∀ k, k ∈ ys ↔ k ∈ xs) → ys.length = n → Q (.int n) H1) ∧ True
theorem pe_lenSetT {a : Expr} {ta : TE} {p p2 q pos : Pos} (hc : X.calm = true) (hg : Gl X "len") (hm : X.mg "len" = none) (hg2 : Gl X "set") (hm2 : X.mg "set" = none) (ha : PE X a ta)
    (na : starEach [a] X.env = (false, eval a X.env) :: starEach [] X.env := by rfl) : PE X (.Call (.Name "len" p) [.Call (.Name "set" p2) [a] [] q] [] pos) (tLenSetT X.K ta) := by
  refine ⟨fun pins s σ H Q I h => ?_⟩
  refine Call_ (ld_blt I hg hm boot_len ?_)
  refine PyProof.Rows.callWith_builtin1 (PyProof.Rows.args_cons ?_ rfl) rfl rfl
  refine Call_ (ld_blt I hg2 hm2 boot_set ?_)
  refine PyProof.Rows.callWith_type1 (PyProof.Rows.args_cons (thn (ha.run pins s σ H _ I h) fun v s1 ⟨x, H1, I1, r1, q1⟩ => PyProof.Rows.args_nil ?_) na) na rfl
  obtain ⟨l, xs, rfl, hq, h1, q1⟩ := q1
  cases r1
  obtain ⟨its, r, pl, hz⟩ := I1.tuple hq
  refine call_set_strsT xs (I1.ok.hd hc) pl (by simpa using strsAre_of r) (by unfold scanBound; omega) fun h' tk L R hl hmem hk => ?_
  refine PyProof.Rows.args_nil ?_
  have I2 : Inv X pins σ H1 { s1 with heap := h', toks := tk } := I1.kept fun b o e => hk b o e
  obtain ⟨⟨D, ho, F, _⟩, nd⟩ := R
  refine call_len_set ho ⟨rfl, rfl, rfl⟩ rfl F.fit (by rw [F.sz]; omega) ⟨.int L.length, H1, I2.tok _, ⟨_, by rw [F.sz]⟩, (q1 L.length).1 L nd hmem rfl⟩
end
end Fk

set_option maxHeartbeats 4000000
/-! A try with except clauses, of which any may have a name, and an else. -/
namespace Fk
open PySem PySem.Spec PyProof.Rows L2
section
variable {X : Cx} {body : List Stmt} {h₀ : ExceptHandler} {hds : List ExceptHandler} {l : List (Value × (Addr → Value → Option Addr → TS))} {pos : Pos} {tb : WX → TS} {Wout : WX}
theorem ps_tryAE {orelse : List Stmt} {u : TS} (ho : PSs X orelse u) (hs : X.stack = X.env :: X.outer) (hf : X.env.frame = some X.env.locals) (tk : Takes X Wout)
    (hb : ∀ (W : WX) (pn : List (Addr × Obj)) (xe : Value → Shared → Prop), Takes (X.tr pn xe) W → PassesOwn (model X.prog X.w) X.A X.env xe → PSs (X.tr pn xe) body (tb W))
    (hh : HdA X (h₀ :: hds) l) : PS X (.Try body (h₀ :: hds) orelse [] pos) (fun D σ H => tb (wMany X.K Wout D l) { D with nx := u D } σ H) := by
  refine ⟨fun pins s σ H D I h => ?_⟩
  have ok := I.ok
  have hfr : X.A.frames = some (X.env :: X.outer) := by rw [ok.frames, hs]
  refine wpAny_Try_except ?_
  refine wpAny_mono ((hb (wMany X.K Wout D l) (X.pn ++ pins) (fun e s₁ => wpAny (model X.prog X.w) X.A (noteFrame e X.env) (fun _ s₂ => wpAny (model X.prog X.w) X.A (setFlight e none) (fun _ s₃ =>
    wpAny (model X.prog X.w) X.A (handleBy e X.env (h₀ :: hds)) (SP X pins D) X.xe s₃) X.xe s₂) X.xe s₁) (fun u s' xx => ?_) PassesOwn.looking).run [] s σ H { D with nx := u D } (I.toTry _) h) (fun f s1 hsp => ?_) (fun e s1 he => he)
  · obtain ⟨a, B, sI, pins', σ', H', cls, d, rfl, J', nb, up, sky, na, os, ag, w⟩ := xx
    have J : Inv X pins σ' H' sI := J'.ofTry ok
    have sky' : Sky B (X.env :: X.outer) a (Zc cls d) X.env.locals s'.heap := by rw [← hs]; exact sky
    show wpAny (model X.prog X.w) X.A (noteFrame (.ref a) X.env) _ _ _
    refine Sky.land Zc.steady hfr hf sky' fun h3 fl3 up3 => ?_
    have J3 : Inv X pins σ' H' { s' with heap := h3 } := J.landed nb fl3.1 (up.trans up3) os ag
    obtain ⟨oe3, vs3, he3, hz3, hd3⟩ := fl3.there
    have notFr : ∀ {h : Heap} {o : Obj} {vs : Array Value}, h.FunFrames B (X.env :: X.outer) → h.get? a = some o → o.data = .fields vs → a ∉ frs (X.env :: X.outer) := fun {h o vs} ff e dd hm => by
      obtain ⟨_, o', e', hnf⟩ := ff.mem hm
      rw [e] at e'; cases e'
      exact hnf _ dd
    have nfr := notFr fl3.2.2.1 he3 hd3
    have nL : a ≠ X.env.locals := fun z => nfr (List.mem_filterMap.mpr ⟨X.env, List.mem_cons_self, by rw [hf, z]⟩)
    have nF : a ∉ X.fs := fun hm => by
      obtain ⟨e, he, q⟩ := List.mem_filterMap.mp hm
      exact nfr (List.mem_filterMap.mpr ⟨e, List.mem_cons_of_mem _ he, q⟩)
    have S3 := J3.suite he3 hd3 na nL nF
    have go : ∀ {hds' : List ExceptHandler} {l' : List (Value × (Addr → Value → Option Addr → TS))}, HdA X hds' l' → wMany X.K Wout D l' cls d σ' H' →
        wpAny (model X.prog X.w) X.A (handleBy (.ref a) X.env hds') (SP X pins D) X.xe { s' with heap := h3 } := by
      intro hds' l' hk
      induction hk with
      | nil =>
        intro w
        refine wpAny_handleBy_nil ?_
        obtain ⟨k1, k2, k3, oe, vs, T, oT, ts', he, hz, hd, h1, hr⟩ := id fl3
        unfold PySem.passOn
        refine wpAny_bind (wpAny_field he hd h1 ?_)
        rw [if_neg (show ¬ ((Value.ref T == Value.none) = true) from by simp)]
        have fin : wpAny (model X.prog X.w) X.A (setFlight (.ref a) X.env.frame) (fun _ s4 => wpAny (model X.prog X.w) X.A (throw (.ref a) : Sem Flow) (SP X pins D) X.xe s4) X.xe { s' with heap := h3 } := by
          rw [hf]
          refine HandSPX.setFlight_upZ fl3 fun h4 hh4 up4 => wpAny_throw (tk _ _ ?_)
          exact ⟨a, B, sI, pins, σ', H', cls, d, rfl, J, nb, (up.trans up3).trans up4, .inr (.inr (by rw [hs]; exact hh4)), na, os, ag, w⟩
        first
          | exact wpAny_bind (wpAny_pure (wpAny_bind fin))
          | exact wpAny_bind fin
      | @cons x c ts b₀ suite np pos' hds2 l2 hc hsu r ih =>
        intro w
        obtain ⟨b, hb1, hyes, hno⟩ := w
        refine wpAny_handleBy_cons (codeAny_handlers_test ?_) (by intro q; cases q)
        have LT : PySem.W.Looks (model X.prog X.w) h3 (typeOf (.ref a)) cls := fun A Q E s k q => wpAny_typeOf_ref (k _ _ he3) (by rw [hz3.1]; exact q)
        have LM := PySem.W.exm_one (M := model X.prog X.w) (J3.kIn) LT hb1
        have test : ∀ {Q : Value → Shared → Prop} {E : Value → Shared → Prop}, Q c { s' with heap := h3 } → wpAny (model X.prog X.w) (X.A.mark (some (.ref a))) (eval (.Name x np) X.env) Q E { s' with heap := h3 } := fun {Q E} q => by
          obtain ⟨hg, hdbg, hm | ⟨hm, hv, hnn⟩⟩ := hc
          · exact ld_glob (X := X.suite a ((a, oe3) :: (X.pn ++ pins))) S3 hg hm q hdbg
          · exact ld_blt (X := X.suite a ((a, oe3) :: (X.pn ++ pins))) S3 hg hm hv q hnn hdbg
        refine test (LM.here ?_)
        cases b with
        | true =>
          refine codeAny_handlers_suite ?_
          refine HandSPX.lands_againZ fl3 fun h4 fl4 up4 => ?_
          have J4 : Inv X pins σ' H' { s' with heap := h4 } := J.landed nb fl4.1 ((up.trans up3).trans up4) os ag
          obtain ⟨oe4, vs4, he4, hz4, hd4⟩ := fl4.there
          have S4 := J4.suite he4 hd4 na nL nF
          refine wpAny_mono ((hsu a oe4 cls d (X.pn ++ pins) hz4 ⟨_, hd4⟩).run [] _ _ H' _ S4 (hyes rfl a na)) (fun f s6 hsp => ?_) (fun _ _ z => False.elim z)
          cases f with
          | next =>
            obtain ⟨σ6, H6, S6, q6⟩ := hsp
            exact ⟨_, _, S6.unsuite ok, q6⟩
          | brk =>
            obtain ⟨σ6, H6, S6, q6⟩ := hsp
            exact ⟨_, _, S6.unsuite ok, q6⟩
          | cont =>
            obtain ⟨σ6, H6, S6, q6⟩ := hsp
            exact ⟨_, _, S6.unsuite ok, q6⟩
          | ret u =>
            obtain ⟨v6, σ6, H6, S6, r6, q6⟩ := hsp
            exact ⟨_, _, _, S6.unsuite ok, r6, q6⟩
        | false =>
          show wpAny _ X.A (handleBy (.ref a) X.env hds2) _ _ _
          exact ih (hno rfl)
      | @as x n i c ts b₀ suite np pos' hds2 l2 hN hi hln hc hsu r ih =>
        intro w
        have hloc : Loc X.env.scope n := .inl hln
        obtain ⟨b, hb1, hyes, hno⟩ := w
        refine wpAny_handleBy_cons (codeAny_handlers_test ?_) (by intro q; cases q)
        have LT : PySem.W.Looks (model X.prog X.w) h3 (typeOf (.ref a)) cls := fun A Q E s k q => wpAny_typeOf_ref (k _ _ he3) (by rw [hz3.1]; exact q)
        have LM := PySem.W.exm_one (M := model X.prog X.w) (J3.kIn) LT hb1
        have test : ∀ {Q : Value → Shared → Prop} {E : Value → Shared → Prop}, Q c { s' with heap := h3 } → wpAny (model X.prog X.w) (X.A.mark (some (.ref a))) (eval (.Name x np) X.env) Q E { s' with heap := h3 } := fun {Q E} q => by
          obtain ⟨hg, hdbg, hm | ⟨hm, hv, hnn⟩⟩ := hc
          · exact ld_glob (X := X.suite a ((a, oe3) :: (X.pn ++ pins))) S3 hg hm q hdbg
          · exact ld_blt (X := X.suite a ((a, oe3) :: (X.pn ++ pins))) S3 hg hm hv q hnn hdbg
        refine test (LM.here ?_)
        cases b with
        | true =>
          refine codeAny_handlers_suite_as ?_
          refine HandSPX.lands_againZ fl3 fun h4 fl4 up4 => ?_
          have J4 : Inv X pins σ' H' { s' with heap := h4 } := J.landed nb fl4.1 ((up.trans up3).trans up4) os ag
          obtain ⟨oe4, vs4, he4, hz4, hd4⟩ := fl4.there
          have S4 := J4.suite he4 hd4 na nL nF
          refine store_ok (X := X.suite a ((a, oe4) :: (X.pn ++ pins))) (v := .ref a) S4 hN hi hloc rfl (fun s5 S5 => ?_) (.inr hln)
          refine wpAny_mono ((hsu a oe4 cls d (X.pn ++ pins) hz4 ⟨_, hd4⟩).run [] s5 _ H' _ S5 (hyes rfl a na)) (fun f s6 hsp => ?_) (fun _ _ z => False.elim z)
          have end_ : ∀ {σ6 : L2.St} {H6 : Hp} {Q : Shared → Prop}, Inv (X.suite a ((a, oe4) :: (X.pn ++ pins))) [] σ6 H6 s6 → (∀ s7, Inv X pins (σ6.set i none) H6 s7 → Q s7) →
              wpAny (model X.prog X.w) X.A (do bindName X.env n .none; unbindBehindTheSuite X.env n pos') (fun _ s7 => Q s7) X.xe s6 := fun {σ6 H6 Q} S6 hq => gone_ok (S6.unsuite ok) hN hi hln hq
          cases f with
          | next =>
            obtain ⟨σ6, H6, S6, q6⟩ := hsp
            exact end_ S6 fun s7 J7 => ⟨_, _, J7, q6⟩
          | brk =>
            obtain ⟨σ6, H6, S6, q6⟩ := hsp
            exact end_ S6 fun s7 J7 => ⟨_, _, J7, q6⟩
          | cont =>
            obtain ⟨σ6, H6, S6, q6⟩ := hsp
            exact end_ S6 fun s7 J7 => ⟨_, _, J7, q6⟩
          | ret u =>
            obtain ⟨v6, σ6, H6, S6, r6, q6⟩ := hsp
            exact end_ S6 fun s7 J7 => ⟨_, _, _, J7, r6, q6⟩
        | false =>
          show wpAny _ X.A (handleBy (.ref a) X.env hds2) _ _ _
          exact ih (hno rfl)
    exact go hh w
  · cases f with
    | next =>
      obtain ⟨σ', H', J', q⟩ := hsp
      exact ho.run pins s1 σ' H' D (J'.ofTry ok) q
    | brk =>
      obtain ⟨σ', H', J', q⟩ := hsp
      exact ⟨σ', H', J'.ofTry ok, q⟩
    | cont =>
      obtain ⟨σ', H', J', q⟩ := hsp
      exact ⟨σ', H', J'.ofTry ok, q⟩
    | ret u =>
      obtain ⟨v, σ', H', J', r, q⟩ := hsp
      exact ⟨v, σ', H', J'.ofTry ok, r, q⟩
end
end Fk

set_option maxHeartbeats 4000000
/-! bytes: find from a place on, isascii, decode("ascii"), startswith. -/
namespace Fk
open PySem PySem.Spec PySem.Calls PyProof.Rows L2
open Builtin PySem.W
/-- the place of c in b from n on, or -1 -/
def findB (b c : Array UInt8) (n : Nat) : Int := if (b.size : Int) - (n : Int) < (c.size : Int) then -1 else (Bytes.find? b c n b.size).elim (-1) fun i => (i : Int)
section
variable {M : Model} {A : Around} {E : Value → Shared → Prop} {s : Shared} {b c : Array UInt8} {t u v : Tok} {n : Nat}
theorem bound_none {Q : Option Int → Shared → Prop} (h : Q none s) : wpAny M A (Bytes.bound? none) Q E s := wpAny_of_eq (a := none) rfl h
theorem bound_int {Q : Option Int → Shared → Prop} (h : Q (some (n : Int)) s) : wpAny M A (Bytes.bound? (some (.int (n : Int) v))) Q E s := by
  unfold Bytes.bound?
  refine wpAny_bind (wpAny_specialOf (T := "int") (typeIs_int s n v) F.slot_int_index.lookup ?_)
  try dsimp only
  rw [if_neg (show ¬ (Option.isNone (some (Value.builtin "int.__index__")) = true) from Bool.false_ne_true)]
  refine wpAny_bind (wpAny_of_eq (a := (n : Int)) rfl ?_)
  exact wpAny_pure h
theorem window_from (m n : Nat) : Bytes.window m (some (n : Int)) none = ((n : Int), (m : Int)) := by
  unfold Bytes.window
  have h : ¬ ((n : Int) < 0) := by omega
  have h2 : ¬ ((m : Int) < 0) := by omega
  simp [h, h2]
theorem wp_args3 {name : String} {Q : Array UInt8 × Array UInt8 × Option (Nat × Nat) → Shared → Prop} (h : Q (b, c, if (b.size : Int) - (n : Int) < (c.size : Int) then none else some ((n : Int).toNat, (b.size : Int).toNat)) s) :
    wpAny M A (Bytes.searchArgs .bytes name ⟨[.bytes b t, .bytes c u, .int (n : Int) v], []⟩) Q E s := by
  unfold Bytes.searchArgs
  refine wpAny_bind (wpAny_of_eq (a := (Value.bytes b t, [Value.bytes c u, Value.int (n : Int) v])) rfl ?_)
  refine wpAny_bind (bound_int ?_)
  refine wpAny_bind (bound_none ?_)
  try dsimp only [List.headD]
  refine wpAny_bind (wpAny_of_eq KBy.buffer_eq ?_)
  first
    | refine wpAny_bind (wpAny_pure ?_)
    | (dsimp only; refine wpAny_bind (wpAny_pure ?_))
    | skip
  refine wpAny_bind (wpAny_of_eq (a := b) rfl ?_)
  try dsimp only
  rw [window_from]
  exact wpAny_pure h
end
section
variable {b c : Array UInt8} {t u v : Tok} {n : Nat}
theorem args_find3 (a b c : Value) : argsOk "bytes.find" ⟨[a, b, c], []⟩ := by
  unfold argsOk; rw [signature?_of (id := "bytes.find") (n := ['d', 'n', 'i', 'f']) (o := ['s', 'e', 't', 'y', 'b']) (by kernel_rfl) FB.owner_bytes]; kernel_rfl
theorem gives_find3 : Gives («bytes.find» ⟨[.bytes b t, .bytes c u, .int (n : Int) v], []⟩) (.int (findB b c n)) := by
  refine .of_wp fun M A E s Q hq => ?_
  show wpAny M A (Bytes.searchArgs .bytes "find" ⟨[.bytes b t, .bytes c u, .int (n : Int) v], []⟩ >>= fun r => _) _ E s
  refine wpAny_bind (wp_args3 ?_)
  unfold findB at hq
  by_cases hn : (b.size : Int) - (n : Int) < (c.size : Int)
  · rw [if_pos hn] at hq ⊢
    show wpAny M A (rule _ >>= fun _ => retInt (-1)) _ E s
    exact wpAny_bind (wpAny_rule (wpAny_bind (wpAny_mkInt (wpAny_pure ⟨_, rfl, hq⟩))))
  · rw [if_neg hn] at hq ⊢
    show wpAny M A (match Bytes.find? b c n b.size with | some i => retInt (i : Int) | none => rule _ >>= fun _ => retInt (-1)) _ E s
    cases e : Bytes.find? b c n b.size with
    | none =>
      rw [e] at hq
      exact wpAny_bind (wpAny_rule (wpAny_bind (wpAny_mkInt (wpAny_pure ⟨_, rfl, hq⟩))))
    | some i =>
      rw [e] at hq
      exact wpAny_bind (wpAny_mkInt (wpAny_pure ⟨_, rfl, hq⟩))
end
/-- b.find(c, n) -/
theorem mt_bfind {X : Cx} : MtR X "bytes.find" (fun x xs H Q => ∃ (b c : Array UInt8) (n : Nat), x = .byt b ∧ xs = [.byt c, .int n] ∧ Q (.int (findB b c n)) H) := by
  intro pins s σ H x xs v us Q I rx rs h
  obtain ⟨b, c, n, rfl, rfl, q⟩ := h
  obtain ⟨t, rfl⟩ := rx
  cases rs with
  | cons r1 r2 =>
    cases r2 with
    | cons r2 r3 =>
      cases r3
      obtain ⟨t1, rfl⟩ := r1
      obtain ⟨t2, rfl⟩ := r2
      exact call_gives KBf.slot_find (typeIs_bytes s b t) KBf.entry_find (args_find3 _ _ _) gives_find3 ⟨.int (findB b c n), H, I.tok _, ⟨_, rfl⟩, q⟩
/-- b.startswith(c) -/
theorem mt_bstarts {X : Cx} : MtR X "bytes.startswith" (fun x xs H Q => ∃ (b c : Array UInt8), x = .byt b ∧ xs = [.byt c] ∧ Q (.bl (KBf.starts (KBw.bInts b) (KBw.bInts c))) H) := by
  intro pins s σ H x xs v us Q I rx rs h
  obtain ⟨b, c, rfl, rfl, q⟩ := h
  obtain ⟨t, rfl⟩ := rx
  cases rs with
  | cons r1 r2 =>
    cases r2
    obtain ⟨t1, rfl⟩ := r1
    exact call_gives FB.slot_bytes_startswith (typeIs_bytes s b t) FB.entry_bytes_startswith (FB.args_bytes_startswith_2 _ _) (KBf.gives_starts rfl rfl) ⟨.bl _, H, I, rfl, q⟩
def ascB (b : Array UInt8) : Bool := b.toList.all fun x => decide (x < 128)
theorem gives_asc {b : Array UInt8} {t : Tok} : Gives («bytes.isascii» ⟨[.bytes b t], []⟩) (.val (.bool (ascB b))) := by
  refine .of_wp fun M A E s Q hq => ?_
  show wpAny M A (Bytes.testM .bytes "isascii" _ ⟨[.bytes b t], []⟩) _ E s
  unfold Bytes.testM
  refine wpAny_bind (wpAny_of_eq (a := Value.bytes b t) rfl ?_)
  refine wpAny_bind (wpAny_of_eq (a := b) rfl ?_)
  exact wpAny_pure ⟨_, rfl, hq⟩
theorem slot_isascii : Slot "bytes" "isascii" "bytes.isascii" :=
  .of (owner := "bytes") (n := "isascii") (by rw [typeLookup_type, builtinLookup_eq_fast]; kernel_rfl) (by decide +kernel) (by decide +kernel) (by decide +kernel)
    (by first | exact .inl (by decide +kernel) | exact .inr (by decide +kernel)) (by rw [isSubtype_type]; kernel_rfl)
theorem type_isascii : typeOf (.builtin "bytes.isascii") = pure (.type "method_descriptor") := by show builtinType _ = _; rw [builtinType_eq_fast]; kernel_rfl
theorem entry_isascii : entryFor table "bytes.isascii" = some Builtin.«bytes.isascii» := by first | exact entryFor_of_tree (by kernel_rfl) | exact entryFor_of_fast (by kernel_rfl)
theorem args_isascii (a : Value) : argsOk "bytes.isascii" ⟨[a], []⟩ := by
  unfold argsOk; rw [signature?_of (id := "bytes.isascii") (n := ['i', 'i', 'c', 's', 'a', 's', 'i']) (o := ['s', 'e', 't', 'y', 'b']) (by kernel_rfl) FB.owner_bytes]; kernel_rfl
/-- b.isascii() -/
theorem mt_bascii {X : Cx} : MtR X "bytes.isascii" (fun x xs H Q => ∃ b : Array UInt8, x = .byt b ∧ xs = [] ∧ Q (.bl (ascB b)) H) := by
  intro pins s σ H x xs v us Q I rx rs h
  obtain ⟨b, rfl, rfl, q⟩ := h
  obtain ⟨t, rfl⟩ := rx
  cases rs
  exact call_gives slot_isascii (typeIs_bytes s b t) entry_isascii (args_isascii _) gives_asc ⟨.bl _, H, I, rfl, q⟩
/-! ### decode -/
def strB (b : Array UInt8) : PySem.Str := ⟨(b.toList.map (·.toNat)).toArray⟩
theorem road_asc {id : String} {b : Array UInt8} : _codecs.decodeRoad id b (PySem.Str.ofString "ascii") none [] = (_codecs.runDecoder id _codecs.asciiDecoder none true b 0 [] >>= fun r => mkStr ⟨r.1⟩) := by kernel_rfl
theorem decode_entry {c : UInt8} {cs : List UInt8} {t t2 : Tok} : «bytes.decode» ⟨[.bytes (c :: cs).toArray t, .str (PySem.Str.ofString "ascii") t2], []⟩ = (mkStr (PySem.Str.ofString "utf-8") >>= fun e => mkStr (PySem.Str.ofString "ascii") >>= fun a => mkStr (PySem.Str.ofString "bytes.decode") >>= fun d =>
    call (.builtin "_codecs.decode.text") [.bytes (c :: cs).toArray t, a, .none, d] >>= fun v => ret v) := by first | kernel_rfl | rfl
def prefB (b : Array UInt8) (k : Nat) : Array Nat := ((b.toList.take k).map (·.toNat)).toArray
theorem prefB_size (b : Array UInt8) {k : Nat} (h : k ≤ b.size) : (prefB b k).size = k := by
  unfold prefB
  rw [List.size_toArray, List.length_map, List.length_take, Array.length_toList]
  omega
theorem prefB_succ (b : Array UInt8) {k : Nat} (h : k < b.size) : prefB b k ++ #[(b.getD k 0).toNat] = prefB b (k + 1) := by
  apply Array.toList_inj.mp
  unfold prefB
  have e : b.toList[k]? = some (b[k]) := by rw [Array.getElem?_toList, Array.getElem?_eq_getElem h]
  have g : b.getD k 0 = b[k] := by rw [Array.getD_eq_getD_getElem?, Array.getElem?_eq_getElem h]; rfl
  rw [List.take_add_one, e, g]
  simp
theorem loop_gen {M : Model} {A : Around} {E : Value → Shared → Prop} {s : Shared} {b : Array UInt8} {st : _codecs.Faults} {F : Nat → Nat × Array Nat × _codecs.Faults → Sem (ForInStep (Nat × Array Nat × _codecs.Faults))} {Q : Nat × Array Nat × _codecs.Faults → Shared → Prop}
    (step : ∀ (k x : Nat) (Q' : ForInStep (Nat × Array Nat × _codecs.Faults) → Shared → Prop), k < b.size → Q' (.yield (k + 1, prefB b (k + 1), st)) s → wpAny M A (F x (k, prefB b k, st)) Q' E s) (q : Q (b.size, prefB b b.size, st) s) :
    ∀ (m k : Nat), k + m = b.size → wpAny M A (forIn (List.range' k m) (k, prefB b k, st) F) Q E s
  | 0, k, h => by
    show wpAny M A (forIn ([] : List Nat) _ _) _ E s
    rw [List.forIn_nil]
    have : k = b.size := by omega
    subst this
    exact wpAny_pure q
  | m + 1, k, h => by
    rw [List.range'_succ]
    refine KPc.turn (step k k _ (by omega) ?_)
    exact loop_gen step q m (k + 1) (by omega)
theorem run_asc {M : Model} {A : Around} {E : Value → Shared → Prop} {s : Shared} {id : String} {b : Array UInt8} {Q : Array Nat × Nat → Shared → Prop} (ha : ascB b = true) (hz : b.size ≤ 16777216) (h : ∀ n, Q ((strB b).cps, n) s) : wpAny M A (_codecs.runDecoder id _codecs.asciiDecoder none true b 0 []) Q E s := by
  unfold _codecs.runDecoder
  refine wpAny_bind ?_
  rw [KPc.range_list]
  have e0 : (#[] : Array Nat) = prefB b 0 := rfl
  have all : (strB b).cps = prefB b b.size := by
    unfold strB prefB
    rw [List.take_of_length_le (by rw [Array.length_toList]; exact Nat.le_refl _)]
  refine loop_gen (b := b) (fun k x Q' hk hq => ?_) ?_ b.size 0 (by omega)
  · have z : ¬ sizeLine < (prefB b k).size := by rw [prefB_size b (by omega), sizeLine_eq]; omega
    refine wpAny_ite (KBy.ite_no z ?_)
    (try dsimp only)
    refine wpAny_ite (KBy.ite_no (show ¬ k ≥ b.size by omega) ?_)
    have g : b.getD k 0 = b[k] := by rw [Array.getD_eq_getD_getElem?, Array.getElem?_eq_getElem hk]; rfl
    have lt : (b.getD k 0).toNat < 128 := by
      rw [g]
      have := List.all_eq_true.mp ha (b[k]) (Array.getElem_mem_toList hk)
      exact of_decide_eq_true this
    have hf : _codecs.asciiDecoder.find true b k = _codecs.Found.text [(b.getD k 0).toNat] (k + 1) := if_pos lt
    rw [hf]
    (try dsimp only)
    have e : prefB b k ++ [(b.getD k 0).toNat].toArray = prefB b (k + 1) := prefB_succ b hk
    rw [e]
    exact wpAny_pure hq
  · refine wpAny_pure ?_
    rw [← all]
    exact h _
theorem strB_len (b : Array UInt8) : (strB b).length = b.size := by
  show (List.map _ b.toList).toArray.size = _
  rw [List.size_toArray, List.length_map, Array.length_toList]
theorem meets_dtext {b : Array UInt8} {t t1 t2 : Tok} {d : PySem.Str} (ha : ascB b = true) (hz : b.size ≤ 16777216) :
    Meets («_codecs.decode.text» ⟨[.bytes b t, .str (PySem.Str.ofString "ascii") t1, .none, .str d t2], []⟩) (fun _ R s => R (.ok (.ret (.str (strB b) s.toks))) { s with toks := s.toks + 1 }) := by
  refine .of_wp fun prog w A R s h => ?_
  show wpAny _ _ (Bytes.bytesLike _ (.bytes b t) >>= fun r => _) _ _ s
  refine wpAny_bind (wpAny_of_eq KBd.like_eq ?_)
  refine wpAny_bind (wpAny_of_eq KBd.held_eq ?_)
  show wpAny _ _ (_codecs.decodeRoad _ b (PySem.Str.ofString "ascii") none [] >>= fun v => _) _ _ s
  rw [road_asc]
  refine wpAny_bind (wpAny_bind (run_asc ha hz fun n => ?_))
  exact wpAny_mkStr (wpAny_pure ⟨_, rfl, h⟩) (by show (strB b).length ≤ _; rw [strB_len, sizeLine_eq]; exact hz)
theorem meets_dasc {b : Array UInt8} {t t2 : Tok} (ha : ascB b = true) (hz : b.size ≤ 16777216) :
    Meets («bytes.decode» ⟨[.bytes b t, .str (PySem.Str.ofString "ascii") t2], []⟩) (fun _ R s => ∀ t' k, R (.ok (.ret (.str (strB b) t'))) { s with toks := k }) := by
  refine .of_wp fun prog w A R s h => ?_
  cases hb : b.toList with
  | nil =>
    have e : b = #[] := Array.toList_inj.mp hb
    subst e
    have e2 : «bytes.decode» ⟨[.bytes #[] t, .str (PySem.Str.ofString "ascii") t2], []⟩ = (rule "bytes.decode.empty" >>= fun _ => mkStr PySem.Str.empty >>= fun v => ret v) := by first | kernel_rfl | rfl
    rw [e2]
    refine wpAny_bind (wpAny_rule (wpAny_bind (wpAny_mkStr ?_ (by decide))))
    exact wpAny_pure ⟨_, rfl, h _ _⟩
  | cons c cs =>
    have e : b = (c :: cs).toArray := Array.toList_inj.mp hb
    subst e
    rw [decode_entry]
    refine wpAny_bind (wpAny_mkStr ?_ (by decide))
    refine wpAny_bind (wpAny_mkStr ?_ (by decide))
    refine wpAny_bind (wpAny_mkStr ?_ (by decide))
    exact wpAny_bind (call_function_meets KBd.kind_text KBd.plain_text KBd.entry_text (KBd.args_text _ _ _ _) (meets_dtext ha hz) (wpAny_pure ⟨_, rfl, h _ _⟩))
theorem args_decode2 (a b : Value) : argsOk "bytes.decode" ⟨[a, b], []⟩ := by
  unfold argsOk; rw [signature?_of (id := "bytes.decode") (n := ['e', 'd', 'o', 'c', 'e', 'd']) (o := ['s', 'e', 't', 'y', 'b']) (by kernel_rfl) FB.owner_bytes]; kernel_rfl
/-- b.decode("ascii") -/
theorem mt_bdecode {X : Cx} : MtR X "bytes.decode" (fun x xs H Q => ∃ b : Array UInt8, x = .byt b ∧ xs = [.str (PySem.Str.ofString "ascii")] ∧ ascB b = true ∧ b.size ≤ 16777216 ∧ Q (.str (strB b)) H) := by
  intro pins s σ H x xs v us Q I rx rs h
  obtain ⟨b, rfl, rfl, ha, hz, q⟩ := h
  obtain ⟨t, rfl⟩ := rx
  cases rs with
  | cons r1 r2 =>
    cases r2
    obtain ⟨t1, rfl⟩ := r1
    exact call_meets FB.slot_bytes_decode (typeIs_bytes s b t) FB.entry_bytes_decode (args_decode2 _ _) (meets_dasc ha hz) fun t' k => ⟨.str (strB b), H, I.tok k, ⟨t', rfl⟩, q⟩
/-! ### methods of bytes -/
def tBB0 (r : V → List V → Hp → VK → Prop) (to : TE) : TE := fun σ H Q => to σ H fun x H1 => (∃ b, x = .byt b) ∧ r x [] H1 Q
def tBB (r : V → List V → Hp → VK → Prop) (to : TE) (t : TA) : TE := fun σ H Q => to σ H fun x H1 => (∃ b, x = .byt b) ∧ t σ H1 fun xs H2 => r x xs H2 Q
section
variable {X : Cx} {o e : Expr} {es : List Expr} {to : TE} {t : TA} {name : PySem.Str} {apos cpos : Pos} {id : String} {r : V → List V → Hp → VK → Prop}
theorem pe_bB0 (slot : Slot "bytes" name id) (hty : typeOf (.builtin id) = pure (.type "method_descriptor")) (hm : MtR X id r) (ho : PE X o to)
    (hbase : attributeBase o name X.env (eval o X.env) = eval o X.env := by rfl) (hline : (apos.endLine == cpos.line) = true := by rfl) : PE X (.Call (.Attribute o name apos) [] [] cpos) (tBB0 r to) := by
  refine ⟨fun pins s σ H Q I h => ?_⟩
  refine wpAny_Call_method0_late hbase hline (thn (ho.run pins s σ H _ I h) fun v s1 ⟨x, H1, I1, r1, ty, q1⟩ => ?_)
  obtain ⟨b, rfl⟩ := ty
  obtain ⟨tk, rfl⟩ := (show ∃ t, v = Value.bytes b t from r1)
  exact ⟨"bytes", id, FB.plainAttrs_bytes, slot, hty, typeIs_bytes _ _ _, (fun _ e => nomatch e), Calls.callWith_builtin rfl (PySem.evalArgs_none (hm pins s1 σ H1 _ [] _ [] Q I1 r1 .nil q1))⟩
theorem pe_bB (slot : Slot "bytes" name id) (hty : typeOf (.builtin id) = pure (.type "method_descriptor")) (hm : MtR X id r) (ho : PE X o to) (ha : PA X (e :: es) t)
    (hbase : attributeBase o name X.env (eval o X.env) = eval o X.env := by rfl)
    (hfew : ((backTo cpos (starEach (e :: es) X.env)).all (fun x => !x.1) && (backToKw cpos (keywordEach [] X.env)).all (fun x => x.1.isSome)
      && decide ((e :: es).length + ([] : List Keyword).length + (if ([] : List Keyword).isEmpty then 0 else 1) < 30)) = true := by rfl)
    (hline : (apos.endLine == cpos.line) = true := by rfl) (hs : starEach (e :: es) X.env = (false, eval e X.env) :: starEach es X.env := by rfl) (hplain : (backTo cpos (starEach es X.env)).any (·.1) = false := by rfl) :
    PE X (.Call (.Attribute o name apos) (e :: es) [] cpos) (tBB r to t) := by
  refine ⟨fun pins s σ H Q I h => ?_⟩
  refine wpAny_Call_method_late hbase hfew hline rfl (thn (ho.run pins s σ H _ I h) fun v s1 ⟨x, H1, I1, r1, ty, q1⟩ => ?_)
  obtain ⟨b, rfl⟩ := ty
  obtain ⟨tk, rfl⟩ := (show ∃ t, v = Value.bytes b t from r1)
  refine ⟨"bytes", id, FB.plainAttrs_bytes, slot, hty, typeIs_bytes _ _ _, (fun _ e => nomatch e), ?_⟩
  have hA := ha.run cpos pins s1 σ H1 _ I1 q1
  rw [hs] at hA ⊢
  refine Calls.callWith_builtin (by show (false || (backTo cpos (starEach es X.env)).any (·.1)) = false; rw [hplain] <;> rfl) (Calls.evalArgs_plain ?_)
  exact thn hA fun us s2 ⟨vs, H2, I2, r2, q2⟩ => hm pins s2 σ H2 _ vs _ us Q I2 r1 r2 q2
end
theorem slot_bdecode : Slot "bytes" "decode" "bytes.decode" := FB.slot_bytes_decode
theorem type_bdecode : typeOf (.builtin "bytes.decode") = pure (.type "method_descriptor") := FB.type_bytes_decode
theorem slot_bstarts : Slot "bytes" "startswith" "bytes.startswith" := FB.slot_bytes_startswith
theorem type_bstarts : typeOf (.builtin "bytes.startswith") = pure (.type "method_descriptor") := FB.type_bytes_startswith
end Fk

set_option maxHeartbeats 4000000
/-! The four kinds of objects: what they are, where they stand, their texts. -/
namespace Fk
open PySem PySem.Spec PyProof.Rows L2
inductive Ob where
  | blob (x : Str)
  | tree (es : List (Str × Str × Str))
  | commit (t : Str) (ps : List Str) (au : Str) (tm : Int) (msg : Str)
  | tag (tg lb msg : Str)
  deriving DecidableEq
def Ob.kd : Ob → Nat
  | .blob _ => 0
  | .tree _ => 1
  | .commit .. => 2
  | .tag .. => 3
theorem Ob.kd_lt (o : Ob) : o.kd < 4 := by cases o <;> simp [Ob.kd]
/-- the classes -/
structure C4 where
  B : Addr
  T : Addr
  C : Addr
  G : Addr
def C4.at (c : C4) : Nat → Addr
  | 0 => c.B
  | 1 => c.T
  | 2 => c.C
  | _ => c.G
abbrev Ent := Str × Str × Str
def entL (e : Ent) : List V := [.str e.2.1, .str e.2.2]
def KINDS : List Str := ["file", "exec", "dir"]
def EntOk (e : Ent) : Prop := isSegF e.1 = true ∧ e.2.1 ∈ KINDS ∧ isIdF e.2.2 = true
def EntsOk (es : List Ent) : Prop := es.length ≤ 30 ∧ (es.map (·.1)).Nodup ∧ sortedS (es.map (·.1)) = true ∧ ∀ e ∈ es, EntOk e
def Ob.ok : Ob → Prop
  | .blob x => isTextF x = true
  | .tree es => EntsOk es
  | .commit t ps au tm msg => isIdF t = true ∧ ps.length ≤ 6 ∧ ps.Nodup ∧ (∀ p ∈ ps, isIdF p = true) ∧ isWordF LET au = true ∧ 0 ≤ tm ∧ tm ≤ 1000000000000 ∧ isTextF msg = true ∧ msg.length ≤ 200
  | .tag tg lb msg => isIdF tg = true ∧ isSegF lb = true ∧ isTextF msg = true ∧ msg.length ≤ 200
/-- a table's entries -/
def EntsAt (K : PySem.W.Frag) (H : Hp) (t : Tab) (es : List Ent) : Prop := Paired (fun p e => p.1 = e.1 ∧ ∃ q, p.2 = V.ref q ∧ TupK K H q (entL e)) t es
def cmF (t : Str) (p : Addr) (au : Str) (tm : Int) (msg : Str) : List (Str × V) := [("_tree", .str t), ("_parents", .ref p), ("_author", .str au), ("_time", .int tm), ("_message", .str msg)]
def tgF (tg lb msg : Str) : List (Str × V) := [("_target", .str tg), ("_label", .str lb), ("_message", .str msg)]
/-- at a stands the object o; d: the dict of a tree -/
def ObAt (K : PySem.W.Frag) (c : C4) (H : Hp) (a d : Addr) : Ob → Prop
  | .blob x => ∃ dx, H a = some (.ins c.B dx [("_text", .str x)])
  | .tree es => ∃ dx t, H a = some (.ins c.T dx [("_entries", .ref d)]) ∧ H d = some (.dK (kT t)) ∧ EntsAt K H t es
  | .commit t ps au tm msg => ∃ dx p, H a = some (.ins c.C dx (cmF t p au tm msg)) ∧ TupK K H p (ps.map V.str)
  | .tag tg lb msg => ∃ dx, H a = some (.ins c.G dx (tgF tg lb msg))
theorem EntsAt.keep {K : PySem.W.Frag} {H H' : Hp} {t : Tab} {es : List Ent} (h : EntsAt K H t es) (k : TupKeep H H') : EntsAt K H' t es := Paired.mapP h fun _ _ ⟨e, q, e1, e2⟩ => ⟨e, q, e1, e2.keep k⟩
/-- instances and tuples stay -/
def InsKeep (H H' : Hp) : Prop := ∀ b C dx fs, H b = some (.ins C dx fs) → H' b = some (.ins C dx fs)
theorem InsKeep.of {H H' : Hp} (s : Same H H') : InsKeep H H' := fun b _ _ _ e => s b _ e
theorem InsKeep.trans {H H1 H2 : Hp} (a : InsKeep H H1) (b : InsKeep H1 H2) : InsKeep H H2 := fun c _ _ _ e => b c _ _ _ (a c _ _ _ e)
theorem InsKeep.at {a : Addr} {H : Hp} {o : HO} (n : ∀ C dx fs, H a ≠ some (.ins C dx fs)) : InsKeep H (upd H a o) := fun b C dx fs e => by
  have z : b ≠ a := fun z => n C dx fs (by rw [← z]; exact e)
  rw [upd_ne z]
  exact e
theorem ObAt.keep {K : PySem.W.Frag} {c : C4} {H H' : Hp} {a d : Addr} {o : Ob} (h : ObAt K c H a d o) (k : TupKeep H H') (i : InsKeep H H') (e : ∀ u, H d = some (.dK u) → H' d = some (.dK u)) : ObAt K c H' a d o := by
  cases o with
  | blob x => obtain ⟨dx, h⟩ := h; exact ⟨dx, i _ _ _ _ h⟩
  | tree es => obtain ⟨dx, t, h, h2, h3⟩ := h; exact ⟨dx, t, i _ _ _ _ h, e _ h2, h3.keep k⟩
  | commit t ps au tm msg => obtain ⟨dx, p, h, h2⟩ := h; exact ⟨dx, p, i _ _ _ _ h, h2.keep k⟩
  | tag tg lb msg => obtain ⟨dx, h⟩ := h; exact ⟨dx, i _ _ _ _ h⟩
theorem ObAt.same {K : PySem.W.Frag} {c : C4} {H H' : Hp} {a d : Addr} {o : Ob} (h : ObAt K c H a d o) (s : Same H H') : ObAt K c H' a d o := h.keep (TupKeep.of s) (InsKeep.of s) fun _ e => s _ _ e
/-- only the list at a changed -/
theorem Fr.tups {a : Addr} {H H' : Hp} {l : List V} (f : Fr a H H') (h : H a = some (.lst l)) : TupKeep H H' := fun b xs e => f b _ (fun z => by rw [z, h] at e; cases e) e
theorem Fr.inss {a : Addr} {H H' : Hp} {l : List V} (f : Fr a H H') (h : H a = some (.lst l)) : InsKeep H H' := fun b C dx fs e => f b _ (fun z => by rw [z, h] at e; cases e) e
theorem Fr.dict {a d : Addr} {H H' : Hp} {l : List V} {u : List (Key × V)} (f : Fr a H H') (h : H a = some (.lst l)) (e : H d = some (.dK u)) : H' d = some (.dK u) := f d _ (fun z => by rw [z, h] at e; cases e) e
theorem ObAt.wl {K : PySem.W.Frag} {cl : C4} {H H' : Hp} {a d w : Addr} {c : Int} {o : Ob} (h : ObAt K cl H a d o) (hw : Wl H w c) (f : Fr w H H') : ObAt K cl H' a d o := by
  obtain ⟨_, x, y, e⟩ := hw
  exact h.keep (f.tups e) (f.inss e) fun _ z => f.dict e z
/-- where an object stands -/
theorem ObAt.ins {K : PySem.W.Frag} {c : C4} {H : Hp} {a d : Addr} {o : Ob} (h : ObAt K c H a d o) : ∃ dx fs, H a = some (.ins (c.at o.kd) dx fs) := by
  cases o with
  | blob x => obtain ⟨dx, h⟩ := h; exact ⟨dx, _, h⟩
  | tree es => obtain ⟨dx, t, h, _⟩ := h; exact ⟨dx, _, h⟩
  | commit t ps au tm msg => obtain ⟨dx, p, h, _⟩ := h; exact ⟨dx, _, h⟩
  | tag tg lb msg => obtain ⟨dx, h⟩ := h; exact ⟨dx, _, h⟩
/-! ### trees that are equal -/
def datE (es : List Ent) : List (Key × PyData) := es.map fun e => (.inr e.1, .tuple [.str e.2.1, .str e.2.2])
theorem dat_at {K : PySem.W.Frag} {H : Hp} : ∀ {t : Tab} {es : List Ent}, EntsAt K H t es → DD K H (kT t) (datE es)
  | _, _, .nil => .nil
  | _, _, .cons (a := p) (b := e) ⟨e1, q, e2, e3⟩ r => by
    refine .cons ⟨by show Sum.inr p.1 = Sum.inr e.1; rw [e1], ?_⟩ (dat_at r)
    show Dp K H p.2 _
    rw [e2]
    exact dp_head e3
theorem kinds_ok : ∀ k ∈ KINDS, OkS k := fun k hk => by
  have : ∀ k ∈ KINDS, ((TL.tl k).all fun u => decide (u < 1114112)) = true := by decide +kernel
  exact ok_by (this k hk)
theorem id_ok {x : Str} (h : isIdF x = true) : OkS x := by
  unfold isIdF at h
  exact ok_sub (only_sub (Bool.and_eq_true_iff.mp h).2) ok_hex
theorem shaped_ents {es : List Ent} (h : ∀ e ∈ es, EntOk e) : shapedAll (datE es) := fun p hp => by
  obtain ⟨e, he, rfl⟩ := List.mem_map.mp hp
  exact shaped_head (kinds_ok _ (h e he).2.1) (id_ok (h e he).2.2)
theorem valD_ents {es : List Ent} (nd : (es.map (·.1)).Nodup) {e : Ent} (he : e ∈ es) : valD (datE es) (.inr e.1) = some (.tuple [.str e.2.1, .str e.2.2]) := by
  induction es with
  | nil => exact absurd he (by simp)
  | cons f r ih =>
    obtain ⟨n1, n2⟩ := List.nodup_cons.mp (show (f.1 :: r.map (·.1)).Nodup from nd)
    show valD ((.inr f.1, _) :: datE r) _ = _
    rcases List.mem_cons.mp he with z | z
    · rw [z]
      exact valD_pos rfl
    · rw [valD_neg (fun q => n1 (by rw [show f.1 = e.1 from Sum.inr.inj q]; exact List.mem_map.mpr ⟨e, z, rfl⟩))]
      exact ih n2 z
theorem valD_mem {es : List Ent} {k : Str} {d : PyData} (h : valD (datE es) (.inr k) = some d) : ∃ e ∈ es, e.1 = k ∧ d = .tuple [.str e.2.1, .str e.2.2] := by
  induction es with
  | nil => cases h
  | cons f r ih =>
    have h : valD ((.inr f.1, .tuple [.str f.2.1, .str f.2.2]) :: datE r) (.inr k) = some d := h
    by_cases c : f.1 = k
    · rw [valD_pos (by rw [c])] at h
      exact ⟨f, List.mem_cons_self, c, (Option.some.inj h).symm⟩
    · rw [valD_neg (fun q => c (Sum.inr.inj q))] at h
      obtain ⟨e, he, r⟩ := ih h
      exact ⟨e, List.mem_cons_of_mem _ he, r⟩
theorem nodup_inj {α : Type} {l : List α} (h : l.Nodup) {i j : Nat} (hi : i < l.length) (hj : j < l.length) (e : l[i] = l[j]) : i = j := by
  have p := List.pairwise_iff_getElem.mp h
  rcases Nat.lt_trichotomy i j with c | c | c
  · exact absurd e (p i j hi hj c)
  · exact c
  · exact absurd e.symm (p j i hj hi c)
theorem sub_perm {α : Type} [DecidableEq α] : ∀ {l m : List α}, l.Nodup → (∀ x ∈ l, x ∈ m) → m.length ≤ l.length → l.Perm m
  | [], m, _, _, h => by rw [List.eq_nil_of_length_eq_zero (Nat.le_zero.mp h)]
  | x :: r, m, nd, hs, h => by
    obtain ⟨n1, n2⟩ := List.nodup_cons.mp nd
    have hx := hs x List.mem_cons_self
    have hl := List.length_erase_of_mem hx
    have h : m.length ≤ r.length + 1 := h
    exact ((sub_perm n2 (fun y hy => (List.mem_erase_of_ne (fun (z : y = x) => n1 (by rw [← z]; exact hy))).mpr (hs y (List.mem_cons_of_mem _ hy))) (by omega)).cons x).trans (List.perm_cons_erase hx).symm
theorem ents_eq {es fs : List Ent} (he : es.map (·.1) = fs.map (·.1)) (nd : (fs.map (·.1)).Nodup) (hm : ∀ e ∈ es, e ∈ fs) : es = fs := by
  have hl : es.length = fs.length := by
    have := congrArg List.length he
    rwa [List.length_map, List.length_map] at this
  refine List.ext_getElem hl fun i h1 h2 => ?_
  obtain ⟨j, hj, e⟩ := List.mem_iff_getElem.mp (hm _ (List.getElem_mem h1))
  have k1 : (fs.map (·.1))[j]'(by rw [List.length_map]; exact hj) = (fs.map (·.1))[i]'(by rw [List.length_map]; exact h2) := by
    rw [List.getElem_map, e]
    have := List.getElem_of_eq he (i := i) (by rw [List.length_map]; exact h1)
    rw [List.getElem_map, List.getElem_map] at this
    rw [this, List.getElem_map]
  have : j = i := nodup_inj nd _ _ k1
  subst this
  exact e.symm
theorem eqv_ents2 {es fs : List Ent} (h : EntsOk es) (k : EntsOk fs) : eqvDict (datE es) (datE fs) = decide (es = fs) := by
  obtain ⟨_, n1, s1, _⟩ := h
  obtain ⟨_, n2, s2, _⟩ := k
  by_cases c : es = fs
  · subst c
    rw [decide_eq_true rfl]
    unfold eqvDict
    rw [decide_eq_true rfl, Bool.true_and, List.all_eq_true]
    intro p hp
    obtain ⟨e, he, rfl⟩ := List.mem_map.mp hp
    unfold hitD
    show (match valD (datE es) (.inr e.1) with | none => false | some d => PyData.eqv _ d) = true
    rw [valD_ents n1 he]
    show PyData.eqv _ _ = true
    rw [eqv_head, decide_eq_true rfl]
  · rw [decide_eq_false c]
    refine Bool.eq_false_iff.mpr fun z => c ?_
    unfold eqvDict at z
    obtain ⟨z1, z2⟩ := Bool.and_eq_true_iff.mp z
    have hl : es.length = fs.length := by
      have := of_decide_eq_true z1
      unfold datE at this
      rwa [List.length_map, List.length_map] at this
    have hm : ∀ e ∈ es, e ∈ fs := fun e he => by
      have q := List.all_eq_true.mp z2 _ (List.mem_map.mpr ⟨e, he, rfl⟩)
      unfold hitD at q
      cases v : valD (datE fs) (.inr e.1) with
      | none =>
        have q : (match valD (datE fs) (.inr e.1) with | none => false | some d => PyData.eqv _ d) = true := q
        rw [v] at q
        cases q
      | some d =>
        obtain ⟨f, hf, e1, e2⟩ := valD_mem v
        have q : (match valD (datE fs) (.inr e.1) with | none => false | some d => PyData.eqv _ d) = true := q
        rw [v] at q
        rw [e2] at q
        have q : PyData.eqv _ _ = true := q
        rw [eqv_head] at q
        have q := of_decide_eq_true q
        have : e = f := by
          obtain ⟨a, b, d⟩ := e
          obtain ⟨a', b', d'⟩ := f
          simp only [Prod.mk.injEq] at q e1 ⊢
          exact ⟨e1.symm, by first | exact q.1 | exact q.1.symm, by first | exact q.2 | exact q.2.symm⟩
        rw [this]
        exact hf
    have kp : (es.map (·.1)).Perm (fs.map (·.1)) := by
      refine sub_perm n1 (fun k hk => ?_) (by rw [List.length_map, List.length_map, hl]; exact Nat.le_refl _)
      obtain ⟨e, he, rfl⟩ := List.mem_map.mp hk
      exact List.mem_map.mpr ⟨e, hm e he, rfl⟩
    exact ents_eq (sort_uniq s1 s2 kp) n2 hm
/-! ### operators by one of two rules -/
theorem op_or {X : Cx} {f : Value → Value → Sem Value} {r1 r2 : R2} (h1 : OpR X f r1) (h2 : OpR X f r2) : OpR X f (fun x y H Q => r1 x y H Q ∨ r2 x y H Q) := fun pins s σ H x y v u Q I rx ry h => h.elim (h1 pins s σ H x y v u Q I rx ry) (h2 pins s σ H x y v u Q I rx ry)
theorem op_mono {X : Cx} {f : Value → Value → Sem Value} {r1 r2 : R2} (h : OpR X f r1) (k : ∀ x y H Q, r2 x y H Q → r1 x y H Q) : OpR X f r2 := fun pins s σ H x y v u Q I rx ry q => h pins s σ H x y v u Q I rx ry (k x y H Q q)
end Fk

set_option maxHeartbeats 4000000
/-! The texts of objects. -/
namespace Fk
open PySem PySem.Spec PyProof.Rows L2
theorem ax_app {x y : Str} (hx : AsX x) (hy : AsX y) : AsX (x ++ y) := fun u hu => by
  have hu : u ∈ TL.tl (x ++ y) := hu
  rw [TL.tl_append] at hu
  rcases List.mem_append.mp hu with hu | hu
  · exact hx u hu
  · exact hy u hu
theorem ax_by {x : Str} (h : (TL.tl x).all (fun u => decide (u < 128)) = true) : AsX x := fun u hu => of_decide_eq_true (List.all_eq_true.mp h u hu)
theorem ax_sub {x y : Str} (h : ∀ u ∈ TL.tl x, u ∈ TL.tl y) (hy : AsX y) : AsX x := fun u hu => hy u (h u hu)
theorem ax_hex : AsX HEX := ax_by (by decide +kernel)
theorem ax_ssg : AsX SSG := ax_by (by decide +kernel)
theorem ax_let : AsX LET := ax_by (by decide +kernel)
theorem ax_id {x : Str} (h : isIdF x = true) : AsX x := by
  unfold isIdF at h
  exact ax_sub (only_sub (Bool.and_eq_true_iff.mp h).2) ax_hex
theorem ax_word {x y : Str} (h : isWordF y x = true) (hy : AsX y) : AsX x := by
  unfold isWordF at h
  simp only [Bool.and_eq_true] at h
  exact ax_sub (only_sub h.2.2) hy
theorem ax_seg {x : Str} (h : isSegF x = true) : AsX x := by
  unfold isSegF at h
  exact ax_word (Bool.and_eq_true_iff.mp h).1 ax_ssg
theorem ax_text {x : Str} (h : isTextF x = true) : AsX x := fun u hu => by
  have h := List.all_eq_true.mp (Bool.and_eq_true_iff.mp h).2 u hu
  rcases Bool.or_eq_true_iff.mp h with h | h
  · have := of_decide_eq_true h
    omega
  · unfold plainC at h
    have h2 := (Bool.and_eq_true_iff.mp h).2
    have h3 : ¬ ([126] < [u]) := fun z => by
      rw [decide_eq_true z] at h2
      exact absurd h2 (by decide)
    have h4 : ¬ 126 < u := fun z => h3 (List.Lex.rel z)
    omega
theorem ax_kinds : ∀ k ∈ KINDS, AsX k := fun k hk => ax_by ((by decide +kernel : ∀ k ∈ KINDS, (TL.tl k).all (fun u => decide (u < 128)) = true) k hk)
theorem kinds_len : ∀ k ∈ KINDS, k.length ≤ 4 := by decide +kernel
/-! ### join by nothing -/
theorem nil_tl : TL.tl ("" : Str) = [] := by decide +kernel
theorem tl_join0 (ps : List Str) : TL.tl (Txt.join ("" : Str) ps) = (ps.map TL.tl).flatten := by
  rw [TL.join_eq, TL.tl_join, nil_tl]
  have e : ∀ ls : List (List Nat), TL.joinL [] ls = ls.flatten := by
    intro ls
    induction ls with
    | nil => rfl
    | cons l r ih =>
      cases r with
      | nil => show l = _; simp
      | cons m r =>
        show l ++ ([] ++ TL.joinL [] (m :: r)) = _
        rw [ih]
        simp
  exact e _
theorem ax_join0 {ps : List Str} (h : ∀ p ∈ ps, AsX p) : AsX (Txt.join ("" : Str) ps) := fun u hu => by
  have hu : u ∈ TL.tl (Txt.join ("" : Str) ps) := hu
  rw [tl_join0] at hu
  obtain ⟨l, hl, hu⟩ := List.mem_flatten.mp hu
  obtain ⟨p, hp, rfl⟩ := List.mem_map.mp hl
  exact h p hp u hu
theorem len_join0 (n : Nat) : ∀ ps : List Str, (∀ p ∈ ps, p.length ≤ n) → (Txt.join ("" : Str) ps).length ≤ ps.length * n := fun ps h => by
  rw [TL.len_tl, tl_join0, List.length_flatten]
  have e : ∀ ps : List Str, (∀ p ∈ ps, p.length ≤ n) → ((ps.map TL.tl).map List.length).sum ≤ ps.length * n := by
    intro ps
    induction ps with
    | nil => intro _; exact Nat.zero_le _
    | cons p r ih =>
      intro h
      rw [List.map_cons, List.map_cons, List.sum_cons, List.length_cons, Nat.succ_mul]
      have h1 := h p List.mem_cons_self
      rw [TL.len_tl] at h1
      have := ih fun q hq => h q (List.mem_cons_of_mem _ hq)
      omega
  exact e ps h
theorem len_app (x y : Str) : (x ++ y).length = x.length + y.length := by
  rw [TL.len_tl, TL.tl_append, List.length_append, ← TL.len_tl, ← TL.len_tl]
theorem empty_len : (Str.empty).length = 0 := by decide +kernel
theorem ax_empty : AsX Str.empty := ax_by (by decide +kernel)
/-! ### numbers -/
theorem ax_num {i : Int} (h : 0 ≤ i) : AsX (Str.ofString (toString i)) := fun u hu => by
  obtain ⟨n, rfl⟩ := Int.eq_ofNat_of_zero_le h
  have hu : u ∈ TL.tl (Str.ofString (toString ((n : Nat) : Int))) := hu
  rw [TL.tl_num] at hu
  have := TL.numL_digits n u hu
  omega
theorem num_len {i : Int} (h : 0 ≤ i) (h2 : i ≤ 1000000000000) : (Str.ofString (toString i)).length ≤ 13 := by
  obtain ⟨n, rfl⟩ := Int.eq_ofNat_of_zero_le h
  rw [TL.len_tl, TL.tl_num]
  exact TL.numL_len (by decide) (by omega)
/-! ### the texts -/
def rowF (e : Ent) : Str := Str.empty ++ e.2.1 ++ (" " : Str) ++ e.1 ++ (" " : Str) ++ e.2.2 ++ ("\n" : Str)
def parF (p : Str) : Str := Str.empty ++ ("parent " : Str) ++ p ++ ("\n" : Str)
def headF (t : Str) (ps : List Str) (au : Str) (tm : Int) : Str := Str.empty ++ ("commit\ntree " : Str) ++ t ++ ("\n" : Str) ++ Txt.join ("" : Str) (ps.map parF) ++ ("author " : Str) ++ au ++ ("\ntime " : Str) ++ Str.ofString (toString tm) ++ ("\n\n" : Str)
def tagF (tg lb msg : Str) : Str := Str.empty ++ ("tag\ntarget " : Str) ++ tg ++ ("\nlabel " : Str) ++ lb ++ ("\n\n" : Str) ++ msg
def encF : Ob → Str
  | .blob x => ("blob\n" : Str) ++ x
  | .tree es => ("tree\n" : Str) ++ Txt.join ("" : Str) (es.map rowF)
  | .commit t ps au tm msg => headF t ps au tm ++ msg
  | .tag tg lb msg => tagF tg lb msg
theorem row_ax {e : Ent} (h : EntOk e) : AsX (rowF e) := ax_app (ax_app (ax_app (ax_app (ax_app (ax_app ax_empty (ax_kinds _ h.2.1)) (ax_by (by decide +kernel))) (ax_seg h.1)) (ax_by (by decide +kernel))) (ax_id h.2.2)) (ax_by (by decide +kernel))
theorem par_ax {p : Str} (h : isIdF p = true) : AsX (parF p) := ax_app (ax_app (ax_app ax_empty (ax_by (by decide +kernel))) (ax_id h)) (ax_by (by decide +kernel))
theorem head_ax {t : Str} {ps : List Str} {au : Str} {tm : Int} (h1 : isIdF t = true) (h2 : ∀ p ∈ ps, isIdF p = true) (h3 : isWordF LET au = true) (h4 : 0 ≤ tm) : AsX (headF t ps au tm) := by
  refine ax_app (ax_app (ax_app (ax_app (ax_app (ax_app (ax_app (ax_app (ax_app ax_empty (ax_by (by decide +kernel))) (ax_id h1)) (ax_by (by decide +kernel))) (ax_join0 fun p hp => ?_)) (ax_by (by decide +kernel))) (ax_word h3 ax_let)) (ax_by (by decide +kernel))) (ax_num h4)) (ax_by (by decide +kernel))
  obtain ⟨q, hq, rfl⟩ := List.mem_map.mp hp
  exact par_ax (h2 q hq)
theorem enc_ax {o : Ob} (h : o.ok) : AsX (encF o) := by
  cases o with
  | blob x => exact ax_app (ax_by (by decide +kernel)) (ax_text h)
  | tree es =>
    refine ax_app (ax_by (by decide +kernel)) (ax_join0 fun p hp => ?_)
    obtain ⟨e, he, rfl⟩ := List.mem_map.mp hp
    exact row_ax (h.2.2.2 e he)
  | commit t ps au tm msg =>
    obtain ⟨o1, o2, o3, o4, o5, o6, o7, o8, o9⟩ := h
    exact ax_app (head_ax o1 o4 o5 o6) (ax_text o8)
  | tag tg lb msg =>
    obtain ⟨o1, o2, o8, o9⟩ := h
    exact ax_app (ax_app (ax_app (ax_app (ax_app (ax_app ax_empty (ax_by (by decide +kernel))) (ax_id o1)) (ax_by (by decide +kernel))) (ax_seg o2)) (ax_by (by decide +kernel))) (ax_text o8)
theorem lit1 : (" " : Str).length = 1 ∧ ("\n" : Str).length = 1 ∧ ("parent " : Str).length = 7 ∧ ("commit\ntree " : Str).length = 12 ∧ ("author " : Str).length = 7 ∧ ("\ntime " : Str).length = 6 ∧ ("\n\n" : Str).length = 2 ∧ ("tag\ntarget " : Str).length = 11 ∧ ("\nlabel " : Str).length = 7 ∧ ("blob\n" : Str).length = 5 ∧ ("tree\n" : Str).length = 5 := by decide +kernel
theorem row_len {e : Ent} (h : EntOk e) : (rowF e).length ≤ 35 := by
  obtain ⟨l1, l2, _⟩ := lit1
  unfold rowF
  simp only [len_app, empty_len, l1, l2]
  have h1 := seg_len h.1
  have h2 := kinds_len _ h.2.1
  have h3 : e.2.2.length = 16 := of_decide_eq_true (Bool.and_eq_true_iff.mp (show (decide _ && _) = true from h.2.2)).1
  omega
theorem id_len {x : Str} (h : isIdF x = true) : x.length = 16 := of_decide_eq_true (Bool.and_eq_true_iff.mp (show (decide _ && _) = true from h)).1
theorem par_len {p : Str} (h : isIdF p = true) : (parF p).length = 24 := by
  obtain ⟨l1, l2, l3, _⟩ := lit1
  unfold parF
  simp only [len_app, empty_len, l3, l2, id_len h]
theorem rows_len {es : List Ent} (h : EntsOk es) : (Txt.join ("" : Str) (es.map rowF)).length ≤ 1050 := by
  have := len_join0 35 (es.map rowF) fun p hp => by
    obtain ⟨e, he, rfl⟩ := List.mem_map.mp hp
    exact row_len (h.2.2.2 e he)
  rw [List.length_map] at this
  have := h.1
  omega
theorem pars_len {ps : List Str} (h : ∀ p ∈ ps, isIdF p = true) (hl : ps.length ≤ 6) : (Txt.join ("" : Str) (ps.map parF)).length ≤ 144 := by
  have := len_join0 24 (ps.map parF) fun p hp => by
    obtain ⟨e, he, rfl⟩ := List.mem_map.mp hp
    rw [par_len (h e he)]
    exact Nat.le_refl _
  rw [List.length_map] at this
  omega
theorem word_len {x y : Str} (h : isWordF y x = true) : x.length ≤ 12 := by
  unfold isWordF at h
  simp only [Bool.and_eq_true] at h
  exact of_decide_eq_true h.2.1
theorem head_len {t : Str} {ps : List Str} {au : Str} {tm : Int} (h1 : isIdF t = true) (h2 : ∀ p ∈ ps, isIdF p = true) (hl : ps.length ≤ 6) (h3 : isWordF LET au = true) (h4 : 0 ≤ tm) (h5 : tm ≤ 1000000000000) : (headF t ps au tm).length ≤ 300 := by
  obtain ⟨l1, l2, l3, l4, l5, l6, l7, _⟩ := lit1
  unfold headF
  simp only [len_app, empty_len, l2, l4, l5, l6, l7, id_len h1]
  have := pars_len h2 hl
  have := word_len h3
  have := num_len h4 h5
  omega
theorem enc_len {o : Ob} (h : o.ok) : (encF o).length ≤ 3000 := by
  obtain ⟨l1, l2, l3, l4, l5, l6, l7, l8, l9, l10, l11⟩ := lit1
  cases o with
  | blob x =>
    show (_ ++ _ : Str).length ≤ _
    have : x.length ≤ 2000 := of_decide_eq_true (Bool.and_eq_true_iff.mp (show (decide _ && _) = true from h)).1
    simp only [len_app, l10]
    omega
  | tree es =>
    show (_ ++ _ : Str).length ≤ _
    simp only [len_app, l11]
    have := rows_len h
    omega
  | commit t ps au tm msg =>
    obtain ⟨o1, o2, o3, o4, o5, o6, o7, o8, o9⟩ := h
    show (_ ++ _ : Str).length ≤ _
    simp only [len_app]
    have := head_len o1 o4 o2 o5 o6 o7
    omega
  | tag tg lb msg =>
    obtain ⟨o1, o2, o8, o9⟩ := h
    show (tagF tg lb msg).length ≤ _
    unfold tagF
    simp only [len_app, empty_len, l8, l9, l7, id_len o1]
    have := seg_len o2
    omega
end Fk

set_option maxHeartbeats 4000000
/-! Bytes read back: lines, words. -/
namespace Fk
open PySem PySem.Spec PySem.Calls PyProof.Rows L2
def bytL (L : List Nat) : Array UInt8 := (L.map (·.toUInt8)).toArray
def AsL (L : List Nat) : Prop := ∀ u ∈ L, u < 128
theorem byts_L (x : Str) : byts x = bytL (TL.tl x) := rfl
theorem bytL_size (L : List Nat) : (bytL L).size = L.length := by
  unfold bytL
  rw [List.size_toArray, List.length_map]
theorem u8_nat {u : Nat} (h : u < 128) : u.toUInt8.toNat = u := by
  show u % 256 = u
  omega
theorem strB_L {L : List Nat} (h : AsL L) : strB (bytL L) = ⟨L.toArray⟩ := by
  unfold strB bytL
  rw [List.map_map]
  congr 2
  conv => rhs; rw [← List.map_id L]
  exact List.map_congr_left fun u hu => u8_nat (h u hu)
theorem asc_L {L : List Nat} (h : AsL L) : ascB (bytL L) = true := by
  unfold ascB bytL
  refine List.all_eq_true.mpr fun x hx => ?_
  obtain ⟨u, hu, rfl⟩ := List.mem_map.mp hx
  refine decide_eq_true ?_
  show u.toUInt8 < 128
  rw [UInt8.lt_iff_toNat_lt, u8_nat (h u hu)]
  exact h u hu
theorem AsL.sub {L M : List Nat} (h : AsL L) (s : ∀ u ∈ M, u ∈ L) : AsL M := fun u hu => h u (s u hu)
theorem pk_L {L : List Nat} {i j : Nat} (hi : i ≤ L.length) (hj : j ≤ L.length) : PySem.W.KBy.picked (bytL L) (some (i : Int)) (some (j : Int)) = bytL ((L.drop i).take (j - i)) := by
  unfold bytL
  rw [pk_mid (by rw [List.length_map]; exact hi) (by rw [List.length_map]; exact hj), ← List.map_drop, ← List.map_take]
theorem pkf_L {L : List Nat} {i : Nat} (hi : i ≤ L.length) : PySem.W.KBy.picked (bytL L) (some (i : Int)) none = bytL (L.drop i) := by
  unfold bytL
  rw [pk_from (by rw [List.length_map]; exact hi), ← List.map_drop]
theorem one_at {L : List Nat} (h : AsL L) {i u : Nat} (hi : L[i]? = some u) : ((bytL L).extract i (i + 1) == (#[10] : Array UInt8)) = decide (u = 10) := by
  have e : (bytL L).extract i (i + 1) = #[u.toUInt8] := by
    apply Array.toList_inj.mp
    unfold bytL
    rw [List.extract_toArray, List.extract_eq_take_drop]
    have hl := (List.getElem?_eq_some_iff.mp hi).1
    show ((L.map (·.toUInt8)).drop i).take (i + 1 - i) = [u.toUInt8]
    rw [Nat.add_sub_cancel_left, ← List.map_drop, ← List.map_take, List.take_one, List.head?_drop, hi]
    rfl
  rw [e, Bool.eq_iff_iff]
  have hu := h u (List.mem_of_getElem? hi)
  constructor
  · intro z
    have z : (#[u.toUInt8] : Array UInt8) = #[10] := eq_of_beq z
    have z2 : u.toUInt8 = 10 := by
      have := congrArg Array.toList z
      simpa using this
    have := congrArg UInt8.toNat z2
    rw [u8_nat hu] at this
    exact decide_eq_true this
  · intro z
    rw [of_decide_eq_true z]
    rfl
theorem find_nl {pre line post : List Nat} (h : AsL (pre ++ line ++ 10 :: post)) (hn : 10 ∉ line) : findB (bytL (pre ++ line ++ 10 :: post)) #[10] pre.length = ((pre.length + line.length : Nat) : Int) := by
  have sz : (bytL (pre ++ line ++ 10 :: post)).size = pre.length + line.length + 1 + post.length := by
    rw [bytL_size, List.length_append, List.length_append, List.length_cons]
    omega
  have s1 : (#[10] : Array UInt8).size = 1 := rfl
  unfold findB
  rw [sz, s1, if_neg (by omega)]
  have f : Builtin.Bytes.find? (bytL (pre ++ line ++ 10 :: post)) #[10] pre.length (pre.length + line.length + 1 + post.length) = some (line.length + pre.length) := by
    unfold Builtin.Bytes.find?
    rw [List.find?_map, s1]
    have g : List.find? ((fun i => (bytL (pre ++ line ++ 10 :: post)).extract i (i + 1) == (#[10] : Array UInt8)) ∘ fun x => x + pre.length) (List.range (pre.length + line.length + 1 + post.length + 1 - (pre.length + 1))) = some line.length := by
      rw [List.find?_range_eq_some]
      refine ⟨?_, List.mem_range.mpr (by omega), fun j hj => ?_⟩
      · show ((bytL (pre ++ line ++ 10 :: post)).extract (line.length + pre.length) (line.length + pre.length + 1) == (#[10] : Array UInt8)) = true
        rw [one_at h (u := 10) (by rw [List.append_assoc, List.getElem?_append_right (by omega), Nat.add_sub_cancel, List.getElem?_append_right (Nat.le_refl _), Nat.sub_self]; rfl)]
        rfl
      · show (!((bytL (pre ++ line ++ 10 :: post)).extract (j + pre.length) (j + pre.length + 1) == (#[10] : Array UInt8))) = true
        have hg : (pre ++ line ++ 10 :: post)[j + pre.length]? = some line[j] := by
          rw [List.append_assoc, List.getElem?_append_right (by omega), Nat.add_sub_cancel, List.getElem?_append_left hj, List.getElem?_eq_getElem hj]
        rw [one_at h hg, decide_eq_false (fun (z : line[j] = 10) => hn (by rw [← z]; exact List.getElem_mem hj))]
        rfl
    rw [g]
    rfl
  rw [f]
  show (((line.length + pre.length : Nat) : Int)) = _
  rw [Nat.add_comm]
end Fk

set_option maxHeartbeats 4000000
/-! A dict of texts that has one key of another kind (None, a tuple) behind them: the key is stored; the texts are found; it is walked, measured, compared by its length. -/
namespace Fk
open PySem PySem.Spec PyProof.Rows L2
section
variable {prog : Program} {w : World} {A : Around} {E : Value → Shared → Prop} {s : Shared}
theorem tells_no {key : Value} {stored : List Value} {Q : Bool → Shared → Prop} (hk : ∀ Q : Bool → Shared → Prop, Q true s → wpAny (model prog w) A (eqIsQuiet 8 key) Q E s)
    (hst : ∀ v ∈ stored, ∀ Q : Bool → Shared → Prop, Q true s → wpAny (model prog w) A (eqIsQuiet 8 v) Q E s) (h : Q false s) : wpAny (model prog w) A (tableMayTell key stored) Q E s := by
  unfold tableMayTell
  split
  · exact wpAny_pure h
  · refine wpAny_bind (hk _ ?_)
    simp only [Bool.not_true, Bool.false_eq_true, if_false]
    refine wpAny_bind ?_
    refine wpAny_forIn_list _ (fun rest r s' => s' = s ∧ r = (none, ()) ∧ ∀ v ∈ rest, v ∈ stored) _ ?_ ?_ _ _ ⟨rfl, rfl, fun _ h => h⟩
    · rintro x rest r s' ⟨rfl, rfl, hr⟩
      refine wpAny_bind (hst x (hr x List.mem_cons_self) _ ?_)
      simp only [Bool.not_true, Bool.false_eq_true, if_false]
      exact wpAny_pure ⟨rfl, rfl, fun v hv => hr v (List.mem_cons_of_mem _ hv)⟩
    · rintro r s' ⟨rfl, rfl, _⟩
      exact wpAny_pure h
/-- a key is looked for among entries of any kinds that answer == quietly -/
theorem find_mix {d : Addr} {o : Obj} {es : Array DictEntry} {ep : Nat} {key : Value} {hs : Int} {e : Nat → Bool} {Q : Option Nat → Shared → Prop} (ho : s.heap.get? d = some o) (hd : o.data = .dict es ep)
    (hk : (∃ a, key = .ref a ∧ ∀ j (hj : j < es.size), es[j].key ≠ .ref a) ∨ ((∃ x t, key = .str x t) ∧ (es.all fun e => isExactStrKey e.key) = false) ∨ key = .none)
    (hq : ∀ Q : Bool → Shared → Prop, Q true s → wpAny (model prog w) A (eqIsQuiet 8 key) Q E s)
    (hqs : ∀ j (hj : j < es.size) (Q : Bool → Shared → Prop), Q true s → wpAny (model prog w) A (eqIsQuiet 8 es[j].key) Q E s)
    (heq : ∀ j (hj : j < es.size) (Q : Bool → Shared → Prop), es[j].hash = hs → Q (e j) s → wpAny (model prog w) A (eqBool es[j].key key) Q E s)
    (hu : ∀ i j (hi : i < es.size) (hj : j < es.size), es[i].hash = hs → es[j].hash = hs → e i = true → e j = true → i = j)
    (hnone : (∀ j (hj : j < es.size), es[j].hash = hs → e j = false) → Q none s) (hsome : ∀ j (hj : j < es.size), es[j].hash = hs → e j = true → Q (some j) s) :
    wpAny (model prog w) A (dictFind d key hs) Q E s := by
  have hst : ∀ v ∈ (placesWithHash es.size (fun i => es[i]?.map (·.hash)) hs).filterMap (fun i => es[i]?.map (·.key)), ∀ Q : Bool → Shared → Prop, Q true s → wpAny (model prog w) A (eqIsQuiet 8 v) Q E s := by
    intro v hv
    obtain ⟨i, _, hi⟩ := List.mem_filterMap.mp hv
    cases hei : es[i]? with
    | none => rw [hei] at hi; cases hi
    | some x =>
      rw [hei] at hi
      obtain rfl : x.key = v := by simpa using hi
      obtain ⟨hj, rfl⟩ := Array.getElem?_eq_some_iff.mp hei
      exact hqs i hj
  have step : ∀ (x : Nat) (rest : List Nat) (i : Nat), x :: rest = (List.range' i (es.size - i)).filter (fun i => (es[i]?.map (·.hash)) == some hs) → i ≤ es.size →
      ∃ hlt : x < es.size, i ≤ x ∧ es[x].hash = hs ∧ rest = (List.range' (x + 1) (es.size - (x + 1))).filter (fun i => (es[i]?.map (·.hash)) == some hs) ∧ ∀ j (hj : j < es.size), i ≤ j → j < x → es[j].hash ≠ hs := by
    intro x rest i hr hi
    obtain ⟨hix, hxn, hpx, hskip, hrest⟩ := filter_range'_cons _ _ _ _ _ hr.symm
    have hlt : x < es.size := by omega
    refine ⟨hlt, hix, ?_, ?_, fun j hj h1 h2 z => ?_⟩
    · rw [Array.getElem?_eq_getElem hlt] at hpx
      simpa using hpx
    · rw [hrest]
      congr 2
      omega
    · have := hskip j h1 h2
      rw [Array.getElem?_eq_getElem hj] at this
      simp [z] at this
  have stop : ∀ i, [] = (List.range' i (es.size - i)).filter (fun i => (es[i]?.map (·.hash)) == some hs) → ∀ j (hj : j < es.size), i ≤ j → es[j].hash ≠ hs := by
    intro i hr j hj h1 z
    have := List.filter_eq_nil_iff.mp hr.symm j (List.mem_range'_1.mpr ⟨h1, by omega⟩)
    rw [Array.getElem?_eq_getElem hj] at this
    simp [z] at this
  have plain : wpAny (model prog w) A (dictWalkPlain d key hs es (placesWithHash es.size (fun i => es[i]?.map (·.hash)) hs)) Q E s := by
    refine wpAny_bind ?_
    refine wpAny_forIn_list _
      (fun rest b s' => s' = s ∧ b = (none, ()) ∧ ∃ i, rest = (List.range' i (es.size - i)).filter (fun i => (es[i]?.map (·.hash)) == some hs) ∧ i ≤ es.size ∧
        ∀ j (hj : j < es.size), j < i → es[j].hash = hs → e j = false) _ ?_ ?_ _ _
      ⟨rfl, rfl, 0, by rw [placesWithHash, List.range_eq_range', Nat.sub_zero], Nat.zero_le _, fun _ _ h => absurd h (Nat.not_lt_zero _)⟩
    · rintro x rest b s' ⟨rfl, rfl, i, hr, hi, hno⟩
      obtain ⟨hlt, hix, hh, hrest, hskip⟩ := step x rest i hr hi
      have hno' : ∀ j (hj : j < es.size), j < x → es[j].hash = hs → e j = false := fun j hj hjx hjh => by
        rcases Nat.lt_or_ge j i with h | h
        · exact hno j hj h hjh
        · exact absurd hjh (hskip j hj h hjx)
      simp only [Array.getElem?_eq_getElem hlt]
      rw [if_pos (by rw [hh]; simp)]
      refine wpAny_bind (wpAny_dictEpoch ho hd (wpAny_bind (heq x hlt _ hh (wpAny_bind (wpAny_dictEpoch ho hd ?_)))))
      show wpAny _ _ (if (ep != ep) = true then _ else _) _ E _
      rw [if_neg (by simp)]
      cases hex : e x with
      | true => exact wpAny_bind (wpAny_rule (wpAny_pure (wpAny_pure (hsome x hlt hh hex))))
      | false =>
        refine wpAny_bind (wpAny_rule (wpAny_pure ⟨rfl, rfl, x + 1, hrest, hlt, fun j hj hjx hjh => ?_⟩))
        by_cases z : j = x
        · subst z; exact hex
        · exact hno' j hj (by omega) hjh
    · rintro b s' ⟨rfl, rfl, i, hr, hi, hno⟩
      refine wpAny_pure (hnone fun j hj hjh => ?_)
      rcases Nat.lt_or_ge j i with h | h
      · exact hno j hj h hjh
      · exact absurd hjh (stop i hr j hj h)
  have hany : ∀ a, key = .ref a → (∀ j (hj : j < es.size), es[j].key ≠ .ref a) → ¬ (es.any fun e => e.key == Value.ref a && e.hash != hs) = true := by
    intro a _ hka
    rw [← Array.any_toList, List.any_eq_true]
    rintro ⟨x, hin, hc⟩
    simp only [Bool.and_eq_true, beq_iff_eq] at hc
    obtain ⟨j, hj, rfl⟩ := Array.mem_iff_getElem.mp (Array.mem_toList_iff.mp hin)
    exact hka j hj hc.1
  rcases hk with ⟨a, rfl, hka⟩ | ⟨⟨x, t, rfl⟩, hstr⟩ | rfl
  all_goals unfold dictFind
  all_goals try with_reducible refine wpAny_holding ?_
  all_goals refine wpAny_bind (wpAny_dictEntries ho hd ?_)
  all_goals dsimp only
  case' inr.inl => rw [if_neg (by rw [hstr]; exact Bool.false_ne_true)]
  all_goals refine wpAny_ite_split (fun _ => plain) (fun _ => ?_)
  case' inl => rw [if_neg (hany a rfl hka)]
  all_goals refine wpAny_ite_split (fun _ => wpAny_bind (wpAny_pure ?_)) (fun _ => wpAny_bind (tells_no hq hst ?_))
  all_goals rw [if_neg (by simp)]
  all_goals refine wpAny_bind ?_
  all_goals refine wpAny_forIn_list _ (fun (rest : List Nat) (b : Option (Option Nat) × Option Nat) s' => s' = s ∧ ∃ (i : Nat) (hit : Option Nat), b = (none, hit) ∧ rest = (List.range' i (es.size - i)).filter (fun i => (es[i]?.map (·.hash)) == some hs) ∧ i ≤ es.size ∧ ((hit = none ∧ ∀ j (hj : j < es.size), j < i → es[j].hash = hs → e j = false) ∨ ∃ j, hit = some j ∧ ∃ hj : j < es.size, j < i ∧ es[j].hash = hs ∧ e j = true)) _ ?_ ?_ _ _ ⟨rfl, 0, none, rfl, by rw [placesWithHash, List.range_eq_range', Nat.sub_zero], Nat.zero_le _, .inl ⟨rfl, fun _ _ h => absurd h (Nat.not_lt_zero _)⟩⟩
  all_goals first
    | (rintro x rest b s' ⟨rfl, i, hit, rfl, hr, hi, hH⟩
       obtain ⟨hlt, hix, hh, hrest, hskip⟩ := step x rest i hr hi
       have hHx : (hit = none ∧ ∀ j (hj : j < es.size), j < x → es[j].hash = hs → e j = false) ∨ ∃ j, hit = some j ∧ ∃ hj : j < es.size, j < x ∧ es[j].hash = hs ∧ e j = true := by
         rcases hH with ⟨h0, hno⟩ | ⟨j, h1, hj, h2, h3, h4⟩
         · refine .inl ⟨h0, fun j hj hjx hjh => ?_⟩
           rcases Nat.lt_or_ge j i with h | h
           · exact hno j hj h hjh
           · exact absurd hjh (hskip j hj h hjx)
         · exact .inr ⟨j, h1, hj, by omega, h3, h4⟩
       simp only [Array.getElem?_eq_getElem hlt]
       rw [if_pos (by rw [hh]; simp)]
       refine wpAny_bind (wpAny_dictEpoch ho hd (wpAny_bind (heq x hlt _ hh (wpAny_bind (wpAny_dictEpoch ho hd ?_)))))
       show wpAny _ _ (if (ep != ep) = true then _ else _) _ E _
       rw [if_neg (by simp)]
       cases hex : e x with
       | true =>
         rcases hHx with ⟨rfl, _⟩ | ⟨j, _, hj, hjx, h3, h4⟩
         · first | rw [if_pos rfl] | skip
           simp only [Option.isSome_none, Bool.false_eq_true, if_false]
           first | refine wpAny_bind (wpAny_pure ?_) | skip
           refine wpAny_bind (wpAny_rule ?_)
           split
           · exact wpAny_pure (wpAny_pure (hsome x hlt hh hex))
           · exact wpAny_pure ⟨rfl, x + 1, some x, rfl, hrest, hlt, .inr ⟨x, rfl, hlt, Nat.lt_succ_self x, hh, hex⟩⟩
         · exact absurd (hu j x hj hlt h3 hh h4 hex) (by omega)
       | false =>
         have hs' : (hit = none ∧ ∀ j (hj : j < es.size), j < x + 1 → es[j].hash = hs → e j = false) ∨ ∃ j, hit = some j ∧ ∃ hj : j < es.size, j < x + 1 ∧ es[j].hash = hs ∧ e j = true := by
           rcases hHx with ⟨h0, hno⟩ | ⟨j, h1, hj, h2, h3, h4⟩
           · refine .inl ⟨h0, fun j hj hjx hjh => ?_⟩
             by_cases z : j = x
             · subst z; exact hex
             · exact hno j hj (by omega) hjh
           · exact .inr ⟨j, h1, hj, by omega, h3, h4⟩
         simp only [Bool.false_eq_true, if_false]
         refine wpAny_bind (wpAny_rule ?_)
         first | rw [if_neg (by simp)] | skip
         first
           | exact wpAny_pure ⟨rfl, x + 1, hit, rfl, hrest, hlt, hs'⟩
           | exact wpAny_bind (wpAny_pure (wpAny_pure ⟨rfl, x + 1, hit, rfl, hrest, hlt, hs'⟩)))
    | (rintro b s' ⟨rfl, i, hit, rfl, hr, hi, hH⟩
       rcases hH with ⟨rfl, hno⟩ | ⟨j, rfl, hj, _, h3, h4⟩
       · refine wpAny_pure (hnone fun j hj hjh => ?_)
         rcases Nat.lt_or_ge j i with h | h
         · exact hno j hj h hjh
         · exact absurd hjh (stop i hr j hj h)
       · exact wpAny_pure (hsome j hj h3 h4))
end
end Fk

set_option maxHeartbeats 4000000
/-! The mixed dict as an object: stored, asked for its kind and length, walked, read. -/
namespace Fk
open PySem PySem.Spec PyProof.Rows L2
def MixO (a : Addr) (es : Array DictEntry) (ep : Nat) : HO := .ext fun h => h.DictRaw a es ep ∧ (a == sysModules) = false
theorem mixO_ok {P : Program} {w : World} {H : Hp} {h : Heap} {a : Addr} {es : Array DictEntry} {ep : Nat} (hm : h.DictRaw a es ep) (hs : (a == sysModules) = false) : ObjOk P w H h a (MixO a es ep) := by
  obtain ⟨o, ho, _⟩ := id hm
  exact ⟨⟨hm, hs⟩, ⟨o, ho⟩, fun h1 h2 x e => ⟨x.1.at e, x.2⟩⟩
/-- the entries: the texts, then the other key -/
structure MixE (P : Program) (w : World) (t : Tab) (key r : V) (es : Array DictEntry) : Prop where
  sz : es.size = t.length + 1
  txt : ∀ i (hi : i < t.length) (hj : i < es.size), RelV (.str t[i].1) es[i].key ∧ RelV t[i].2 es[i].val ∧ es[i].hash = (mixKind P w).hash (.inr t[i].1)
  last : ∀ hj : t.length < es.size, RelV key es[t.length].key ∧ RelV r es[t.length].val
def OddK (H : Hp) (key : V) : Prop := key = .non ∨ ∃ (b : Addr) (ks : List Key), key = .ref b ∧ H b = some (.tup (ks.map kV))
section
variable {X : Cx} {pins : List (Addr × Obj)} {σ : L2.St} {H : Hp} {s : Shared} {a : Addr} {A : Around} {E : Value → Shared → Prop} {t : Tab} {key r : V}
theorem raw_kT {h : Heap} {P : Program} {w : World} {vs : List (Key × Value)} (rel : KV (kT t) vs) (dd : h.DictOf (mixKind P w) a vs) :
    ∃ o es ep, h.get? a = some o ∧ o.ExactDict ∧ o.data = .dict es ep ∧ es.size = t.length ∧ ∀ i (hi : i < t.length) (hj : i < es.size), RelV (.str t[i].1) es[i].key ∧ RelV t[i].2 es[i].val ∧ es[i].hash = (mixKind P w).hash (.inr t[i].1) := by
  obtain ⟨o, es, ep, ho, hc, hd, hk, hp, _⟩ := dd
  have l1 := hp.length
  have l2 : (kT t).length = vs.length := Paired.length rel
  rw [Array.length_toList] at l1
  have l3 : (kT t).length = t.length := by unfold kT; rw [List.length_map]
  refine ⟨o, es, ep, ho, hc, hd, by omega, fun i hi hj => ?_⟩
  have e1 : (kT t)[i]? = some (.inr t[i].1, t[i].2) := by
    unfold kT
    rw [List.getElem?_map, List.getElem?_eq_getElem hi]
    rfl
  obtain ⟨u, hu, ru⟩ := kv_get rel e1
  obtain ⟨g1, g2⟩ := hp.get? (e := es[i]) (by simp [hj]) hu
  obtain ⟨k', hk1, hk2⟩ := hk es[i] (Array.getElem_mem hj)
  have ek := (mixKind P w).inj _ _ _ hk1 g1
  subst ek
  exact ⟨relV_key (show keyIs (.inr t[i].1) es[i].key = true from g1), g2 ▸ ru, hk2⟩
theorem str_not {x : Str} {u : Value} (h : RelV (.str x) u) : ∃ t, u = .str x t := h
/-- d[key] = v, the key of another kind -/
theorem mix_set {u v : Value} {Q : Unit → Shared → Prop} (hu : A.units + 1 < cLine) (I : Inv X pins σ H s) (ha : H a = some (.dK (kT t))) (hk : OddK H key) (ru : RelV key u) (rv : RelV r v) (hl : t.length < sizeLine)
    (h : ∀ es ep s', MixE X.prog X.w t key r es → Inv X pins σ (upd H a (MixO a es ep)) s' → Q () s') : wpAny (model X.prog X.w) A (setItem (.ref a) u v) Q E s := by
  obtain ⟨z, hd, vs, rel, dd⟩ := dk_of I.hok ha
  obtain ⟨o, es, ep, ho, hc, hdat, hsz, hent⟩ := raw_kT rel dd
  have hT := dd.typeIs
  have fin : ∀ (hs : Int) (n : Nat) (hkk : (∃ b, u = .ref b) ∨ u = .none) (hq : ∀ Q : Bool → Shared → Prop, Q true { s with toks := s.toks + n } → wpAny (model X.prog X.w) A.in1 (eqIsQuiet 8 u) Q E { s with toks := s.toks + n })
      (heq : ∀ (x : Str) (t : Tok) (Q : Bool → Shared → Prop), Q false { s with toks := s.toks + n } → wpAny (model X.prog X.w) A.in1 (eqBool (.str x t) u) Q E { s with toks := s.toks + n }) (Q' : Unit → Shared → Prop),
      (∀ s', Q () s' → Q' () s') → wpAny (model X.prog X.w) A.in1 (dictSetHashed a u hs v) Q' E { s with toks := s.toks + n } := by
    intro hs n hkk hq heq Q' hQ
    unfold dictSetHashed
    try with_reducible refine wpAny_holding ?_
    refine wpAny_bind (find_mix (e := fun _ => false) (s := { s with toks := s.toks + n }) ho hdat ?_ hq ?_ ?_ (fun _ _ _ _ _ _ z _ => nomatch z) (fun _ => ?_) (fun _ _ _ z => nomatch z))
    · rcases hkk with ⟨b, e⟩ | e
      · refine .inl ⟨b, e, fun j hj q => ?_⟩
        obtain ⟨tk, q2⟩ := (hent j (by omega) hj).1
        rw [q] at q2
        cases q2
      · exact .inr (.inr e)
    · intro j hj Q2 q2
      obtain ⟨tk, e⟩ := (hent j (by omega) hj).1
      rw [e, eqIsQuiet_byValue 8 rfl]
      exact wpAny_pure q2
    · intro j hj Q2 _ q2
      obtain ⟨tk, e⟩ := (hent j (by omega) hj).1
      rw [e]
      exact heq _ _ _ q2
    · refine wpAny_bind (wpAny_rule (wpAny_updateDictKeys (hz := by have := z; unfold kT at this; rw [List.length_map] at this; omega) (s := { s with toks := s.toks + n }) ho hdat (hQ _ (h (es.push ⟨hs, u, v⟩) (ep + 1) _ ⟨?_, ?_, ?_⟩ ?_))))
      · rw [Array.size_push, hsz]
      · intro i hi hj
        rw [Array.getElem_push_lt (by omega)]
        exact hent i hi (by omega)
      · intro hj
        have e : (es.push ⟨hs, u, v⟩)[t.length] = ⟨hs, u, v⟩ := by
          have := Array.getElem_push_eq (xs := es) (x := (⟨hs, u, v⟩ : DictEntry))
          simpa [hsz] using this
        rw [e]
        exact ⟨ru, rv⟩
      · exact d_write (t' := s.toks + n) (I.tok (s.toks + n)) (by rw [ha]; exact True.intro) (Heap.SameBut.update ..) ⟨_, Heap.get?_update_self _ ho (Obj.isFreed_of_dict (Obj.data_mapDictKeys hdat _))⟩
          (mixO_ok ⟨_, Heap.get?_update_self _ ho (Obj.isFreed_of_dict (Obj.data_mapDictKeys hdat _)), hc.mapDictKeys _, Obj.data_mapDictKeys hdat _⟩ hd)
  unfold setItem
  try with_reducible refine wpAny_holding ?_
  refine wpAny_bind (wpAny_sequenceKey hT (by decide) ?_)
  refine wpAny_bind (wpAny_callSpecial?_slot (name := Str.ofString "__setitem__") hT F.slot_dict_setitem
    (wpAny_call_entry F.slot_dict_setitem hT F.entry_dict_setitem ?_ (F.args_dict_setitem_3 _ _ _)))
  show wpAny _ _ (Builtin.Dict.notOrdered "__setitem__" ⟨[.ref a, u, v], []⟩ >>= _) _ _ s
  refine wpAny_bind (wpAny_notOrdered_dict hT ?_)
  show wpAny _ _ (dictSet a u v >>= _) _ _ s
  refine wpAny_bind ?_
  unfold dictSet
  try with_reducible refine wpAny_holding ?_
  rcases hk with rfl | ⟨b, ks, rfl, hb⟩
  · obtain rfl : u = .none := ru
    refine wpAny_bind ((leafKind X.prog X.w).pyHash (k := Leaf.none) (by rfl) ?_)
    refine fin _ 1 (.inr rfl) (fun Q2 q2 => ?_) (fun x t Q2 q2 => SeqAt.EqAt.str_none x t _ _ _ _ q2) _ fun s' q => wpAny_pure ⟨.none, rfl, wpAny_pure q⟩
    rw [eqIsQuiet_byValue 8 rfl]
    exact wpAny_pure q2
  · obtain rfl : u = .ref b := ru
    have hkb := key_of I.hok hb
    refine wpAny_bind ((tupleKind (mixKind X.prog X.w)).pyHash (tupleKind_room_in1 hu) hkb ?_)
    refine fin _ _ (.inl ⟨b, rfl⟩) (fun Q2 q2 => (tupleKind (mixKind X.prog X.w)).quiet hkb q2) (fun x t Q2 q2 => ?_) _ fun s' q => wpAny_pure ⟨.none, rfl, wpAny_pure q⟩
    obtain ⟨_, its, rv2, ht⟩ := (show ObjOk X.prog X.w H s.heap b (.tup (ks.map kV)) from I.hok b _ hb)
    exact SeqAt.EqAt.str_tuple (A := A.in1) (s := { s with toks := s.toks + (tupleKind (mixKind X.prog X.w)).draws ks }) x t ht (by show A.units + 1 < cLine; omega) _ _ _ _ q2
end
end Fk

set_option maxHeartbeats 4000000
/-! The mixed dict: isinstance, len, its walk, its texts read, its store as a statement. -/
namespace Fk
open PySem PySem.Spec PyProof.Rows L2
section
variable {X : Cx}
theorem mix_of {pins : List (Addr × Obj)} {σ : L2.St} {H : Hp} {s : Shared} {a : Addr} {es : Array DictEntry} {ep : Nat} (I : Inv X pins σ H s) (h : Rd H a (MixO a es ep)) : s.heap.DictRaw a es ep ∧ (a == sysModules) = false :=
  (h.ok I.hok).1
/-- d[key] = v, by text or whole number, or by another kind of key -/
def sDPutM (td ty tv : TE) : TS := fun D σ H => tv σ H fun v H1 => td σ H1 fun x H2 => ty σ H2 fun y H3 => ∃ a, x = .ref a ∧ ((∃ H4, DPut H3 a y v H4 ∧ D.nx σ H4) ∨
  ∃ t, H3 a = some (.dK (kT t)) ∧ OddK H3 y ∧ t.length < sizeLine ∧ ∀ es ep, MixE X.prog X.w t y v es → D.nx σ (upd H3 a (MixO a es ep)))
theorem ps_dputM {o i value : Expr} {td ty tv : TE} {pos pos' : Pos} (hu : X.A.units + 1 < cLine) (ho : PE X o td) (hi : PE X i ty) (hv : PE X value tv) (hs : swapsWith value (some (.Subscript o i pos')) pos.line X.env = pure false) :
    PS X (.Assign [.Subscript o i pos'] value pos) (sDPutM (X := X) td ty tv) := by
  refine ⟨fun pins s σ H D I h => ?_⟩
  refine wpAny_Assign_Subscript (thn (hv.run pins s σ H _ I h) fun r s1 ⟨v, H1, I1, rv, q1⟩ => thn (ho.run pins s1 σ H1 _ I1 q1) fun u s2 ⟨x, H2, I2, rx, q2⟩ => thn (hi.run pins s2 σ H2 _ I2 q2) fun iv s3 ⟨y, H3, I3, ry, a, ex, g⟩ => ?_) hs
  subst ex
  obtain rfl : u = Value.ref a := rx
  rcases g with ⟨H4, g, q3⟩ | ⟨t, ha, hk, hl, q3⟩
  · exact d_setItem hu I3 g ry rv fun s4 I4 => ⟨σ, H4, I4, q3⟩
  · exact mix_set hu I3 ha hk ry rv hl fun es ep s4 m I4 => ⟨σ, _, I4, q3 es ep m⟩
/-- isinstance(d, dict) -/
def rIsiM : List V → Hp → VK → Prop := fun xs H Q => ∃ a es ep, xs = [.ref a, .ty "dict"] ∧ H a = some (MixO a es ep) ∧ Q (.bl true) H
theorem call_isiM : CallR X (.builtin "isinstance") rIsiM := by
  intro pins s σ H xs us Q I r h
  obtain ⟨a, es, ep, rfl, ha, q⟩ := h
  obtain ⟨u1, u2, rfl, r1, r2⟩ := vals2 r
  obtain rfl : u1 = .ref a := r1
  have e2 := (ClsV.ty "dict").eq r2
  subst e2
  obtain ⟨⟨o, h1, h2, _⟩, _⟩ := mix_of I (.inl ha)
  exact PySem.W.kia_one PySem.W.kitx_dict I.kIn ⟨o, h1, h2.1⟩ (kit_ty (by decide +kernel)) (fun z => nomatch z) fun tk => ⟨.bl true, H, I.tok tk, rfl, q⟩
/-- len(d) -/
def rLenM : List V → Hp → VK → Prop := fun xs H Q => ∃ a es ep, xs = [.ref a] ∧ H a = some (MixO a es ep) ∧ es.size ≤ 1000000 ∧ Q (.int ((es.size : Nat) : Int)) H
theorem call_lenM : CallR X (.builtin "len") rLenM := by
  intro pins s σ H xs us Q I r h
  obtain ⟨a, es, ep, rfl, ha, hsz, q⟩ := h
  obtain ⟨u, rfl, rx⟩ := vals1 r
  obtain rfl : u = .ref a := rx
  obtain ⟨hm, hd⟩ := mix_of I (.inl ha)
  refine Calls.call_function_entry kind_len plain_len entry_len (args_len1 _) ?_
  unfold Builtin.«len»
  refine wpAny_bind (m := oneArg "len" _) (wpAny_pure ?_)
  refine wpAny_bind (m := callSpecial? (.ref a) (Str.ofString "__len__")) (wpAny_callSpecial?_slot (name := Str.ofString "__len__") hm.typeIs PySem.F.slot_dict_len
    (call_meetsIn PySem.F.slot_dict_len hm.typeIs PySem.F.entry_dict_len (PySem.F.args_dict_len_1 _) (meets_dict_len_raw a hd) ⟨es, ep, hm, ?_⟩))
  show wpAny _ _ _ _ _ { s with toks := s.toks + 1 }
  refine wpAny_bind (wpAny_holding (wpAny_pure ?_))
  refine wpAny_bind (wpAny_letGo ?_)
  show wpAny _ _ (if ((es.size : Nat) : Int) < 0 then _ else _) _ _ _
  rw [if_neg (by omega)]
  show wpAny _ _ (if ((es.size : Nat) : Int) ≥ 2 ^ 63 then _ else _) _ _ _
  rw [if_neg (by omega)]
  exact wpAny_bind (wpAny_mkInt (wpAny_pure ⟨_, rfl, .int ((es.size : Nat) : Int), H, (I.tok _).tok _, ⟨_, rfl⟩, q⟩))
/-! ### the walk -/
def ItM (d : Addr) (o : Obj) (es : Array DictEntry) (ep : Nat) (ks : List V) : It :=
  ⟨fun i H => H d = some (.frz o (MixO d es ep)) ∧ i < es.size, fun i H x H' => H' = H ∧ ks[i]? = some x, fun i H => H d = some (.frz o (MixO d es ep)) ∧ es.size ≤ i⟩
def KeysV (ks : List V) (es : Array DictEntry) : Prop := ks.length = es.size ∧ ∀ i (hk : i < ks.length) (hi : i < es.size), RelV ks[i] es[i].key
theorem turn_mix {P : Program} {w : World} {K : PySem.W.Frag} {tg : Expr} {d : Addr} {o : Obj} {es : Array DictEntry} {ep : Nat} {ks : List V} (it : Addr) (hv : KeysV ks es) : Turn P w K tg (ItM d o es ep ks) [it] it (fun i h => h.IsKeyIter it d i es.size ep) where
  mem := by simp
  obj := fun i h st b hb => by
    have e : b = it := by simpa using hb
    subst e
    obtain ⟨oi, e, c, dd⟩ := st
    exact ⟨oi, e, fun v z => by rw [dd] at z; cases z⟩
  keep := fun i h h' st k => st.at fun oi e => k it (by simp) oi e
  item := by
    intro X hP hw hK hc i pins s σ H E I hf st hg
    subst hP hw hK
    obtain ⟨hd, hi⟩ := hg
    obtain ⟨f0, f1, f2, f3, f4, f5⟩ := hf it (by simp)
    obtain ⟨hm, _⟩ := mix_of I (.inr ⟨_, hd⟩)
    refine wpAny_pyNext_keys_item_raw st hm hi fun h' st' sb => ?_
    have I1 : Inv X pins σ H { s with heap := h' } := I.turned (t' := s.toks) (fun b ob hb e => (sb.2 b hb).trans e) f0 f1 f3 f4 f5
    obtain ⟨oi, e, c, dd⟩ := id st'
    have hk : i < ks.length := by rw [hv.1]; exact hi
    exact ⟨_, rfl, go_of (s := { s with heap := h' }) e c dd (by decide) ⟨ks[i], H, I1, hv.2 i hk hi, ⟨rfl, List.getElem?_eq_getElem hk⟩, st', fun b hb => (hf b hb).1⟩⟩
  done := by
    intro X hP hw hK hc i pins s σ H E I hf st hg
    subst hP hw hK
    obtain ⟨hd, hi⟩ := hg
    obtain ⟨f0, f1, f2, f3, f4, f5⟩ := hf it (by simp)
    obtain ⟨⟨od, ho, hx, hdat⟩, _⟩ := mix_of I (.inr ⟨_, hd⟩)
    exact next_key_end (I.ok.hd hc) st ho hdat rfl hi fun h' eb => ⟨rfl, I.turned (t' := s.toks) (fun b ob hb e => eb b ob hb e) f0 f1 f3 f4 f5⟩
  self := fun A i s Q E st h => wpAny_pyIter_keyiter st h
/-- the dict is locked -/
def iKeysMix (td : TE) : TI := fun σ H R => td σ H fun x H1 => ∃ (d : Addr) (od : Obj) (es : Array DictEntry) (ep : Nat) (ks : List V), x = .ref d ∧ H1 d = some (.frz od (MixO d es ep)) ∧ KeysV ks es ∧ R (ItM d od es ep ks) H1
theorem pi_keysMix {tg e : Expr} {td : TE} (he : PE X e td) : PI X tg e (iKeysMix td) := by
  refine ⟨fun pins s σ H R I h => thn (he.run pins s σ H _ I h) fun u s1 ⟨x, H1, I1, rx, d, od, es, ep, ks, ex, hd, hv, q⟩ => ?_⟩
  subst ex
  obtain rfl : u = Value.ref d := rx
  obtain ⟨⟨o, ho, hx, hdat⟩, hs⟩ := mix_of I1 (.inr ⟨od, hd⟩)
  refine iter_keys hs ho hx hdat (pi_one (tk := s1.toks) I1 _ (turn_mix _ hv) ⟨_, Heap.get?_push_size _ rfl, rfl, rfl⟩ q)
theorem yields_mix {d : Addr} {o : Obj} {es : Array DictEntry} {ep : Nat} {ks : List V} (h : ks.length = es.size) : Yields (ItM d o es ep ks) ks (fun H => H d = some (.frz o (MixO d es ep))) where
  go := fun k H g hk => ⟨g, by rw [← h]; exact hk⟩
  stop := fun H g => ⟨g, by rw [h]; exact Nat.le_refl _⟩
  yld := fun k H x H' _ g y => y
end
end Fk

set_option maxHeartbeats 4000000
/-! The mixed dict: its texts read; != of a dict and what is none, or one of another length. -/
namespace Fk
open PySem PySem.Spec PyProof.Rows L2
section
variable {X : Cx}
def MGet (P : Program) (w : World) (H : Hp) (a : Addr) (y : V) (v : V) : Prop := ∃ (es : Array DictEntry) (ep : Nat) (t : Tab) (key r : V) (i : Nat) (hi : i < t.length), Rd H a (MixO a es ep) ∧ MixE P w t key r es ∧ OddK H key ∧ (t.map (·.1)).Nodup ∧ y = .str t[i].1 ∧ v = t[i].2
theorem mix_get {pins : List (Addr × Obj)} {σ : L2.St} {H : Hp} {s : Shared} {A : Around} {E : Value → Shared → Prop} {a : Addr} {y v : V} {u : Value} {Q : Value → Shared → Prop} (hu : A.units + 1 < cLine) (I : Inv X pins σ H s) (g : MGet X.prog X.w H a y v) (ry : RelV y u)
    (h : ∀ w' s', Inv X pins σ H s' → RelV v w' → Q w' s') : wpAny (model X.prog X.w) A (getItem (.ref a) u) Q E s := by
  obtain ⟨es, ep, t, key, r, i, hi, e, m, hk, nd, rfl, rfl⟩ := g
  obtain ⟨⟨o, ho, hc, hdat⟩, hs⟩ := mix_of I e
  have hT : s.TypeIs (.ref a) "dict" := ⟨o, ho, hc.1⟩
  obtain ⟨tk, rfl⟩ := str_not ry
  have hsz := m.sz
  unfold getItem
  try with_reducible refine wpAny_holding ?_
  refine wpAny_bind (wpAny_sequenceKey hT (by decide) ?_)
  refine wpAny_bind (wpAny_callSpecial?_slot (name := Str.ofString "__getitem__") hT PySem.F.slot_dict_getitem
    (wpAny_call_entry PySem.F.slot_dict_getitem hT PySem.F.entry_dict_getitem ?_ (PySem.F.args_dict_getitem_2 _ _)))
  show wpAny _ _ (dictGet a (.str t[i].1 tk) >>= _) _ _ s
  refine wpAny_bind ?_
  unfold dictGet
  try with_reducible refine wpAny_holding ?_
  have his : (mixKind X.prog X.w).is (.inr t[i].1) (.str t[i].1 tk) = true := kV_is (k := .inr t[i].1) ⟨tk, rfl⟩
  refine wpAny_bind ((mixKind X.prog X.w).pyHash his ?_)
  have quiet : ∀ (v : Value) (hv : carriedByValue v = true) (Q : Bool → Shared → Prop), Q true { s with toks := s.toks + 1 } → wpAny (model X.prog X.w) A.in1 (eqIsQuiet 8 v) Q E { s with toks := s.toks + 1 } := fun v hv Q q => by
    rw [eqIsQuiet_byValue 8 hv]
    exact wpAny_pure q
  have lastK : ∀ hj : t.length < es.size, (∀ x t', es[t.length].key ≠ .str x t') ∧ (∀ (Q : Bool → Shared → Prop), Q true { s with toks := s.toks + 1 } → wpAny (model X.prog X.w) A.in1 (eqIsQuiet 8 es[t.length].key) Q E { s with toks := s.toks + 1 }) ∧
      ∀ (Q : Bool → Shared → Prop), Q false { s with toks := s.toks + 1 } → wpAny (model X.prog X.w) A.in1 (eqBool es[t.length].key (.str t[i].1 tk)) Q E { s with toks := s.toks + 1 } := by
    intro hj
    have rk := (m.last hj).1
    rcases hk with rfl | ⟨b, ks, rfl, hb⟩
    · have e2 : es[t.length].key = .none := rk
      rw [e2]
      exact ⟨(fun x t' z => nomatch z), quiet _ rfl, fun Q q => SeqAt.EqAt.none_str (A := A.in1) (s := { s with toks := s.toks + 1 }) t[i].1 tk _ _ _ _ q⟩
    · have e2 : es[t.length].key = .ref b := rk
      rw [e2]
      obtain ⟨_, its, rv2, ht⟩ := (show ObjOk X.prog X.w H s.heap b (.tup (ks.map kV)) from I.hok b _ hb)
      refine ⟨(fun x t' z => nomatch z), fun Q q => (tupleKind (mixKind X.prog X.w)).quiet (s := { s with toks := s.toks + 1 }) (key_of I.hok hb) q, fun Q q => ?_⟩
      exact SeqAt.EqAt.tuple_str (A := A.in1) (s := { s with toks := s.toks + 1 }) t[i].1 tk ht (by show A.units + 1 < cLine; omega) _ _ _ _ q
  refine wpAny_bind (find_mix (e := fun j => decide (j = i)) (s := { s with toks := s.toks + 1 }) ho hdat (.inr (.inl ⟨⟨_, _, rfl⟩, ?_⟩)) (quiet _ rfl) ?_ ?_ ?_ (fun z => ?_) (fun j hj hh z => ?_))
  · rw [Bool.eq_false_iff]
    intro z
    have z2 := Array.all_eq_true.mp z t.length (by omega)
    cases e2 : es[t.length].key with
    | str x t' => exact (lastK (by omega)).1 x t' e2
    | _ => rw [e2] at z2; exact nomatch z2
  · intro j hj Q q
    by_cases lt : j < t.length
    · obtain ⟨tk2, e2⟩ := str_not (m.txt j lt hj).1
      rw [e2]
      exact quiet _ rfl Q q
    · have e3 : j = t.length := by omega
      subst e3
      exact (lastK hj).2.1 Q q
  · intro j hj Q hh q
    by_cases lt : j < t.length
    · obtain ⟨tk2, e2⟩ := str_not (m.txt j lt hj).1
      rw [e2]
      refine SeqAt.EqAt.str_str (A := A.in1) (s := { s with toks := s.toks + 1 }) t[j].1 tk2 t[i].1 tk _ _ _ _ ?_
      have e4 : (t[j].1 == t[i].1) = decide (j = i) := by
        rw [Bool.eq_iff_iff, beq_iff_eq, decide_eq_true_eq]
        constructor
        · intro z
          have l1 : j < (t.map (·.1)).length := by rw [List.length_map]; exact lt
          have l2 : i < (t.map (·.1)).length := by rw [List.length_map]; exact hi
          exact nodup_inj nd l1 l2 (by rw [List.getElem_map, List.getElem_map]; exact z)
        · intro z
          subst z
          rfl
      rw [e4]
      exact q
    · have e3 : j = t.length := by omega
      subst e3
      rw [show decide (t.length = i) = false from decide_eq_false (by omega)] at q
      exact (lastK hj).2.2 Q q
  · intro j k hj hk _ _ z1 z2
    exact (of_decide_eq_true z1).trans (of_decide_eq_true z2).symm
  · have := z i (by omega) (m.txt i hi (by omega)).2.2
    rw [decide_eq_true rfl] at this
    cases this
  · have e5 := of_decide_eq_true z
    subst e5
    refine wpAny_bind (wpAny_dictEntries (s := { s with toks := s.toks + 1 }) ho hdat (wpAny_pure ?_))
    rw [Array.getElem?_eq_getElem hj]
    exact wpAny_pure ⟨_, rfl, wpAny_pure (h _ _ (I.tok _) (m.txt j hi hj).2.1)⟩
def tDGetM (td ty : TE) : TE := fun σ H Q => td σ H fun x H1 => ty σ H1 fun y H2 => ∃ a v, x = .ref a ∧ MGet X.prog X.w H2 a y v ∧ Q v H2
theorem pe_dgetM {o i : Expr} {td ty : TE} {pos : Pos} (hu : X.A.units + 1 < cLine) (ho : PE X o td) (hi : PE X i ty) (hs : NoSl i) : PE X (.Subscript o i pos) (tDGetM (X := X) td ty) := by
  refine ⟨fun pins s σ H Q I h => ?_⟩
  refine subD_of PySem.F.slot_dict_getitem.lookup hs (thn (ho.run pins s σ H _ I h) fun u s1 ⟨x, H1, I1, rx, q1⟩ => thn (hi.run pins s1 σ H1 _ I1 q1) fun iv s2 ⟨y, H2, I2, ry, a, v, ex, g, q2⟩ => ?_)
  subst ex
  obtain rfl : u = Value.ref a := rx
  refine ⟨?_, mix_get hu I2 g ry fun w' s3 I3 rw' => ⟨v, H2, I3, rw', q2⟩⟩
  obtain ⟨es, ep, _, _, _, _, _, e, _⟩ := g
  obtain ⟨⟨od, ho2, hc2, _⟩, _⟩ := mix_of I2 e
  exact ⟨od, ho2, hc2.1⟩
end
end Fk

set_option maxHeartbeats 4000000
/-! x != d, d a dict: x no dict, a dict of another length, or both dicts of data. -/
namespace PySem.SeqAt
open AutoSeq1 (wpAny_loadPart')
open MeetsSeq MeetsSeq2 MeetsSeq3
def DictO (es : Array DictEntry) (ep : Nat) : Obj := { cls := .type "dict", dict := none, data := .dict es ep, slots := #[] }
theorem int_ne_dict_bool (b : Bool) (l : Addr) (es : Array DictEntry) (ep : Nat) :
    Meets (Builtin.«int.__ne__» ⟨[.bool b, .ref l], []⟩) (fun _ R s => s.heap.get? l = some { cls := .type "dict", dict := none, data := .dict es ep, slots := #[] } ∧ R (.ok (.ret .notImplemented)) s) :=
  .of_wp fun prog w A R s h => by obtain ⟨hp, g, d, tk, os⟩ := s; obtain ⟨hl, h⟩ := h; wp_walk using wpAny_loadPart' hl, wpAny_load hl; exact ⟨_, rfl, h⟩
theorem int_ne_dict_int (b : Int) (u : Tok) (l : Addr) (es : Array DictEntry) (ep : Nat) :
    Meets (Builtin.«int.__ne__» ⟨[.int b u, .ref l], []⟩) (fun _ R s => s.heap.get? l = some { cls := .type "dict", dict := none, data := .dict es ep, slots := #[] } ∧ R (.ok (.ret .notImplemented)) s) :=
  .of_wp fun prog w A R s h => by obtain ⟨hp, g, d, tk, os⟩ := s; obtain ⟨hl, h⟩ := h; wp_walk using wpAny_loadPart' hl, wpAny_load hl; exact ⟨_, rfl, h⟩
theorem str_ne_dict (b : Str) (u : Tok) (l : Addr) (es : Array DictEntry) (ep : Nat) :
    Meets (Builtin.«str.__ne__» ⟨[.str b u, .ref l], []⟩) (fun _ R s => s.heap.get? l = some { cls := .type "dict", dict := none, data := .dict es ep, slots := #[] } ∧ R (.ok (.ret .notImplemented)) s) :=
  .of_wp fun prog w A R s h => by obtain ⟨hp, g, d, tk, os⟩ := s; obtain ⟨hl, h⟩ := h; wp_walk using wpAny_loadPart' hl, wpAny_load hl; exact ⟨_, rfl, h⟩
theorem list_ne_dict (l b : Addr) (items : Array Value) (n : Nat) (dd : Option Addr) (sl : Array (Option Value)) (es : Array DictEntry) (ep : Nat) :
    Meets (Builtin.«list.__ne__» ⟨[.ref l, .ref b], []⟩) (fun _ R s => s.heap.get? l = some { cls := .type "list", dict := dd, data := .seq items n, slots := sl } ∧ s.heap.get? b = some { cls := .type "dict", dict := none, data := .dict es ep, slots := #[] } ∧ R (.ok (.ret .notImplemented)) s) :=
  .of_wp fun prog w A R s h => by obtain ⟨hp, g, d, tk, os⟩ := s; obtain ⟨hl, hb, h⟩ := h; have f1 := F.sub_dict_list; wp_walk using wpAny_loadPart' hl, wpAny_loadPart' hb; exact ⟨_, rfl, h⟩
theorem tuple_ne_dict (l b : Addr) (items : Array Value) (n : Nat) (dd : Option Addr) (sl : Array (Option Value)) (es : Array DictEntry) (ep : Nat) :
    Meets (Builtin.«tuple.__ne__» ⟨[.ref l, .ref b], []⟩) (fun _ R s => s.heap.get? l = some { cls := .type "tuple", dict := dd, data := .seq items n, slots := sl } ∧ s.heap.get? b = some { cls := .type "dict", dict := none, data := .dict es ep, slots := #[] } ∧ R (.ok (.ret .notImplemented)) s) :=
  .of_wp fun prog w A R s h => by obtain ⟨hp, g, d, tk, os⟩ := s; obtain ⟨hl, hb, h⟩ := h; have f1 := F.sub_dict_tuple; wp_walk using wpAny_loadPart' hl, wpAny_loadPart' hb; exact ⟨_, rfl, h⟩
theorem dict_ne_no {prog : Program} {w : World} (b : Addr) (x : Value) (T : String) (hs : isSubtype (.type T) (.type "dict") = pure false) :
    MeetsIn prog w (Builtin.«dict.__ne__» ⟨[.ref b, x], []⟩) (fun _ R s => s.TypeIs (.ref b) "dict" ∧ s.TypeIs x T ∧ R (.ok (.ret .notImplemented)) s) :=
  .of_wp fun A R s h => by
    obtain ⟨hb, hx, h⟩ := h
    show wpAny _ _ (Builtin.Dict.dictSlotArgs "__ne__" ⟨[.ref b, x], []⟩ >>= _) _ _ s
    refine wpAny_bind ?_
    unfold Builtin.Dict.dictSlotArgs
    refine wpAny_bind (wpAny_notOrdered_dict hb ?_)
    show wpAny _ _ (pure (Value.ref b, x)) _ _ s
    refine wpAny_pure ?_
    refine wpAny_bind (wpAny_isInstance (T := T) hx hs ?_)
    simp only [Bool.not_false, if_true]
    exact wpAny_bind (wpAny_rule (wpAny_bind (wpAny_pure (wpAny_pure ⟨_, rfl, h⟩))))
section
variable {prog : Program} {w : World} {A : Around} {s : Shared} {E : Value → Shared → Prop} {Q : Value → Shared → Prop} {b : Addr} {es : Array DictEntry} {ep : Nat}
theorem ne_none_dict (hb : s.heap.get? b = some { cls := .type "dict", dict := none, data := .dict es ep, slots := #[] }) (hu : A.units < cLine) (h : Q (.bool true) s) : wpAny (model prog w) A (richCompare .NotEq .none (.ref b)) Q E s :=
  rc_ne_decline_or (k := false) (Ta := "NoneType") (Tb := "dict") rfl ⟨_, hb, rfl⟩ (by decide) F.sub_dict_NoneType F.slot_NoneType_ne F.slot_dict_ne_refl
    (fun _ hq => call_gives F.slot_NoneType_ne rfl F.entry_NoneType_ne (F.args_NoneType_ne_2 _ _) (NoneType___ne___none_ref_0 b) hq)
    (fun _ hq => call_meetsIn F.slot_dict_ne_refl ⟨_, hb, rfl⟩ F.entry_dict_ne (F.args_dict_ne_2 _ _) (dict_ne_no b .none "NoneType" F.sub_NoneType_dict) ⟨⟨_, hb, rfl⟩, rfl, hq⟩)
    (fun _ hq => wpAny_of_eq (rfl : isSame .none (.ref b) = pure false) hq) (.inr hu) h
theorem ne_bool_dict {x : Bool} (hb : s.heap.get? b = some { cls := .type "dict", dict := none, data := .dict es ep, slots := #[] }) (hu : A.units < cLine) (h : Q (.bool true) s) : wpAny (model prog w) A (richCompare .NotEq (.bool x) (.ref b)) Q E s :=
  rc_ne_decline_or (k := false) (Ta := "bool") (Tb := "dict") rfl ⟨_, hb, rfl⟩ (by decide) F.sub_dict_bool F.slot_bool_ne F.slot_dict_ne_refl
    (fun _ hq => call_meets F.slot_bool_ne rfl F.entry_int_ne (F.args_int_ne_2 _ _) (int_ne_dict_bool x b es ep) ⟨hb, hq⟩)
    (fun _ hq => call_meetsIn F.slot_dict_ne_refl ⟨_, hb, rfl⟩ F.entry_dict_ne (F.args_dict_ne_2 _ _) (dict_ne_no b (.bool x) "bool" F.sub_bool_dict) ⟨⟨_, hb, rfl⟩, rfl, hq⟩)
    (fun _ hq => wpAny_of_eq (rfl : isSame (.bool x) (.ref b) = pure false) hq) (.inr hu) h
theorem ne_int_dict {x : Int} {t : Tok} (hb : s.heap.get? b = some { cls := .type "dict", dict := none, data := .dict es ep, slots := #[] }) (hu : A.units < cLine) (h : Q (.bool true) s) : wpAny (model prog w) A (richCompare .NotEq (.int x t) (.ref b)) Q E s :=
  rc_ne_decline_or (k := false) (Tb := "dict") (typeIs_int s x t) ⟨_, hb, rfl⟩ (by decide) F.sub_dict_int F.slot_int_ne F.slot_dict_ne_refl
    (fun _ hq => call_meets F.slot_int_ne (typeIs_int s x t) F.entry_int_ne (F.args_int_ne_2 _ _) (int_ne_dict_int x t b es ep) ⟨hb, hq⟩)
    (fun _ hq => call_meetsIn F.slot_dict_ne_refl ⟨_, hb, rfl⟩ F.entry_dict_ne (F.args_dict_ne_2 _ _) (dict_ne_no b (.int x t) "int" F.sub_int_dict) ⟨⟨_, hb, rfl⟩, typeIs_int s x t, hq⟩)
    (fun _ hq => wpAny_of_eq (rfl : isSame (.int x t) (.ref b) = pure false) hq) (.inr hu) h
theorem ne_str_dict {x : Str} {t : Tok} (hb : s.heap.get? b = some { cls := .type "dict", dict := none, data := .dict es ep, slots := #[] }) (hu : A.units < cLine) (h : Q (.bool true) s) : wpAny (model prog w) A (richCompare .NotEq (.str x t) (.ref b)) Q E s :=
  rc_ne_decline_or (k := false) (Tb := "dict") (typeIs_str s x t) ⟨_, hb, rfl⟩ (by decide) F.sub_dict_str F.slot_str_ne F.slot_dict_ne_refl
    (fun _ hq => call_meets F.slot_str_ne (typeIs_str s x t) F.entry_str_ne (F.args_str_ne_2 _ _) (str_ne_dict x t b es ep) ⟨hb, hq⟩)
    (fun _ hq => call_meetsIn F.slot_dict_ne_refl ⟨_, hb, rfl⟩ F.entry_dict_ne (F.args_dict_ne_2 _ _) (dict_ne_no b (.str x t) "str" F.sub_str_dict) ⟨⟨_, hb, rfl⟩, typeIs_str s x t, hq⟩)
    (fun _ hq => wpAny_of_eq (rfl : isSame (.str x t) (.ref b) = pure false) hq) (.inr hu) h
theorem ne_list_dict {l : Addr} {items : Array Value} (hl : s.heap.IsList l items) (hb : s.heap.get? b = some { cls := .type "dict", dict := none, data := .dict es ep, slots := #[] }) (hu : A.units < cLine) (h : Q (.bool true) s) : wpAny (model prog w) A (richCompare .NotEq (.ref l) (.ref b)) Q E s := by
  obtain ⟨⟨cls, dd, data, sl⟩, ho, hc, n, hd⟩ := id hl
  simp only at hc hd
  subst hc hd
  have hne : l ≠ b := fun z => by
    subst z
    rw [ho] at hb
    have z := Value.type.inj (congrArg Obj.cls (Option.some.inj hb))
    exact absurd z (by decide)
  exact rc_ne_decline_or (k := false) (Ta := "list") (Tb := "dict") ⟨_, ho, rfl⟩ ⟨_, hb, rfl⟩ (by decide) F.sub_dict_list F.slot_list_ne F.slot_dict_ne_refl
    (fun _ hq => call_meets F.slot_list_ne ⟨_, ho, rfl⟩ F.entry_list_ne (F.args_list_ne_2 _ _) (list_ne_dict l b items n dd sl es ep) ⟨ho, hb, hq⟩)
    (fun _ hq => call_meetsIn F.slot_dict_ne_refl ⟨_, hb, rfl⟩ F.entry_dict_ne (F.args_dict_ne_2 _ _) (dict_ne_no b (.ref l) "list" F.sub_list_dict) ⟨⟨_, hb, rfl⟩, ⟨_, ho, rfl⟩, hq⟩)
    (fun _ hq => wpAny_isSame_ref_other hne ho hb (by simp) hq) (.inr hu) h
theorem ne_tuple_dict {l : Addr} {items : Array Value} (hl : s.heap.IsTuple l items) (hb : s.heap.get? b = some { cls := .type "dict", dict := none, data := .dict es ep, slots := #[] }) (hu : A.units < cLine) (h : Q (.bool true) s) : wpAny (model prog w) A (richCompare .NotEq (.ref l) (.ref b)) Q E s := by
  obtain ⟨⟨cls, dd, data, sl⟩, ho, hc, n, hd⟩ := id hl
  simp only at hc hd
  subst hc hd
  have hne : l ≠ b := fun z => by
    subst z
    rw [ho] at hb
    have z := Value.type.inj (congrArg Obj.cls (Option.some.inj hb))
    exact absurd z (by decide)
  exact rc_ne_decline_or (k := false) (Ta := "tuple") (Tb := "dict") ⟨_, ho, rfl⟩ ⟨_, hb, rfl⟩ (by decide) F.sub_dict_tuple F.slot_tuple_ne F.slot_dict_ne_refl
    (fun _ hq => call_meets F.slot_tuple_ne ⟨_, ho, rfl⟩ F.entry_tuple_ne (F.args_tuple_ne_2 _ _) (tuple_ne_dict l b items n dd sl es ep) ⟨ho, hb, hq⟩)
    (fun _ hq => call_meetsIn F.slot_dict_ne_refl ⟨_, hb, rfl⟩ F.entry_dict_ne (F.args_dict_ne_2 _ _) (dict_ne_no b (.ref l) "tuple" F.sub_tuple_dict) ⟨⟨_, hb, rfl⟩, ⟨_, ho, rfl⟩, hq⟩)
    (fun _ hq => wpAny_isSame_ref_other' hne ho hb (by simp) hq) (.inr hu) h
/-- two dicts of different lengths -/
theorem ne_dict_sizes {a : Addr} {fs : Array DictEntry} {eq : Nat} (ha : (a == sysModules) = false) (hb : (b == sysModules) = false) (da : s.heap.DictRaw a fs eq) (db : s.heap.DictRaw b es ep) (hn : fs.size ≠ es.size) (hu : A.units < cLine) (h : Q (.bool true) s) :
    wpAny (model prog w) A (richCompare .NotEq (.ref a) (.ref b)) Q E s := by
  obtain ⟨oa, hoa, _, hda⟩ := id da
  obtain ⟨ob, hob, _, hdb⟩ := id db
  refine wpAny_richCompare_same_room (op := .NotEq) da.typeIs db.typeIs PySem.F.slot_dict_ne (wpAny_call_entry PySem.F.slot_dict_ne da.typeIs PySem.F.entry_dict_ne ?_ (PySem.F.args_dict_ne_2 _ _)) hu
  show wpAny _ _ (Builtin.Dict.dictSlotArgs "__ne__" ⟨[.ref a, .ref b], []⟩ >>= _) _ _ s
  refine wpAny_bind ?_
  unfold Builtin.Dict.dictSlotArgs
  refine wpAny_bind (wpAny_notOrdered_dict da.typeIs ?_)
  show wpAny _ _ (pure (Value.ref a, Value.ref b)) _ _ s
  refine wpAny_pure ?_
  refine wpAny_bind (wpAny_isInstance (T := "dict") db.typeIs PySem.F.sub_dict_dict ?_)
  simp only [Bool.not_true, Bool.false_eq_true, if_false]
  refine wpAny_bind (wpAny_pure (wpAny_bind (wpAny_pure ?_)))
  refine wpAny_bind ?_
  unfold Builtin.Dict.samePairs
  unfold Builtin.Dict.showsAll
  rw [if_neg (by rw [ha]; exact Bool.false_ne_true), if_neg (by rw [hb]; exact Bool.false_ne_true)]
  refine wpAny_bind (wpAny_pure (wpAny_bind (wpAny_pure ?_)))
  refine wpAny_bind (wpAny_dictEntries hoa hda (wpAny_bind (wpAny_dictEntries hob hdb ?_)))
  rw [if_pos (by simp [hn])]
  refine wpAny_bind (wpAny_rule (wpAny_pure ?_))
  exact wpAny_pure ⟨_, rfl, (fun x => nomatch x), by simpa using h⟩
end
end PySem.SeqAt
namespace Fk
open PySem PySem.Spec PyProof.Rows L2
def NotD (H : Hp) (x : V) : Prop := x = .non ∨ (∃ b, x = .bl b) ∨ (∃ i, x = .int i) ∨ (∃ y, x = .str y) ∨ (∃ a xs, x = .ref a ∧ H a = some (.lst xs)) ∨ ∃ a xs, x = .ref a ∧ H a = some (.tup xs)
def rNeAny (K : PySem.W.Frag) : R2 := fun x y H Q => (∃ b ls, y = .ref b ∧ H b = some (.dK ls) ∧ ((NotD H x ∧ Q (.bl true) H) ∨ (∃ a ks, x = .ref a ∧ H a = some (.dK ks) ∧ ks.length ≠ ls.length ∧ Q (.bl true) H) ∨ ∃ a es ep, x = .ref a ∧ H a = some (MixO a es ep) ∧ es.size ≠ ls.length ∧ Q (.bl true) H)) ∨ rNeDD K x y H Q
theorem op_neAny {X : Cx} {K : PySem.W.Frag} (eK : X.K = K) (hu : X.A.units + 66 < cLine) : OpR X (compareOp .NotEq) (rNeAny K) := by
  subst eK
  intro pins s σ H x y v u Q I rx ry h
  rcases h with ⟨b, ls, rfl, hb, h⟩ | h
  · obtain rfl : u = Value.ref b := ry
    obtain ⟨_, yb, vb, rb, ddb⟩ := (show ObjOk X.prog X.w H s.heap b (.dK ls) from I.hok b _ hb)
    have lb : ls.length = vb.length := Paired.length rb
    obtain ⟨es2, ep2, raw, hs2, _⟩ := ddb.raw
    obtain ⟨ob, hob, ⟨c1, c2, c3⟩, hdb⟩ := id raw
    obtain ⟨cls, dd, data, sl⟩ := ob
    simp only at c1 c2 c3 hdb
    subst c1 c2 c3 hdb
    rcases h with ⟨nd, q⟩ | ⟨a, ks, rfl, ha, hn, q⟩ | ⟨a, es, ep, rfl, ha, hn, q⟩
    · have fin : (fun v s' => ∃ x H', Inv X pins σ H' s' ∧ RelV x v ∧ Q x H') (.bool true) s := ⟨.bl true, H, I, rfl, q⟩
      rcases nd with rfl | ⟨c, rfl⟩ | ⟨i, rfl⟩ | ⟨z, rfl⟩ | ⟨a, xs, rfl, ha⟩ | ⟨a, xs, rfl, ha⟩
      · obtain rfl : v = .none := rx
        exact SeqAt.ne_none_dict hob (by omega) fin
      · obtain rfl : v = .bool c := rx
        exact SeqAt.ne_bool_dict hob (by omega) fin
      · obtain ⟨t, rfl⟩ := (show ∃ t, v = .int i t from rx)
        exact SeqAt.ne_int_dict hob (by omega) fin
      · obtain ⟨t, rfl⟩ := (show ∃ t, v = .str z t from rx)
        exact SeqAt.ne_str_dict hob (by omega) fin
      · obtain rfl : v = .ref a := rx
        obtain ⟨_, its, n, _, h1⟩ := (show ObjOk X.prog X.w H s.heap a (.lst xs) from I.hok a _ ha)
        exact SeqAt.ne_list_dict ⟨_, h1, rfl, _, rfl⟩ hob (by omega) fin
      · obtain rfl : v = .ref a := rx
        obtain ⟨_, its, _, h1⟩ := (show ObjOk X.prog X.w H s.heap a (.tup xs) from I.hok a _ ha)
        exact SeqAt.ne_tuple_dict h1 hob (by omega) fin
    · obtain rfl : v = .ref a := rx
      obtain ⟨_, ya, va, ra, dda⟩ := (show ObjOk X.prog X.w H s.heap a (.dK ks) from I.hok a _ ha)
      have la : ks.length = va.length := Paired.length ra
      obtain ⟨es1, ep1, raw1, hs1, _⟩ := dda.raw
      exact SeqAt.ne_dict_sizes ya yb raw1 raw (by omega) (by omega) ⟨.bl true, H, I, rfl, q⟩
    · obtain rfl : v = .ref a := rx
      obtain ⟨raw1, ya⟩ := mix_of I (.inl ha)
      exact SeqAt.ne_dict_sizes ya yb raw1 raw (by omega) (by omega) ⟨.bl true, H, I, rfl, q⟩
  · exact op_neDD hu pins s σ H x y v u Q I rx ry h
end Fk

set_option maxHeartbeats 4000000
namespace Fk
open PySem PySem.Spec PyProof.Rows L2
def top (i : Nat) : Stmt := PySem.Challenge.pw_forkhaul_k03_objects_made.main.body.getD i (.Pass ⟨0, 0, 0, 0⟩)
abbrev s_ForkError_init : Stmt := inClass (top 1) 0
theorem sc_ForkError_init : FnScope ["self", "why"] ["self", "why"] (C8.fnScope s_ForkError_init) := C8.fnScope_by (by decide +kernel)

abbrev s_is_id : Stmt := top 11
theorem sc_is_id : FnScope ["thing"] ["thing"] (C8.fnScope s_is_id) := C8.fnScope_by (by decide +kernel)

abbrev s_is_segment : Stmt := top 12
theorem sc_is_segment : FnScope ["thing"] ["thing"] (C8.fnScope s_is_segment) := C8.fnScope_by (by decide +kernel)

abbrev s_is_author : Stmt := top 13
theorem sc_is_author : FnScope ["thing"] ["thing"] (C8.fnScope s_is_author) := C8.fnScope_by (by decide +kernel)

abbrev s_is_text : Stmt := top 14
theorem sc_is_text : FnScope ["thing"] ["thing"] (C8.fnScope s_is_text) := C8.fnScope_by (by decide +kernel)

abbrev s_is_message : Stmt := top 15
theorem sc_is_message : FnScope ["thing"] ["thing"] (C8.fnScope s_is_message) := C8.fnScope_by (by decide +kernel)

abbrev s_is_time : Stmt := top 16
theorem sc_is_time : FnScope ["thing"] ["thing"] (C8.fnScope s_is_time) := C8.fnScope_by (by decide +kernel)

abbrev s_is_count : Stmt := top 17
theorem sc_is_count : FnScope ["thing"] ["thing"] (C8.fnScope s_is_count) := C8.fnScope_by (by decide +kernel)

abbrev s_are_ids : Stmt := top 18
theorem sc_are_ids : FnScope ["thing", "name"] ["thing"] (C8.fnScope s_are_ids) := C8.fnScope_by (by decide +kernel)

abbrev s_ascending : Stmt := top 19
theorem sc_ascending : FnScope ["names", "name"] ["names"] (C8.fnScope s_ascending) := C8.fnScope_by (by decide +kernel)

abbrev s__is_word : Stmt := top 20
theorem sc__is_word : FnScope ["thing", "signs"] ["thing", "signs"] (C8.fnScope s__is_word) := C8.fnScope_by (by decide +kernel)

abbrev s_is_value : Stmt := top 25
theorem sc_is_value : FnScope ["thing", "kinds", "kind", "name"] ["thing", "kinds"] (C8.fnScope s_is_value) := C8.fnScope_by (by decide +kernel)

abbrev s_Blob_init : Stmt := inClass (top 26) 0
theorem sc_Blob_init : FnScope ["self", "text"] ["self", "text"] (C8.fnScope s_Blob_init) := C8.fnScope_by (by decide +kernel)

abbrev s_Blob_eq : Stmt := inClass (top 26) 1
theorem sc_Blob_eq : FnScope ["self", "other"] ["self", "other"] (C8.fnScope s_Blob_eq) := C8.fnScope_by (by decide +kernel)

abbrev s_Blob_text : Stmt := inClass (top 26) 2
theorem sc_Blob_text : FnScope ["self"] ["self"] (C8.fnScope s_Blob_text) := C8.fnScope_by (by decide +kernel)

abbrev s_Tree_init : Stmt := inClass (top 27) 0
theorem sc_Tree_init : FnScope ["self", "entries", "segment"] ["self", "entries"] (C8.fnScope s_Tree_init) := C8.fnScope_by (by decide +kernel)

abbrev s_Tree_eq : Stmt := inClass (top 27) 1
theorem sc_Tree_eq : FnScope ["self", "other"] ["self", "other"] (C8.fnScope s_Tree_eq) := C8.fnScope_by (by decide +kernel)

abbrev s_Tree_entries : Stmt := inClass (top 27) 2
theorem sc_Tree_entries : FnScope ["self"] ["self"] (C8.fnScope s_Tree_entries) := C8.fnScope_by (by decide +kernel)

abbrev s_Commit_init : Stmt := inClass (top 28) 0
theorem sc_Commit_init : FnScope ["self", "tree", "parents", "author", "time", "message"] ["self", "tree", "parents", "author", "time", "message"] (C8.fnScope s_Commit_init) := C8.fnScope_by (by decide +kernel)

abbrev s_Commit_eq : Stmt := inClass (top 28) 1
theorem sc_Commit_eq : FnScope ["self", "other"] ["self", "other"] (C8.fnScope s_Commit_eq) := C8.fnScope_by (by decide +kernel)

abbrev s_Commit_tree : Stmt := inClass (top 28) 2
theorem sc_Commit_tree : FnScope ["self"] ["self"] (C8.fnScope s_Commit_tree) := C8.fnScope_by (by decide +kernel)

abbrev s_Commit_parents : Stmt := inClass (top 28) 3
theorem sc_Commit_parents : FnScope ["self"] ["self"] (C8.fnScope s_Commit_parents) := C8.fnScope_by (by decide +kernel)

abbrev s_Commit_author : Stmt := inClass (top 28) 4
theorem sc_Commit_author : FnScope ["self"] ["self"] (C8.fnScope s_Commit_author) := C8.fnScope_by (by decide +kernel)

abbrev s_Commit_time : Stmt := inClass (top 28) 5
theorem sc_Commit_time : FnScope ["self"] ["self"] (C8.fnScope s_Commit_time) := C8.fnScope_by (by decide +kernel)

abbrev s_Commit_message : Stmt := inClass (top 28) 6
theorem sc_Commit_message : FnScope ["self"] ["self"] (C8.fnScope s_Commit_message) := C8.fnScope_by (by decide +kernel)

abbrev s_Tag_init : Stmt := inClass (top 29) 0
theorem sc_Tag_init : FnScope ["self", "target", "label", "message"] ["self", "target", "label", "message"] (C8.fnScope s_Tag_init) := C8.fnScope_by (by decide +kernel)

abbrev s_Tag_eq : Stmt := inClass (top 29) 1
theorem sc_Tag_eq : FnScope ["self", "other"] ["self", "other"] (C8.fnScope s_Tag_eq) := C8.fnScope_by (by decide +kernel)

abbrev s_Tag_target : Stmt := inClass (top 29) 2
theorem sc_Tag_target : FnScope ["self"] ["self"] (C8.fnScope s_Tag_target) := C8.fnScope_by (by decide +kernel)

abbrev s_Tag_label : Stmt := inClass (top 29) 3
theorem sc_Tag_label : FnScope ["self"] ["self"] (C8.fnScope s_Tag_label) := C8.fnScope_by (by decide +kernel)

abbrev s_Tag_message : Stmt := inClass (top 29) 4
theorem sc_Tag_message : FnScope ["self"] ["self"] (C8.fnScope s_Tag_message) := C8.fnScope_by (by decide +kernel)

abbrev s_l_cell_at : Stmt := top 31
theorem sc_l_cell_at : FnScope ["_law_script", "_law_k"] ["_law_script", "_law_k"] (C8.fnScope s_l_cell_at) := C8.fnScope_by (by decide +kernel)

abbrev s_l_well : Stmt := top 32
theorem sc_l_well : FnScope ["_law_cell"] ["_law_cell"] (C8.fnScope s_l_well) := C8.fnScope_by (by decide +kernel)

abbrev s_l_draw : Stmt := top 33
theorem sc_l_draw : FnScope ["_law_well_here", "_law_size", "_law_found", "_law_seed", "_law_mixed"] ["_law_well_here", "_law_size"] (C8.fnScope s_l_draw) := C8.fnScope_by (by decide +kernel)

abbrev s_l_pick : Stmt := top 34
theorem sc_l_pick : FnScope ["_law_well_here", "_law_some"] ["_law_well_here", "_law_some"] (C8.fnScope s_l_pick) := C8.fnScope_by (by decide +kernel)

abbrev s_l_signs : Stmt := top 35
theorem sc_l_signs : FnScope ["_law_well_here", "_law_signs_here", "_law_least", "_law_most", "_law_k"] ["_law_well_here", "_law_signs_here", "_law_least", "_law_most"] (C8.fnScope s_l_signs) := C8.fnScope_by (by decide +kernel)

abbrev s_l_all_signs : Stmt := top 36
theorem sc_l_all_signs : FnScope ["_law_found"] [] (C8.fnScope s_l_all_signs) := C8.fnScope_by (by decide +kernel)

abbrev s_l_segment : Stmt := top 37
theorem sc_l_segment : FnScope ["_law_well_here", "_law_letters", "_law_text_here", "_law_spot"] ["_law_well_here"] (C8.fnScope s_l_segment) := C8.fnScope_by (by decide +kernel)

abbrev s_l_path : Stmt := top 38
theorem sc_l_path : FnScope ["_law_well_here", "_law_k"] ["_law_well_here"] (C8.fnScope s_l_path) := C8.fnScope_by (by decide +kernel)

abbrev s_l_text : Stmt := top 39
theorem sc_l_text : FnScope ["_law_well_here", "_law_size", "_law_text_here"] ["_law_well_here"] (C8.fnScope s_l_text) := C8.fnScope_by (by decide +kernel)

abbrev s_l_id : Stmt := top 40
theorem sc_l_id : FnScope ["_law_well_here"] ["_law_well_here"] (C8.fnScope s_l_id) := C8.fnScope_by (by decide +kernel)

abbrev s_l_odd : Stmt := top 41
theorem sc_l_odd : FnScope ["_law_well_here"] ["_law_well_here"] (C8.fnScope s_l_odd) := C8.fnScope_by (by decide +kernel)

abbrev s_l_refused : Stmt := top 42
theorem sc_l_refused : FnScope ["_law_ask", "e"] ["_law_ask"] (C8.fnScope s_l_refused) := C8.fnScope_by (by decide +kernel)

abbrev s_l_entries : Stmt := top 43
theorem sc_l_entries : FnScope ["_law_well_here", "_law_found", "_law_k"] ["_law_well_here"] (C8.fnScope s_l_entries) := C8.fnScope_by (by decide +kernel)

abbrev s_l_parents : Stmt := top 44
theorem sc_l_parents : FnScope ["_law_well_here", "_law_found", "_law_k", "_law_name"] ["_law_well_here"] (C8.fnScope s_l_parents) := C8.fnScope_by (by decide +kernel)

abbrev s_l_tree_right : Stmt := top 45
theorem sc_l_tree_right : FnScope ["_law_well_here", "_law_entries_here", "_law_kept", "_law_tree", "_law_wanted", "_law_name", "_law_told", "_law_again", "_law_turned", "_law_other", "_law_bad", "_law_odd_here", "_law_long", "_law_k", "_law_thing"] ["_law_well_here"] (C8.fnScope s_l_tree_right) := C8.fnScope_by (by decide +kernel)

abbrev s_l_commit_right : Stmt := top 46
theorem sc_l_commit_right : FnScope ["_law_well_here", "_law_tree", "_law_parents_here", "_law_hand", "_law_moment", "_law_text_here", "_law_made", "_law_plain", "_law_other", "_law_asks", "_law_bad_time", "_law_bad_text", "_law_k", "_law_ask"] ["_law_well_here"] (C8.fnScope s_l_commit_right) := C8.fnScope_by (by decide +kernel)

abbrev s_law : Stmt := top 47
theorem sc_law : FnScope ["_law_script", "_law_cell", "_law_well_here", "_law_text_here", "_law_target", "_law_tab", "_law_blob", "_law_tag", "_law_asks", "_law_ask"] ["_law_script"] (C8.fnScope s_law) := C8.fnScope_by (by decide +kernel)

structure Top (K : PySem.W.Frag) (mg : Str → Option Value) : Prop where
  d_is_id : IsDef K mg "is_id" s_is_id
  d_is_segment : IsDef K mg "is_segment" s_is_segment
  d_is_author : IsDef K mg "is_author" s_is_author
  d_is_text : IsDef K mg "is_text" s_is_text
  d_is_message : IsDef K mg "is_message" s_is_message
  d_is_time : IsDef K mg "is_time" s_is_time
  d_is_count : IsDef K mg "is_count" s_is_count
  d_are_ids : IsDef K mg "are_ids" s_are_ids
  d_ascending : IsDef K mg "ascending" s_ascending
  d__is_word : IsDef K mg "_is_word" s__is_word
  d_is_value : IsDef K mg "is_value" s_is_value
  d_l_cell_at : IsDef K mg "_law_cell_at" s_l_cell_at
  d_l_well : IsDef K mg "_law_well" s_l_well
  d_l_draw : IsDef K mg "_law_draw" s_l_draw
  d_l_pick : IsDef K mg "_law_pick" s_l_pick
  d_l_signs : IsDef K mg "_law_signs" s_l_signs
  d_l_all_signs : IsDef K mg "_law_all_signs" s_l_all_signs
  d_l_segment : IsDef K mg "_law_segment" s_l_segment
  d_l_text : IsDef K mg "_law_text" s_l_text
  d_l_id : IsDef K mg "_law_id" s_l_id
  d_l_odd : IsDef K mg "_law_odd" s_l_odd
  d_l_refused : IsDef K mg "_law_refused" s_l_refused
  d_l_entries : IsDef K mg "_law_entries" s_l_entries
  d_l_parents : IsDef K mg "_law_parents" s_l_parents
  d_l_tree_right : IsDef K mg "_law_tree_right" s_l_tree_right
  d_l_commit_right : IsDef K mg "_law_commit_right" s_l_commit_right
  d_law : IsDef K mg "law" s_law
  z_ValueError : mg "ValueError" = none
  z_all : mg "all" = none
  z_bool : mg "bool" = none
  z_dict : mg "dict" = none
  z_int : mg "int" = none
  z_isinstance : mg "isinstance" = none
  z_len : mg "len" = none
  z_list : mg "list" = none
  z_min : mg "min" = none
  z_range : mg "range" = none
  z_set : mg "set" = none
  z_sorted : mg "sorted" = none
  z_str : mg "str" = none
  z_tuple : mg "tuple" = none
  g_HEX_DIGITS : ∃ u, mg "HEX_DIGITS" = some u ∧ RelV (V.str (Str.ofString "0123456789abcdef")) u
  g_LETTERS : ∃ u, mg "LETTERS" = some u ∧ RelV (V.str (Str.ofString "abcdefghijklmnopqrstuvwxyz")) u
  g_SEGMENT_SIGNS : ∃ u, mg "SEGMENT_SIGNS" = some u ∧ RelV (V.str (Str.ofString "abcdefghijklmnopqrstuvwxyz0123456789._-")) u
  g_LONGEST_WORD : ∃ u, mg "LONGEST_WORD" = some u ∧ RelV (V.int 12) u
  g_LONGEST_TEXT : ∃ u, mg "LONGEST_TEXT" = some u ∧ RelV (V.int 2000) u
  g_LONGEST_MESSAGE : ∃ u, mg "LONGEST_MESSAGE" = some u ∧ RelV (V.int 200) u
  g_LATEST : ∃ u, mg "LATEST" = some u ∧ RelV (V.int 1000000000000) u
  g_MOST_ENTRIES : ∃ u, mg "MOST_ENTRIES" = some u ∧ RelV (V.int 30) u
  g_MOST_PARENTS : ∃ u, mg "MOST_PARENTS" = some u ∧ RelV (V.int 6) u
section
variable {P : Program} {w : World} {K : PySem.W.Frag} {mg : Str → Option Value} {base : Heap}
def spIsWord : Sp := fun vs H Q _ => ∃ (v : V) (y : Str), vs = [v, .str y] ∧ Thing H v ∧ ∀ H', Same H H' → Q (.bl (evalV (isWordF y) v)) H'
theorem c__is_word (T : Top K mg) : C8.Cal P w K mg base 2 "_is_word" spIsWord [] := by
  refine cal_of T.d__is_word sc__is_word (fun _ _ _ _ _ _ us hl => match us, hl with | [_, _], _ => rfl) (fun vs H Q E h => ?_) (fun f cdv A outer s H vs Q E hr h => ?_)
  · obtain ⟨x, y, rfl, _⟩ := h
    rfl
  · obtain ⟨v, y, rfl, t, q⟩ := h
    refine ⟨_, (pss_one (ps_ret (pe_and (pe_callB call_isi (by rfl) T.z_isinstance (by decide +kernel) (pa_cons (pv 0) (pa_cons (pe_bltn (v := .ty "str") (by rfl) T.z_str (by decide +kernel) rfl) pa_nil))) (pe_and (pe_chain op_le op_le pe_int (pe_callB call_len_str (by rfl) T.z_len (by decide +kernel) (pa_cons (pv 0) pa_nil)) (C8.pe_gc (by rfl) T.g_LONGEST_WORD)) (pe_one (pe_cmpR op_eq (pe_bm PySem.F.plainAttrs_str PySem.F.slot_str_strip PySem.F.type_str_strip mt_stripChars (pv 0) (pa_cons (pv 1) pa_nil)) pe_str (nomark _))))))), ?_⟩
    refine ⟨v, rfl, ?_⟩
    dsimp only [tCons, tC, tNil]
    refine t.isi ?_
    refine ⟨_, rfl, ?_⟩
    rcases t.cases with ⟨x, rfl, hx, ho⟩ | hn
    · refine iteT ⟨.str x, rfl, x, rfl, small_line (by omega), _, _, rfl, rfl, _, rfl, ite2 (fun h1 => ?_) (fun h1 => ?_)⟩
      · have h1 := of_decide_eq_true h1
        refine ⟨_, _, rfl, rfl, _, rfl, ite2 (fun h2 => ?_) (fun h2 => ?_)⟩
        · have h2 := of_decide_eq_true h2
          refine ⟨.str x, rfl, rfl, .str y, rfl, x, y, rfl, rfl, small_line (by omega), rfl, of_ev (q _ (Same.refl _)) (Eq.trans ?_ (strip_none x y).symm)⟩
          unfold isWordF
          rw [decide_eq_true (by omega), decide_eq_true (by omega)]
          rfl
        · have h2 : ¬ x.length ≤ 12 := fun z => h2 (decide_eq_true (by omega))
          refine of_ev (q _ (Same.refl _)) ?_
          unfold isWordF
          rw [decide_eq_false h2, Bool.false_and, Bool.and_false]
      · have h1 : ¬ 1 ≤ x.length := fun z => h1 (decide_eq_true (by omega))
        refine ⟨_, rfl, iteF (of_ev (q _ (Same.refl _)) ?_)⟩
        unfold isWordF
        rw [decide_eq_false h1, Bool.false_and]
    · rw [hn]
      exact iteF (of_ev0 hn (q _ (Same.refl _)))
theorem evalV_split {f : Str → Bool} : evalV f = fun v => match v with | .str x => f x | _ => false := rfl
theorem c_is_id (T : Top K mg) : C8.Cal P w K mg base 2 "is_id" (spWord isIdF) [] := by
  refine cal_of T.d_is_id sc_is_id (fun _ _ _ _ _ _ us hl => match us, hl with | [_], _ => rfl) (fun vs H Q E h => ?_) (fun f cdv A outer s H vs Q E hr h => ?_)
  · obtain ⟨x, rfl, _⟩ := h
    rfl
  · obtain ⟨v, rfl, t, q⟩ := h
    refine ⟨_, (pss_one (ps_ret (pe_and (pe_callB call_isi (by rfl) T.z_isinstance (by decide +kernel) (pa_cons (pv 0) (pa_cons (pe_bltn (v := .ty "str") (by rfl) T.z_str (by decide +kernel) rfl) pa_nil))) (pe_and (pe_cmpR op_eq (pe_callB call_len_str (by rfl) T.z_len (by decide +kernel) (pa_cons (pv 0) pa_nil)) pe_int (nomark _)) (pe_one (pe_cmpR op_eq (pe_bm PySem.F.plainAttrs_str PySem.F.slot_str_strip PySem.F.type_str_strip mt_stripChars (pv 0) (pa_cons (C8.pe_gc (by rfl) T.g_HEX_DIGITS) pa_nil)) pe_str (nomark _))))))), ?_⟩
    refine ⟨v, rfl, ?_⟩
    dsimp only [tCons, tC, tNil]
    refine t.isi ?_
    refine ⟨_, rfl, ?_⟩
    rcases t.cases with ⟨x, rfl, hx, ho⟩ | hn
    · refine iteT ⟨.str x, rfl, x, rfl, small_line (by omega), rfl, _, rfl, ite2 (fun h1 => ?_) (fun h1 => ?_)⟩
      · have h1 := V.int.inj (of_decide_eq_true h1)
        refine ⟨.str x, rfl, rfl, x, HEX, rfl, rfl, small_line (by omega), rfl, of_ev (q _ (Same.refl _)) (Eq.trans ?_ (strip_none x HEX).symm)⟩
        unfold isIdF
        rw [decide_eq_true (by omega)]
        rfl
      · have h1 : ¬ x.length = 16 := fun z => h1 (decide_eq_true (by rw [z]; rfl))
        refine of_ev (q _ (Same.refl _)) ?_
        unfold isIdF
        rw [decide_eq_false h1, Bool.false_and]
    · rw [hn]
      exact iteF (of_ev0 hn (q _ (Same.refl _)))
theorem c_is_text (T : Top K mg) : C8.Cal P w K mg base 1 "is_text" (spWord isTextF) [] := by
  refine cal_ofT T.d_is_text sc_is_text (by decide +kernel) (by decide) (fun _ _ _ _ _ _ us hl => match us, hl with | [_], _ => rfl) (fun vs H Q E h => ?_) (fun f cdv A outer s H vs Q E hr h => ?_)
  · obtain ⟨x, rfl, _⟩ := h
    rfl
  · obtain ⟨v, rfl, t, q⟩ := h
    refine ⟨_, (psst_cons (PST.of (ps_if (PW.pt (pw_or (pt_not (pt_val (pe_callB call_isi (by rfl) T.z_isinstance (by decide +kernel) (pa_cons (pv 0) (pa_cons (pe_bltn (v := .ty "str") (by rfl) T.z_str (by decide +kernel) rfl) pa_nil))))) (pw_or1 (pt_cmpR op_gt (pe_callB call_len_str (by rfl) T.z_len (by decide +kernel) (pa_cons (pv 0) pa_nil)) (C8.pe_gc (by rfl) T.g_LONGEST_TEXT) (nomark _)))))
      (pss_one (ps_ret pe_bl))
      pss_nil))
      (CwR.psst_one (CwR.pst_ret (pet_and (pe_bm0 PySem.F.plainAttrs_str PySem.F.slot_str_isascii PySem.F.type_str_isascii mt_isascii (pv 0)) (pet_one (pet_bm0 PySem.F.plainAttrs_str PySem.F.slot_str_isprintable PySem.F.type_str_isprintable mt_isprintable (CwR.pet_replC (pv 0)))))))), ?_⟩
    refine ⟨v, rfl, ?_⟩
    dsimp only [tCons, tC, tNil]
    refine t.isi ?_
    refine ⟨_, rfl, ?_⟩
    rcases t.cases with ⟨x, rfl, hx, ho⟩ | hn
    · refine iteF ⟨.str x, rfl, x, rfl, small_line (by omega), _, _, rfl, rfl, _, rfl, ite2 (fun h1 => ?_) (fun h1 => ?_)⟩
      · have h1 := of_decide_eq_true h1
        refine of_ev (q _ (Same.refl _)) ?_
        unfold isTextF
        rw [decide_eq_false (by omega), Bool.false_and]
      · have h1 : x.length ≤ 2000 := by
          have : ¬ (2000 : Int) < (x.length : Nat) := fun z => h1 (decide_eq_true z)
          omega
        have key : isTextF x = plainT x := by
          unfold isTextF
          rw [decide_eq_true h1, plain_text]
          rfl
        refine ⟨.str x, rfl, rfl, x, rfl, rfl, trivial, _, rfl, ite2 (fun h2 => ?_) (fun h2 => ?_)⟩
        · refine ⟨.str x, rfl, x, rfl, by have : (Str.ofString "").length = 0 := by decide +kernel
                                          rw [this]; omega, rfl, _, rfl, rfl, trivial, of_ev (q _ (Same.refl _)) ?_⟩
          rw [key]
          unfold plainT
          rw [h2, Bool.true_and]
        · refine of_ev (q _ (Same.refl _)) ?_
          rw [key]
          unfold plainT
          rw [Bool.eq_false_iff.mpr h2, Bool.false_and]
    · rw [hn]
      exact iteT (of_ev0 hn (q _ (Same.refl _)))
def msgF (x : Str) : Bool := isTextF x && decide (x.length ≤ 200)
theorem c_is_message (T : Top K mg) : C8.Cal P w K mg base 2 "is_message" (spWord msgF) [] := by
  refine cal_of T.d_is_message sc_is_message (fun _ _ _ _ _ _ us hl => match us, hl with | [_], _ => rfl) (fun vs H Q E h => ?_) (fun f cdv A outer s H vs Q E hr h => ?_)
  · obtain ⟨x, rfl, _⟩ := h
    rfl
  · obtain ⟨v, rfl, t, q⟩ := h
    refine ⟨_, (pss_one (ps_ret (pe_and (C8.pe_c (c_is_text T) hr (by decide) (by rfl) (pa_cons (pv 0) pa_nil)) (pe_one (pe_cmpR op_le (pe_callB call_len_str (by rfl) T.z_len (by decide +kernel) (pa_cons (pv 0) pa_nil)) (C8.pe_gc (by rfl) T.g_LONGEST_MESSAGE) (nomark _)))))), ?_⟩
    refine ⟨v, rfl, v, rfl, t, fun H1 s1 => ⟨_, rfl, ?_⟩⟩
    rcases t.cases with ⟨x, rfl, hx, ho⟩ | hn
    · refine ite2 (fun h1 => ?_) (fun h1 => ?_)
      · refine ⟨.str x, rfl, x, rfl, small_line (by omega), _, _, rfl, rfl, of_ev (q _ s1) ?_⟩
        have h1 : isTextF x = true := h1
        unfold msgF
        rw [h1, Bool.true_and, Bool.eq_iff_iff, decide_eq_true_eq, decide_eq_true_eq]
        omega
      · have h1 : isTextF x = false := Bool.eq_false_iff.mpr h1
        refine of_ev (q _ s1) ?_
        unfold msgF
        rw [h1, Bool.false_and]
    · rw [hn]
      exact iteF (of_ev0 hn (q _ s1))
theorem isi_int {n : Int} {C : String} {b : Bool} {Q : VK} {H : Hp} (hk : (PySem.W.kitOne K (.type "int") (.type C)) = some b) (k : Q (.bl b) H) : rIsi K [.int n, .ty C] H Q :=
  ⟨_, _, .type "int", .type C, b, rfl, .ty C, .base (.int n), hk, k⟩
def spAsc : Sp := fun vs H Q _ => ∃ (a : Addr) (t : Tab), vs = [.ref a] ∧ H a = some (.dK (kT t)) ∧ t.length < 64 ∧ ∀ (ys : List Str) (p : Addr) (H' : Hp), ys.Perm (t.map (·.1)) → sortedS ys = true → H p = none → Same H H' → H' p = some (.tup (ys.map V.str)) → Q (.ref p) H'
theorem c_ascending (T : Top K mg) : C8.Cal P w K mg base 1 "ascending" spAsc [] := by
  refine cal_of T.d_ascending sc_ascending (fun _ _ _ _ _ _ us hl => match us, hl with | [_], _ => rfl) (fun vs H Q E h => ?_) (fun f cdv A outer s H vs Q E hr h => ?_)
  · obtain ⟨a, t, rfl, _⟩ := h
    rfl
  · obtain ⟨a, t, rfl, ha, hl, q⟩ := h
    refine ⟨_, (pss_one (ps_ret (pe_callTy call_tuple_of (by rfl) T.z_tuple (by decide +kernel) (pa_cons (pe_callB (cr_sortedS) (by rfl) T.z_sorted (by decide +kernel) (pa_cons (pe_lock (pe_lc (own := [("name", 1)]) (g := gName 1) (by rfl) sc_ascending.nd (pi_keys (pv 0)) (blkOk_by (own := [("name", 1)]) (N := ["names", "name"]) (sc := C8.fnScope s_ascending) (by decide +kernel)) (fun _ _ _ _ _ => (pg_name (i := 1) sc_ascending.nd rfl (Or.inl rfl))) (fun _ _ _ _ _ => pts_nil) (fun _ _ _ _ _ => (pe_callTy SkE.call_str_str (by rfl) T.z_str (by decide +kernel) (pa_cons (pv 1) pa_nil))))) pa_nil)) pa_nil)))), ?_⟩
    refine ⟨a, _, ha, trivial, fun od => ⟨.ref a, rfl, a, od, rfl, .inl ⟨kT t, upd_same, fun D hD => ?_⟩⟩⟩
    have na : D ≠ a := fun z => by
      rw [z, upd_same] at hD
      cases hD
    have Y : Yields (Itk a od (kT t)) ((t.map (·.1)).map V.str) (fun H => H a = some (.frz od (.dK (kT t)))) := by
      rw [← kV_kT]
      exact yields_keys
    refine lc_pure (i := 1) (us := t.map (·.1)) (g := V.str) Y V.str (fun _ => true) hD (fun H s => s _ _ upd_same) (fun H u _ hu R r => r H (Same.refl H))
      (fun H u _ hu _ R r => ⟨_, rfl, u, rfl, r H (Same.refl H)⟩) (by rw [List.length_map]; omega) (fun H2 s2 h2 => ?_)
    rw [filt_all] at h2
    have sm : Same H (upd H2 a (.dK (kT t))) := fun b o e => by
      by_cases hb : b = a
      · rw [hb, upd_same, ← ha, ← hb, e]
      · rw [upd_ne hb]
        exact s2 _ _ (by rw [upd_ne hb]; exact e)
    have hD' : H D = none := by rw [upd_ne na] at hD; exact hD
    refine ⟨s2 _ _ upd_same, D, t.map (·.1), rfl, .inl (.inl ?_), by rw [List.length_map]; exact hl, fun ys p hp hs hn => ?_⟩
    · rw [upd_ne na]
      exact h2
    · refine ⟨p, _, rfl, .inl ⟨.inl (.inl upd_same), fun l hl => ?_⟩⟩
      have np : H p = none := sm.free hn
      have nl : H l = none := (sm.trans (same_new hn)).free hl
      exact q ys l _ hp hs nl ((sm.trans (same_new hn)).trans (same_new hl)) upd_same
theorem c_is_segment (T : Top K mg) : C8.Cal P w K mg base 3 "is_segment" (spWord isSegF) [] := by
  refine cal_of T.d_is_segment sc_is_segment (fun _ _ _ _ _ _ us hl => match us, hl with | [_], _ => rfl) (fun vs H Q E h => ?_) (fun f cdv A outer s H vs Q E hr h => ?_)
  · obtain ⟨x, rfl, _⟩ := h
    rfl
  · obtain ⟨v, rfl, t, q⟩ := h
    refine ⟨_, (pss_one (ps_ret (pe_and (C8.pe_c (c__is_word T) hr (by decide) (by rfl) (pa_cons (pv 0) (pa_cons (C8.pe_gc (by rfl) T.g_SEGMENT_SIGNS) pa_nil))) (pe_and (pe_cmpR op_ne (pv 0) pe_str (nomark _)) (pe_one (pe_cmpR op_notin_str pe_str (pv 0) rfl)))))), ?_⟩
    refine ⟨v, rfl, v, SSG, rfl, t, fun H1 s1 => ⟨_, rfl, ?_⟩⟩
    rcases t.cases with ⟨x, rfl, hx, ho⟩ | hn
    · refine ite2 (fun h1 => ?_) (fun h1 => ?_)
      · have h1 : isWordF SSG x = true := h1
        refine ⟨.str x, rfl, rfl, _, rfl, ite2 (fun h2 => ?_) (fun h2 => ?_)⟩
        · refine ⟨.str x, rfl, _, x, rfl, rfl, of_ev (q _ s1) ?_⟩
          have h2 : ¬ x = "." := fun z => by
            rw [z] at h2
            simp at h2
          unfold isSegF
          rw [h1, decide_eq_false h2]
          rfl
        · refine of_ev (q _ s1) ?_
          have h2 : x = "." := Decidable.byContradiction fun z => h2 (by rw [decide_eq_false (fun e => z (V.str.inj e))]; rfl)
          unfold isSegF
          rw [decide_eq_true h2]
          simp
      · have h1 : isWordF SSG x = false := Bool.eq_false_iff.mpr h1
        refine of_ev (q _ s1) ?_
        unfold isSegF
        rw [h1, Bool.false_and]
    · rw [hn]
      exact iteF (of_ev0 hn (q _ s1))
theorem c_is_author (T : Top K mg) : C8.Cal P w K mg base 3 "is_author" (spWord (isWordF LET)) [] := by
  refine cal_of T.d_is_author sc_is_author (fun _ _ _ _ _ _ us hl => match us, hl with | [_], _ => rfl) (fun vs H Q E h => ?_) (fun f cdv A outer s H vs Q E hr h => ?_)
  · obtain ⟨x, rfl, _⟩ := h
    rfl
  · obtain ⟨v, rfl, t, q⟩ := h
    refine ⟨_, (pss_one (ps_ret (C8.pe_c (c__is_word T) hr (by decide) (by rfl) (pa_cons (pv 0) (pa_cons (C8.pe_gc (by rfl) T.g_LETTERS) pa_nil))))), ?_⟩
    exact ⟨v, rfl, v, LET, rfl, t, q⟩
/-- what a thing is: a whole number, a truth value, or of another kind -/
theorem Thing.kinds {K : PySem.W.Frag} {H : Hp} {v : V} (t : Thing H v) : (∃ n, v = .int n) ∨ (∃ b, v = .bl b) ∨ ((∀ n, v ≠ .int n) ∧ (∀ b, v ≠ .bl b) ∧ ∃ Ty ∈ (["NoneType", "str", "list", "tuple", "dict"] : List String), TyX K H v (.type Ty)) := by
  cases t with
  | str x _ _ => exact .inr (.inr ⟨(fun _ z => nomatch z), (fun _ z => nomatch z), "str", by decide, .base (.str x)⟩)
  | non => exact .inr (.inr ⟨(fun _ z => nomatch z), (fun _ z => nomatch z), "NoneType", by decide, .base .non⟩)
  | bl b => exact .inr (.inl ⟨b, rfl⟩)
  | int i => exact .inl ⟨i, rfl⟩
  | lst a xs e => exact .inr (.inr ⟨(fun _ z => nomatch z), (fun _ z => nomatch z), "list", by decide, .base (.lst e)⟩)
  | tup a xs e => exact .inr (.inr ⟨(fun _ z => nomatch z), (fun _ z => nomatch z), "tuple", by decide, .base (.tup e)⟩)
  | dK a xs e => exact .inr (.inr ⟨(fun _ z => nomatch z), (fun _ z => nomatch z), "dict", by decide, .base (.dK e)⟩)
def countV (v : V) : Bool := match v with | .int n => decide (0 ≤ n) | _ => false
def timeV (v : V) : Bool := match v with | .int n => decide (0 ≤ n) && decide (n ≤ 1000000000000) | _ => false
def spCountV : Sp := fun vs H Q _ => ∃ v, vs = [v] ∧ Thing H v ∧ Q (.bl (countV v)) H
theorem c_is_count (T : Top K mg) : C8.Cal P w K mg base 1 "is_count" spCountV [] := by
  refine cal_of T.d_is_count sc_is_count (fun _ _ _ _ _ _ us hl => match us, hl with | [_], _ => rfl) (fun vs H Q E h => ?_) (fun f cdv A outer s H vs Q E hr h => ?_)
  · obtain ⟨x, rfl, _⟩ := h
    rfl
  · obtain ⟨v, rfl, t, q⟩ := h
    refine ⟨_, (pss_one (ps_ret (pe_and (pe_callB call_isi (by rfl) T.z_isinstance (by decide +kernel) (pa_cons (pv 0) (pa_cons (pe_bltn (v := .ty "int") (by rfl) T.z_int (by decide +kernel) rfl) pa_nil))) (pe_and (pe_not (pe_callB call_isi (by rfl) T.z_isinstance (by decide +kernel) (pa_cons (pv 0) (pa_cons (pe_bltn (v := .ty "bool") (by rfl) T.z_bool (by decide +kernel) rfl) pa_nil)))) (pe_one (pe_cmpR op_ge (pv 0) pe_int (nomark _))))))), ?_⟩
    refine ⟨v, rfl, ?_⟩
    dsimp only [tCons, tC, tNil]
    rcases t.kinds (K := K) with ⟨n, rfl⟩ | ⟨b, rfl⟩ | ⟨n1, n2, Ty, hT, ty⟩
    · refine isi_int (b := true) (kit_ty (by decide +kernel)) ⟨_, rfl, iteT ?_⟩
      refine ⟨.int n, rfl, ?_⟩
      dsimp only [tCons, tC, tNil]
      exact isi_int (b := false) (kit_ty (by decide +kernel)) ⟨_, rfl, _, rfl, iteT ⟨_, rfl, _, _, rfl, rfl, q⟩⟩
    · refine ⟨_, _, .type "bool", .type "int", true, rfl, .ty "int", .base (.bl b), kit_ty (by decide +kernel), _, rfl, iteT ?_⟩
      refine ⟨.bl b, rfl, ?_⟩
      dsimp only [tCons, tC, tNil]
      exact ⟨_, _, .type "bool", .type "bool", true, rfl, .ty "bool", .base (.bl b), kit_ty (by decide +kernel), _, rfl, _, rfl, iteF q⟩
    · have e : countV v = false := by
        cases v with
        | int n => exact absurd rfl (n1 n)
        | _ => rfl
      rw [e] at q
      refine ⟨_, _, .type Ty, .type "int", false, rfl, .ty "int", ty, ?_, _, rfl, iteF q⟩
      simp only [List.mem_cons, List.not_mem_nil, or_false] at hT
      rcases hT with rfl | rfl | rfl | rfl | rfl <;> exact kit_ty (by decide +kernel)
def spTimeV : Sp := fun vs H Q _ => ∃ v, vs = [v] ∧ Thing H v ∧ Q (.bl (timeV v)) H
theorem c_is_time (T : Top K mg) : C8.Cal P w K mg base 2 "is_time" spTimeV [] := by
  refine cal_of T.d_is_time sc_is_time (fun _ _ _ _ _ _ us hl => match us, hl with | [_], _ => rfl) (fun vs H Q E h => ?_) (fun f cdv A outer s H vs Q E hr h => ?_)
  · obtain ⟨x, rfl, _⟩ := h
    rfl
  · obtain ⟨v, rfl, t, q⟩ := h
    refine ⟨_, (pss_one (ps_ret (pe_and (C8.pe_c (c_is_count T) hr (by decide) (by rfl) (pa_cons (pv 0) pa_nil)) (pe_one (pe_cmpR op_le (pv 0) (C8.pe_gc (by rfl) T.g_LATEST) (nomark _)))))), ?_⟩
    refine ⟨v, rfl, v, rfl, t, _, rfl, ?_⟩
    by_cases hc : countV v = true
    · rw [hc]
      cases v with
      | int n =>
        refine iteT ⟨_, rfl, _, _, rfl, rfl, ?_⟩
        have e : timeV (.int n) = decide (n ≤ 1000000000000) := by
          have hc : decide (0 ≤ n) = true := hc
          unfold timeV
          show (decide (0 ≤ n) && _) = _
          rw [hc, Bool.true_and]
        rw [e] at q
        exact q
      | _ => cases hc
    · have hc := Bool.eq_false_iff.mpr hc
      rw [hc]
      have e : timeV v = false := by
        cases v with
        | int n =>
          have hc : decide (0 ≤ n) = false := hc
          unfold timeV
          show (decide (0 ≤ n) && _) = _
          rw [hc, Bool.false_and]
        | _ => rfl
      rw [e] at q
      exact iteF q
theorem isi_tup {H : Hp} {p : Addr} {xs : List V} {Q : VK} (h : TupK K H p xs) (k : Q (.bl true) H) : rIsi K [.ref p, .ty "tuple"] H Q := by
  rcases h with e | ⟨o, its, n, lk, c, _⟩
  · exact ⟨_, _, .type "tuple", .type "tuple", true, rfl, .ty "tuple", .base (.tup e), kit_ty (by decide +kernel), k⟩
  · exact ⟨_, _, .type "tuple", .type "tuple", true, rfl, .ty "tuple", .kTuple lk c, kit_ty (by decide +kernel), k⟩
theorem ok_id {x : Str} (h : isIdF x = true) : OkS x ∧ x.length = 16 := by
  unfold isIdF at h
  obtain ⟨h1, h2⟩ := Bool.and_eq_true_iff.mp h
  exact ⟨ok_sub (only_sub h2) ok_hex, of_decide_eq_true h1⟩
/-- things in a tuple; or no tuple -/
def spIdsV (K : PySem.W.Frag) : Sp := fun vs H Q _ => (∃ (p : Addr) (xs : List V), vs = [.ref p] ∧ TupK K H p xs ∧ xs.length ≤ 60 ∧ (∀ x ∈ xs, Thing H x) ∧ ∀ H', Same H H' → Q (.bl (xs.all (evalV isIdF))) H') ∨
  ∃ (v : V), vs = [v] ∧ (∃ Ty ∈ (["NoneType", "str", "list", "dict", "int", "bool"] : List String), TyX K H v (.type Ty)) ∧ Q (.bl false) H
theorem c_are_ids (T : Top K mg) : C8.Cal P w K mg base 3 "are_ids" (spIdsV K) [] := by
  refine cal_of T.d_are_ids sc_are_ids (fun _ _ _ _ _ _ us hl => match us, hl with | [_], _ => rfl) (fun vs H Q E h => ?_) (fun f cdv A outer s H vs Q E hr h => ?_)
  · rcases h with ⟨p, ps, rfl, _⟩ | ⟨v, rfl, _⟩ <;> rfl
  · rcases h with ⟨p, xs, rfl, hp, hl, ht, q⟩ | ⟨v, rfl, ⟨Ty, hT, ty⟩, q⟩
    · refine ⟨_, (pss_one (ps_ret (pe_and (pe_callB call_isi (by rfl) T.z_isinstance (by decide +kernel) (pa_cons (pv 0) (pa_cons (pe_bltn (v := .ty "tuple") (by rfl) T.z_tuple (by decide +kernel) rfl) pa_nil))) (pe_one (pe_callB (cr_all rfl) (by rfl) T.z_all (by decide +kernel) (pa_cons (pe_lc (own := [("name", 1)]) (g := gName 1) (by rfl) sc_are_ids.nd (pi_tup (pv 0)) (blkOk_by (own := [("name", 1)]) (N := ["thing", "name"]) (sc := C8.fnScope s_are_ids) (by decide +kernel)) (fun _ _ _ _ _ => (pg_name (i := 1) sc_are_ids.nd rfl (Or.inl rfl))) (fun _ _ _ _ _ => pts_nil) (fun _ _ _ _ _ => (C8.pe_c (c_is_id T) hr (by decide) (by rfl) (pa_cons (pv 1) pa_nil)))) pa_nil)))))), ?_⟩
      refine ⟨.ref p, rfl, ?_⟩
      dsimp only [tCons, tC, tNil]
      refine isi_tup hp ⟨_, rfl, iteT ?_⟩
      refine ⟨.ref p, rfl, p, rfl, ⟨_, hp.sq⟩, fun D hD => ?_⟩
      have Y : Yields (Itt K p) (xs.map id) (fun H => SqT K H p xs) := by
        rw [List.map_id]
        exact yields_tup
      refine lc_pure (i := 1) (us := xs) (g := id) Y (fun u => .bl (evalV isIdF u)) (fun _ => true) hD (fun H s => (hp.keep (TupKeep.of s)).sq) (fun H u _ hu R r => r H (Same.refl H))
        (fun H u s0 hu _ R r => ⟨u, rfl, u, rfl, (ht u hu).same s0, fun H' s' => r H' s'⟩) (by omega) (fun H2 s2 h2 => ?_)
      refine ⟨D, xs.map (evalV isIdF), rfl, .inl (.inl ?_), ?_⟩
      · rw [h2, filt_all, List.map_map]
        rfl
      · have e : (xs.map (evalV isIdF)).all id = xs.all (evalV isIdF) := by
          rw [List.all_map]
          rfl
        rw [e]
        exact q H2 s2
    · refine ⟨_, (pss_one (ps_ret (pe_and (pe_callB call_isi (by rfl) T.z_isinstance (by decide +kernel) (pa_cons (pv 0) (pa_cons (pe_bltn (v := .ty "tuple") (by rfl) T.z_tuple (by decide +kernel) rfl) pa_nil))) (pe_one (pe_callB (cr_all rfl) (by rfl) T.z_all (by decide +kernel) (pa_cons (pe_lc (own := [("name", 1)]) (g := gName 1) (by rfl) sc_are_ids.nd (pi_tup (pv 0)) (blkOk_by (own := [("name", 1)]) (N := ["thing", "name"]) (sc := C8.fnScope s_are_ids) (by decide +kernel)) (fun _ _ _ _ _ => (pg_name (i := 1) sc_are_ids.nd rfl (Or.inl rfl))) (fun _ _ _ _ _ => pts_nil) (fun _ _ _ _ _ => (C8.pe_c (c_is_id T) hr (by decide) (by rfl) (pa_cons (pv 1) pa_nil)))) pa_nil)))))), ?_⟩
      refine ⟨v, rfl, ?_⟩
      dsimp only [tCons, tC, tNil]
      refine ⟨_, _, .type Ty, .type "tuple", false, rfl, .ty "tuple", ty, ?_, _, rfl, iteF q⟩
      simp only [List.mem_cons, List.not_mem_nil, or_false] at hT
      rcases hT with rfl | rfl | rfl | rfl | rfl | rfl <;> exact kit_ty (by decide +kernel)
end

end Fk

set_option maxHeartbeats 4000000
namespace Fk
open PySem PySem.Spec PyProof.Rows L2
def OTY : List String := ["NoneType", "bool", "int", "str", "tuple", "list", "dict"]
def OddV (K : PySem.W.Frag) (H : Hp) (v : V) : Prop := ∃ T ∈ OTY, TyX K H v (.type T)
/-- the classes, the error, the store -/
structure TopO (K : PySem.W.Frag) (mg : Str → Option Value) (c : C4) (CS cX iX ek pd : Addr) : Prop extends Top K mg where
  ins : ∀ i, i < 4 → C8.InsC K (c.at i)
  kk : ∀ i j, i < 4 → j < 4 → PySem.W.kitOne K (.ref (c.at i)) (.ref (c.at j)) = some (decide (i = j))
  ne : ∀ i, i < 4 → PySem.W.findIn K (.ref (c.at i)) "__ne__" = some (some (.builtin "object.__ne__"))
  mgB : mg "Blob" = some (.ref c.B)
  mgT : mg "Tree" = some (.ref c.T)
  mgC : mg "Commit" = some (.ref c.C)
  mgG : mg "Tag" = some (.ref c.G)
  g_ENTRY_KINDS : ∃ u, mg "ENTRY_KINDS" = some u ∧ RelV (.ref ek) u
  kE : KTup K ek (KINDS.map V.str)
  kP : KTup K pd []
  iniB : ∃ f fd, Mk K c.B f ∧ C8.Fun K "__init__" "Blob.__init__" s_Blob_init f fd ∧ fd.defaults = .none
  iniT : ∃ f fd, Mk K c.T f ∧ C8.Fun K "__init__" "Tree.__init__" s_Tree_init f fd ∧ fd.defaults = .none
  kC3f : IniK K c.C "Commit.__init__" s_Commit_init ["self", "tree", "parents", "author", "time", "message"] 3 ["author", "time", "message"] (fun vs zs => vs ++ zs)
  kC3 : IniK K c.C "Commit.__init__" s_Commit_init ["self", "tree", "parents", "author", "time", "message"] 3 ["author", "time"] (fun vs zs => vs ++ (zs ++ [.str ""]))
  kC2f : IniK K c.C "Commit.__init__" s_Commit_init ["self", "tree", "parents", "author", "time", "message"] 2 ["author", "time", "message"] (fun vs zs => vs ++ (.ref pd :: zs))
  kC2 : IniK K c.C "Commit.__init__" s_Commit_init ["self", "tree", "parents", "author", "time", "message"] 2 ["author", "time"] (fun vs zs => vs ++ (.ref pd :: (zs ++ [.str ""])))
  kG2 : IniK K c.G "Tag.__init__" s_Tag_init ["self", "target", "label", "message"] 2 ["label", "message"] (fun vs zs => vs ++ zs)
  kG1 : IniK K c.G "Tag.__init__" s_Tag_init ["self", "target", "label", "message"] 2 ["label"] (fun vs zs => vs ++ (zs ++ [.str ""]))
  eqB : MDef K c.B "__eq__" "Blob.__eq__" s_Blob_eq
  eqT : MDef K c.T "__eq__" "Tree.__eq__" s_Tree_eq
  eqC : MDef K c.C "__eq__" "Commit.__eq__" s_Commit_eq
  eqG : MDef K c.G "__eq__" "Tag.__eq__" s_Tag_eq
  pBtext : PDef K c.B "text" "Blob.text" s_Blob_text
  pTentries : PDef K c.T "entries" "Tree.entries" s_Tree_entries
  pCtree : PDef K c.C "tree" "Commit.tree" s_Commit_tree
  pCparents : PDef K c.C "parents" "Commit.parents" s_Commit_parents
  pCauthor : PDef K c.C "author" "Commit.author" s_Commit_author
  pCtime : PDef K c.C "time" "Commit.time" s_Commit_time
  pCmessage : PDef K c.C "message" "Commit.message" s_Commit_message
  pGtarget : PDef K c.G "target" "Tag.target" s_Tag_target
  pGlabel : PDef K c.G "label" "Tag.label" s_Tag_label
  pGmessage : PDef K c.G "message" "Tag.message" s_Tag_message
  nB_text : NoAttr K c.B "_text"
  nT_entries : NoAttr K c.T "_entries"
  nC_tree : NoAttr K c.C "_tree"
  nC_parents : NoAttr K c.C "_parents"
  nC_author : NoAttr K c.C "_author"
  nC_time : NoAttr K c.C "_time"
  nC_message : NoAttr K c.C "_message"
  nG_target : NoAttr K c.G "_target"
  nG_label : NoAttr K c.G "_label"
  nG_message : NoAttr K c.G "_message"
  eN : ErrC K mg "BadName" "why" cX iX
  exF : PySem.W.exmOne K (.ref cX) (.ref CS) = some true
  mgF : mg "ForkError" = some (.ref CS)
  kN : PySem.W.kitOne K (.ref cX) (.ref cX) = some true
  odd : ∀ T ∈ OTY, ∀ i, i < 4 → PySem.W.kitOne K (.type T) (.ref (c.at i)) = some false
  notF : ∀ T ∈ OTY, ∀ i, i < 4 → PySem.W.notFirst K (c.at i) (.type T) = true
section
variable {P : Program} {w : World} {K : PySem.W.Frag} {mg : Str → Option Value} {base : Heap} {c : C4} {CS cX iX ek pd : Addr}
theorem TopO.g_Blob (T : TopO K mg c CS cX iX ek pd) : ∃ u, mg "Blob" = some u ∧ RelV (.ref c.B) u := ⟨_, T.mgB, rfl⟩
theorem TopO.g_Tree (T : TopO K mg c CS cX iX ek pd) : ∃ u, mg "Tree" = some u ∧ RelV (.ref c.T) u := ⟨_, T.mgT, rfl⟩
theorem TopO.g_Commit (T : TopO K mg c CS cX iX ek pd) : ∃ u, mg "Commit" = some u ∧ RelV (.ref c.C) u := ⟨_, T.mgC, rfl⟩
theorem TopO.g_Tag (T : TopO K mg c CS cX iX ek pd) : ∃ u, mg "Tag" = some u ∧ RelV (.ref c.G) u := ⟨_, T.mgG, rfl⟩
theorem TopO.cB (T : TopO K mg c CS cX iX ek pd) : Cls K c.B := (T.ins 0 (by decide)).cl
theorem TopO.cT (T : TopO K mg c CS cX iX ek pd) : Cls K c.T := (T.ins 1 (by decide)).cl
theorem TopO.cC (T : TopO K mg c CS cX iX ek pd) : Cls K c.C := (T.ins 2 (by decide)).cl
theorem TopO.cG (T : TopO K mg c CS cX iX ek pd) : Cls K c.G := (T.ins 3 (by decide)).cl
/-- isinstance(thing, one of the classes) -/
theorem TopO.isi (T : TopO K mg c CS cX iX ek pd) {H : Hp} {a d : Addr} {o : Ob} {j : Nat} {Q : VK} (h : ObAt K c H a d o) (hj : j < 4) (k : Q (.bl (decide (o.kd = j))) H) : rIsi K [.ref a, .ref (c.at j)] H Q := by
  obtain ⟨dx, fs, e⟩ := h.ins
  have I := T.ins _ o.kd_lt
  exact ⟨_, _, .ref (c.at o.kd), .ref (c.at j), _, rfl, .own _, .base (.ins e I.cl I.ha I.hn I.htk I.hm), T.kk _ _ o.kd_lt hj, k⟩
theorem TopO.first (T : TopO K mg c CS cX iX ek pd) {i j : Nat} (hi : i < 4) (hj : j < 4) : PySem.W.notFirst K (c.at j) (.ref (c.at i)) = true := by
  have h := T.kk i j hi hj
  unfold PySem.W.notFirst
  by_cases e : (Value.ref (c.at i) == Value.ref (c.at j)) = true
  · rw [e]; rfl
  · unfold PySem.W.kitOne at h
    rw [if_neg e] at h
    have ij : decide (i = j) = false := decide_eq_false fun z => e (by rw [z]; exact beq_self_eq_true _)
    rw [ij] at h
    have h : (if ((PySem.W.clsIn K (c.at j)).isSome && PySem.W.typeIn K (.ref (c.at j)) == some (.type "type")) = true then PySem.W.subIn K (.ref (c.at i)) (.ref (c.at j)) else none) = some false := h
    split at h
    · rw [h]
      simp
    · cases h
/-! ### made -/
/-- behind the making: all that stood before stands -/
theorem made_same {H H' : Hp} {x dx C : Addr} (hx : H x = none) (hd : H dx = none) (f : Fr x (upd (upd H dx (.own x)) x (.ins C dx [])) H') : Same H H' := fun b o e => by
  have n1 := ne_of_none e hx
  exact f b o n1 (by rw [upd_ne n1, upd_ne (ne_of_none e hd)]; exact e)
def spBlobI (c : C4) : Sp := fun vs H Q _ => ∃ (a dx : Addr) (x : Str), vs = [.ref a, .str x] ∧ H a = some (.ins c.B dx []) ∧ isTextF x = true ∧ ∀ H', Fr a H H' → H' a = some (.ins c.B dx [("_text", .str x)]) → Q .non H'
theorem text_len {x : Str} (h : isTextF x = true) : x.length ≤ 2000 := by
  unfold isTextF at h
  exact of_decide_eq_true (Bool.and_eq_true_iff.mp h).1
theorem fr_sets {a : Addr} {H H1 : Hp} (s : Same H H1) {o : HO} : Fr a H (upd H1 a o) := (Fr.same s).trans Fr.at
theorem k_Blob (T : TopO K mg c CS cX iX ek pd) : C8.Mak P w K mg base 3 "Blob" c.B (spBlobI c) [] := by
  obtain ⟨f, fd, M, F, df⟩ := T.iniB
  refine C8.mak0 M T.mgB F (F.binds (ps := ["self", "text"]) df fun _ _ _ _ _ _ us hl => match us, hl with | [_, _], _ => rfl) .nil sc_Blob_init (fun vs H Q E h => ?_) (fun cdv A outer s H vs Q E hr h => ?_)
  · obtain ⟨a, dx, x, rfl, _⟩ := h
    rfl
  · obtain ⟨a, dx, x, rfl, ha, hx, q⟩ := h
    have T := T
    refine ⟨_, (pss_cons (ps_if (pt_not (pt_val (C8.pe_c (c_is_text T.toTop) hr (by decide) (by rfl) (pa_cons (pv 1) pa_nil))))
      (pss_one ps_never)
      pss_nil)
      (pss_one (ps_fld (pv 0) (pv 1) rfl))), ?_⟩
    refine ⟨.str x, rfl, .str x, rfl, .str x (by have := text_len hx; omega) (ok_text hx), fun H1 s1 => ⟨_, rfl, ?_⟩⟩
    rw [show evalV isTextF (.str x) = true from hx]
    exact iteF ⟨.str x, rfl, .ref a, rfl, a, c.B, dx, _, rfl, s1 _ _ ha, T.cB, T.nB_text, (by decide), q _ (fr_sets s1) upd_same⟩
theorem do_blob {x : Str} {H : Hp} {Q : VK} (hx : isTextF x = true) (q : ∀ a H', H a = none → Same H H' → ObAt K c H' a a (.blob x) → Q (.ref a) H') :
    ∀ a dx, H a = none → H dx = none → dx ≠ a → spBlobI c (.ref a :: ([.str x] ++ [])) (upd (upd H dx (.own a)) a (.ins c.B dx [])) (fun v H2 => v = .non ∧ Q (.ref a) H2) C8.E0 := fun a dx ha hd _ =>
  ⟨a, dx, x, rfl, upd_same, hx, fun H' f e => ⟨rfl, q a H' ha (made_same ha hd f) ⟨dx, e⟩⟩⟩
end

end Fk

set_option maxHeartbeats 4000000
namespace Fk
open PySem PySem.Spec PyProof.Rows L2
section
variable {P : Program} {w : World} {K : PySem.W.Frag} {mg : Str → Option Value} {base : Heap} {c : C4} {CS cX iX ek pd : Addr}
/-! ### trees -/
/-- what is no value: no tuple; a tuple of another length; a kind or an id that is none -/
def NoTup (K : PySem.W.Frag) (H : Hp) (v : V) : Prop := ∃ Ty ∈ (["NoneType", "bool", "int", "str", "list", "dict"] : List String), TyX K H v (.type Ty)
theorem noTup_isi {H : Hp} {v : V} (h : NoTup K H v) {R : VK} (r : R (.bl false) H) : rIsi K [v, .ty "tuple"] H R := by
  obtain ⟨Ty, hT, ty⟩ := h
  refine ⟨_, _, .type Ty, .type "tuple", false, rfl, .ty "tuple", ty, ?_, r⟩
  simp only [List.mem_cons, List.not_mem_nil, or_false] at hT
  rcases hT with rfl | rfl | rfl | rfl | rfl | rfl <;> exact kit_ty (by decide +kernel)
def BadVal (K : PySem.W.Frag) (H : Hp) (v : V) : Prop := NoTup K H v ∨ (∃ (q : Addr) (xs : List V), v = .ref q ∧ TupK K H q xs ∧ xs.length ≠ 2 ∧ xs.length ≤ 1000) ∨
  ∃ (q : Addr) (kd i : Str), v = .ref q ∧ TupK K H q [.str kd, .str i] ∧ (kd ∉ KINDS ∨ (isIdF i = false ∧ OkS i ∧ i.length ≤ 1000))
def spValue (K : PySem.W.Frag) : Sp := fun vs H Q _ => ∃ (v : V) (k : Addr), vs = [v, .ref k] ∧ TupK K H k (KINDS.map V.str) ∧ ((∃ (p : Addr) (kd i : Str), v = .ref p ∧ TupK K H p [.str kd, .str i] ∧ kd ∈ KINDS ∧ isIdF i = true ∧ ∀ H', Same H H' → Q (.bl true) H') ∨
  (BadVal K H v ∧ ∀ H', Same H H' → Q (.bl false) H'))
theorem c_is_value (T : Top K mg) : C8.Cal P w K mg base 3 "is_value" (spValue K) [] := by
  refine cal_of T.d_is_value sc_is_value (fun _ _ _ _ _ _ us hl => match us, hl with | [_, _], _ => rfl) (fun vs H Q E h => ?_) (fun f cdv A outer s H vs Q E hr h => ?_)
  · obtain ⟨v, k, rfl, _⟩ := h
    rfl
  · obtain ⟨v, k, rfl, hk, h⟩ := h
    refine ⟨_, (pss_cons (ps_if (PW.pt (pw_or (pt_not (pt_val (pe_callB call_isi (by rfl) T.z_isinstance (by decide +kernel) (pa_cons (pv 0) (pa_cons (pe_bltn (v := .ty "tuple") (by rfl) T.z_tuple (by decide +kernel) rfl) pa_nil))))) (pw_or1 (pt_cmpR op_ne (pe_callB call_len_seq (by rfl) T.z_len (by decide +kernel) (pa_cons (pv 0) pa_nil)) pe_int (nomark _)))))
      (pss_one (ps_ret pe_bl))
      pss_nil)
      (pss_cons (ps_asg (pv 0) (pg_tup rfl (pgs_cons (pg_name (i := 2) sc_is_value.nd rfl (Or.inl rfl)) (pgs_cons (pg_name (i := 3) sc_is_value.nd rfl (Or.inl rfl)) pgs_nil))))
      (pss_one (ps_ret (pe_and (pe_cmpR op_in_seq (pv 2) (pv 1) rfl) (pe_one (C8.pe_c (c_is_id T) hr (by decide) (by rfl) (pa_cons (pv 3) pa_nil)))))))), ?_⟩
    refine ⟨v, rfl, ?_⟩
    dsimp only [tCons, tC, tNil]
    have inK : ∀ kd : Str, (if false = true then !inV (.str kd) (KINDS.map V.str) else inV (.str kd) (KINDS.map V.str)) = decide (kd ∈ KINDS) := fun kd => by
      rw [if_neg Bool.false_ne_true]
      unfold inV
      rw [Bool.eq_iff_iff, List.any_eq_true, decide_eq_true_eq]
      constructor
      · rintro ⟨x, hx, e⟩
        obtain ⟨y, hy, rfl⟩ := List.mem_map.mp hx
        have e : (y == kd) = true := e
        rw [← eq_of_beq e]
        exact hy
      · intro hm
        exact ⟨.str kd, List.mem_map.mpr ⟨kd, hm, rfl⟩, by show (kd == kd) = true; exact beq_self_eq_true kd⟩
    rcases h with ⟨p, kd, i, rfl, hp, hm, hi, q⟩ | ⟨nt | ⟨p, xs, rfl, hp, hl, hl2⟩ | ⟨p, kd, i, rfl, hp, hbad⟩, q⟩
    · refine isi_tup hp ⟨_, rfl, iteF ?_⟩
      refine ⟨.ref p, rfl, p, _, rfl, .inr hp.sq, rfl, _, rfl, iteF ?_⟩
      refine ⟨.ref p, rfl, p, _, rfl, hp.sq, rfl, _, _, rfl, _, _, rfl, rfl, ?_⟩
      refine ⟨.str kd, rfl, .ref k, rfl, k, _, rfl, .inr hk.sq, rfl, flat_strs KINDS, _, rfl, ifT (by rw [inK]; exact decide_eq_true hm) ?_⟩
      exact ⟨.str i, rfl, .str i, rfl, .str i (by have := (ok_id hi).2; omega) (ok_id hi).1, fun H' s' => by
        rw [show evalV isIdF (.str i) = true from hi]
        exact q H' s'⟩
    · exact noTup_isi nt ⟨_, rfl, iteT (q H (Same.refl H))⟩
    · refine isi_tup hp ⟨_, rfl, iteF ?_⟩
      refine ⟨.ref p, rfl, p, _, rfl, .inr hp.sq, rfl, _, rfl, ifT ?_ (q H (Same.refl H))⟩
      rw [decide_eq_false (fun z => hl (by have := V.int.inj z; omega))]
      rfl
    · refine isi_tup hp ⟨_, rfl, iteF ?_⟩
      refine ⟨.ref p, rfl, p, _, rfl, .inr hp.sq, rfl, _, rfl, iteF ?_⟩
      refine ⟨.ref p, rfl, p, _, rfl, hp.sq, rfl, _, _, rfl, _, _, rfl, rfl, ?_⟩
      refine ⟨.str kd, rfl, .ref k, rfl, k, _, rfl, .inr hk.sq, rfl, flat_strs KINDS, _, rfl, ite2 (fun h1 => ?_) (fun h1 => ?_)⟩
      · rw [inK] at h1
        have h1 := of_decide_eq_true h1
        rcases hbad with hb | ⟨hb, ho, hl⟩
        · exact absurd h1 hb
        · exact ⟨.str i, rfl, .str i, rfl, .str i (by omega) ho, fun H' s' => by
            rw [show evalV isIdF (.str i) = false from hb]
            exact q H' s'⟩
      · exact q H (Same.refl H)

theorem EntsAt.keys {H : Hp} : ∀ {t : Tab} {es : List Ent}, EntsAt K H t es → t.map (·.1) = es.map (·.1)
  | _, _, .nil => rfl
  | _, _, .cons (a := p) (b := e) ⟨e1, _⟩ r => by
    rw [List.map_cons, List.map_cons, e1, EntsAt.keys r]
theorem EntsAt.val {H : Hp} : ∀ {t : Tab} {es : List Ent}, EntsAt K H t es → (es.map (·.1)).Nodup → ∀ e ∈ es, ∃ q, valV t e.1 = some (.ref q) ∧ TupK K H q (entL e)
  | _, _, .nil, _, e, he => absurd he (by simp)
  | _, _, .cons (a := p) (b := f) (l₂ := l) ⟨e1, q, e2, e3⟩ r, nd, e, he => by
    obtain ⟨n1, n2⟩ := List.nodup_cons.mp (show (f.1 :: l.map (·.1)).Nodup from nd)
    rcases List.mem_cons.mp he with z | z
    · rw [z]
      exact ⟨q, by rw [show p = (p.1, p.2) from rfl, valV_pos e1, e2], e3⟩
    · obtain ⟨q', v, k⟩ := EntsAt.val r n2 e z
      exact ⟨q', by rw [show p = (p.1, p.2) from rfl, valV_neg (fun c => n1 (by rw [← e1, c]; exact List.mem_map.mpr ⟨e, z, rfl⟩))]; exact v, k⟩
def lookE (es : List Ent) (y : Str) : Ent := (es.find? fun e => decide (e.1 = y)).getD (y, "", "")
theorem look_mem {es : List Ent} (nd : (es.map (·.1)).Nodup) {e : Ent} (he : e ∈ es) : lookE es e.1 = e := by
  unfold lookE
  induction es with
  | nil => exact absurd he (by simp)
  | cons f r ih =>
    obtain ⟨n1, n2⟩ := List.nodup_cons.mp (show (f.1 :: r.map (·.1)).Nodup from nd)
    rw [List.find?_cons]
    rcases List.mem_cons.mp he with z | z
    · rw [z, decide_eq_true rfl]
      rfl
    · rw [decide_eq_false (fun q => n1 (by rw [q]; exact List.mem_map.mpr ⟨e, z, rfl⟩))]
      exact ih n2 z
theorem look_perm {es : List Ent} (nd : (es.map (·.1)).Nodup) {ys : List Str} (h : ys.Perm (es.map (·.1))) : (ys.map (lookE es)).Perm es := by
  refine (h.map (lookE es)).trans ?_
  rw [List.map_map]
  have e : es.map (lookE es ∘ fun e => e.1) = es := by
    conv => rhs; rw [← List.map_id es]
    exact List.map_congr_left fun x hx => look_mem nd hx
  rw [e]
theorem look_keys {es : List Ent} {ys : List Str} (h : ∀ y ∈ ys, y ∈ es.map (·.1)) (nd : (es.map (·.1)).Nodup) : (ys.map (lookE es)).map (·.1) = ys := by
  rw [List.map_map]
  conv => rhs; rw [← List.map_id ys]
  refine List.map_congr_left fun y hy => ?_
  obtain ⟨e, he, rfl⟩ := List.mem_map.mp (h y hy)
  show (lookE es e.1).1 = e.1
  rw [look_mem nd he]
theorem paired_map {α β γ : Type} {R : β → γ → Prop} {f : α → β} {g : α → γ} : ∀ {l : List α}, (∀ y ∈ l, R (f y) (g y)) → Paired R (l.map f) (l.map g)
  | [], _ => .nil
  | y :: r, h => .cons (h y List.mem_cons_self) (paired_map fun z hz => h z (List.mem_cons_of_mem _ hz))
theorem seg_short {x : Str} (h : isSegF x = true) : x.length ≤ 100000 := by have := seg_len h; omega
def spTreeI (K : PySem.W.Frag) (c : C4) : Sp := fun vs H Q _ => ∃ (a e dx : Addr) (t : Tab) (es : List Ent), vs = [.ref a, .ref e] ∧ H a = some (.ins c.T dx []) ∧ H e = some (.dK (kT t)) ∧ EntsAt K H t es ∧ es.length ≤ 30 ∧ (es.map (·.1)).Nodup ∧ (∀ x ∈ es, EntOk x) ∧
  ∀ d t' es' H', H d = none → Fr a H H' → H' a = some (.ins c.T dx [("_entries", .ref d)]) → H' d = some (.dK (kT t')) → EntsAt K H' t' es' → es'.Perm es → EntsOk es' → Q .non H'
theorem k_Tree (T : TopO K mg c CS cX iX ek pd) : C8.Mak P w K mg base 4 "Tree" c.T (spTreeI K c) [] := by
  obtain ⟨f, fd, M, F, df⟩ := T.iniT
  refine C8.mak0 M T.mgT F (F.binds (ps := ["self", "entries"]) df fun _ _ _ _ _ _ us hl => match us, hl with | [_, _], _ => rfl) .nil sc_Tree_init (fun vs H Q E h => ?_) (fun cdv A outer s H vs Q E hr h => ?_)
  · obtain ⟨a, e, dx, t, es, rfl, _⟩ := h
    rfl
  · obtain ⟨a, e, dx, t, es, rfl, ha, he, hE, hl, nd, ok, q⟩ := h
    have nae : a ≠ e := fun z => by rw [z, he] at ha; cases ha
    have kE := hE.keys
    have lt : t.length = es.length := by
      have := congrArg List.length kE
      rwa [List.length_map, List.length_map] at this
    have ndt : Nd t := by unfold Nd; rw [kE]; exact nd
    refine ⟨_, (pss_cons (ps_if (PW.pt (pw_or (pt_not (pt_val (pe_callB call_isi (by rfl) T.z_isinstance (by decide +kernel) (pa_cons (pv 1) (pa_cons (pe_bltn (v := .ty "dict") (by rfl) T.z_dict (by decide +kernel) rfl) pa_nil))))) (pw_or1 (pt_cmpR op_gt (pe_callB call_lenD (by rfl) T.z_len (by decide +kernel) (pa_cons (pv 1) pa_nil)) (C8.pe_gc (by rfl) T.g_MOST_ENTRIES) (nomark _)))))
      (pss_one ps_never)
      pss_nil)
      (pss_cons (ps_lock (ps_for PassesOwn.never rfl (pi_keys (pv 1)) (pg_name (i := 2) sc_Tree_init.nd rfl (Or.inl rfl))
      (pss_one (ps_if (PW.pt (pw_or (pt_not (pt_val (C8.pe_c (c_is_segment T.toTop) hr (by decide) (by rfl) (pa_cons (pv 2) pa_nil)))) (pw_or1 (pt_not (pt_val (C8.pe_c (c_is_value T.toTop) hr (by decide) (by rfl) (pa_cons (pe_dget (hu_of hr) (pv 1) (pv 2) (fun _ _ => rfl)) (pa_cons (C8.pe_gc (by rfl) T.g_ENTRY_KINDS) pa_nil))))))))
      (pss_one ps_never)
      pss_nil))))
      (pss_one (ps_fld (pv 0) (pe_dc (own := [("segment", 2)]) (g := gName 2) (by rfl) sc_Tree_init.nd (pi_tup (C8.pe_c (c_ascending T.toTop) hr (by decide) (by rfl) (pa_cons (pv 1) pa_nil))) (blkOk_by (own := [("segment", 2)]) (N := ["self", "entries", "segment"]) (sc := C8.fnScope s_Tree_init) (by decide +kernel)) (fun _ _ _ _ _ => (pg_name (i := 2) sc_Tree_init.nd rfl (Or.inl rfl))) (fun _ _ _ _ _ => pts_nil) (fun _ _ _ _ _ => (pv 2)) (fun _ _ _ _ _ => (pe_dget (hu_of hr) (pv 1) (pv 2) (fun _ _ => rfl)))) rfl)))), ?_⟩
    refine ⟨.ref e, rfl, ?_⟩
    dsimp only [tCons, tC, tNil]
    refine ⟨_, _, .type "dict", .type "dict", true, rfl, .ty "dict", .base (.dK he), kit_ty (by decide +kernel), _, rfl, iteF ?_⟩
    refine ⟨.ref e, rfl, e, _, rfl, he, _, _, rfl, rfl, _, rfl, ifF (fun z => ?_) ?_⟩
    · have z := of_decide_eq_true z
      rw [len_kT, lt] at z
      omega
    refine ⟨e, _, he, trivial, fun od => ⟨.ref e, rfl, e, od, rfl, .inl ⟨kT t, upd_same, ?_⟩⟩⟩
    have Y : Yields (Itk e od (kT t)) ((t.map (·.1)).map V.str) (fun H => H e = some (.frz od (.dK (kT t)))) := by
      rw [← kV_kT]
      exact yields_keys
    have he0 : (upd H e (.frz od (.dK (kT t)))) e = some (.frz od (.dK (kT t))) := upd_same
    have s0 : ∀ b o, b ≠ e → H b = some o → (upd H e (.frz od (.dK (kT t)))) b = some o := fun b o n z => by rw [upd_ne n]; exact z
    generalize upd H e (.frz od (.dK (kT t))) = HL at he0 s0
    refine forG Y (fun i σ H' => Same HL H' ∧ ∃ z, σ = [some (.ref a), some (.ref e), z]) ⟨Same.refl _, none, rfl⟩ (fun i σ H' ⟨s, _⟩ => s _ _ he0) (fun i x σ H' hx I => ?_) (fun σ H' I => ?_)
    · obtain ⟨s, z, rfl⟩ := I
      rw [kE, List.map_map, List.getElem?_map] at hx
      cases hi : es[i]? with
      | none => rw [hi] at hx; cases hx
      | some e0 =>
        rw [hi] at hx
        cases hx
        have hm : e0 ∈ es := List.mem_of_getElem? hi
        obtain ⟨o1, o2, o3⟩ := ok e0 hm
        refine ⟨.str e0.1, rfl, .str e0.1, rfl, .str e0.1 (seg_short o1) (ok_seg o1), fun H1 s1 => ⟨_, rfl, ?_⟩⟩
        rw [show evalV isSegF (.str e0.1) = true from o1]
        refine iteF ?_
        obtain ⟨q0, hv, ht⟩ := hE.val nd e0 hm
        have g1 := dget_kT (.inr ⟨od, s1 _ _ (s _ _ he0)⟩) e0.1
        rw [hv] at g1
        have tk : TupK K H1 q0 (entL e0) := ht.imp (fun z => s1 _ _ (s _ _ (s0 _ _ (fun y => by rw [y, he] at z; cases z) z))) id
        exact ⟨.ref e, rfl, .str e0.1, rfl, e, _, rfl, g1, .ref q0, ek, rfl, .inr T.kE, .inl ⟨q0, e0.2.1, e0.2.2, rfl, tk, o2, o3, fun H2 s2 => ⟨_, rfl, iteF ⟨s.trans (s1.trans s2), _, rfl⟩⟩⟩⟩
    · obtain ⟨s, z, rfl⟩ := I
      refine ⟨s _ _ he0, ?_⟩
      have sH : Same H (upd H' e (.dK (kT t))) := fun b o z => by
        by_cases hb : b = e
        · rw [hb, upd_same, ← he, ← hb, z]
        · rw [upd_ne hb]
          exact s _ _ (s0 _ _ hb z)
      generalize upd H' e (.dK (kT t)) = H1 at sH
      refine ⟨.ref e, rfl, e, t, rfl, sH _ _ he, by omega, fun ys p H2 hp hs _ s2 h2 => ?_⟩
      rw [kE] at hp
      have hy : ∀ y ∈ ys, y ∈ es.map (·.1) := fun y hy => hp.mem_iff.mp hy
      refine ⟨p, rfl, ⟨_, SqT.of h2⟩, fun D hD => ?_⟩
      have s02 := sH.trans s2
      refine dc_tab (us := ys) (val := V.str) yields_tup (fun y => y) (fun y => (valV t y).getD .non) (fun _ => true) (fun y => [some (.ref a), some (.ref e), some (.str y)]) hD (fun H s => SqT.of (s _ _ h2)) (fun _ _ => rfl)
        (fun H u _ _ R k => k) (fun H u _ _ R k => k H (Same.refl H)) (fun H u _ _ _ R k => ⟨_, rfl, k H (Same.refl H)⟩) (fun H3 u s3 hu _ R k => ?_) (by have := hp.length_eq; rw [List.length_map] at this; omega) (by rw [filt_all, List.map_id']; exact hp.nodup_iff.mpr nd) (fun H3 s3 h3 => ?_)
      · obtain ⟨e0, hm, rfl⟩ := List.mem_map.mp (hy u hu)
        obtain ⟨q0, hv, _⟩ := hE.val nd e0 hm
        have g1 := dget_kT (.inl (s3 _ _ (s02 _ _ he))) e0.1
        rw [hv] at g1
        rw [hv] at k
        exact ⟨.ref e, rfl, .str e0.1, rfl, e, _, rfl, g1, k H3 (Same.refl H3)⟩
      · have s03 := s02.trans s3
        have fD : H D = none := s02.free hD
        have nDa : D ≠ a := ne_of_none' fD ha
        refine ⟨.ref a, rfl, a, c.T, dx, _, rfl, s03 _ _ ha, T.cT, T.nT_entries, (by decide), q D (ys.map fun y => (y, (valV t y).getD .non)) (ys.map (lookE es)) _ fD (fr_sets s03) upd_same ?_ ?_ (look_perm nd hp) ?_⟩
        · rw [upd_ne nDa, h3, filt_all]
        · refine paired_map fun y hy' => ?_
          obtain ⟨e0, hm, rfl⟩ := List.mem_map.mp (hy y hy')
          obtain ⟨q0, hv, ht⟩ := hE.val nd e0 hm
          rw [look_mem nd hm, hv]
          exact ⟨rfl, q0, rfl, ht.imp (fun z => (fr_sets s03) _ _ (fun y => by rw [y, ha] at z; cases z) z) id⟩
        · refine ⟨by rw [(look_perm nd hp).length_eq]; exact hl, by rw [look_keys hy nd]; exact hp.nodup_iff.mpr nd, by rw [look_keys hy nd]; exact hs, fun x hx => ok x ((look_perm nd hp).mem_iff.mp hx)⟩
end

end Fk

set_option maxHeartbeats 4000000
namespace Fk
open PySem PySem.Spec PyProof.Rows L2
section
variable {P : Program} {w : World} {K : PySem.W.Frag} {mg : Str → Option Value} {base : Heap} {c : C4} {CS cX iX ek pd : Addr}
/-! ### commits and tags -/
def spCommitI (K : PySem.W.Frag) (c : C4) : Sp := fun vs H Q _ => ∃ (a dx p : Addr) (t : Str) (ps : List Str) (au : Str) (tm : Int) (msg : Str), vs = [.ref a, .str t, .ref p, .str au, .int tm, .str msg] ∧ H a = some (.ins c.C dx []) ∧ TupK K H p (ps.map V.str) ∧ Ob.ok (.commit t ps au tm msg) ∧
  ∀ H', Fr a H H' → H' a = some (.ins c.C dx (cmF t p au tm msg)) → Q .non H'
theorem word_ok {x y : Str} (h : isWordF y x = true) (hy : OkS y) : OkS x ∧ x.length ≤ 12 := by
  unfold isWordF at h
  obtain ⟨h1, h2⟩ := Bool.and_eq_true_iff.mp h
  obtain ⟨h3, h4⟩ := Bool.and_eq_true_iff.mp h2
  exact ⟨ok_sub (only_sub h4) hy, of_decide_eq_true h3⟩
theorem iniF_Commit (T : TopO K mg c CS cX iX ek pd) : ∀ f fd, C8.Fun K "__init__" "Commit.__init__" s_Commit_init f fd → FnOk P w K mg base C8.CX0 5 f fd ["self", "tree", "parents", "author", "time", "message"] (spCommitI K c) := fun f fd F => by
  refine C8.fn0 F sc_Commit_init (fun vs H Q E h => ?_) (fun cdv A outer s H vs Q E hr h => ?_)
  · obtain ⟨a, dx, p, t, ps, au, tm, msg, rfl, _⟩ := h
    rfl
  · obtain ⟨a, dx, p, t, ps, au, tm, msg, rfl, ha, hp, ⟨o1, o2, o3, o4, o5, o6, o7, o8, o9⟩, q⟩ := h
    refine ⟨_, (pss_cons (ps_if (pt_not (pt_val (C8.pe_c (c_is_id T.toTop) hr (by decide) (by rfl) (pa_cons (pv 1) pa_nil))))
      (pss_one ps_never)
      pss_nil)
      (pss_cons (ps_if (PW.pt (pw_or (pt_not (pt_val (C8.pe_c (c_are_ids T.toTop) hr (by decide) (by rfl) (pa_cons (pv 2) pa_nil)))) (pw_or (pt_cmpR op_gt (pe_callB call_len_seq (by rfl) T.z_len (by decide +kernel) (pa_cons (pv 2) pa_nil)) (C8.pe_gc (by rfl) T.g_MOST_PARENTS) (nomark _)) (pw_or1 (pt_cmpR op_lt (pe_lenSetT rfl (by rfl) T.z_len (by rfl) T.z_set (pv 2)) (pe_callB call_len_seq (by rfl) T.z_len (by decide +kernel) (pa_cons (pv 2) pa_nil)) (nomark _))))))
      (pss_one ps_never)
      pss_nil)
      (pss_cons (ps_if (pt_not (pt_val (C8.pe_c (c_is_author T.toTop) hr (by decide) (by rfl) (pa_cons (pv 3) pa_nil))))
      (pss_one ps_never)
      pss_nil)
      (pss_cons (ps_if (pt_not (pt_val (C8.pe_c (c_is_time T.toTop) hr (by decide) (by rfl) (pa_cons (pv 4) pa_nil))))
      (pss_one ps_never)
      pss_nil)
      (pss_cons (ps_if (pt_not (pt_val (C8.pe_c (c_is_message T.toTop) hr (by decide) (by rfl) (pa_cons (pv 5) pa_nil))))
      (pss_one ps_never)
      pss_nil)
      (pss_cons (ps_fld (pv 0) (pv 1) rfl)
      (pss_cons (ps_fld (pv 0) (pv 2) rfl)
      (pss_cons (ps_fld (pv 0) (pv 3) rfl)
      (pss_cons (ps_fld (pv 0) (pv 4) rfl)
      (pss_one (ps_fld (pv 0) (pv 5) rfl))))))))))), ?_⟩
    refine ⟨.str t, rfl, .str t, rfl, .str t (by have := (ok_id o1).2; omega) (ok_id o1).1, fun H1 s1 => ⟨_, rfl, ?_⟩⟩
    rw [show evalV isIdF (.str t) = true from o1]
    refine iteF ?_
    refine ⟨.ref p, rfl, .inl ⟨p, ps.map V.str, rfl, hp.keep (TupKeep.of s1), (by rw [List.length_map]; omega), fun x hx => ?_, fun H2 s2 => ⟨_, rfl, ?_⟩⟩⟩
    · obtain ⟨y, hy, rfl⟩ := List.mem_map.mp hx
      exact .str y (by have := (ok_id (o4 y hy)).2; omega) (ok_id (o4 y hy)).1
    rw [show (ps.map V.str).all (evalV isIdF) = true from List.all_eq_true.mpr fun x hx => by
      obtain ⟨y, hy, rfl⟩ := List.mem_map.mp hx
      exact o4 y hy]
    refine iteF ?_
    have hp2 := hp.keep (TupKeep.of (s1.trans s2))
    refine ⟨.ref p, rfl, p, _, rfl, .inr hp2.sq, _, _, rfl, rfl, _, rfl, ifF (fun z => ?_) ?_⟩
    · have z := of_decide_eq_true z
      rw [List.length_map] at z
      omega
    refine ⟨.ref p, rfl, p, ps, rfl, hp2.sq, by omega, fun n => ⟨fun ys ny hm hn => ?_, trivial⟩⟩
    have en : n = ps.length := by
      have : ys.Perm ps := (List.perm_ext_iff_of_nodup ny o3).mpr hm
      rw [← hn, this.length_eq]
    refine ⟨.ref p, rfl, p, _, rfl, .inr hp2.sq, _, _, rfl, rfl, _, rfl, ifF (fun z => ?_) ?_⟩
    · have z := of_decide_eq_true z
      rw [List.length_map] at z
      omega
    refine ⟨.str au, rfl, .str au, rfl, .str au (by have := (word_ok o5 ok_let).2; omega) (word_ok o5 ok_let).1, fun H3 s3 => ⟨_, rfl, ?_⟩⟩
    rw [show evalV (isWordF LET) (.str au) = true from o5]
    refine iteF ?_
    refine ⟨.int tm, rfl, .int tm, rfl, .int tm, _, rfl, ?_⟩
    rw [show timeV (.int tm) = true from Bool.and_eq_true_iff.mpr ⟨decide_eq_true o6, decide_eq_true o7⟩]
    refine iteF ?_
    refine ⟨.str msg, rfl, .str msg, rfl, .str msg (by omega) (ok_text o8), fun H5 s5 => ⟨_, rfl, ?_⟩⟩
    rw [show evalV msgF (.str msg) = true from Bool.and_eq_true_iff.mpr ⟨o8, decide_eq_true o9⟩]
    refine iteF ?_
    have s15 := ((s1.trans s2).trans s3).trans s5
    refine ⟨.str t, rfl, .ref a, rfl, a, c.C, dx, _, rfl, s15 _ _ ha, T.cC, T.nC_tree, (by decide), ?_⟩
    refine ⟨.ref p, rfl, .ref a, rfl, a, c.C, dx, _, rfl, upd_same, T.cC, T.nC_parents, (by show 1 < 1000; decide), ?_⟩
    refine ⟨.str au, rfl, .ref a, rfl, a, c.C, dx, _, rfl, upd_same, T.cC, T.nC_author, (by show 2 < 1000; decide), ?_⟩
    refine ⟨.int tm, rfl, .ref a, rfl, a, c.C, dx, _, rfl, upd_same, T.cC, T.nC_time, (by show 3 < 1000; decide), ?_⟩
    refine ⟨.str msg, rfl, .ref a, rfl, a, c.C, dx, _, rfl, upd_same, T.cC, T.nC_message, (by show 4 < 1000; decide), ?_⟩
    exact q _ (((((fr_sets s15).trans Fr.at).trans Fr.at).trans Fr.at).trans Fr.at) upd_same
theorem k_Commit_2_author_time_message (T : TopO K mg c CS cX iX ek pd) : MakK P w K mg base 5 "Commit" c.C (spCommitI K c) 3 ["author", "time", "message"] (fun vs zs => vs ++ zs) := makK T.kC3f T.mgC (iniF_Commit T)
theorem k_Commit_2_author_time (T : TopO K mg c CS cX iX ek pd) : MakK P w K mg base 5 "Commit" c.C (spCommitI K c) 3 ["author", "time"] (fun vs zs => vs ++ (zs ++ [.str ""])) := makK T.kC3 T.mgC (iniF_Commit T)
theorem k_Commit_1_author_time_message (T : TopO K mg c CS cX iX ek pd) : MakK P w K mg base 5 "Commit" c.C (spCommitI K c) 2 ["author", "time", "message"] (fun vs zs => vs ++ (.ref pd :: zs)) := makK T.kC2f T.mgC (iniF_Commit T)
theorem k_Commit_1_author_time (T : TopO K mg c CS cX iX ek pd) : MakK P w K mg base 5 "Commit" c.C (spCommitI K c) 2 ["author", "time"] (fun vs zs => vs ++ (.ref pd :: (zs ++ [.str ""]))) := makK T.kC2 T.mgC (iniF_Commit T)
theorem do_commit {p : Addr} {t : Str} {ps : List Str} {au : Str} {tm : Int} {msg : Str} {H : Hp} {Q : VK} (hp : TupK K H p (ps.map V.str)) (ok : Ob.ok (.commit t ps au tm msg)) (q : ∀ a H', H a = none → Same H H' → ObAt K c H' a a (.commit t ps au tm msg) → Q (.ref a) H') :
    ∀ a dx, H a = none → H dx = none → dx ≠ a → spCommitI K c [.ref a, .str t, .ref p, .str au, .int tm, .str msg] (upd (upd H dx (.own a)) a (.ins c.C dx [])) (fun v H2 => v = .non ∧ Q (.ref a) H2) C8.E0 := fun a dx ha hd nd => by
  have s1 : Same H (upd (upd H dx (.own a)) a (.ins c.C dx [])) := made_same ha hd (Fr.refl _ _)
  exact ⟨a, dx, p, t, ps, au, tm, msg, rfl, upd_same, hp.keep (TupKeep.of s1), ok, fun H' f e => ⟨rfl, q a H' ha (made_same ha hd f) ⟨dx, p, e, hp.keep (TupKeep.of (made_same ha hd f))⟩⟩⟩
def spTagI (c : C4) : Sp := fun vs H Q _ => ∃ (a dx : Addr) (tg lb msg : Str), vs = [.ref a, .str tg, .str lb, .str msg] ∧ H a = some (.ins c.G dx []) ∧ Ob.ok (.tag tg lb msg) ∧ ∀ H', Fr a H H' → H' a = some (.ins c.G dx (tgF tg lb msg)) → Q .non H'
theorem iniF_Tag (T : TopO K mg c CS cX iX ek pd) : ∀ f fd, C8.Fun K "__init__" "Tag.__init__" s_Tag_init f fd → FnOk P w K mg base C8.CX0 5 f fd ["self", "target", "label", "message"] (spTagI c) := fun f fd F => by
  refine C8.fn0 F sc_Tag_init (fun vs H Q E h => ?_) (fun cdv A outer s H vs Q E hr h => ?_)
  · obtain ⟨a, dx, tg, lb, msg, rfl, _⟩ := h
    rfl
  · obtain ⟨a, dx, tg, lb, msg, rfl, ha, ⟨o1, o2, o8, o9⟩, q⟩ := h
    refine ⟨_, (pss_cons (ps_if (pt_not (pt_val (C8.pe_c (c_is_id T.toTop) hr (by decide) (by rfl) (pa_cons (pv 1) pa_nil))))
      (pss_one ps_never)
      pss_nil)
      (pss_cons (ps_if (pt_not (pt_val (C8.pe_c (c_is_segment T.toTop) hr (by decide) (by rfl) (pa_cons (pv 2) pa_nil))))
      (pss_one ps_never)
      pss_nil)
      (pss_cons (ps_if (pt_not (pt_val (C8.pe_c (c_is_message T.toTop) hr (by decide) (by rfl) (pa_cons (pv 3) pa_nil))))
      (pss_one ps_never)
      pss_nil)
      (pss_cons (ps_fld (pv 0) (pv 1) rfl)
      (pss_cons (ps_fld (pv 0) (pv 2) rfl)
      (pss_one (ps_fld (pv 0) (pv 3) rfl))))))), ?_⟩
    refine ⟨.str tg, rfl, .str tg, rfl, .str tg (by have := (ok_id o1).2; omega) (ok_id o1).1, fun H1 s1 => ⟨_, rfl, ?_⟩⟩
    rw [show evalV isIdF (.str tg) = true from o1]
    refine iteF ?_
    refine ⟨.str lb, rfl, .str lb, rfl, .str lb (seg_short o2) (ok_seg o2), fun H2 s2 => ⟨_, rfl, ?_⟩⟩
    rw [show evalV isSegF (.str lb) = true from o2]
    refine iteF ?_
    refine ⟨.str msg, rfl, .str msg, rfl, .str msg (by omega) (ok_text o8), fun H5 s5 => ⟨_, rfl, ?_⟩⟩
    rw [show evalV msgF (.str msg) = true from Bool.and_eq_true_iff.mpr ⟨o8, decide_eq_true o9⟩]
    refine iteF ?_
    have s15 := (s1.trans s2).trans s5
    refine ⟨.str tg, rfl, .ref a, rfl, a, c.G, dx, _, rfl, s15 _ _ ha, T.cG, T.nG_target, (by decide), ?_⟩
    refine ⟨.str lb, rfl, .ref a, rfl, a, c.G, dx, _, rfl, upd_same, T.cG, T.nG_label, (by show 1 < 1000; decide), ?_⟩
    refine ⟨.str msg, rfl, .ref a, rfl, a, c.G, dx, _, rfl, upd_same, T.cG, T.nG_message, (by show 2 < 1000; decide), ?_⟩
    exact q _ (((fr_sets s15).trans Fr.at).trans Fr.at) upd_same
theorem k_Tag_1_label_message (T : TopO K mg c CS cX iX ek pd) : MakK P w K mg base 5 "Tag" c.G (spTagI c) 2 ["label", "message"] (fun vs zs => vs ++ zs) := makK T.kG2 T.mgG (iniF_Tag T)
theorem k_Tag_1_label (T : TopO K mg c CS cX iX ek pd) : MakK P w K mg base 5 "Tag" c.G (spTagI c) 2 ["label"] (fun vs zs => vs ++ (zs ++ [.str ""])) := makK T.kG1 T.mgG (iniF_Tag T)
theorem do_tag {tg lb msg : Str} {H : Hp} {Q : VK} (ok : Ob.ok (.tag tg lb msg)) (q : ∀ a H', H a = none → Same H H' → ObAt K c H' a a (.tag tg lb msg) → Q (.ref a) H') :
    ∀ a dx, H a = none → H dx = none → dx ≠ a → spTagI c [.ref a, .str tg, .str lb, .str msg] (upd (upd H dx (.own a)) a (.ins c.G dx [])) (fun v H2 => v = .non ∧ Q (.ref a) H2) C8.E0 := fun a dx ha hd nd =>
  ⟨a, dx, tg, lb, msg, rfl, upd_same, ok, fun H' f e => ⟨rfl, q a H' ha (made_same ha hd f) ⟨dx, e⟩⟩⟩
theorem do_tree {e : Addr} {t : Tab} {es : List Ent} {H : Hp} {Q : VK} (he : H e = some (.dK (kT t))) (hE : EntsAt K H t es) (hl : es.length ≤ 30) (nd : (es.map (·.1)).Nodup) (ok : ∀ x ∈ es, EntOk x)
    (q : ∀ a d es' H', H a = none → H d = none → Same H H' → es'.Perm es → Ob.ok (.tree es') → ObAt K c H' a d (.tree es') → Q (.ref a) H') :
    ∀ a dx, H a = none → H dx = none → dx ≠ a → spTreeI K c (.ref a :: ([.ref e] ++ [])) (upd (upd H dx (.own a)) a (.ins c.T dx [])) (fun v H2 => v = .non ∧ Q (.ref a) H2) C8.E0 := fun a dx ha hd nda => by
  have s1 : Same H (upd (upd H dx (.own a)) a (.ins c.T dx [])) := made_same ha hd (Fr.refl _ _)
  refine ⟨a, e, dx, t, es, rfl, upd_same, s1 _ _ he, hE.keep (TupKeep.of s1), hl, nd, ok, fun d t' es' H' hd' f h1 h2 h3 hp hok => ⟨rfl, q a d es' H' ha (s1.free hd') (made_same ha hd f) hp hok ⟨dx, t', h1, h2, h3⟩⟩⟩
/-! ### equal -/
def spEq (K : PySem.W.Frag) (c : C4) (j : Nat) : Sp := fun vs H Q _ => ∃ (a b d d' : Addr) (o o' : Ob), vs = [.ref a, .ref b] ∧ ObAt K c H a d o ∧ ObAt K c H b d' o' ∧ o.ok ∧ o'.ok ∧ o.kd = j ∧ ∀ H', Same H H' → Q (.bl (decide (o = o'))) H'
theorem spEq_len {j : Nat} (vs : List V) (H : Hp) (Q : VK) (E : XK) (h : spEq K c j vs H Q E) : vs.length = 2 := by
  obtain ⟨a, b, d, d', o, o', rfl, _⟩ := h
  rfl
theorem m_Blob_eq (T : TopO K mg c CS cX iX ek pd) : C8.Met P w K mg base 1 c.B "__eq__" (spEq K c 0) [] := by
  refine met_of T.cB T.eqB sc_Blob_eq (fun _ _ _ _ _ _ us hl => match us, hl with | [_, _], _ => rfl) spEq_len (fun f cdv A outer s H vs Q E hr h => ?_)
  obtain ⟨a, b, d, d', o, o', rfl, ha, hb, ok, ok', hk, q⟩ := h
  cases o with
  | blob x =>
    refine ⟨_, (pss_one (ps_ret (pe_and (pe_callB call_isi (by rfl) T.z_isinstance (by decide +kernel) (pa_cons (pv 1) (pa_cons (C8.pe_gc (by rfl) T.g_Blob) pa_nil))) (pe_one (pe_cmpR op_eq (pe_fld (pv 0) rfl) (pe_fld (pv 1) rfl) (nomark _)))))), ?_⟩
    refine ⟨.ref b, rfl, ?_⟩
    dsimp only [tCons, tC, tNil]
    refine T.isi (j := 0) hb (by decide) ⟨_, rfl, ?_⟩
    obtain ⟨dx, ha⟩ := ha
    cases o' with
    | blob y =>
      obtain ⟨dy, hb⟩ := hb
      refine iteT ⟨.ref a, rfl, a, c.B, dx, _, _, rfl, ha, T.cB, T.nB_text, rfl, .ref b, rfl, b, c.B, dy, _, _, rfl, hb, T.cB, T.nB_text, rfl, rfl, ?_⟩
      have e : decide (Ob.blob x = Ob.blob y) = decide (V.str x = V.str y) := by
        rw [Bool.eq_iff_iff]
        simp
      rw [e] at q
      exact q H (Same.refl H)
    | _ => exact iteF (q H (Same.refl H))
  | _ => cases hk
end

end Fk

set_option maxHeartbeats 4000000
namespace Fk
open PySem PySem.Spec PyProof.Rows L2
theorem shaped_tup (ys : List Str) (h : ∀ y ∈ ys, OkS y) : SeqAt.shaped (.tuple (ys.map PyData.str)) = true := by
  simp [SeqAt.shaped, PyData.canLay0, lay_strs ys h, PyData.depth, depth_strs]
theorem eqv_tups : ∀ ys zs : List Str, PyData.eqvAll (ys.map PyData.str) (zs.map PyData.str) = decide (ys = zs)
  | [], [] => rfl
  | [], _ :: _ => rfl
  | _ :: _, [] => rfl
  | y :: ys, z :: zs => by
    show (y == z && PyData.eqvAll _ _) = _
    rw [eqv_tups ys zs, Bool.eq_iff_iff]
    simp
section
variable {P : Program} {w : World} {K : PySem.W.Frag} {mg : Str → Option Value} {base : Heap} {c : C4} {CS cX iX ek pd : Addr}
theorem m_Tree_eq (T : TopO K mg c CS cX iX ek pd) : C8.Met P w K mg base 1 c.T "__eq__" (spEq K c 1) [] := by
  refine met_of T.cT T.eqT sc_Tree_eq (fun _ _ _ _ _ _ us hl => match us, hl with | [_, _], _ => rfl) spEq_len (fun f cdv A outer s H vs Q E hr h => ?_)
  obtain ⟨a, b, d, d', o, o', rfl, ha, hb, ok, ok', hk, q⟩ := h
  cases o with
  | tree es =>
    refine ⟨_, (pss_one (ps_ret (pe_and (pe_callB call_isi (by rfl) T.z_isinstance (by decide +kernel) (pa_cons (pv 1) (pa_cons (C8.pe_gc (by rfl) T.g_Tree) pa_nil))) (pe_one (pe_cmpR (op_eqDD (room66 hr)) (pe_fld (pv 0) rfl) (pe_fld (pv 1) rfl) (nomark _)))))), ?_⟩
    refine ⟨.ref b, rfl, ?_⟩
    dsimp only [tCons, tC, tNil]
    refine T.isi (j := 1) hb (by decide) ⟨_, rfl, ?_⟩
    obtain ⟨dx, t, ha, h2, h3⟩ := ha
    cases o' with
    | tree fs =>
      obtain ⟨dy, u, hb, k2, k3⟩ := hb
      refine iteT ⟨.ref a, rfl, a, c.T, dx, _, _, rfl, ha, T.cT, T.nT_entries, rfl, .ref b, rfl, b, c.T, dy, _, _, rfl, hb, T.cT, T.nT_entries, rfl, d, d', datE es, datE fs, rfl, rfl, ⟨_, h2, dat_at h3⟩, ⟨_, k2, dat_at k3⟩, shaped_ents ok.2.2.2, shaped_ents ok'.2.2.2, ?_⟩
      rw [eqv_ents2 ok ok']
      have e : decide (Ob.tree es = Ob.tree fs) = decide (es = fs) := by
        rw [Bool.eq_iff_iff]
        simp
      rw [e] at q
      exact q H (Same.refl H)
    | _ => exact iteF (q H (Same.refl H))
  | _ => cases hk
theorem m_Tag_eq (T : TopO K mg c CS cX iX ek pd) : C8.Met P w K mg base 1 c.G "__eq__" (spEq K c 3) [] := by
  refine met_of T.cG T.eqG sc_Tag_eq (fun _ _ _ _ _ _ us hl => match us, hl with | [_, _], _ => rfl) spEq_len (fun f cdv A outer s H vs Q E hr h => ?_)
  obtain ⟨a, b, d, d', o, o', rfl, ha, hb, ok, ok', hk, q⟩ := h
  cases o with
  | tag tg lb msg =>
    refine ⟨_, (pss_one (ps_ret (pe_and (pe_callB call_isi (by rfl) T.z_isinstance (by decide +kernel) (pa_cons (pv 1) (pa_cons (C8.pe_gc (by rfl) T.g_Tag) pa_nil))) (pe_and (pe_cmpR op_eq (pe_fld (pv 0) rfl) (pe_fld (pv 1) rfl) (nomark _)) (pe_and (pe_cmpR op_eq (pe_fld (pv 0) rfl) (pe_fld (pv 1) rfl) (nomark _)) (pe_one (pe_cmpR op_eq (pe_fld (pv 0) rfl) (pe_fld (pv 1) rfl) (nomark _)))))))), ?_⟩
    refine ⟨.ref b, rfl, ?_⟩
    dsimp only [tCons, tC, tNil]
    refine T.isi (j := 3) hb (by decide) ⟨_, rfl, ?_⟩
    obtain ⟨dx, ha⟩ := ha
    cases o' with
    | tag tg' lb' msg' =>
      obtain ⟨dy, hb⟩ := hb
      have fin : ∀ b : Bool, decide (Ob.tag tg lb msg = Ob.tag tg' lb' msg') = b → Q (.bl b) H := fun b e => by
        rw [e] at q
        exact q H (Same.refl H)
      have no : ¬ (tg = tg' ∧ lb = lb' ∧ msg = msg') → Q (.bl false) H := fun n => fin false (decide_eq_false fun z => n (by injection z with z1 z2 z3; exact ⟨z1, z2, z3⟩))
      refine iteT ⟨.ref a, rfl, a, c.G, dx, _, _, rfl, ha, T.cG, T.nG_target, rfl, .ref b, rfl, b, c.G, dy, _, _, rfl, hb, T.cG, T.nG_target, rfl, rfl, _, rfl, ite2 (fun z1 => ?_) (fun z1 => ?_)⟩
      · have z1 := V.str.inj (of_decide_eq_true z1)
        refine ⟨.ref a, rfl, a, c.G, dx, _, _, rfl, ha, T.cG, T.nG_label, rfl, .ref b, rfl, b, c.G, dy, _, _, rfl, hb, T.cG, T.nG_label, rfl, rfl, _, rfl, ite2 (fun z2 => ?_) (fun z2 => ?_)⟩
        · have z2 := V.str.inj (of_decide_eq_true z2)
          refine ⟨.ref a, rfl, a, c.G, dx, _, _, rfl, ha, T.cG, T.nG_message, rfl, .ref b, rfl, b, c.G, dy, _, _, rfl, hb, T.cG, T.nG_message, rfl, rfl, ?_⟩
          refine fin _ ?_
          rw [z1, z2, Bool.eq_iff_iff]
          simp
        · exact no fun z => z2 (decide_eq_true (by rw [z.2.1]))
      · exact no fun z => z1 (decide_eq_true (by rw [z.1]))
    | _ => exact iteF (q H (Same.refl H))
  | _ => cases hk
theorem m_Commit_eq (T : TopO K mg c CS cX iX ek pd) : C8.Met P w K mg base 1 c.C "__eq__" (spEq K c 2) [] := by
  refine met_of T.cC T.eqC sc_Commit_eq (fun _ _ _ _ _ _ us hl => match us, hl with | [_, _], _ => rfl) spEq_len (fun f cdv A outer s H vs Q E hr h => ?_)
  obtain ⟨a, b, d, d', o, o', rfl, ha, hb, ok, ok', hk, q⟩ := h
  cases o with
  | commit t ps au tm msg =>
    refine ⟨_, (pss_one (ps_ret (pe_and (pe_callB call_isi (by rfl) T.z_isinstance (by decide +kernel) (pa_cons (pv 1) (pa_cons (C8.pe_gc (by rfl) T.g_Commit) pa_nil))) (pe_and (pe_cmpR op_eq (pe_fld (pv 0) rfl) (pe_fld (pv 1) rfl) (nomark _)) (pe_and (pe_cmpR (op_eqD hr.units) (pe_fld (pv 0) rfl) (pe_fld (pv 1) rfl) (nomark _)) (pe_and (pe_cmpR op_eq (pe_fld (pv 0) rfl) (pe_fld (pv 1) rfl) (nomark _)) (pe_and (pe_cmpR op_eq (pe_fld (pv 0) rfl) (pe_fld (pv 1) rfl) (nomark _)) (pe_one (pe_cmpR op_eq (pe_fld (pv 0) rfl) (pe_fld (pv 1) rfl) (nomark _)))))))))), ?_⟩
    refine ⟨.ref b, rfl, ?_⟩
    dsimp only [tCons, tC, tNil]
    refine T.isi (j := 2) hb (by decide) ⟨_, rfl, ?_⟩
    obtain ⟨dx, p, ha, hp⟩ := ha
    cases o' with
    | commit t' ps' au' tm' msg' =>
      obtain ⟨dy, p', hb, hp'⟩ := hb
      have fin : ∀ b : Bool, decide (Ob.commit t ps au tm msg = Ob.commit t' ps' au' tm' msg') = b → Q (.bl b) H := fun b e => by
        rw [e] at q
        exact q H (Same.refl H)
      have no : ¬ (t = t' ∧ ps = ps' ∧ au = au' ∧ tm = tm' ∧ msg = msg') → Q (.bl false) H := fun n => fin false (decide_eq_false fun z => n (by injection z with z1 z2 z3 z4 z5; exact ⟨z1, z2, z3, z4, z5⟩))
      refine iteT ⟨.ref a, rfl, a, c.C, dx, _, _, rfl, ha, T.cC, T.nC_tree, rfl, .ref b, rfl, b, c.C, dy, _, _, rfl, hb, T.cC, T.nC_tree, rfl, rfl, _, rfl, ite2 (fun z1 => ?_) (fun z1 => ?_)⟩
      · have z1 := V.str.inj (of_decide_eq_true z1)
        refine ⟨.ref a, rfl, a, c.C, dx, _, _, rfl, ha, T.cC, T.nC_parents, rfl, .ref b, rfl, b, c.C, dy, _, _, rfl, hb, T.cC, T.nC_parents, rfl, _, _, .tup hp.sq (dp_strs ps), .tup hp'.sq (dp_strs ps'), shaped_tup _ fun y hy => id_ok (ok.2.2.2.1 y hy), shaped_tup _ fun y hy => id_ok (ok'.2.2.2.1 y hy), _, rfl, ?_⟩
        rw [show PyData.eqv (.tuple (ps.map PyData.str)) (.tuple (ps'.map PyData.str)) = decide (ps = ps') from eqv_tups ps ps']
        refine ite2 (fun z2 => ?_) (fun z2 => ?_)
        · have z2 := of_decide_eq_true z2
          refine ⟨.ref a, rfl, a, c.C, dx, _, _, rfl, ha, T.cC, T.nC_author, rfl, .ref b, rfl, b, c.C, dy, _, _, rfl, hb, T.cC, T.nC_author, rfl, rfl, _, rfl, ite2 (fun z3 => ?_) (fun z3 => ?_)⟩
          · have z3 := V.str.inj (of_decide_eq_true z3)
            refine ⟨.ref a, rfl, a, c.C, dx, _, _, rfl, ha, T.cC, T.nC_time, rfl, .ref b, rfl, b, c.C, dy, _, _, rfl, hb, T.cC, T.nC_time, rfl, rfl, _, rfl, ite2 (fun z4 => ?_) (fun z4 => ?_)⟩
            · have z4 := V.int.inj (of_decide_eq_true z4)
              refine ⟨.ref a, rfl, a, c.C, dx, _, _, rfl, ha, T.cC, T.nC_message, rfl, .ref b, rfl, b, c.C, dy, _, _, rfl, hb, T.cC, T.nC_message, rfl, rfl, ?_⟩
              refine fin _ ?_
              rw [z1, z2, z3, z4, Bool.eq_iff_iff]
              simp
            · exact no fun z => z4 (decide_eq_true (by rw [z.2.2.2.1]))
          · exact no fun z => z3 (decide_eq_true (by rw [z.2.2.1]))
        · exact no fun z => z2 (decide_eq_true z.2.1)
      · exact no fun z => z1 (decide_eq_true (by rw [z.1]))
    | _ => exact iteF (q H (Same.refl H))
  | _ => cases hk
/-! ### == and != of any two objects -/
def rObEq (K : PySem.W.Frag) (c : C4) (n : Bool) : R2 := fun x y H Q => ∃ (a b d d' : Addr) (o o' : Ob), x = .ref a ∧ y = .ref b ∧ ObAt K c H a d o ∧ ObAt K c H b d' o' ∧ o.ok ∧ o'.ok ∧ ∀ H', Same H H' → Q (.bl (if n then !decide (o = o') else decide (o = o'))) H'
theorem TopO.tyx (T : TopO K mg c CS cX iX ek pd) {H : Hp} {a d : Addr} {o : Ob} (h : ObAt K c H a d o) : TyX K H (.ref a) (.ref (c.at o.kd)) := by
  obtain ⟨dx, fs, e⟩ := h.ins
  have I := T.ins _ o.kd_lt
  exact .base (.ins e I.cl I.ha I.hn I.htk I.hm)
theorem op_obEq {X : Cx} (T : TopO X.K X.mg c CS cX iX ek pd) (hr : Room 1 X.A) : OpR X (compareOp .Eq) (rObEq X.K c false) := by
  refine op_mono (op_or (op_ownEq (ownM_of (m_Blob_eq T)) hr noEx0) (op_or (op_ownEq (ownM_of (m_Tree_eq T)) hr noEx0) (op_or (op_ownEq (ownM_of (m_Commit_eq T)) hr noEx0) (op_ownEq (ownM_of (m_Tag_eq T)) hr noEx0)))) fun x y H Q h => ?_
  obtain ⟨a, b, d, d', o, o', rfl, rfl, ha, hb, ok, ok', q⟩ := h
  obtain ⟨dx, fs, e⟩ := ha.ins
  have ty := T.tyx hb
  cases o with
  | blob x => exact .inl ⟨a, dx, fs, _, rfl, e, ty, T.first (j := 0) o'.kd_lt (by decide), a, b, d, d', _, o', rfl, ha, hb, ok, ok', rfl, fun H' s => ⟨_, rfl, q H' s⟩⟩
  | tree es => exact .inr (.inl ⟨a, dx, fs, _, rfl, e, ty, T.first (j := 1) o'.kd_lt (by decide), a, b, d, d', _, o', rfl, ha, hb, ok, ok', rfl, fun H' s => ⟨_, rfl, q H' s⟩⟩)
  | commit t ps au tm msg => exact .inr (.inr (.inl ⟨a, dx, fs, _, rfl, e, ty, T.first (j := 2) o'.kd_lt (by decide), a, b, d, d', _, o', rfl, ha, hb, ok, ok', rfl, fun H' s => ⟨_, rfl, q H' s⟩⟩))
  | tag tg lb msg => exact .inr (.inr (.inr ⟨a, dx, fs, _, rfl, e, ty, T.first (j := 3) o'.kd_lt (by decide), a, b, d, d', _, o', rfl, ha, hb, ok, ok', rfl, fun H' s => ⟨_, rfl, q H' s⟩⟩))
theorem op_obNe {X : Cx} (T : TopO X.K X.mg c CS cX iX ek pd) (hr : Room 2 X.A) : OpR X (compareOp .NotEq) (rObEq X.K c true) := by
  refine op_mono (op_or (op_ownNe (ownM_of (m_Blob_eq T)) hr noEx0 (T.ne 0 (by decide)) (T.ins 0 (by decide)).hm) (op_or (op_ownNe (ownM_of (m_Tree_eq T)) hr noEx0 (T.ne 1 (by decide)) (T.ins 1 (by decide)).hm) (op_or (op_ownNe (ownM_of (m_Commit_eq T)) hr noEx0 (T.ne 2 (by decide)) (T.ins 2 (by decide)).hm) (op_ownNe (ownM_of (m_Tag_eq T)) hr noEx0 (T.ne 3 (by decide)) (T.ins 3 (by decide)).hm)))) fun x y H Q h => ?_
  obtain ⟨a, b, d, d', o, o', rfl, rfl, ha, hb, ok, ok', q⟩ := h
  obtain ⟨dx, fs, e⟩ := ha.ins
  have ty := T.tyx hb
  cases o with
  | blob x => exact .inl ⟨a, dx, fs, _, rfl, e, ty, T.first (j := 0) o'.kd_lt (by decide), a, b, d, d', _, o', rfl, ha, hb, ok, ok', rfl, fun H' s => ⟨_, rfl, q H' s⟩⟩
  | tree es => exact .inr (.inl ⟨a, dx, fs, _, rfl, e, ty, T.first (j := 1) o'.kd_lt (by decide), a, b, d, d', _, o', rfl, ha, hb, ok, ok', rfl, fun H' s => ⟨_, rfl, q H' s⟩⟩)
  | commit t ps au tm msg => exact .inr (.inr (.inl ⟨a, dx, fs, _, rfl, e, ty, T.first (j := 2) o'.kd_lt (by decide), a, b, d, d', _, o', rfl, ha, hb, ok, ok', rfl, fun H' s => ⟨_, rfl, q H' s⟩⟩))
  | tag tg lb msg => exact .inr (.inr (.inr ⟨a, dx, fs, _, rfl, e, ty, T.first (j := 3) o'.kd_lt (by decide), a, b, d, d', _, o', rfl, ha, hb, ok, ok', rfl, fun H' s => ⟨_, rfl, q H' s⟩⟩))
end

end Fk

set_option maxHeartbeats 4000000
namespace Fk
open PySem PySem.Spec PyProof.Rows L2
section
variable {P : Program} {w : World} {K : PySem.W.Frag} {mg : Str → Option Value} {base : Heap} {c : C4} {CS cX iX ek pd : Addr}
/-! ### properties -/
theorem getSp_len {C : Addr} {f : Str} (vs : List V) (H : Hp) (Q : VK) (E : XK) (h : getSp C f vs H Q E) : vs.length = 1 := by
  obtain ⟨a, dx, fs, v, rfl, _⟩ := h
  rfl
theorem p_Blob_text (T : TopO K mg c CS cX iX ek pd) : Prp P w K mg base 1 c.B "text" (getSp c.B "_text") := by
  refine prp_of T.cB T.pBtext sc_Blob_text (fun _ _ _ _ _ _ us hl => match us, hl with | [_], _ => rfl) getSp_len (fun f cdv A outer s H vs Q E hr h => ?_)
  obtain ⟨a, dx, fs, v, rfl, ha, hl, q⟩ := h
  refine ⟨_, (pss_one (ps_ret (pe_fld (pv 0) rfl))), ?_⟩
  exact ⟨.ref a, rfl, a, c.B, dx, fs, v, rfl, ha, T.cB, T.nB_text, hl, q⟩
theorem p_Commit_tree (T : TopO K mg c CS cX iX ek pd) : Prp P w K mg base 1 c.C "tree" (getSp c.C "_tree") := by
  refine prp_of T.cC T.pCtree sc_Commit_tree (fun _ _ _ _ _ _ us hl => match us, hl with | [_], _ => rfl) getSp_len (fun f cdv A outer s H vs Q E hr h => ?_)
  obtain ⟨a, dx, fs, v, rfl, ha, hl, q⟩ := h
  refine ⟨_, (pss_one (ps_ret (pe_fld (pv 0) rfl))), ?_⟩
  exact ⟨.ref a, rfl, a, c.C, dx, fs, v, rfl, ha, T.cC, T.nC_tree, hl, q⟩
theorem p_Commit_parents (T : TopO K mg c CS cX iX ek pd) : Prp P w K mg base 1 c.C "parents" (getSp c.C "_parents") := by
  refine prp_of T.cC T.pCparents sc_Commit_parents (fun _ _ _ _ _ _ us hl => match us, hl with | [_], _ => rfl) getSp_len (fun f cdv A outer s H vs Q E hr h => ?_)
  obtain ⟨a, dx, fs, v, rfl, ha, hl, q⟩ := h
  refine ⟨_, (pss_one (ps_ret (pe_fld (pv 0) rfl))), ?_⟩
  exact ⟨.ref a, rfl, a, c.C, dx, fs, v, rfl, ha, T.cC, T.nC_parents, hl, q⟩
theorem p_Commit_author (T : TopO K mg c CS cX iX ek pd) : Prp P w K mg base 1 c.C "author" (getSp c.C "_author") := by
  refine prp_of T.cC T.pCauthor sc_Commit_author (fun _ _ _ _ _ _ us hl => match us, hl with | [_], _ => rfl) getSp_len (fun f cdv A outer s H vs Q E hr h => ?_)
  obtain ⟨a, dx, fs, v, rfl, ha, hl, q⟩ := h
  refine ⟨_, (pss_one (ps_ret (pe_fld (pv 0) rfl))), ?_⟩
  exact ⟨.ref a, rfl, a, c.C, dx, fs, v, rfl, ha, T.cC, T.nC_author, hl, q⟩
theorem p_Commit_time (T : TopO K mg c CS cX iX ek pd) : Prp P w K mg base 1 c.C "time" (getSp c.C "_time") := by
  refine prp_of T.cC T.pCtime sc_Commit_time (fun _ _ _ _ _ _ us hl => match us, hl with | [_], _ => rfl) getSp_len (fun f cdv A outer s H vs Q E hr h => ?_)
  obtain ⟨a, dx, fs, v, rfl, ha, hl, q⟩ := h
  refine ⟨_, (pss_one (ps_ret (pe_fld (pv 0) rfl))), ?_⟩
  exact ⟨.ref a, rfl, a, c.C, dx, fs, v, rfl, ha, T.cC, T.nC_time, hl, q⟩
theorem p_Commit_message (T : TopO K mg c CS cX iX ek pd) : Prp P w K mg base 1 c.C "message" (getSp c.C "_message") := by
  refine prp_of T.cC T.pCmessage sc_Commit_message (fun _ _ _ _ _ _ us hl => match us, hl with | [_], _ => rfl) getSp_len (fun f cdv A outer s H vs Q E hr h => ?_)
  obtain ⟨a, dx, fs, v, rfl, ha, hl, q⟩ := h
  refine ⟨_, (pss_one (ps_ret (pe_fld (pv 0) rfl))), ?_⟩
  exact ⟨.ref a, rfl, a, c.C, dx, fs, v, rfl, ha, T.cC, T.nC_message, hl, q⟩
theorem p_Tag_target (T : TopO K mg c CS cX iX ek pd) : Prp P w K mg base 1 c.G "target" (getSp c.G "_target") := by
  refine prp_of T.cG T.pGtarget sc_Tag_target (fun _ _ _ _ _ _ us hl => match us, hl with | [_], _ => rfl) getSp_len (fun f cdv A outer s H vs Q E hr h => ?_)
  obtain ⟨a, dx, fs, v, rfl, ha, hl, q⟩ := h
  refine ⟨_, (pss_one (ps_ret (pe_fld (pv 0) rfl))), ?_⟩
  exact ⟨.ref a, rfl, a, c.G, dx, fs, v, rfl, ha, T.cG, T.nG_target, hl, q⟩
theorem p_Tag_label (T : TopO K mg c CS cX iX ek pd) : Prp P w K mg base 1 c.G "label" (getSp c.G "_label") := by
  refine prp_of T.cG T.pGlabel sc_Tag_label (fun _ _ _ _ _ _ us hl => match us, hl with | [_], _ => rfl) getSp_len (fun f cdv A outer s H vs Q E hr h => ?_)
  obtain ⟨a, dx, fs, v, rfl, ha, hl, q⟩ := h
  refine ⟨_, (pss_one (ps_ret (pe_fld (pv 0) rfl))), ?_⟩
  exact ⟨.ref a, rfl, a, c.G, dx, fs, v, rfl, ha, T.cG, T.nG_label, hl, q⟩
theorem p_Tag_message (T : TopO K mg c CS cX iX ek pd) : Prp P w K mg base 1 c.G "message" (getSp c.G "_message") := by
  refine prp_of T.cG T.pGmessage sc_Tag_message (fun _ _ _ _ _ _ us hl => match us, hl with | [_], _ => rfl) getSp_len (fun f cdv A outer s H vs Q E hr h => ?_)
  obtain ⟨a, dx, fs, v, rfl, ha, hl, q⟩ := h
  refine ⟨_, (pss_one (ps_ret (pe_fld (pv 0) rfl))), ?_⟩
  exact ⟨.ref a, rfl, a, c.G, dx, fs, v, rfl, ha, T.cG, T.nG_message, hl, q⟩
def spEntries (c : C4) : Sp := fun vs H Q _ => ∃ (a dx d : Addr) (kvs : List (Key × V)), vs = [.ref a] ∧ H a = some (.ins c.T dx [("_entries", .ref d)]) ∧ H d = some (.dK kvs) ∧ ∀ p, H p = none → Q (.ref p) (upd H p (.dK kvs))
theorem p_Tree_entries (T : TopO K mg c CS cX iX ek pd) : Prp P w K mg base 1 c.T "entries" (spEntries c) := by
  refine prp_of T.cT T.pTentries sc_Tree_entries (fun _ _ _ _ _ _ us hl => match us, hl with | [_], _ => rfl) (fun vs H Q E h => ?_) (fun f cdv A outer s H vs Q E hr h => ?_)
  · obtain ⟨a, dx, d, kvs, rfl, _⟩ := h
    rfl
  · obtain ⟨a, dx, d, kvs, rfl, ha, hd, q⟩ := h
    refine ⟨_, (pss_one (ps_ret (pe_callTy call_dictD (by rfl) T.z_dict (by decide +kernel) (pa_cons (pe_fld (pv 0) rfl) pa_nil)))), ?_⟩
    exact ⟨.ref a, rfl, a, c.T, dx, _, _, rfl, ha, T.cT, T.nT_entries, rfl, d, kvs, rfl, .inl hd, q⟩
/-! ### == of an object and what is none -/
def spEqO (K : PySem.W.Frag) (c : C4) (j : Nat) : Sp := fun vs H Q _ => ∃ (a d : Addr) (o : Ob) (y : V), vs = [.ref a, y] ∧ ObAt K c H a d o ∧ o.kd = j ∧ OddV K H y ∧ Q (.bl false) H
theorem spEqO_len {j : Nat} (vs : List V) (H : Hp) (Q : VK) (E : XK) (h : spEqO K c j vs H Q E) : vs.length = 2 := by
  obtain ⟨a, d, o, y, rfl, _⟩ := h
  rfl
theorem TopO.isO (T : TopO K mg c CS cX iX ek pd) {H : Hp} {y : V} {j : Nat} {Q : VK} (h : OddV K H y) (hj : j < 4) (k : Q (.bl false) H) : rIsi K [y, .ref (c.at j)] H Q := by
  obtain ⟨Ty, hT, ty⟩ := h
  exact ⟨_, _, .type Ty, .ref (c.at j), _, rfl, .own _, ty, T.odd Ty hT j hj, k⟩
theorem m_Blob_eqO (T : TopO K mg c CS cX iX ek pd) : C8.Met P w K mg base 1 c.B "__eq__" (spEqO K c 0) [] := by
  refine met_of T.cB T.eqB sc_Blob_eq (fun _ _ _ _ _ _ us hl => match us, hl with | [_, _], _ => rfl) spEqO_len (fun f cdv A outer s H vs Q E hr h => ?_)
  obtain ⟨a, d, o, y, rfl, ha, hk, hy, q⟩ := h
  refine ⟨_, (pss_one (ps_ret (pe_and (pe_callB call_isi (by rfl) T.z_isinstance (by decide +kernel) (pa_cons (pv 1) (pa_cons (C8.pe_gc (by rfl) T.g_Blob) pa_nil))) (pe_one (pe_cmpR op_eq (pe_fld (pv 0) rfl) (pe_fld (pv 1) rfl) (nomark _)))))), ?_⟩
  refine ⟨y, rfl, ?_⟩
  dsimp only [tCons, tC, tNil]
  exact T.isO (j := 0) hy (by decide) ⟨_, rfl, iteF q⟩
theorem m_Tag_eqO (T : TopO K mg c CS cX iX ek pd) : C8.Met P w K mg base 1 c.G "__eq__" (spEqO K c 3) [] := by
  refine met_of T.cG T.eqG sc_Tag_eq (fun _ _ _ _ _ _ us hl => match us, hl with | [_, _], _ => rfl) spEqO_len (fun f cdv A outer s H vs Q E hr h => ?_)
  obtain ⟨a, d, o, y, rfl, ha, hk, hy, q⟩ := h
  refine ⟨_, (pss_one (ps_ret (pe_and (pe_callB call_isi (by rfl) T.z_isinstance (by decide +kernel) (pa_cons (pv 1) (pa_cons (C8.pe_gc (by rfl) T.g_Tag) pa_nil))) (pe_and (pe_cmpR op_eq (pe_fld (pv 0) rfl) (pe_fld (pv 1) rfl) (nomark _)) (pe_and (pe_cmpR op_eq (pe_fld (pv 0) rfl) (pe_fld (pv 1) rfl) (nomark _)) (pe_one (pe_cmpR op_eq (pe_fld (pv 0) rfl) (pe_fld (pv 1) rfl) (nomark _)))))))), ?_⟩
  refine ⟨y, rfl, ?_⟩
  dsimp only [tCons, tC, tNil]
  exact T.isO (j := 3) hy (by decide) ⟨_, rfl, iteF q⟩
/-- == of a blob or a tag and something that is no object of the program -/
def rObO (K : PySem.W.Frag) (c : C4) : R2 := fun x y H Q => ∃ (a d : Addr) (o : Ob), x = .ref a ∧ ObAt K c H a d o ∧ (o.kd = 0 ∨ o.kd = 3) ∧ OddV K H y ∧ Q (.bl false) H
theorem op_obO {X : Cx} (T : TopO X.K X.mg c CS cX iX ek pd) (hr : Room 1 X.A) : OpR X (compareOp .Eq) (rObO X.K c) := by
  refine op_mono (op_or (op_ownEq (ownM_of (m_Blob_eqO T)) hr noEx0) (op_ownEq (ownM_of (m_Tag_eqO T)) hr noEx0)) fun x y H Q h => ?_
  obtain ⟨a, d, o, rfl, ha, hk, hy, q⟩ := h
  obtain ⟨dx, fs, e⟩ := ha.ins
  obtain ⟨Ty, hT, ty⟩ := id hy
  rcases hk with hk | hk
  · rw [hk] at e
    exact .inl ⟨a, dx, fs, _, rfl, e, ty, T.notF Ty hT 0 (by decide), a, d, o, y, rfl, ha, hk, hy, _, rfl, q⟩
  · rw [hk] at e
    exact .inr ⟨a, dx, fs, _, rfl, e, ty, T.notF Ty hT 3 (by decide), a, d, o, y, rfl, ha, hk, hy, _, rfl, q⟩
end

end Fk

set_option maxHeartbeats 4000000
/-! a def that makes lambdas (its code object known); a lambda handed to a def, by the def's name; the end with the tables of such defs. -/
namespace Fk
open PySem PySem.Spec PyProof.Rows L2 LamX
section
variable {P : Program} {w : World} {K : PySem.W.Frag} {mg : Str → Option Value} {base : Heap}
/-- a def of the module, its code object known -/
def IsDefC (K : PySem.W.Frag) (mg : Str → Option Value) (x : Str) (st : Stmt) (c : Addr) : Prop := ∃ f fd, C8.Def K mg x st f fd ∧ fd.defaults = .none ∧ fd.code = .ref c
theorem cal_ofC {x : Str} {st : Stmt} {N ps : List Str} {k : Nat} {sp : Sp} {c : Addr} (D : IsDefC K mg x st c) (S : FnScope N ps (C8.fnScope st))
    (hb : ∀ (kV doc pm : Value) (an : Option Addr) (cdv ct : Value) (us : List Value), us.length = ps.length → bindArgs (PySem.W.fnOf x x (C8.fnArgs st) (C8.fnBody st) (C8.fnScope st) .none kV doc pm an cdv ct) ⟨us, []⟩ = pure (ps.zip us))
    (len : ∀ vs H Q E, sp vs H Q E → vs.length = ps.length)
    (hbody : ∀ (f : Addr) (A : Around) (outer : List Env) (s : Shared) (H : Hp) (vs : List V) (Q : VK) (E : XK), Room k (A.deeper (envOfC x (C8.fnScope st) s.heap.objs.size f (.ref c))) → sp vs H Q E →
      ∃ t, PSs (cxOf C8.CX0 P w K mg base N x (C8.fnScope st) f (.ref c) A outer s H E).nox (C8.fnBody st) t ∧ t { nx := fun _ H' => Q .non H', rt := Q } (start N vs) H) : C8.Cal P w K mg base (k + 1) x sp [] := by
  obtain ⟨f, fd, D, df, dc⟩ := D
  obtain ⟨oc, od, dV, kV, doc, pm, an, cdv, ct, osl, rfl, lk, hcd⟩ := D.fn.ex
  have e : dV = .none := df
  subst e
  have e2 : cdv = .ref c := dc
  subst e2
  exact ⟨f, _, ps, [], fn_of lk hcd S len fun A outer s H vs Q E hr hsp => by
    obtain ⟨t, h, q⟩ := hbody f A outer s H vs Q E hr hsp
    exact ⟨t, h.nox, q⟩, D.mgf, D.kp, .all (hb kV doc pm an (.ref c) ct), .nil⟩
end
/-- what the lambda's body lets out, its caller is told of -/
theorem takes_lam {X : Cx} {A : Around} {outer : List Env} {s : Shared} {H : Hp} {E : XK} {scope : Scope} {f c' : Addr} : Takes (lamCx X A outer s H E scope f c') (fun cls d _ H' => E cls d H') :=
  takes_of rfl rfl rfl rfl
/-- where an error is let out, the names are as many as ever -/
theorem takes_len {X : Cx} {W : WX} (tk : Takes X W) : Takes X (fun cls d σ H => σ.length = X.N.length → W cls d σ H) := fun u s' ⟨a, B, sI, pins, σ, H, cls, d, e, I, nb, up, sky, na, os, ag, w⟩ =>
  tk u s' ⟨a, B, sI, pins, σ, H, cls, d, e, I, nb, up, sky, na, os, ag, w I.len⟩
section
variable {X : Cx}
/-- x(lambda: body), x a def of one parameter a -/
theorem pe_lamC {T : List (Addr × Str)} {TT : (XK → Hp → VK → Prop) → Hp → VK → Prop} {x a : Str} {st : Stmt} {c P : Addr} {k j : Nat} {Ng : List Str}
    {params : Arguments} {body : Expr} {scope : Scope} {t : XK → TE} {p lpos pos : Pos} (D : IsDef X.K X.mg x st) (Sg : FnScope Ng [a] (C8.fnScope st))
    (hb : ∀ (kV doc pm : Value) (an : Option Addr) (cdv ct : Value) (us : List Value), us.length = 1 → bindArgs (PySem.W.fnOf x x (C8.fnArgs st) (C8.fnBody st) (C8.fnScope st) .none kV doc pm an cdv ct) ⟨us, []⟩ = pure ([a].zip us))
    (hg : Gl X x) (hNg : Ng[0]? = some a) (hva : Vis (C8.fnScope st) a)
    (hG : ∀ (g : Addr) (cdg : Value), GivesTo X Ng x (C8.fnScope st) g cdg (C8.fnBody st) a (X.env.qual ++ "<lambda>") TT)
    (TB : TabB X.base X.mg c P) (hcode : X.env.code = .ref c) (hmT : (P, X.env.qual ++ "<lambda>") ∈ T) (hu : ∀ p ∈ T, p.1 = P → p.2 = X.env.qual ++ "<lambda>") (hr : Room j X.A) (hk : k + 2 ≤ j) (L : LamS X.env.scope scope) (hdef : defaultsOf params X.env = ([], []))
    (hbind : ∀ (q : Str) (cl : List (Str × Addr)) (pm cv ctv : Value), bindArgs (PySem.W.kla_fn "<lambda>" q params body scope cl pm cv ctv) ⟨[], []⟩ = pure [])
    (hbody : ∀ (A : Around) (outer : List Env) (s : Shared) (H : Hp) (E : XK) (f c' : Addr), Room k (A.deeper (lamEnv X scope s.heap.objs.size f c')) → PE (lamCx X A outer s H E scope f c') body (t E))
    (hdb : (x == ("__debug__" : Str)) = false := by decide) (hd : (a == ("__debug__" : Str)) = false := by decide) (hcd : (a == ("__classdict__" : Str)) = false := by decide) :
    PE X (.Call (.Name x p) [.Lambda params body scope lpos] [] pos) (tLam T TT t) := by
  obtain ⟨f, fd, D, df⟩ := D
  obtain ⟨oc, od, dV, kV, doc, pm, an, cdv, ct, osl, rfl, lk, hcg⟩ := D.fn.ex
  have e : dV = .none := df
  subst e
  exact pe_lamcall hg D.mgf D.kp lk hcg (.all (hb kV doc pm an cdv ct)) Sg hNg hva (hG f cdv) TB hcode hmT hu (hr.mono hk) L hdef hbind hbody hdb hd hcd
end
/-! ### the end -/
/-- the def y, its code object and its table -/
def TabD (mg : Str → Option Value) (h : Heap) (y : Str) (c P : Addr) : Prop := ∃ (a : Addr) (o : Obj) (fd : FuncData), mg y = some (.ref a) ∧ h.get? a = some o ∧ o.data = .func fd ∧ fd.code = .ref c ∧ PySem.W.CodeHd h c P ∧ h.get? P = some { cls := .none, data := .fields #[] }
theorem TabD.code {K : PySem.W.Frag} {mg : Str → Option Value} {h : Heap} {y : Str} {c P f : Addr} {fd : FuncData} {oc : Value} {od : Option Addr} {osl : Array (Option Value)} (t : TabD mg h y c P) (X : K.In h) (hm : mg y = some (.ref f)) (lk : K.lookup f = some ⟨oc, od, .func fd, osl⟩) : fd.code = .ref c := by
  obtain ⟨a, o, fd', h1, h2, h3, h4, _⟩ := t
  rw [hm] at h1
  cases h1
  have e := X _ _ lk
  rw [h2] at e
  cases e
  cases h3
  exact h4
theorem walk_ofTabs {l : PySem.W.OpenLaw} {n k : Nat} {q : Program} {loose : List Str} {XP : (Str → Option Value) → Heap → Prop} {YP : World → Heap → Prop} {d : DefRec} {K : Params → PySem.W.Frag} {CX : World → CXT} {x : Str} {ys : List Str}
    (hn : l.most = some n) (hn2 : n ≤ sizeLine) (hdf : d.params.defaults = []) (hr : Room k callerA) (hrec : ∀ y ∈ ys, ((recsOf q).any fun e => e.name == y) = true) (hY : ∀ (w : World) (h : Heap), YP w h → (K w.params).In h)
    (F : ∀ (w : World) (mg : Str → Option Value) (fa : Addr) (h : Heap), YP w h → (K w.params).In h → h.Ns mainGlobals mg → mg d.name = some (.ref fa) → (∀ y ∈ ys, ∃ c P, TabD mg h y c P) → LawAtS l w (K w.params) (CX w) k n x mg fa h)
    (hCX : ∀ (w : World) (H : Hp) (s : Shared) (e : Value) (s' : Shared), CX w [] H s (fun _ _ _ => False) e s' → False) :
    PySem.W.WalkO q loose XP YP l.row.toRowW d [] (fun f vs => PySem.call f vs) := by
  refine Att.attach_callB hn hdf fun w s₀ s₁ mg mb fa o pm cd doc a vs ns G Y ho hd hcd hmg hobj hints hlen hbits hg => ?_
  have KX := hY w _ Y
  have tabs : ∀ y ∈ ys, ∃ c P, TabD mg s₁.heap y c P := fun y hy => by
    obtain ⟨dL, hm, hn1⟩ := List.any_eq_true.mp (hrec y hy)
    have hn2 : dL.name = y := beq_iff_eq.mp hn1
    obtain ⟨a', o', fd', c', P', h1, h2, h3, h4, h5, h6⟩ := G.T.tab dL hm
    rw [hn2] at h1
    exact ⟨c', P', a', o', fd', h1, h2, h3, h4, PySem.W.CodeHd.of h5 h6, h6.2⟩
  obtain ⟨fd, cs, sp, hT, nT, C, hb, hsp, hF⟩ := F w mg fa _ Y KX G.T.g hmg tabs
  exact law_callTs KX G.T.g G.T.b G.T.builtins G.T.nolimit hg hT nT C G.T.bmain hobj hints (Nat.le_trans hlen hn2) hr hF hb (fun H hH hS => hsp H a ns hlen hbits hH hS) fun H e s' => hCX w H s₁ e s'
end Fk

set_option maxHeartbeats 4000000
/-! lambdas that stand in lists: a lambda is an object of its own; a comprehension whose tests call it through a def. -/
namespace Fk
open PySem PySem.Spec PyProof.Rows L2 LamX
/-- the lambda at f, its code object at c' -/
def LamE (cells : List (Str × Addr)) (q : Str) (params : Arguments) (body : Expr) (scope : Scope) (c' f : Addr) : HO :=
  .ext fun h => ∃ pm ctv : Value, h.get? f = some (PySem.W.kla_obj "<lambda>" q params body scope (cloFrom cells scope.names []) pm c' ctv)
theorem lamE_ne {cells : List (Str × Addr)} {q : Str} {params : Arguments} {body : Expr} {scope : Scope} {c' f : Addr} (ps : Array Value) : LamE cells q params body scope c' f ≠ .tbl ps := fun z => by
  unfold LamE at z
  cases z
/-- what stands at f, when it is called, does t -/
def AskOf (X : Cx) (k : Nat) (f : Addr) (t : XK → TE) (H : Hp) : Prop :=
  ∃ (params : Arguments) (body : Expr) (scope : Scope) (c' : Addr), H f = some (LamE X.env.cells (X.env.qual ++ "<lambda>") params body scope c' f) ∧ H c' = some (CodeO c' (X.env.qual ++ "<lambda>")) ∧ LamS X.env.scope scope ∧
    (∀ (q : Str) (cl : List (Str × Addr)) (pm cv ctv : Value), bindArgs (PySem.W.kla_fn "<lambda>" q params body scope cl pm cv ctv) ⟨[], []⟩ = pure []) ∧
    ∀ (A : Around) (outer : List Env) (s : Shared) (H : Hp) (E : XK) (f c' : Addr), Room k (A.deeper (lamEnv X scope s.heap.objs.size f c')) → PE (lamCx X A outer s H E scope f c') body (t E)
theorem AskOf.ext {X : Cx} {k : Nat} {f : Addr} {t : XK → TE} {H H' : Hp} (a : AskOf X k f t H) (e : ExtN H H') : AskOf X k f t H' := by
  obtain ⟨params, body, scope, c', h1, h2, h3⟩ := a
  exact ⟨params, body, scope, c', e _ _ h1 lamE_ne, e _ _ h2 codeO_ne, h3⟩
section
variable {X : Cx} {pins : List (Addr × Obj)} {σ : L2.St} {H : Hp} {s : Shared}
/-- a new lambda is laid and known -/
theorem lam_laid {q : Str} {params : Arguments} {body : Expr} {scope : Scope} {pm ctv : Value} {c' : Addr} {h' : Heap} {tk : Nat} (I : Inv X pins σ H { s with heap := h', toks := tk }) :
    Inv X pins σ (upd H h'.objs.size (LamE X.env.cells q params body scope c' h'.objs.size)) { s with heap := h'.push (PySem.W.kla_obj "<lambda>" q params body scope (cloFrom X.env.cells scope.names []) pm c' ctv), toks := tk } :=
  I.laid (t' := tk) (fun b u e => Heap.get?_push_of_some _ e) (Nat.le_refl _) ⟨⟨pm, ctv, Heap.get?_push_size _ rfl⟩, ⟨_, Heap.get?_push_size _ rfl⟩, fun h1 h2 ⟨pm, ctv, e⟩ k => ⟨pm, ctv, k _ e⟩⟩
theorem ext_new {H H1 : Hp} {f : Addr} {o : HO} (e : ExtN H H1) (n : H1 f = none) : ExtN H (upd H1 f o) := fun b u q z => by
  have w := e b u q z
  rw [upd_ne (ne_of_none w n)]
  exact w
theorem tabs_new {T : List (Addr × Str)} {H1 : Hp} {f : Addr} {o : HO} (t : Tabs T H1) (n : H1 f = none) : Tabs T (upd H1 f o) := t.ext fun b u q => by rw [upd_ne (ne_of_none q n)]; exact q
theorem lam_make3 {T : List (Addr × Str)} {c P : Addr} {params : Arguments} {body : Expr} {scope : Scope} {pos : Pos} {E : Value → Shared → Prop} {Q : Value → Shared → Prop} (I : Inv X pins σ H s) (TB : TabB X.base X.mg c P) (hcode : X.env.code = .ref c)
    (hm : (P, X.env.qual ++ "<lambda>") ∈ T) (hu : ∀ p ∈ T, p.1 = P → p.2 = X.env.qual ++ "<lambda>") (hT : Tabs T H) (hdef : defaultsOf params X.env = ([], [])) (hfree : ∀ y ∈ scope.names, y.2 = .free → ∃ c, X.env.cells.lookup y.1 = some c)
    (h : ∀ (f c' : Addr) (H1 : Hp) (s' : Shared), Inv X pins σ H1 s' → ExtN H H1 → Tabs T H1 → H f = none → H1 f = some (LamE X.env.cells (X.env.qual ++ "<lambda>") params body scope c' f) → H1 c' = some (CodeO c' (X.env.qual ++ "<lambda>")) → Q (.ref f) s') :
    wpAny (model X.prog X.w) X.A (eval (.Lambda params body scope pos) X.env) Q E s := by
  obtain ⟨ps, hP, ht, ha⟩ := hT _ hm
  refine PySem.W.kla_eval hdef ?_
  have bP : s.heap.BuiltinsAt X.mg P := TB.bm.keeps I.bk
  have hP' : s.heap.get? P = some { cls := .none, data := .fields ps } := I.hok P _ hP
  cases hc : codeAmong pos ps.toList with
  | some cv =>
    obtain ⟨c', e, hco⟩ := ha pos cv hc
    subst e
    refine PySem.W.kla_makeFunctionHit (mg := X.mg) (c := c) (P := P) (ps := ps) (closure_ok hfree) I.ok.glob (I.mod.glob.keeps I.bk) hcode (TB.code.keeps I.bk) hP' ht hc bP fun ctv h' tk hx hsz => ?_
    have I1 : Inv X pins σ H { s with heap := h', toks := tk } := I.kept hx
    have n : H h'.objs.size = none := I1.hok.fresh (Nat.le_refl _)
    exact h _ c' _ _ (lam_laid I1) (ext_new (ExtN.refl H) n) (tabs_new hT n) n upd_same (by rw [upd_ne (ne_of_none hco n)]; exact hco)
  | none =>
    refine PySem.W.kla_makeFunction (mg := X.mg) (c := c) (P := P) (ps := ps) (closure_ok hfree) I.ok.glob (I.mod.glob.keeps I.bk) hcode (TB.code.keeps I.bk) hP' ht hc TB.gP bP fun c' ctv h' tk hx hge hlt hrec htb => ?_
    obtain ⟨c2, oc, vs, t, e2, hoc, hd, hv⟩ := hrec
    cases e2
    have nC : H c' = none := I.hok.fresh hge
    have I1 := inv_table (t' := tk) (more := #[rawInt pos.line, rawInt pos.col, .ref c']) (h' := h') I hP (fun b o hb e => hx b o hb e) htb hge ⟨oc, vs, t, hoc, hd, hv⟩
    have n0 : H h'.objs.size = none := I.hok.fresh (Nat.le_trans hge (Nat.le_of_lt hlt))
    have eC : upd (upd H P (.tbl (ps ++ #[rawInt pos.line, rawInt pos.col, .ref c']))) c' (CodeO c' (X.env.qual ++ "<lambda>")) c' = some (CodeO c' (X.env.qual ++ "<lambda>")) := upd_same
    have hE : ExtN H (upd (upd H P (.tbl (ps ++ #[rawInt pos.line, rawInt pos.col, .ref c']))) c' (CodeO c' (X.env.qual ++ "<lambda>"))) := fun b o e n => by
      rw [upd_ne (ne_of_none e nC), upd_ne (fun z => n ps (Option.some.inj (e.symm.trans (by rw [z]; exact hP))))]
      exact e
    have hTn : Tabs T (upd (upd H P (.tbl (ps ++ #[rawInt pos.line, rawInt pos.col, .ref c']))) c' (CodeO c' (X.env.qual ++ "<lambda>"))) := fun p hp => by
      by_cases hb : p.1 = P
      · rw [hu p hp hb, hb]
        refine ⟨_, by rw [upd_ne (ne_of_none hP nC), upd_same], by simpa using PySem.TriplesOk_snoc _ _ _ _ ht, fun p' cv hcv => ?_⟩
        rcases among_app (pos := pos) (c := .ref c') _ ht (by simpa using hcv) with z | z
        · obtain ⟨c0, e1, e2⟩ := ha p' cv z
          exact ⟨c0, e1, hE _ _ e2 codeO_ne⟩
        · exact ⟨c', z, eC⟩
      · obtain ⟨ps', a1, a2, a3⟩ := hT p hp
        refine ⟨ps', by rw [upd_ne (ne_of_none a1 nC), upd_ne hb]; exact a1, a2, fun p' cv hcv => ?_⟩
        obtain ⟨c0, e1, e2⟩ := a3 p' cv hcv
        exact ⟨c0, e1, hE _ _ e2 codeO_ne⟩
    generalize upd (upd H P (.tbl (ps ++ #[rawInt pos.line, rawInt pos.col, .ref c']))) c' (CodeO c' (X.env.qual ++ "<lambda>")) = H1 at I1 hE hTn eC
    have n : H1 h'.objs.size = none := I1.hok.fresh (Nat.le_refl _)
    exact h _ c' _ _ (lam_laid I1) (ext_new hE n) (tabs_new hTn n) n0 upd_same (by rw [upd_ne (ne_of_none eC n)]; exact eC)
/-- a lambda, as a value -/
def tLamV (X : Cx) (T : List (Addr × Str)) (k : Nat) (t : XK → TE) : TE := fun σ H Q => Tabs T H ∧ ∀ f H1, ExtN H H1 → Tabs T H1 → H f = none → AskOf X k f t H1 → Q (.ref f) H1
theorem pe_lamV {T : List (Addr × Str)} {c P : Addr} {k : Nat} {params : Arguments} {body : Expr} {scope : Scope} {t : XK → TE} {lpos : Pos}
    (TB : TabB X.base X.mg c P) (hcode : X.env.code = .ref c) (hmT : (P, X.env.qual ++ "<lambda>") ∈ T) (hu : ∀ p ∈ T, p.1 = P → p.2 = X.env.qual ++ "<lambda>") (L : LamS X.env.scope scope) (hdef : defaultsOf params X.env = ([], []))
    (hbind : ∀ (q : Str) (cl : List (Str × Addr)) (pm cv ctv : Value), bindArgs (PySem.W.kla_fn "<lambda>" q params body scope cl pm cv ctv) ⟨[], []⟩ = pure [])
    (hbody : ∀ (A : Around) (outer : List Env) (s : Shared) (H : Hp) (E : XK) (f c' : Addr), Room k (A.deeper (lamEnv X scope s.heap.objs.size f c')) → PE (lamCx X A outer s H E scope f c') body (t E)) :
    PE X (.Lambda params body scope lpos) (tLamV X T k t) := by
  refine ⟨fun pins s σ H Q I h => ?_⟩
  obtain ⟨hT, h⟩ := h
  exact lam_make3 I TB hcode hmT hu hT hdef (L.has I.ok) fun f c' H1 s' I1 eN T1 nf hf hc => ⟨.ref f, H1, I1, rfl, h f H1 eN T1 nf ⟨params, body, scope, c', hf, hc, L, hbind, hbody⟩⟩
end
/-! ### the def that asks -/
/-- the def that calls what it got; R: what is to be known of the heap where it calls -/
def GivesR (X : Cx) (Ng : List Str) (x : Str) (sg : Scope) (g : Addr) (cdg : Value) (bg : List Stmt) (a : Str) (TT : (XK → Hp → VK → Prop) → Hp → VK → Prop) : Prop :=
  ∀ (R : Hp → Prop) (f : Addr) (s : Shared) (H : Hp) (Q : VK) (tl : XK → Hp → VK → Prop),
    (∀ (W : WX) (pn : List (Addr × Obj)) (xe : Value → Shared → Prop) (E : XK) (p1 p2 : Pos), Takes ((cxOf C8.CX0 X.prog X.w X.K X.mg X.base Ng x sg g cdg X.A X.stack s H C8.E0).tr pn xe) W → (∀ cls d σ' H', E cls d H' → W cls d σ' H') →
      PE ((cxOf C8.CX0 X.prog X.w X.K X.mg X.base Ng x sg g cdg X.A X.stack s H C8.E0).tr pn xe) (.Call (.Name a p1) [] [] p2) (fun σZ HZ Q => σZ[0]? = some (some (.ref f)) ∧ R HZ ∧ tl E HZ Q)) →
    R H → TT tl H Q →
    ∃ t, PSs (cxOf C8.CX0 X.prog X.w X.K X.mg X.base Ng x sg g cdg X.A X.stack s H C8.E0).nox bg t ∧ t { nx := fun _ H' => Q .non H', rt := Q } (L2.start Ng [.ref f]) H
theorem GivesR.to {X : Cx} {Ng : List Str} {x : Str} {sg : Scope} {g : Addr} {cdg : Value} {bg : List Stmt} {a q : Str} {TT : (XK → Hp → VK → Prop) → Hp → VK → Prop} (h : GivesR X Ng x sg g cdg bg a TT) : GivesTo X Ng x sg g cdg bg a q TT :=
  fun f c' s H Q tl act hc ht => h (fun HZ => HZ c' = some (CodeO c' q)) f s H Q tl act hc ht
section
variable {X : Cx} {pins : List (Addr × Obj)} {σ : L2.St} {H HZ : Hp} {s s1 : Shared}
/-- x(), in the def that got a lambda that is known -/
theorem pe_actR {CXg : CXT} {Eg : XK} {Ng : List Str} {qg : Str} {sg : Scope} {g f c' : Addr} {cdg : Value} {params : Arguments} {body : Expr} {scope : Scope} {k i : Nat} {a : Str} {pn : List (Addr × Obj)} {xe : Value → Shared → Prop} {W : WX} {E : XK} {tb : TE} {p1 p2 : Pos}
    (I : Inv X pins σ H s) (L : LamS X.env.scope scope)
    (hbind : ∀ (pm ctv : Value), bindArgs (PySem.W.kla_fn "<lambda>" (X.env.qual ++ "<lambda>") params body scope (cloFrom X.env.cells scope.names []) pm (.ref c') ctv) ⟨[], []⟩ = pure [])
    (tk : Takes ((cxOf CXg X.prog X.w X.K X.mg X.base Ng qg sg g cdg X.A X.stack s H Eg).tr pn xe) W) (hW : ∀ cls d σ' H', E cls d H' → W cls d σ' H') (hr : Room (k + 1) (X.A.deeper (envOfC qg sg s.heap.objs.size g cdg)))
    (hbody : ∀ (A : Around) (outer : List Env) (s : Shared) (H : Hp), Room k (A.deeper (lamEnv X scope s.heap.objs.size f c')) → PE (lamCx X A outer s H E scope f c') body tb)
    (hN : Ng[i]? = some a) (hv : Vis sg a) (hd : (a == ("__debug__" : Str)) = false := by decide) (hcd : (a == ("__classdict__" : Str)) = false := by decide) :
    PE ((cxOf CXg X.prog X.w X.K X.mg X.base Ng qg sg g cdg X.A X.stack s H Eg).tr pn xe) (.Call (.Name a p1) [] [] p2)
      (fun σZ HZ Q => σZ[i]? = some (some (.ref f)) ∧ (HZ f = some (LamE X.env.cells (X.env.qual ++ "<lambda>") params body scope c' f) ∧ HZ c' = some (CodeO c' (X.env.qual ++ "<lambda>"))) ∧ tb σ HZ Q) := by
  refine ⟨fun pinsZ sZ σZ HZ Q IZ h => ?_⟩
  obtain ⟨hs, ⟨hf, hc⟩, ht⟩ := h
  refine wpAny_Call_Name_kw (thn ((pe_var (pos := p1) (i := i) hN hv hd hcd).run pinsZ sZ σZ HZ (fun v H1 => v = .ref f ∧ H1 = HZ) IZ ⟨.ref f, hs, rfl, rfl⟩) fun u s1 ⟨v, H1, I1, r1, q1⟩ => ?_)
  obtain ⟨ev, eH⟩ := q1
  subst ev
  rw [eH] at I1
  obtain rfl : u = Value.ref f := r1
  obtain ⟨pm, ctv, of1⟩ := (I1.hok f _ hf).1
  refine PySem.W.callWith_F0 ⟨_, _, _, _, of1⟩ ?_
  have un : Un (frs X.stack) [] H HZ s.heap s1.heap := I1.base
  obtain ⟨⟨oc, vs, t, hoc, hdc, hvc⟩, _, _⟩ := I1.hok c' _ hc
  have rc : codeAny (model X.prog X.w) (X.A.deeper (envOfC qg sg s.heap.objs.size g cdg)) (.call (.ref f) ⟨[], []⟩) (CR (L2.CX X.prog X.w) (envOfC qg sg s.heap.objs.size g cdg :: X.stack) X.prog X.w HZ s1 Q E) s1 := by
    refine PySem.W.kla_callFunE hr.depth of1 rfl L.co L.gen rfl ⟨c', oc, vs, t, rfl, hoc, hdc, hvc⟩ ?_
    rw [hbind]
    refine wpAny_pure (wpAny_newFunctionEnv (fun y hy => (L.own y hy).2) (fun y hy => absurd hy (by simp)) (fun h₁ hns hsb => ⟨I1.nolimit.fresh _ hsb, ?_⟩) L.kind)
    show codeAny _ _ (.expr body (lamEnv X scope s1.heap.objs.size f c')) _ _
    have kp : ∀ b o, s1.heap.get? b = some o → h₁.get? b = some o := fun b o e => hsb.extBut b o (Nat.ne_of_lt (Heap.lt_size e)) (Heap.get?_push_of_some _ e)
    have J : Inv (lamCx X (X.A.deeper (envOfC qg sg s.heap.objs.size g cdg)) (envOfC qg sg s.heap.objs.size g cdg :: X.stack) s1 HZ E scope f c') [] σ HZ { s1 with heap := h₁, toks := s1.toks + ([] : List (Str × Value)).length } :=
      lam_start2 I L I1.env0 hr.hd un hns kp
    refine PySem.W.kla_codeExpr (wpAny_mono ((hbody _ _ s1 HZ (hr.deeper _)).run [] _ _ HZ Q J ht) (fun v s' hq => ?_) fun e s' hq => hq)
    obtain ⟨w', H', J', rv, q⟩ := hq
    exact ⟨w', H', J'.os, J'.bare, J'.base, J'.hok, rv, q⟩
  have hx : Passes (L2.CX X.prog X.w) ((cxOf CXg X.prog X.w X.K X.mg X.base Ng qg sg g cdg X.A X.stack s H Eg).tr pn xe) E := passes_call tk hW
  refine wpAny_call (codeAny_mono rc fun r s' hq => ?_)
  cases r with
  | error e => exact hx pinsZ σZ HZ s1 e s' I1 hq
  | ok fl =>
    cases fl with
    | ret u => exact I1.after hq
    | next => exact False.elim hq
    | brk => exact False.elim hq
    | cont => exact False.elim hq
end
/-! ### within a comprehension -/
/-- the block started where the def stood so -/
structure Blk0 (X : Cx) (pins : List (Addr × Obj)) (σ : L2.St) (s : Shared) (H : Hp) (fp : List Addr) : Prop where
  I : Inv X pins σ H s
  f : ∀ b ∈ fp, FpOk X pins H b
theorem Blk0.back {X : Cx} {pins pinsY : List (Addr × Obj)} {σ σY : L2.St} {s s' : Shared} {H H' : Hp} {fp : List Addr} {scope : Scope} {ce : Env} (B : Blk0 X pins σ s H fp) (IY : Inv (X.blk s H scope ce fp) pinsY σY H' s') : Inv X pins σ H' s' :=
  B.I.call' (ch := fp) IY.os IY.base IY.hok IY.bare fun b hb => ⟨(B.f b hb).2.2.2.1, (B.f b hb).2.1, (B.f b hb).2.2.2.2.1, (B.f b hb).2.2.2.2.2⟩
/-- x(y), x a def that calls what it got, y a lambda that is known -/
def tAskV (X : Cx) (k : Nat) (TT : (XK → Hp → VK → Prop) → Hp → VK → Prop) (σ0 : L2.St) (te : TE) : TE := fun σ H Q => te σ H fun v H1 => ∃ f t, v = .ref f ∧ AskOf X k f t H1 ∧ TT (fun E H' Q' => t E σ0 H' Q') H1 Q
theorem pe_askY {X : Cx} {pins : List (Addr × Obj)} {σ0 : L2.St} {s0 : Shared} {H0 : Hp} {fp : List Addr} {scope : Scope} {ce : Env} {TT : (XK → Hp → VK → Prop) → Hp → VK → Prop} {x a : Str} {st : Stmt} {k j : Nat} {Ng : List Str} {e : Expr} {te : TE} {p pos : Pos}
    (B : Blk0 X pins σ0 s0 H0 fp) (D : IsDef X.K X.mg x st) (Sg : FnScope Ng [a] (C8.fnScope st))
    (hb : ∀ (kV doc pm : Value) (an : Option Addr) (cdv ct : Value) (us : List Value), us.length = 1 → bindArgs (PySem.W.fnOf x x (C8.fnArgs st) (C8.fnBody st) (C8.fnScope st) .none kV doc pm an cdv ct) ⟨us, []⟩ = pure ([a].zip us))
    (hg : Gl (X.blk s0 H0 scope ce fp) x) (hNg : Ng[0]? = some a) (hva : Vis (C8.fnScope st) a) (hG : ∀ (g : Addr) (cdg : Value), GivesR X Ng x (C8.fnScope st) g cdg (C8.fnBody st) a TT) (hr : Room j X.A) (hk : k + 2 ≤ j) (he : PE (X.blk s0 H0 scope ce fp) e te)
    (hs : starEach [e] (X.blk s0 H0 scope ce fp).env = [(false, eval e (X.blk s0 H0 scope ce fp).env)] := by rfl)
    (hdb : (x == ("__debug__" : Str)) = false := by decide) (hd : (a == ("__debug__" : Str)) = false := by decide) (hcd : (a == ("__classdict__" : Str)) = false := by decide) :
    PE (X.blk s0 H0 scope ce fp) (.Call (.Name x p) [e] [] pos) (tAskV X k TT σ0 te) := by
  obtain ⟨g, fd, D, df⟩ := D
  obtain ⟨oc, od, dV, kV, doc, pm, an, cdv, ct, osl, rfl, lk, hcg⟩ := D.fn.ex
  have ed : dV = .none := df
  subst ed
  refine ⟨fun pinsY s σ H Q IY h => ?_⟩
  have h : te σ H fun v H1 => ∃ f t, v = .ref f ∧ AskOf X k f t H1 ∧ TT (fun E H' Q' => t E σ0 H' Q') H1 Q := h
  refine wpAny_Call_Name_kw (ld_glob IY hg D.mgf ?_ hdb)
  refine PySem.W.callWith_K (h₀ := X.base) IY.ok.mod.kin D.kp ?_ (by rw [hs]; rfl) (by rfl)
  rw [hs]
  show wpAny _ _ (spliced ((false, eval e (X.blk s0 H0 scope ce fp).env) :: backTo pos (starEach [] (X.blk s0 H0 scope ce fp).env))) _ _ s
  refine Calls.spliced_cons (thn (he.run pinsY s σ H _ IY h) fun u s1 ⟨v, H1, I1, r1, f, t, ev, ⟨params, body, lsc, c', hf, hc, L, hbind, hbody⟩, ht⟩ => ?_)
  subst ev
  obtain rfl : u = Value.ref f := r1
  refine Calls.spliced_nil ⟨I1.kIn, ?_⟩
  have IX := B.back I1
  have hbs : L2.Binds X.K (PySem.W.fnOf x x (C8.fnArgs st) (C8.fnBody st) (C8.fnScope st) .none kV doc pm an cdv ct) [a] [] := .all (hb kV doc pm an cdv ct)
  have rc : codeAny (model X.prog X.w) X.A (.call (.ref g) ⟨[.ref f], []⟩) (CR C8.CX0 X.stack X.prog X.w H1 s1 Q C8.E0) s1 := by
    refine run_ofS (N := Ng) (ps := [a]) (us := [.ref f]) (vs := [.ref f]) (k := k + 1) lk hcg Sg (hr.mono hk) IX.env0 (hbs s1 [.ref f] IX.kIn rfl) (.cons rfl .nil) rfl fun hr' => ?_
    obtain ⟨t', ht', hq'⟩ := hG g cdv (fun HZ => HZ f = some (LamE X.env.cells (X.env.qual ++ "<lambda>") params body lsc c' f) ∧ HZ c' = some (CodeO c' (X.env.qual ++ "<lambda>"))) f s1 H1 Q (fun E H' Q' => t E σ0 H' Q')
      (fun W pn xe E p1 p2 tk hW => pe_actR (i := 0) IX L (fun pm ctv => hbind _ _ _ _ _) tk hW hr' (fun A outer s H hr2 => hbody A outer s H E f c' hr2) hNg hva hd hcd) ⟨hf, hc⟩ ht
    exact ⟨t', ht'.nox, hq'⟩
  refine wpAny_call (codeAny_mono rc fun r s2 hq => ?_)
  cases r with
  | error e => exact (show False from hq).elim
  | ok fl =>
    cases fl with
    | ret u => exact I1.after hq
    | next => exact False.elim hq
    | brk => exact False.elim hq
    | cont => exact False.elim hq
end Fk

set_option maxHeartbeats 4000000
/-! a list comprehension whose tests and items may lean on what is known of the def around it (Blk0); steps as in HandS.Comp. -/
namespace Fk
open PySem PySem.Spec PyProof.Rows L2 LamX
section
variable {X : Cx}
theorem pe_lcI {elt tg iter : Expr} {ifs : List Expr} {scope : Scope} {own : List (Str × Nat)} {pos : Pos} {wi : TI} {g : TG} {tt : L2.St → TT} {te : L2.St → TE} (hc : X.calm = true) (hN : X.N.Nodup) (hi : PI X tg iter wi) (ok : BlkOk X.N X.env.scope scope own)
    (hg : ∀ (s : Shared) (H : Hp) (C : Addr) (cl : List (Str × Addr)) (fp : List Addr), PG (X.blk s H scope (compEnvC scope cl C X.env) fp) tg g)
    (ht : ∀ (pins : List (Addr × Obj)) (σ : L2.St) (s : Shared) (H : Hp) (C : Addr) (cl : List (Str × Addr)) (fp : List Addr), Blk0 X pins σ s H fp → PTs (X.blk s H scope (compEnvC scope cl C X.env) fp) ifs (tt σ))
    (he : ∀ (pins : List (Addr × Obj)) (σ : L2.St) (s : Shared) (H : Hp) (C : Addr) (cl : List (Str × Addr)) (fp : List Addr), Blk0 X pins σ s H fp → PE (X.blk s H scope (compEnvC scope cl C X.env) fp) elt (te σ)) (hs : ∀ x, foldedSetIterable iter X.env x = pure x := by intro _; rfl) :
    PE X (.ListComp elt [⟨tg, iter, ifs, 0⟩] scope pos) (fun σ => tLc wi g (tt σ) (te σ) (own.map (·.2)) σ) := by
  refine ⟨fun pins s σ H Q I h => ?_⟩
  rw [eval_ListComp]
  have hfree : ∀ y ∈ scope.names, y.2 = .free → ∃ c, X.env.cells.lookup y.1 = some c := fun y hy e => (ok.free y hy e).elim (fun k => I.ok.has _ (.inl k)) fun k => I.ok.has _ (.inr k)
  refine wpAny_comprehension_free (use := none) rfl hs (closure_ok hfree) ok.kind (fun y hy e => by rw [ok.uniq y hy, e]) (thn (hi.run pins s σ H _ I h) fun xv s1 hx => thn hx fun itv s2 h2 => ?_)
  obtain ⟨it, fp, tn, J, H2, e, I2, T, st2, f2, q⟩ := h2
  subst e
  refine wpAny_newObj_type (newEnv_comp ?_) (by show 0 ≤ sizeLine; decide)
  generalize hD : s2.heap.objs.size = D
  have hDn : H2 D = none := I2.hok.fresh (Nat.le_of_eq hD)
  obtain ⟨W, ⟨m0, w0⟩, turn⟩ := q D hDn
  generalize hs3 : ({ s2 with heap := s2.heap.push { cls := .type "list", data := .seq ([] : List Value).toArray } } : Shared) = s3
  have h3 : s3.heap = s2.heap.push { cls := .type "list", data := .seq ([] : List Value).toArray } := by rw [← hs3]
  have I3 : Inv X pins σ (upd H2 D (.lst [])) s3 := by
    rw [← hs3]
    refine I2.laid (t' := s2.toks) (fun b o e => Heap.get?_push_of_some _ e) (Nat.le_of_eq hD) ⟨Nat.zero_le _, [], 0, .nil, ?_⟩
    rw [← hD]
    exact Heap.get?_push_size _ rfl
  have f3 : ∀ b ∈ fp, FpOk X pins (upd H2 D (.lst [])) b ∧ b < s3.heap.objs.size := fun b hb => by
    obtain ⟨o, e, _⟩ := T.obj _ _ st2 b hb
    have hlt := Heap.lt_size e
    refine ⟨⟨?_, (f2 b hb).2⟩, by rw [h3, Heap.size_push]; exact Nat.lt_succ_of_lt hlt⟩
    rw [upd_ne (by rw [← hD]; exact Nat.ne_of_lt hlt)]
    exact (f2 b hb).1
  have B0 : Blk0 X pins σ s3 (upd H2 D (.lst [])) fp := ⟨I3, fun b hb => (f3 b hb).1⟩
  have st3 : tn 0 s3.heap := T.keep _ _ _ st2 fun b _ o e => by rw [h3]; exact Heap.get?_push_of_some _ e
  have I4 := block_start I3 ok hN f3
  have pg := hg s3 (upd H2 D (.lst [])) s3.heap.objs.size (cellsFrom (s3.heap.objs.size + 1) scope.names (cloFrom X.env.cells scope.names [])) fp
  have pt := ht pins σ s3 (upd H2 D (.lst [])) s3.heap.objs.size (cellsFrom (s3.heap.objs.size + 1) scope.names (cloFrom X.env.cells scope.names [])) fp B0
  have pe := he pins σ s3 (upd H2 D (.lst [])) s3.heap.objs.size (cellsFrom (s3.heap.objs.size + 1) scope.names (cloFrom X.env.cells scope.names [])) fp B0
  show codeAny _ _ (.compStart (.ListComp elt [⟨tg, iter, ifs, 0⟩] scope pos) 0 (.ref it) (.ref D) (compEnvC scope (cellsFrom (s3.heap.objs.size + 1) scope.names (cloFrom X.env.cells scope.names [])) s3.heap.objs.size X.env)) (compPost (model X.prog X.w) X.A X.xe none (EP X pins σ Q) (.ref D) s3.heap.objs.size) { s3 with heap := pushCells (s3.heap.push { cls := .type "dict", data := .dict #[] }) scope.names }
  have nfp : ∀ b ∈ fp, (upd H2 D (.lst [])) b = none := fun b hb => (f3 b hb).1.1
  generalize hce : compEnvC scope (cellsFrom (s3.heap.objs.size + 1) scope.names (cloFrom X.env.cells scope.names [])) s3.heap.objs.size X.env = ce at I4 pg pt pe ⊢
  have cL : ce.locals = s3.heap.objs.size := by subst hce; rfl
  generalize hH3 : upd H2 D (.lst []) = H3 at I3 I4 pg pt pe w0 nfp f3 B0
  generalize hs4 : ({ s3 with heap := pushCells (s3.heap.push { cls := .type "dict", data := .dict #[] }) scope.names } : Shared) = s4 at I4 ⊢
  have st4 : tn 0 s4.heap := T.keep _ _ _ st3 fun b _ o e => by rw [← hs4]; exact pushCells_keeps _ _ _ _ (Heap.get?_push_of_some _ e)
  have stat : ∀ {σ' : L2.St} {H' : Hp} {s' : Shared}, Inv (X.blk s3 H3 scope ce fp) [] σ' H' s' → (∀ b ∈ fp, H' b = none) → ∀ b ∈ fp, FpOk (X.blk s3 H3 scope ce fp) [] H' b := fun {σ' H' s'} I' hn b hb =>
    ⟨hn b hb, (I'.ok.exf b hb).1, I'.ok.exfs b hb, .inl hb, fun x c e => (I'.ok.exf b hb).2 x c e, fun p hp => absurd (show p ∈ ([] : List (Addr × Obj)) ++ [] from hp) (by simp)⟩
  have loop : codeAny (model X.prog X.w) X.A (.compLoop (.ListComp elt [⟨tg, iter, ifs, 0⟩] scope pos) 0 (.ref it) (.ref D) ce) (compPost (model X.prog X.w) X.A X.xe none (EP X pins σ Q) (.ref D) s3.heap.objs.size) s4 := by
    refine compLoop_any (fun n s' => ∃ i H', Inv (X.blk s3 H3 scope ce fp) [] (wipe σ (own.map (·.2))) H' s' ∧ tn i s'.heap ∧ (∀ b ∈ fp, H' b = none) ∧ W i n H') ?_ m0 ⟨0, H3, I4, st4, nfp, w0⟩
    rintro n s5 ⟨i, H5, I5, st5, n5, w5⟩
    rcases turn i n H5 w5 with ⟨stop, qq⟩ | ⟨go, Nx, hNx, step⟩
    · refine thnF (T.done (X.blk s3 H3 scope ce fp) rfl rfl rfl hc i [] s5 _ H5 (fun _ _ => False) I5 (stat I5 n5) st5 stop) fun r s6 ⟨hr, I6⟩ => ?_
      subst hr
      have I7 : Inv X pins σ H5 s6 := B0.back I6
      have nC : H5 s3.heap.objs.size = none := by
        have z : H5 ce.locals = none := I6.free
        rw [cL] at z
        exact z
      obtain ⟨m, hn, _⟩ := I6.loc
      have hn : s6.heap.Ns ce.locals m := hn
      rw [cL] at hn
      refine ⟨m, hn, fun h'' sb => ?_⟩
      obtain ⟨k0, k1, k2, k3, k4, k5⟩ := I3.fpOk (Nat.le_refl _) nC
      exact ⟨.ref D, H5, I7.turned (t' := s6.toks) (fun b o hb e => (sb.2 b hb).trans e) k0 k1 k3 k4 k5, rfl, qq⟩
    · refine thnF (T.item (X.blk s3 H3 scope ce fp) rfl rfl rfl hc i [] s5 _ H5 (fun _ _ => False) I5 (stat I5 n5) st5 go) fun r s6 ⟨u, hr, h6⟩ => ?_
      subst hr
      refine thnF h6 fun _ s7 ⟨x, H7, I7, r7, y7, st7, n7⟩ => ?_
      refine thnF (pg.run _ s7 _ H7 x u _ (I7.pinned (stat I7 n7) (T.obj _ _ st7)) r7 (step x H7 y7)) fun _ s8 ⟨σ8, H8, I8, hw8, q8⟩ => ?_
      refine thnF (pt.run _ s8 σ8 H8 _ I8 q8) fun b s9 ⟨H9, I9, q9⟩ => ?_
      have fin : ∀ {s' : Shared} {H' : Hp}, Inv (X.blk s3 H3 scope ce fp) ([] ++ pinsAt fp s7.heap) σ8 H' s' → Nx H' → ∃ m, m < n ∧ ∃ i H', Inv (X.blk s3 H3 scope ce fp) [] (wipe σ (own.map (·.2))) H' s' ∧ tn i s'.heap ∧ (∀ b ∈ fp, H' b = none) ∧ W i m H' := fun {s' H'} I' nx => by
        obtain ⟨m', hm, w'⟩ := hNx H' nx
        have pin' : ∀ b ∈ fp, ∀ o, s7.heap.get? b = some o → s'.heap.get? b = some o ∧ H' b = none := fun b hb o e =>
          let z := I'.pin (b, o) (List.mem_append_right _ (List.mem_append_right _ (mem_pinsAt hb e)))
          ⟨z.1, z.2.1⟩
        refine ⟨m', hm, i + 1, H', (I'.unpinned (pins := [])).weak (by rw [← hw8, wipe_length]) (fun j v e => ?_), T.keep _ _ _ st7 fun b hb o e => (pin' b hb o e).1, fun b hb => ?_, w'⟩
        · rw [← hw8] at e
          exact (wipe_some e).1
        · obtain ⟨o, e, _⟩ := T.obj _ _ st7 b hb
          exact (pin' b hb o e).2
      cases b with
      | false =>
        simp only [Bool.false_eq_true, if_false] at q9 ⊢
        exact fin I9 q9
      | true =>
        simp only [if_true] at q9 ⊢
        refine thnF (pe.run _ s9 σ8 H9 _ I9 q9) fun z s10 ⟨yv, H10, I10, r10, acc, hD10, hz10, nx⟩ => ?_
        exact app_ok (X := X.blk s3 H3 scope ce fp) I10 hD10 hz10 r10 fun s11 I11 => fin I11 nx
  exact codeAny_compStart_list loop (T.self X.A 0 _ _ _ st4 loop)
end
end Fk

set_option maxHeartbeats 4000000
/-! lambdas of several defs: the name of a code object by its line; tables may be one and the same. -/
namespace Fk
open PySem PySem.Spec PyProof.Rows L2 LamX
/-- the table at P: what it tells bears the name of its line -/
def TabL (qf : Nat → Str) (P : Addr) (H : Hp) : Prop := ∃ ps : Array Value, H P = some (.tbl ps) ∧ TriplesOk ps.toList ∧ ∀ (pos : Pos) (cv : Value), codeAmong pos ps.toList = some cv → ∃ c, cv = .ref c ∧ H c = some (CodeO c (qf pos.line))
def TabsL (qf : Nat → Str) (Ps : List Addr) (H : Hp) : Prop := ∀ P ∈ Ps, TabL qf P H
theorem TabL.ext {qf : Nat → Str} {P : Addr} {H H' : Hp} (t : TabL qf P H) (e : ∀ b o, (∀ l, o ≠ .lst l) → (∀ l, o ≠ .dK l) → H b = some o → H' b = some o) : TabL qf P H' := by
  obtain ⟨ps, h1, h2, h3⟩ := t
  refine ⟨ps, e _ _ (fun l z => nomatch z) (fun l z => nomatch z) h1, h2, fun pos cv hc => ?_⟩
  obtain ⟨c, e1, e2⟩ := h3 pos cv hc
  exact ⟨c, e1, e _ _ (fun l z => nomatch z) (fun l z => nomatch z) e2⟩
theorem TabsL.ext {qf : Nat → Str} {Ps : List Addr} {H H' : Hp} (t : TabsL qf Ps H) (e : ∀ b o, (∀ l, o ≠ .lst l) → (∀ l, o ≠ .dK l) → H b = some o → H' b = some o) : TabsL qf Ps H' := fun P hP => (t P hP).ext e
theorem TabsL.same {qf : Nat → Str} {Ps : List Addr} {H H' : Hp} (t : TabsL qf Ps H) (e : ∀ b o, H b = some o → H' b = some o) : TabsL qf Ps H' := t.ext fun b o _ _ q => e b o q
theorem TabL.nil {qf : Nat → Str} {H : Hp} {P : Addr} (h : H P = some (.tbl #[])) : TabL qf P H := ⟨#[], h, True.intro, fun pos cv hc => by
  have z : codeAmong pos [] = some cv := hc
  simp [codeAmong] at z⟩
theorem among_line {pos p' : Pos} {c cv : Value} (l : List Value) (h : TriplesOk l) (hc : codeAmong p' (l ++ [rawInt pos.line, rawInt pos.col, c]) = some cv) : codeAmong p' l = some cv ∨ (cv = c ∧ p'.line = pos.line) := by
  fun_induction TriplesOk l with
  | case1 =>
    simp only [List.nil_append, rawInt, codeAmong] at hc
    split at hc
    · rename_i q
      have q1 := (Bool.and_eq_true_iff.mp q).1
      have q2 : ((pos.line : Nat) : Int) = ((p'.line : Nat) : Int) := by simpa using q1
      exact .inr ⟨(Option.some.inj hc).symm, by omega⟩
    · cases hc
  | case2 a t b u x rest ih =>
    simp only [List.cons_append, codeAmong] at hc ⊢
    split at hc
    · rename_i q
      rw [if_pos q]
      exact .inl hc
    · rename_i q
      rw [if_neg q]
      exact ih h hc
  | case3 l h1 h2 => exact h.elim
section
variable {X : Cx} {pins : List (Addr × Obj)} {σ : L2.St} {H : Hp} {s : Shared}
theorem lam_make4 {qf : Nat → Str} {Ps : List Addr} {c P : Addr} {params : Arguments} {body : Expr} {scope : Scope} {pos : Pos} {E : Value → Shared → Prop} {Q : Value → Shared → Prop} (I : Inv X pins σ H s) (TB : TabB X.base X.mg c P) (hcode : X.env.code = .ref c)
    (hm : P ∈ Ps) (hu : qf pos.line = X.env.qual ++ "<lambda>") (hT : TabsL qf Ps H) (hdef : defaultsOf params X.env = ([], [])) (hfree : ∀ y ∈ scope.names, y.2 = .free → ∃ c, X.env.cells.lookup y.1 = some c)
    (h : ∀ (f c' : Addr) (H1 : Hp) (s' : Shared), Inv X pins σ H1 s' → ExtN H H1 → TabsL qf Ps H1 → H f = none → H1 f = some (LamE X.env.cells (X.env.qual ++ "<lambda>") params body scope c' f) → H1 c' = some (CodeO c' (X.env.qual ++ "<lambda>")) → Q (.ref f) s') :
    wpAny (model X.prog X.w) X.A (eval (.Lambda params body scope pos) X.env) Q E s := by
  obtain ⟨ps, hP, ht, ha⟩ := hT _ hm
  refine PySem.W.kla_eval hdef ?_
  have bP : s.heap.BuiltinsAt X.mg P := TB.bm.keeps I.bk
  have hP' : s.heap.get? P = some { cls := .none, data := .fields ps } := I.hok P _ hP
  have tnew : ∀ {H1 : Hp} {f : Addr} {o : HO}, TabsL qf Ps H1 → H1 f = none → TabsL qf Ps (upd H1 f o) := fun t n => t.same fun b u q => by rw [upd_ne (ne_of_none q n)]; exact q
  cases hc : codeAmong pos ps.toList with
  | some cv =>
    obtain ⟨c', e, hco⟩ := ha pos cv hc
    subst e
    rw [hu] at hco
    refine PySem.W.kla_makeFunctionHit (mg := X.mg) (c := c) (P := P) (ps := ps) (closure_ok hfree) I.ok.glob (I.mod.glob.keeps I.bk) hcode (TB.code.keeps I.bk) hP' ht hc bP fun ctv h' tk hx hsz => ?_
    have I1 : Inv X pins σ H { s with heap := h', toks := tk } := I.kept hx
    have n : H h'.objs.size = none := I1.hok.fresh (Nat.le_refl _)
    exact h _ c' _ _ (lam_laid I1) (ext_new (ExtN.refl H) n) (tnew hT n) n upd_same (by rw [upd_ne (ne_of_none hco n)]; exact hco)
  | none =>
    refine PySem.W.kla_makeFunction (mg := X.mg) (c := c) (P := P) (ps := ps) (closure_ok hfree) I.ok.glob (I.mod.glob.keeps I.bk) hcode (TB.code.keeps I.bk) hP' ht hc TB.gP bP fun c' ctv h' tk hx hge hlt hrec htb => ?_
    obtain ⟨c2, oc, vs, t, e2, hoc, hd, hv⟩ := hrec
    cases e2
    have nC : H c' = none := I.hok.fresh hge
    have I1 := inv_table (t' := tk) (more := #[rawInt pos.line, rawInt pos.col, .ref c']) (h' := h') I hP (fun b o hb e => hx b o hb e) htb hge ⟨oc, vs, t, hoc, hd, hv⟩
    have n0 : H h'.objs.size = none := I.hok.fresh (Nat.le_trans hge (Nat.le_of_lt hlt))
    have eC : upd (upd H P (.tbl (ps ++ #[rawInt pos.line, rawInt pos.col, .ref c']))) c' (CodeO c' (X.env.qual ++ "<lambda>")) c' = some (CodeO c' (X.env.qual ++ "<lambda>")) := upd_same
    have hE : ExtN H (upd (upd H P (.tbl (ps ++ #[rawInt pos.line, rawInt pos.col, .ref c']))) c' (CodeO c' (X.env.qual ++ "<lambda>"))) := fun b o e n => by
      rw [upd_ne (ne_of_none e nC), upd_ne (fun z => n ps (Option.some.inj (e.symm.trans (by rw [z]; exact hP))))]
      exact e
    have hTn : TabsL qf Ps (upd (upd H P (.tbl (ps ++ #[rawInt pos.line, rawInt pos.col, .ref c']))) c' (CodeO c' (X.env.qual ++ "<lambda>"))) := fun p hp => by
      by_cases hb : p = P
      · subst hb
        refine ⟨_, by rw [upd_ne (ne_of_none hP nC), upd_same], by simpa using PySem.TriplesOk_snoc _ _ _ _ ht, fun p' cv hcv => ?_⟩
        rcases among_line (pos := pos) (c := .ref c') _ ht (by simpa using hcv) with z | ⟨z, z2⟩
        · obtain ⟨c0, e1, e2⟩ := ha p' cv z
          exact ⟨c0, e1, hE _ _ e2 codeO_ne⟩
        · exact ⟨c', z, by rw [z2, hu]; exact eC⟩
      · obtain ⟨ps', a1, a2, a3⟩ := hT p hp
        refine ⟨ps', by rw [upd_ne (ne_of_none a1 nC), upd_ne hb]; exact a1, a2, fun p' cv hcv => ?_⟩
        obtain ⟨c0, e1, e2⟩ := a3 p' cv hcv
        exact ⟨c0, e1, hE _ _ e2 codeO_ne⟩
    generalize upd (upd H P (.tbl (ps ++ #[rawInt pos.line, rawInt pos.col, .ref c']))) c' (CodeO c' (X.env.qual ++ "<lambda>")) = H1 at I1 hE hTn eC
    have n : H1 h'.objs.size = none := I1.hok.fresh (Nat.le_refl _)
    exact h _ c' _ _ (lam_laid I1) (ext_new hE n) (tnew hTn n) n0 upd_same (by rw [upd_ne (ne_of_none eC n)]; exact eC)
/-- a lambda, as a value -/
def tLamL (X : Cx) (qf : Nat → Str) (Ps : List Addr) (k : Nat) (t : XK → TE) : TE := fun σ H Q => TabsL qf Ps H ∧ ∀ f H1, ExtN H H1 → TabsL qf Ps H1 → H f = none → AskOf X k f t H1 → Q (.ref f) H1
theorem pe_lamL {qf : Nat → Str} {Ps : List Addr} {c P : Addr} {k : Nat} {params : Arguments} {body : Expr} {scope : Scope} {t : XK → TE} {lpos : Pos}
    (TB : TabB X.base X.mg c P) (hcode : X.env.code = .ref c) (hm : P ∈ Ps) (hu : qf lpos.line = X.env.qual ++ "<lambda>") (L : LamS X.env.scope scope) (hdef : defaultsOf params X.env = ([], []))
    (hbind : ∀ (q : Str) (cl : List (Str × Addr)) (pm cv ctv : Value), bindArgs (PySem.W.kla_fn "<lambda>" q params body scope cl pm cv ctv) ⟨[], []⟩ = pure [])
    (hbody : ∀ (A : Around) (outer : List Env) (s : Shared) (H : Hp) (E : XK) (f c' : Addr), Room k (A.deeper (lamEnv X scope s.heap.objs.size f c')) → PE (lamCx X A outer s H E scope f c') body (t E)) :
    PE X (.Lambda params body scope lpos) (tLamL X qf Ps k t) := by
  refine ⟨fun pins s σ H Q I h => ?_⟩
  obtain ⟨hT, h⟩ := h
  exact lam_make4 I TB hcode hm hu hT hdef (L.has I.ok) fun f c' H1 s' I1 eN T1 nf hf hc => ⟨.ref f, H1, I1, rfl, h f H1 eN T1 nf ⟨params, body, scope, c', hf, hc, L, hbind, hbody⟩⟩
end
/-- x(y) in the def itself -/
def tAskX (X : Cx) (k : Nat) (TT : (XK → Hp → VK → Prop) → Hp → VK → Prop) (te : TE) : TE := fun σ H Q => te σ H fun v H1 => ∃ f t, v = .ref f ∧ AskOf X k f t H1 ∧ TT (fun E H' Q' => t E σ H' Q') H1 Q
theorem pe_askX {X : Cx} {TT : (XK → Hp → VK → Prop) → Hp → VK → Prop} {x a : Str} {st : Stmt} {k j : Nat} {Ng : List Str} {e : Expr} {te : TE} {p pos : Pos}
    (D : IsDef X.K X.mg x st) (Sg : FnScope Ng [a] (C8.fnScope st))
    (hb : ∀ (kV doc pm : Value) (an : Option Addr) (cdv ct : Value) (us : List Value), us.length = 1 → bindArgs (PySem.W.fnOf x x (C8.fnArgs st) (C8.fnBody st) (C8.fnScope st) .none kV doc pm an cdv ct) ⟨us, []⟩ = pure ([a].zip us))
    (hg : Gl X x) (hNg : Ng[0]? = some a) (hva : Vis (C8.fnScope st) a) (hG : ∀ (g : Addr) (cdg : Value), GivesR X Ng x (C8.fnScope st) g cdg (C8.fnBody st) a TT) (hr : Room j X.A) (hk : k + 2 ≤ j) (he : PE X e te)
    (hs : starEach [e] X.env = [(false, eval e X.env)] := by rfl)
    (hdb : (x == ("__debug__" : Str)) = false := by decide) (hd : (a == ("__debug__" : Str)) = false := by decide) (hcd : (a == ("__classdict__" : Str)) = false := by decide) :
    PE X (.Call (.Name x p) [e] [] pos) (tAskX X k TT te) := by
  obtain ⟨g, fd, D, df⟩ := D
  obtain ⟨oc, od, dV, kV, doc, pm, an, cdv, ct, osl, rfl, lk, hcg⟩ := D.fn.ex
  have ed : dV = .none := df
  subst ed
  refine ⟨fun pins s σ H Q I h => ?_⟩
  have h : te σ H fun v H1 => ∃ f t, v = .ref f ∧ AskOf X k f t H1 ∧ TT (fun E H' Q' => t E σ H' Q') H1 Q := h
  refine wpAny_Call_Name_kw (ld_glob I hg D.mgf ?_ hdb)
  refine PySem.W.callWith_K (h₀ := X.base) I.ok.mod.kin D.kp ?_ (by rw [hs]; rfl) (by rfl)
  rw [hs]
  show wpAny _ _ (spliced ((false, eval e X.env) :: backTo pos (starEach [] X.env))) _ _ s
  refine Calls.spliced_cons (thn (he.run pins s σ H _ I h) fun u s1 ⟨v, H1, I1, r1, f, t, ev, ⟨params, body, lsc, c', hf, hc, L, hbind, hbody⟩, ht⟩ => ?_)
  subst ev
  obtain rfl : u = Value.ref f := r1
  refine Calls.spliced_nil ⟨I1.kIn, ?_⟩
  have hbs : L2.Binds X.K (PySem.W.fnOf x x (C8.fnArgs st) (C8.fnBody st) (C8.fnScope st) .none kV doc pm an cdv ct) [a] [] := .all (hb kV doc pm an cdv ct)
  have rc : codeAny (model X.prog X.w) X.A (.call (.ref g) ⟨[.ref f], []⟩) (CR C8.CX0 X.stack X.prog X.w H1 s1 Q C8.E0) s1 := by
    refine run_ofS (N := Ng) (ps := [a]) (us := [.ref f]) (vs := [.ref f]) (k := k + 1) lk hcg Sg (hr.mono hk) I1.env0 (hbs s1 [.ref f] I1.kIn rfl) (.cons rfl .nil) rfl fun hr' => ?_
    obtain ⟨t', ht', hq'⟩ := hG g cdv (fun HZ => HZ f = some (LamE X.env.cells (X.env.qual ++ "<lambda>") params body lsc c' f) ∧ HZ c' = some (CodeO c' (X.env.qual ++ "<lambda>"))) f s1 H1 Q (fun E H' Q' => t E σ H' Q')
      (fun W pn xe E p1 p2 tk hW => pe_actR (i := 0) I1 L (fun pm ctv => hbind _ _ _ _ _) tk hW hr' (fun A outer s H hr2 => hbody A outer s H E f c' hr2) hNg hva hd hcd) ⟨hf, hc⟩ ht
    exact ⟨t', ht'.nox, hq'⟩
  refine wpAny_call (codeAny_mono rc fun r s2 hq => ?_)
  cases r with
  | error e => exact (show False from hq).elim
  | ok fl =>
    cases fl with
    | ret u => exact I1.after hq
    | next => exact False.elim hq
    | brk => exact False.elim hq
    | cont => exact False.elim hq
end Fk

set_option maxHeartbeats 4000000
namespace Fk
open PySem PySem.Spec PyProof.Rows L2
open LamX
/-! ### refused -/
def Bad (c : Addr) (H : Hp) (E : XK) : Prop := ∀ (dd : Addr) (y : V) (H' : Hp), Same H H' → H' dd = some (.xd [("why", y)]) → E (.ref c) (some dd) H'
theorem Bad.same {c : Addr} {H H1 : Hp} {E : XK} (b : Bad c H E) (s : Same H H1) : Bad c H1 E := fun dd y H' s' h => b dd y H' (s.trans s') h
/-- a class whose making may let an error out, by keywords -/
structure MakKX (P : Program) (w : World) (K : PySem.W.Frag) (mg : Str → Option Value) (base : Heap) (k : Nat) (x : Str) (C : Addr) (sp : Sp) (n : Nat) (ks : List Str) (gV : List V → List V → List V) : Prop where
  ex : ∃ (f : Addr) (fd : FuncData) (ps : List Str) (g : List Value → List Value → List Value), Mk K C f ∧ FnOk P w K mg base (L2.CX P w) k f fd ps sp ∧ mg x = some (.ref C) ∧ KBn K fd ps n ks g gV
theorem pe_mkX {X : Cx} {CX : CXT} {k j : Nat} {C : Addr} {x : Str} {sp : Sp} {dvs : List V} {E : XK} {e : Expr} {es : List Expr} {t : TA} {p pos : Pos} (c : MakX X.prog X.w X.K X.mg X.base CX k x C sp dvs) (hr : Room j X.A) (hk : k + 1 ≤ j) (hg : Gl X x) (hx : Passes CX X E) (ha : PA X (e :: es) t)
    (hdb : (x == ("__debug__" : Str)) = false := by decide) (he : starEach (e :: es) X.env = (false, eval e X.env) :: starEach es X.env := by rfl) (hpl : (backTo pos (starEach es X.env)).any (·.1) = false := by rfl) :
    PE X (.Call (.Name x p) (e :: es) [] pos) (tMake C sp dvs E t) := by
  obtain ⟨f, fd, ps, ds, M, F, hm, b, d⟩ := c.ex
  exact pe_make M F (hr.mono hk) hg hm b d hx ha hdb he hpl
theorem fn_or {P : Program} {w : World} {K : PySem.W.Frag} {mg : Str → Option Value} {base : Heap} {CX : CXT} {k : Nat} {f : Addr} {fd : FuncData} {ps : List Str} {sp1 sp2 : Sp} (h1 : FnOk P w K mg base CX k f fd ps sp1) (h2 : FnOk P w K mg base CX k f fd ps sp2) :
    FnOk P w K mg base CX k f fd ps (fun vs H Q E => sp1 vs H Q E ∨ sp2 vs H Q E) :=
  ⟨fun vs H Q E h => h.elim (h1.len vs H Q E) (h2.len vs H Q E), fun A outer s H args us vs Q E hr he hb hv hs => hs.elim (h1.run A outer s H args us vs Q E hr he hb hv) (h2.run A outer s H args us vs Q E hr he hb hv)⟩
section
variable {P : Program} {w : World} {K : PySem.W.Frag} {mg : Str → Option Value} {base : Heap} {c : C4} {CS cX iX ek pd : Addr}
def spBlobN (cX : Addr) : Sp := fun vs H Q E => ∃ (a : Addr) (v : V), vs = [.ref a, v] ∧ Thing H v ∧ evalV isTextF v = false ∧ Bad cX H E
theorem k_BlobX (T : TopO K mg c CS cX iX ek pd) : MakX P w K mg base (L2.CX P w) 4 "Blob" c.B (spBlobN cX) [] := by
  obtain ⟨f, fd, M, F, df⟩ := T.iniB
  refine ⟨f, fd, ["self", "text"], [], M, ?_, T.mgB, F.binds df fun _ _ _ _ _ _ us hl => match us, hl with | [_, _], _ => rfl, .nil⟩
  obtain ⟨oc, od, dV, kV, doc, pm, an, cdv, ct, osl, rfl, lk, hcd⟩ := F.ex
  refine fn_of lk hcd sc_Blob_init (fun vs H Q E h => ?_) (fun A outer s H vs Q E hr h => ?_)
  · obtain ⟨a, v, rfl, _⟩ := h
    rfl
  · obtain ⟨a, v, rfl, t, hv, q⟩ := h
    refine ⟨_, (pss_cons (ps_if (pt_not (pt_val (C8.pe_c (c_is_text T.toTop) hr (by decide) (by rfl) (pa_cons (pv 1) pa_nil))))
      (pss_one (ps_raise rfl (takes_of rfl rfl rfl rfl) (rs_of T.eN (hr.mono (by decide)) (by rfl) (pa_cons pe_str pa_nil))))
      pss_nil)
      (pss_one (ps_fld (pv 0) (pv 1) rfl))), ?_⟩
    refine ⟨v, rfl, v, rfl, t, fun H1 s1 => ⟨_, rfl, ?_⟩⟩
    rw [hv]
    exact iteT ⟨(by show 1 ≤ 1000; decide), do_raise T.eN fun dd H3 s3 _ h3 => q dd _ H3 (s1.trans s3) h3⟩
/-- a tag: what of it is wrong -/
def BadTag (H : Hp) (tg lb msg : V) : Prop := Thing H tg ∧ Thing H lb ∧ Thing H msg ∧ (evalV isIdF tg = false ∨ evalV isSegF lb = false ∨ evalV msgF msg = false)
def spTagN (cX : Addr) : Sp := fun vs H Q E => ∃ (a : Addr) (tg lb msg : V), vs = [.ref a, tg, lb, msg] ∧ BadTag H tg lb msg ∧ Bad cX H E
theorem iniX_Tag (T : TopO K mg c CS cX iX ek pd) : ∀ f fd, C8.Fun K "__init__" "Tag.__init__" s_Tag_init f fd → FnOk P w K mg base (L2.CX P w) 6 f fd ["self", "target", "label", "message"] (spTagN cX) := fun f fd F => by
  obtain ⟨oc, od, dV, kV, doc, pm, an, cdv, ct, osl, rfl, lk, hcd⟩ := F.ex
  refine fn_of lk hcd sc_Tag_init (fun vs H Q E h => ?_) (fun A outer s H vs Q E hr h => ?_)
  · obtain ⟨a, tg, lb, msg, rfl, _⟩ := h
    rfl
  · obtain ⟨a, tg, lb, msg, rfl, ⟨t1, t2, t3, hb⟩, q⟩ := h
    refine ⟨_, (pss_cons (ps_if (pt_not (pt_val (C8.pe_c (c_is_id T.toTop) hr (by decide) (by rfl) (pa_cons (pv 1) pa_nil))))
      (pss_one (ps_raise rfl (takes_of rfl rfl rfl rfl) (rs_of T.eN (hr.mono (by decide)) (by rfl) (pa_cons pe_str pa_nil))))
      pss_nil)
      (pss_cons (ps_if (pt_not (pt_val (C8.pe_c (c_is_segment T.toTop) hr (by decide) (by rfl) (pa_cons (pv 2) pa_nil))))
      (pss_one (ps_raise rfl (takes_of rfl rfl rfl rfl) (rs_of T.eN (hr.mono (by decide)) (by rfl) (pa_cons pe_str pa_nil))))
      pss_nil)
      (pss_cons (ps_if (pt_not (pt_val (C8.pe_c (c_is_message T.toTop) hr (by decide) (by rfl) (pa_cons (pv 3) pa_nil))))
      (pss_one (ps_raise rfl (takes_of rfl rfl rfl rfl) (rs_of T.eN (hr.mono (by decide)) (by rfl) (pa_cons pe_str pa_nil))))
      pss_nil)
      (pss_cons (ps_fld (pv 0) (pv 1) rfl)
      (pss_cons (ps_fld (pv 0) (pv 2) rfl)
      (pss_one (ps_fld (pv 0) (pv 3) rfl))))))), ?_⟩
    refine ⟨tg, rfl, tg, rfl, t1, fun H1 s1 => ⟨_, rfl, ?_⟩⟩
    refine ite2 (fun h1 => ?_) (fun h1 => ?_)
    · exact ⟨(by show 1 ≤ 1000; decide), do_raise T.eN fun dd H3 s3 _ h3 => q dd _ H3 (s1.trans s3) h3⟩
    · refine ⟨lb, rfl, lb, rfl, t2.same s1, fun H2 s2 => ⟨_, rfl, ite2 (fun h2 => ?_) (fun h2 => ?_)⟩⟩
      · exact ⟨(by show 1 ≤ 1000; decide), do_raise T.eN fun dd H3 s3 _ h3 => q dd _ H3 ((s1.trans s2).trans s3) h3⟩
      · refine ⟨msg, rfl, msg, rfl, t3.same (s1.trans s2), fun H4 s4 => ⟨_, rfl, ite2 (fun h3 => ?_) (fun h3 => ?_)⟩⟩
        · exact ⟨(by show 1 ≤ 1000; decide), do_raise T.eN fun dd H3 s3 _ h3 => q dd _ H3 (((s1.trans s2).trans s4).trans s3) h3⟩
        · exfalso
          simp only [Bool.not_eq_true, Bool.not_eq_true', Bool.not_eq_false'] at h1 h2 h3
          rcases hb with z | z | z
          · rw [z] at h1; exact absurd h1 (by decide)
          · rw [z] at h2; exact absurd h2 (by decide)
          · rw [z] at h3; exact absurd h3 (by decide)
theorem k_TagX_2 (T : TopO K mg c CS cX iX ek pd) : MakKX P w K mg base 6 "Tag" c.G (spTagN cX) 2 ["label", "message"] (fun vs zs => vs ++ zs) := by
  obtain ⟨f, fd, g, M, F, b⟩ := T.kG2
  exact ⟨f, fd, _, g, M, iniX_Tag T f fd F, T.mgG, b⟩
theorem k_TagX_1 (T : TopO K mg c CS cX iX ek pd) : MakKX P w K mg base 6 "Tag" c.G (spTagN cX) 2 ["label"] (fun vs zs => vs ++ (zs ++ [.str ""])) := by
  obtain ⟨f, fd, g, M, F, b⟩ := T.kG1
  exact ⟨f, fd, _, g, M, iniX_Tag T f fd F, T.mgG, b⟩
/-- the parents of a commit: a tuple of things, or no tuple -/
inductive Par (K : PySem.W.Frag) (H : Hp) : V → Bool → Prop
  | ids (p : Addr) (xs : List V) (h : TupK K H p xs) (hl : xs.length ≤ 60) (ht : ∀ x ∈ xs, Thing H x) (hb : xs.all (evalV isIdF) = false) : Par K H (.ref p) false
  | many (p : Addr) (ps : List Str) (h : TupK K H p (ps.map V.str)) (hl : ps.length ≤ 60) (hi : ∀ x ∈ ps, isIdF x = true) : Par K H (.ref p) (decide (ps.length ≤ 6) && decide ps.Nodup)
  | no (v : V) (h : NoTup K H v) : Par K H v false
theorem TyX.ext {K : PySem.W.Frag} {H H' : Hp} {v : V} {t : Value} (e : ExtN H H') (h : TyX K H v t) : TyX K H' v t := by
  cases h with
  | base b =>
    refine .base ?_
    cases b with
    | non => exact .non
    | bl x => exact .bl x
    | int i => exact .int i
    | str x => exact .str x
    | flt x => exact .flt x
    | lst h => exact .lst (e _ _ h fun ps z => nomatch z)
    | frz h => exact .frz (e _ _ h fun ps z => nomatch z)
    | tup h => exact .tup (e _ _ h fun ps z => nomatch z)
    | dK h => exact .dK (e _ _ h fun ps z => nomatch z)
    | dT h => exact .dT (e _ _ h fun ps z => nomatch z)
    | ins h c1 c2 c3 c4 c5 => exact .ins (e _ _ h fun ps z => nomatch z) c1 c2 c3 c4 c5
  | byt b => exact .byt b
  | set h => exact .set (e _ _ h fun ps z => nomatch z)
  | kList h c => exact .kList h c
  | kTuple h c => exact .kTuple h c
  | kDict h c => exact .kDict h c
  | fTuple h => exact .fTuple (e _ _ h fun ps z => nomatch z)
  | fDict h => exact .fDict (e _ _ h fun ps z => nomatch z)
theorem NoTup.ext {H H' : Hp} {v : V} (e : ExtN H H') (h : NoTup K H v) : NoTup K H' v := let ⟨Ty, hT, ty⟩ := h; ⟨Ty, hT, TyX.ext e ty⟩
theorem ext_same {H H' : Hp} (s : Same H H') : ExtN H H' := fun b o z _ => s b o z
theorem Par.same {H H' : Hp} {v : V} {b : Bool} (h : Par K H v b) (s : Same H H') : Par K H' v b := by
  cases h with
  | ids p xs h hl ht hb => exact .ids p xs (h.keep (TupKeep.of s)) hl (fun x hx => (ht x hx).same s) hb
  | many p ps h hl hi => exact .many p ps (h.keep (TupKeep.of s)) hl hi
  | no _ h => exact .no v (NoTup.ext (ext_same s) h)
/-- a commit: what of it is wrong -/
def BadCom (K : PySem.W.Frag) (H : Hp) (t p au tm msg : V) : Prop := ∃ b, Thing H t ∧ Par K H p b ∧ Thing H au ∧ Thing H tm ∧ Thing H msg ∧ (evalV isIdF t = false ∨ b = false ∨ evalV (isWordF LET) au = false ∨ timeV tm = false ∨ evalV msgF msg = false)
def spCommitN (K : PySem.W.Frag) (cX : Addr) : Sp := fun vs H Q E => ∃ (a : Addr) (t p au tm msg : V), vs = [.ref a, t, p, au, tm, msg] ∧ BadCom K H t p au tm msg ∧ Bad cX H E
theorem iniX_Commit (T : TopO K mg c CS cX iX ek pd) : ∀ f fd, C8.Fun K "__init__" "Commit.__init__" s_Commit_init f fd → FnOk P w K mg base (L2.CX P w) 6 f fd ["self", "tree", "parents", "author", "time", "message"] (spCommitN K cX) := fun f fd F => by
  obtain ⟨oc, od, dV, kV, doc, pm, an, cdv, ct, osl, rfl, lk, hcd⟩ := F.ex
  refine fn_of lk hcd sc_Commit_init (fun vs H Q E h => ?_) (fun A outer s H vs Q E hr h => ?_)
  · obtain ⟨a, t, p, au, tm, msg, rfl, _⟩ := h
    rfl
  · obtain ⟨a, t, p, au, tm, msg, rfl, ⟨b, t1, hp, t3, t4, t5, hb⟩, q⟩ := h
    have raise : ∀ {H1 : Hp} (s1 : Same H H1) (y : V), ∀ (d : Addr) (H' : Hp), Same H1 H' → H1 d = none → H' d = some (.xd [("why", y)]) → E (.ref cX) (some d) H' := fun {H1} s1 y d H3 s3 _ h3 => q d y H3 (s1.trans s3) h3
    refine ⟨_, (pss_cons (ps_if (pt_not (pt_val (C8.pe_c (c_is_id T.toTop) hr (by decide) (by rfl) (pa_cons (pv 1) pa_nil))))
      (pss_one (ps_raise rfl (takes_of rfl rfl rfl rfl) (rs_of T.eN (hr.mono (by decide)) (by rfl) (pa_cons pe_str pa_nil))))
      pss_nil)
      (pss_cons (ps_if (PW.pt (pw_or (pt_not (pt_val (C8.pe_c (c_are_ids T.toTop) hr (by decide) (by rfl) (pa_cons (pv 2) pa_nil)))) (pw_or (pt_cmpR op_gt (pe_callB call_len_seq (by rfl) T.z_len (by decide +kernel) (pa_cons (pv 2) pa_nil)) (C8.pe_gc (by rfl) T.g_MOST_PARENTS) (nomark _)) (pw_or1 (pt_cmpR op_lt (pe_lenSetT rfl (by rfl) T.z_len (by rfl) T.z_set (pv 2)) (pe_callB call_len_seq (by rfl) T.z_len (by decide +kernel) (pa_cons (pv 2) pa_nil)) (nomark _))))))
      (pss_one (ps_raise rfl (takes_of rfl rfl rfl rfl) (rs_of T.eN (hr.mono (by decide)) (by rfl) (pa_cons pe_str pa_nil))))
      pss_nil)
      (pss_cons (ps_if (pt_not (pt_val (C8.pe_c (c_is_author T.toTop) hr (by decide) (by rfl) (pa_cons (pv 3) pa_nil))))
      (pss_one (ps_raise rfl (takes_of rfl rfl rfl rfl) (rs_of T.eN (hr.mono (by decide)) (by rfl) (pa_cons pe_str pa_nil))))
      pss_nil)
      (pss_cons (ps_if (pt_not (pt_val (C8.pe_c (c_is_time T.toTop) hr (by decide) (by rfl) (pa_cons (pv 4) pa_nil))))
      (pss_one (ps_raise rfl (takes_of rfl rfl rfl rfl) (rs_of T.eN (hr.mono (by decide)) (by rfl) (pa_cons pe_str pa_nil))))
      pss_nil)
      (pss_cons (ps_if (pt_not (pt_val (C8.pe_c (c_is_message T.toTop) hr (by decide) (by rfl) (pa_cons (pv 5) pa_nil))))
      (pss_one (ps_raise rfl (takes_of rfl rfl rfl rfl) (rs_of T.eN (hr.mono (by decide)) (by rfl) (pa_cons pe_str pa_nil))))
      pss_nil)
      (pss_cons (ps_fld (pv 0) (pv 1) rfl)
      (pss_cons (ps_fld (pv 0) (pv 2) rfl)
      (pss_cons (ps_fld (pv 0) (pv 3) rfl)
      (pss_cons (ps_fld (pv 0) (pv 4) rfl)
      (pss_one (ps_fld (pv 0) (pv 5) rfl))))))))))), ?_⟩
    refine ⟨t, rfl, t, rfl, t1, fun H1 s1 => ⟨_, rfl, ite2 (fun h1 => ?_) (fun h1 => ?_)⟩⟩
    · exact ⟨(by show 1 ≤ 1000; decide), do_raise T.eN (raise s1 _)⟩
    have h1 : evalV isIdF t = true := by simpa using h1
    have later : b = true → evalV (isWordF LET) au = false ∨ timeV tm = false ∨ evalV msgF msg = false := fun e => by
      rcases hb with z | z | z
      · rw [z] at h1; cases h1
      · rw [z] at e; cases e
      · exact z
    cases hp.same s1 with
    | no _ h =>
      obtain ⟨Ty, hT, ty⟩ := h
      refine ⟨p, rfl, .inr ⟨p, rfl, ⟨Ty, ?_, ty⟩, ⟨_, rfl, iteT ⟨(by show 1 ≤ 1000; decide), do_raise T.eN (raise s1 _)⟩⟩⟩⟩
      simp only [List.mem_cons, List.not_mem_nil, or_false] at hT ⊢
      rcases hT with z | z | z | z | z | z <;> simp [z]
    | ids a2 xs h hl ht hb2 =>
      refine ⟨.ref a2, rfl, .inl ⟨a2, xs, rfl, h, hl, ht, fun H2 s2 => ⟨_, rfl, ?_⟩⟩⟩
      rw [hb2]
      exact iteT ⟨(by show 1 ≤ 1000; decide), do_raise T.eN (raise (s1.trans s2) _)⟩
    | many a2 ps h hl hi =>
      refine ⟨.ref a2, rfl, .inl ⟨a2, ps.map V.str, rfl, h, (by rw [List.length_map]; exact hl), fun x hx => ?_, fun H2 s2 => ⟨_, rfl, ?_⟩⟩⟩
      · obtain ⟨y, hy, rfl⟩ := List.mem_map.mp hx
        exact .str y (by have := (ok_id (hi y hy)).2; omega) (ok_id (hi y hy)).1
      rw [show (ps.map V.str).all (evalV isIdF) = true from List.all_eq_true.mpr fun x hx => by
        obtain ⟨y, hy, rfl⟩ := List.mem_map.mp hx
        exact hi y hy]
      refine iteF ?_
      have s12 := s1.trans s2
      have hp2 := h.keep (TupKeep.of s2)
      refine ⟨.ref a2, rfl, a2, _, rfl, .inr hp2.sq, _, _, rfl, rfl, _, rfl, ite2 (fun z => ?_) (fun z6 => ?_)⟩
      · exact ⟨(by show 1 ≤ 1000; decide), do_raise T.eN (raise s12 _)⟩
      refine ⟨.ref a2, rfl, a2, ps, rfl, hp2.sq, by omega, fun n => ⟨fun ys ny hm hn => ?_, trivial⟩⟩
      refine ⟨.ref a2, rfl, a2, _, rfl, .inr hp2.sq, _, _, rfl, rfl, _, rfl, ite2 (fun z => ?_) (fun zn => ?_)⟩
      · exact ⟨(by show 1 ≤ 1000; decide), do_raise T.eN (raise s12 _)⟩
      have l6 : ps.length ≤ 6 := by
        have : ¬ (6 : Int) < ((ps.map V.str).length : Nat) := fun z => z6 (decide_eq_true z)
        rw [List.length_map] at this
        omega
      have ln : ps.length ≤ ys.length := by
        have : ¬ (n : Int) < ((ps.map V.str).length : Nat) := fun z => zn (decide_eq_true z)
        rw [List.length_map] at this
        omega
      have nd : ps.Nodup := (sub_perm ny (fun x hx => (hm x).mp hx) ln).nodup_iff.mp ny
      have lat := later (by rw [decide_eq_true l6, decide_eq_true nd]; rfl)
      refine ⟨au, rfl, au, rfl, t3.same s12, fun H3 s3 => ⟨_, rfl, ite2 (fun h3 => ?_) (fun h3 => ?_)⟩⟩
      · exact ⟨(by show 1 ≤ 1000; decide), do_raise T.eN (raise (s12.trans s3) _)⟩
      have s13 := s12.trans s3
      refine ⟨tm, rfl, tm, rfl, t4.same s13, _, rfl, ite2 (fun h4 => ?_) (fun h4 => ?_)⟩
      · exact ⟨(by show 1 ≤ 1000; decide), do_raise T.eN (raise s13 _)⟩
      refine ⟨msg, rfl, msg, rfl, t5.same s13, fun H5 s5 => ⟨_, rfl, ite2 (fun h5 => ?_) (fun h5 => ?_)⟩⟩
      · exact ⟨(by show 1 ≤ 1000; decide), do_raise T.eN (raise (s13.trans s5) _)⟩
      exfalso
      simp only [Bool.not_eq_true, Bool.not_eq_true', Bool.not_eq_false'] at h3 h4 h5
      rcases lat with z | z | z
      · rw [z] at h3; exact absurd h3 (by decide)
      · rw [z] at h4; exact absurd h4 (by decide)
      · rw [z] at h5; exact absurd h5 (by decide)
theorem k_CommitX_2f (T : TopO K mg c CS cX iX ek pd) : MakKX P w K mg base 6 "Commit" c.C (spCommitN K cX) 3 ["author", "time", "message"] (fun vs zs => vs ++ zs) := by
  obtain ⟨f, fd, g, M, F, b⟩ := T.kC3f
  exact ⟨f, fd, _, g, M, iniX_Commit T f fd F, T.mgC, b⟩
theorem k_CommitX_2 (T : TopO K mg c CS cX iX ek pd) : MakKX P w K mg base 6 "Commit" c.C (spCommitN K cX) 3 ["author", "time"] (fun vs zs => vs ++ (zs ++ [.str ""])) := by
  obtain ⟨f, fd, g, M, F, b⟩ := T.kC3
  exact ⟨f, fd, _, g, M, iniX_Commit T f fd F, T.mgC, b⟩
end

end Fk

set_option maxHeartbeats 4000000
namespace Fk
open PySem PySem.Spec PyProof.Rows L2
open LamX
section
variable {P : Program} {w : World} {K : PySem.W.Frag} {mg : Str → Option Value} {base : Heap} {c : C4} {CS cX iX ek pd : Addr}
def NoDict (K : PySem.W.Frag) (H : Hp) (v : V) : Prop := ∃ Ty ∈ (["NoneType", "bool", "int", "str", "list", "tuple"] : List String), TyX K H v (.type Ty)
theorem noDict_isi {H : Hp} {v : V} (h : NoDict K H v) {R : VK} (r : R (.bl false) H) : rIsi K [v, .ty "dict"] H R := by
  obtain ⟨Ty, hT, ty⟩ := h
  refine ⟨_, _, .type Ty, .type "dict", false, rfl, .ty "dict", ty, ?_, r⟩
  simp only [List.mem_cons, List.not_mem_nil, or_false] at hT
  rcases hT with rfl | rfl | rfl | rfl | rfl | rfl <;> exact kit_ty (by decide +kernel)
/-- a value that is none, so that it is seen which objects it leans on -/
def BadValS (K : PySem.W.Frag) (H : Hp) (vb : V) : Prop := vb = .non ∨ (∃ i, vb = .int i) ∨ (∃ x, vb = .str x) ∨ (∃ (q : Addr) (a b : Str), vb = .ref q ∧ H q = some (.lst [.str a, .str b])) ∨ (∃ (q : Addr) (xs : List V), vb = .ref q ∧ TupK K H q xs ∧ xs.length ≠ 2 ∧ xs.length ≤ 1000) ∨
  ∃ (q : Addr) (kd i : Str), vb = .ref q ∧ TupK K H q [.str kd, .str i] ∧ (kd ∉ KINDS ∨ (isIdF i = false ∧ OkS i ∧ i.length ≤ 1000))
theorem BadValS.keep {H H' : Hp} {vb : V} (h : BadValS K H vb) (k : TupKeep H H') (l : ∀ (q : Addr) (a b : Str), H q = some (.lst [.str a, .str b]) → H' q = some (.lst [.str a, .str b])) : BadValS K H' vb := by
  rcases h with h | h | h | ⟨q, a, b, e, h⟩ | ⟨q, xs, e, h, r⟩ | ⟨q, kd, i, e, h, r⟩
  · exact .inl h
  · exact .inr (.inl h)
  · exact .inr (.inr (.inl h))
  · exact .inr (.inr (.inr (.inl ⟨q, a, b, e, l _ _ _ h⟩)))
  · exact .inr (.inr (.inr (.inr (.inl ⟨q, xs, e, h.keep k, r⟩))))
  · exact .inr (.inr (.inr (.inr (.inr ⟨q, kd, i, e, h.keep k, r⟩))))
theorem BadValS.val {H : Hp} {vb : V} (h : BadValS K H vb) : BadVal K H vb := by
  rcases h with rfl | ⟨i, rfl⟩ | ⟨x, rfl⟩ | ⟨q, a, b, rfl, h⟩ | h | h
  · exact .inl ⟨"NoneType", by decide, .base .non⟩
  · exact .inl ⟨"int", by decide, .base (.int i)⟩
  · exact .inl ⟨"str", by decide, .base (.str x)⟩
  · exact .inl ⟨"list", by decide, .base (.lst h)⟩
  · exact .inr (.inl h)
  · exact .inr (.inr h)
/-- the first bad entry: its key or its value -/
def BadEnt (K : PySem.W.Frag) (H : Hp) (kb : Key) (vb : V) : Prop := (∃ i, kb = .inl i) ∨ ∃ x : Str, kb = .inr x ∧ x.length ≤ 1000 ∧ OkS x ∧ (isSegF x = false ∨ BadValS K H vb)
def BadDict (K : PySem.W.Frag) (H : Hp) (v : V) : Prop := (∃ e kvs, v = .ref e ∧ H e = some (.dK kvs) ∧ 30 < kvs.length ∧ kvs.length ≤ 100000) ∨
  ∃ (e : Addr) (t : Tab) (es : List Ent) (kb : Key) (vb : V) (rest : List (Key × V)), v = .ref e ∧ H e = some (.dK (kT t ++ (kb, vb) :: rest)) ∧ EntsAt K H t es ∧ (∀ x ∈ es, EntOk x) ∧ (es.map (·.1)).Nodup ∧ kb ∉ (kT t).map (·.1) ∧ t.length + rest.length ≤ 1000 ∧ BadEnt K H kb vb
def BadTree (K : PySem.W.Frag) (H : Hp) (v : V) : Prop := NoDict K H v ∨ BadDict K H v
theorem val_app3 {t : Tab} {rest : List (Key × V)} {x : Str} {v : V} (h : valV t x = some v) : valV (kT t ++ rest) (.inr x) = some v := by
  have h2 : valV (kT t) (.inr x) = some v := by rw [← h]; exact valV_kT t x
  unfold valV at h2 ⊢
  rw [List.find?_append]
  cases e : (kT t).find? (fun kv => decide (kv.1 = .inr x)) with
  | none => rw [e] at h2; cases h2
  | some p => rw [e] at h2; exact h2
theorem val_mid {l rest : List (Key × V)} {k : Key} {v : V} (h : k ∉ l.map (·.1)) : valV (l ++ (k, v) :: rest) k = some v := by
  unfold valV
  rw [List.find?_append]
  have e : l.find? (fun kv => decide (kv.1 = k)) = none := List.find?_eq_none.mpr fun p hp z => h (List.mem_map.mpr ⟨p, hp, of_decide_eq_true z⟩)
  rw [e]
  simp
def lockQ (H : Hp) (E : XK) : XK := fun cls d H' => ∃ (d1 : Addr) (od1 : Obj) (u : HO), H' d1 = some (.frz od1 u) ∧ (∀ o' u', H d1 ≠ some (.frz o' u')) ∧ E cls d (upd H' d1 u)
def spTreeN (K : PySem.W.Frag) (cX : Addr) : Sp := fun vs H Q E => ∃ (a : Addr) (v : V), vs = [.ref a, v] ∧ BadTree K H v ∧ Bad cX H E
theorem iniX_Tree (T : TopO K mg c CS cX iX ek pd) : ∀ f fd, C8.Fun K "__init__" "Tree.__init__" s_Tree_init f fd → FnOk P w K mg base (L2.CX P w) 5 f fd ["self", "entries"] (spTreeN K cX) := fun f fd F => by
  obtain ⟨oc, od, dV, kV1, doc, pm, an, cdv, ct, osl, rfl, lk, hcd⟩ := F.ex
  refine fn_of lk hcd sc_Tree_init (fun vs H Q E h => ?_) (fun A outer s H vs Q E hr h => ?_)
  · obtain ⟨a, v, rfl, _⟩ := h
    rfl
  · obtain ⟨a, v, rfl, hv, q⟩ := h
    refine ⟨_, (pss_cons (ps_if (PW.pt (pw_or (pt_not (pt_val (pe_callB call_isi (by rfl) T.z_isinstance (by decide +kernel) (pa_cons (pv 1) (pa_cons (pe_bltn (v := .ty "dict") (by rfl) T.z_dict (by decide +kernel) rfl) pa_nil))))) (pw_or1 (pt_cmpR op_gt (pe_callB call_lenD (by rfl) T.z_len (by decide +kernel) (pa_cons (pv 1) pa_nil)) (C8.pe_gc (by rfl) T.g_MOST_ENTRIES) (nomark _)))))
      (pss_one (ps_raise rfl (takes_of rfl rfl rfl rfl) (rs_of T.eN (hr.mono (by decide)) (by rfl) (pa_cons pe_str pa_nil))))
      pss_nil)
      (pss_cons (ps_lock (ps_for (passes_of rfl) rfl (pi_keys (pv 1)) (pg_name (i := 2) sc_Tree_init.nd rfl (Or.inl rfl))
      (pss_one (ps_if (PW.pt (pw_or (pt_not (pt_val (C8.pe_c (c_is_segment T.toTop) hr (by decide) (by rfl) (pa_cons (pv 2) pa_nil)))) (pw_or1 (pt_not (pt_val (C8.pe_c (c_is_value T.toTop) hr (by decide) (by rfl) (pa_cons (pe_dget (hu_of hr) (pv 1) (pv 2) (fun _ _ => rfl)) (pa_cons (C8.pe_gc (by rfl) T.g_ENTRY_KINDS) pa_nil))))))))
      (pss_one (ps_raise rfl (takes_lock (takes_of rfl rfl rfl rfl)) (rs_of T.eN (hr.mono (by decide)) (by rfl) (pa_cons pe_str pa_nil))))
      pss_nil))))
      (pss_one (ps_fld (pv 0) (pe_dc (own := [("segment", 2)]) (g := gName 2) (by rfl) sc_Tree_init.nd (pi_tup (C8.pe_c (c_ascending T.toTop) hr (by decide) (by rfl) (pa_cons (pv 1) pa_nil))) (blkOk_by (own := [("segment", 2)]) (N := ["self", "entries", "segment"]) (sc := C8.fnScope s_Tree_init) (by decide +kernel)) (fun _ _ _ _ _ => (pg_name (i := 2) sc_Tree_init.nd rfl (Or.inl rfl))) (fun _ _ _ _ _ => pts_nil) (fun _ _ _ _ _ => (pv 2)) (fun _ _ _ _ _ => (pe_dget (hu_of hr) (pv 1) (pv 2) (fun _ _ => rfl)))) rfl)))), ?_⟩
    refine ⟨v, rfl, ?_⟩
    dsimp only [tCons, tC, tNil]
    rcases hv with nd | ⟨e, kvs, rfl, he, hl, hl2⟩ | ⟨e, t, es, kb, vb, rest, rfl, he, hE, ok, nd, nk, hl, hbad⟩
    · exact noDict_isi nd ⟨_, rfl, iteT ⟨(by show 1 ≤ 1000; decide), do_raise T.eN fun dd H3 s3 _ h3 => q dd _ H3 s3 h3⟩⟩
    · refine ⟨_, _, .type "dict", .type "dict", true, rfl, .ty "dict", .base (.dK he), kit_ty (by decide +kernel), _, rfl, iteF ?_⟩
      refine ⟨.ref e, rfl, e, _, rfl, he, _, _, rfl, rfl, _, rfl, ifT ?_ ⟨(by show 1 ≤ 1000; decide), do_raise T.eN fun dd H3 s3 _ h3 => q dd _ H3 s3 h3⟩⟩
      exact decide_eq_true (by omega)
    · refine ⟨_, _, .type "dict", .type "dict", true, rfl, .ty "dict", .base (.dK he), kit_ty (by decide +kernel), _, rfl, iteF ?_⟩
      refine ⟨.ref e, rfl, e, _, rfl, he, _, _, rfl, rfl, _, rfl, ite2 (fun _ => ⟨(by show 1 ≤ 1000; decide), do_raise T.eN fun dd H3 s3 _ h3 => q dd _ H3 s3 h3⟩) (fun _ => ?_)⟩
      have kE := hE.keys
      have lt : t.length = es.length := by
        have := congrArg List.length kE
        rwa [List.length_map, List.length_map] at this
      refine ⟨e, _, he, trivial, fun od => ⟨.ref e, rfl, e, od, rfl, .inl ⟨kT t ++ (kb, vb) :: rest, upd_same, ?_⟩⟩⟩
      have Y : Yields (Itk e od (kT t ++ (kb, vb) :: rest)) ((kT t ++ (kb, vb) :: rest).map fun p => kV p.1) (fun H => H e = some (.frz od (.dK (kT t ++ (kb, vb) :: rest)))) := yields_keys
      have he0 : (upd H e (.frz od (.dK (kT t ++ (kb, vb) :: rest)))) e = some (.frz od (.dK (kT t ++ (kb, vb) :: rest))) := upd_same
      have s0 : ∀ b o, b ≠ e → H b = some o → (upd H e (.frz od (.dK (kT t ++ (kb, vb) :: rest)))) b = some o := fun b o n z => by rw [upd_ne n]; exact z
      have k0 : TupKeep H (upd H e (.frz od (.dK (kT t ++ (kb, vb) :: rest)))) := TupKeep.at fun xs z => by rw [he] at z; cases z
      generalize upd H e (.frz od (.dK (kT t ++ (kb, vb) :: rest))) = HL at he0 s0 k0
      have back : ∀ {H' : Hp}, Same HL H' → Same H (upd H' e (.dK (kT t ++ (kb, vb) :: rest))) := fun {H'} s b o z => by
        by_cases hb : b = e
        · rw [hb, upd_same, ← he, ← hb, z]
        · rw [upd_ne hb]
          exact s _ _ (s0 _ _ hb z)
      have lock : ∀ {H' : Hp} (y : V), Same HL H' → ∀ (d : Addr) (H3 : Hp), Same H' H3 → H' d = none → H3 d = some (.xd [("why", y)]) → lockQ H E (.ref cX) (some d) H3 := fun {H'} y s d H3 s3 nd h3 => by
        refine ⟨e, od, _, (s.trans s3) _ _ he0, fun o' u' z => ?_, q d y _ (back (s.trans s3)) ?_⟩
        · rw [he] at z; cases z
        · rw [upd_ne (fun z => by rw [z, (s.trans s3) _ _ he0] at h3; cases h3)]
          exact h3
      refine forG Y (fun i σ H' => Same HL H' ∧ i ≤ t.length ∧ ∃ z, σ = [some (.ref a), some (.ref e), z]) ⟨Same.refl _, Nat.zero_le _, none, rfl⟩ (fun i σ H' ⟨s, _⟩ => s _ _ he0) (fun i x σ H' hx I => ?_) (fun σ H' I => ?_)
      · obtain ⟨s, hi, z, rfl⟩ := I
        rw [List.getElem?_map] at hx
        rcases Nat.lt_or_ge i t.length with li | li
        · have hie : i < es.length := by omega
          have e1 : (kT t ++ (kb, vb) :: rest)[i]? = some (.inr t[i].1, t[i].2) := by
            rw [List.getElem?_append_left (by unfold kT; rw [List.length_map]; exact li)]
            unfold kT
            rw [List.getElem?_map, List.getElem?_eq_getElem li]
            rfl
          rw [e1] at hx
          cases hx
          have ek1 : t[i].1 = es[i].1 := by
            have := congrArg (fun l => l[i]?) kE
            simp only [List.getElem?_map, List.getElem?_eq_getElem li, List.getElem?_eq_getElem hie, Option.map_some, Option.some.injEq] at this
            exact this
          have hm : es[i] ∈ es := List.getElem_mem hie
          obtain ⟨o1, o2, o3⟩ := ok _ hm
          refine ⟨.str t[i].1, rfl, .str t[i].1, rfl, .str t[i].1 (by rw [ek1]; exact seg_short o1) (by rw [ek1]; exact ok_seg o1), fun H1 s1 => ⟨_, rfl, ?_⟩⟩
          rw [show evalV isSegF (.str t[i].1) = true from (by rw [ek1]; exact o1)]
          refine iteF ?_
          obtain ⟨q0, hv, ht⟩ := hE.val nd _ hm
          have tk : TupK K H1 q0 (entL es[i]) := (ht.keep k0).keep (TupKeep.of (s.trans s1))
          refine ⟨.ref e, rfl, .str t[i].1, rfl, e, .ref q0, rfl, .inl ⟨_, .inr t[i].1, .inr ⟨od, s1 _ _ (s _ _ he0)⟩, rfl, ?_⟩, .ref q0, ek, rfl, .inr T.kE, .inl ⟨q0, es[i].2.1, es[i].2.2, rfl, tk, o2, o3, fun H2 s2 => ⟨_, rfl, iteF ⟨s.trans (s1.trans s2), by omega, _, rfl⟩⟩⟩⟩
          rw [ek1]
          exact (val_app3 hv).symm
        · have ei : i = t.length := by omega
          have e1 : (kT t ++ (kb, vb) :: rest)[i]? = some (kb, vb) := by
            have : (kT t).length = t.length := by unfold kT; rw [List.length_map]
            rw [List.getElem?_append_right (by omega), this, ei, Nat.sub_self]
            rfl
          rw [e1] at hx
          cases hx
          rcases hbad with ⟨j, rfl⟩ | ⟨x, rfl, lx, ox, hb⟩
          · refine ⟨.int j, rfl, .int j, rfl, .int j, fun H1 s1 => ⟨_, rfl, ?_⟩⟩
            exact iteT ⟨(by show 1 ≤ 1000; decide), do_raise (Q := lockQ H E) T.eN fun d H3 s3 nd h3 => lock _ (s.trans s1) d H3 s3 nd h3⟩
          · refine ⟨.str x, rfl, .str x, rfl, .str x (by omega) ox, fun H1 s1 => ⟨_, rfl, ?_⟩⟩
            rcases hb with hb | hb
            · rw [show evalV isSegF (.str x) = false from hb]
              exact iteT ⟨(by show 1 ≤ 1000; decide), do_raise (Q := lockQ H E) T.eN fun d H3 s3 nd h3 => lock _ (s.trans s1) d H3 s3 nd h3⟩
            · refine ite2 (fun _ => ⟨(by show 1 ≤ 1000; decide), do_raise (Q := lockQ H E) T.eN fun d H3 s3 nd h3 => lock _ (s.trans s1) d H3 s3 nd h3⟩) (fun _ => ?_)
              refine ⟨.ref e, rfl, .str x, rfl, e, vb, rfl, .inl ⟨_, .inr x, .inr ⟨od, s1 _ _ (s _ _ he0)⟩, rfl, (val_mid nk).symm⟩, vb, ek, rfl, .inr T.kE, .inr ⟨(hb.keep (k0.trans (TupKeep.of (s.trans s1))) (fun q a b z => (s.trans s1) _ _ (s0 q _ (fun y => by rw [y, he] at z; cases z) z))).val, fun H2 s2 => ⟨_, rfl, iteT ?_⟩⟩⟩
              exact ⟨(by show 1 ≤ 1000; decide), do_raise (Q := lockQ H E) T.eN fun d H3 s3 nd h3 => lock _ ((s.trans s1).trans s2) d H3 s3 nd h3⟩
      · obtain ⟨s, hi, _⟩ := I
        rw [List.length_map, List.length_append, List.length_cons] at hi
        unfold kT at hi
        rw [List.length_map] at hi
        omega
end

end Fk

set_option maxHeartbeats 4000000
namespace Fk
open PySem PySem.Spec PyProof.Rows L2
open LamX
theorem pss_vac {X : Cx} {sts : List Stmt} : PSs X sts (fun _ _ _ => False) := ⟨fun _ _ _ _ _ _ h => h.elim⟩
section
variable {P : Program} {w : World} {K : PySem.W.Frag} {mg : Str → Option Value} {base : Heap} {c : C4} {CS cX iX ek pd : Addr}
theorem valV_self {t : Tab} (n : Nd t) {e : Str × V} (h : e ∈ t) : valV t e.1 = some e.2 := by
  induction t with
  | nil => cases h
  | cons f r ih =>
    obtain ⟨n1, n2⟩ := List.nodup_cons.mp (show (f.1 :: r.map (·.1)).Nodup from n)
    rw [show f = (f.1, f.2) from rfl]
    rcases List.mem_cons.mp h with z | z
    · rw [z]
      exact valV_pos rfl
    · rw [valV_neg (fun c => n1 (by rw [c]; exact List.mem_map.mpr ⟨e, z, rfl⟩))]
      exact ih n2 z
def BadMix (P : Program) (w : World) (K : PySem.W.Frag) (H : Hp) (v : V) : Prop := ∃ (e : Addr) (es : Array DictEntry) (ep : Nat) (t : Tab) (key r : V) (ts : List Ent), v = .ref e ∧ H e = some (MixO e es ep) ∧ MixE P w t key r es ∧ OddK H key ∧ EntsAt K H t ts ∧ (∀ x ∈ ts, EntOk x) ∧ (ts.map (·.1)).Nodup ∧ t.length ≤ 1000
theorem mix_keys {t : Tab} {key r : V} {es : Array DictEntry} (m : MixE P w t key r es) : KeysV (t.map (fun p => V.str p.1) ++ [key]) es := by
  refine ⟨by rw [List.length_append, List.length_map, m.sz]; rfl, fun i hk hi => ?_⟩
  rcases Nat.lt_or_ge i t.length with li | li
  · rw [List.getElem_append_left (by rw [List.length_map]; exact li), List.getElem_map]
    exact (m.txt i li hi).1
  · have ei : i = t.length := by have := m.sz; omega
    subst ei
    rw [List.getElem_append_right (by rw [List.length_map]; exact Nat.le_refl _)]
    simp only [List.length_map, Nat.sub_self, List.getElem_cons_zero]
    exact (m.last hi).1
theorem OddK.thing {H : Hp} {key : V} (h : OddK H key) : Thing H key ∧ evalV isSegF key = false := by
  rcases h with rfl | ⟨b, ks, rfl, hb⟩
  · exact ⟨.non, rfl⟩
  · exact ⟨.tup b _ hb, rfl⟩
theorem OddK.keep {H H' : Hp} {key : V} (h : OddK H key) (k : TupKeep H H') : OddK H' key := by
  rcases h with rfl | ⟨b, ks, rfl, hb⟩
  · exact .inl rfl
  · exact .inr ⟨b, ks, rfl, k _ _ hb⟩
def spTreeM (P : Program) (w : World) (K : PySem.W.Frag) (cX : Addr) : Sp := fun vs H Q E => ∃ (a : Addr) (v : V), vs = [.ref a, v] ∧ BadMix P w K H v ∧ Bad cX H E
theorem iniM_Tree (T : TopO K mg c CS cX iX ek pd) : ∀ f fd, C8.Fun K "__init__" "Tree.__init__" s_Tree_init f fd → FnOk P w K mg base (L2.CX P w) 5 f fd ["self", "entries"] (spTreeM P w K cX) := fun f fd F => by
  obtain ⟨oc, od, dV, kV1, doc, pm, an, cdv, ct, osl, rfl, lk, hcd⟩ := F.ex
  refine fn_of lk hcd sc_Tree_init (fun vs H Q E h => ?_) (fun A outer s H vs Q E hr h => ?_)
  · obtain ⟨a, v, rfl, _⟩ := h
    rfl
  · obtain ⟨a, v, rfl, ⟨e, es, ep, t, key, r, ts, rfl, he, m, hk, hE, ok, nd, hl⟩, q⟩ := h
    refine ⟨_, (pss_cons (ps_if (PW.pt (pw_or (pt_not (pt_val (pe_callB call_isiM (by rfl) T.z_isinstance (by decide +kernel) (pa_cons (pv 1) (pa_cons (pe_bltn (v := .ty "dict") (by rfl) T.z_dict (by decide +kernel) rfl) pa_nil))))) (pw_or1 (pt_cmpR op_gt (pe_callB call_lenM (by rfl) T.z_len (by decide +kernel) (pa_cons (pv 1) pa_nil)) (C8.pe_gc (by rfl) T.g_MOST_ENTRIES) (nomark _)))))
      (pss_one (ps_raise rfl (takes_of rfl rfl rfl rfl) (rs_of T.eN (hr.mono (by decide)) (by rfl) (pa_cons pe_str pa_nil))))
      pss_nil)
      (pss_cons (ps_lock (ps_for (passes_of rfl) rfl (pi_keysMix (pv 1)) (pg_name (i := 2) sc_Tree_init.nd rfl (Or.inl rfl))
      (pss_one (ps_if (PW.pt (pw_or (pt_not (pt_val (C8.pe_c (c_is_segment T.toTop) hr (by decide) (by rfl) (pa_cons (pv 2) pa_nil)))) (pw_or1 (pt_not (pt_val (C8.pe_c (c_is_value T.toTop) hr (by decide) (by rfl) (pa_cons (pe_dgetM (hu_of hr) (pv 1) (pv 2) (fun _ _ => rfl)) (pa_cons (C8.pe_gc (by rfl) T.g_ENTRY_KINDS) pa_nil))))))))
      (pss_one (ps_raise rfl (takes_lock (takes_of rfl rfl rfl rfl)) (rs_of T.eN (hr.mono (by decide)) (by rfl) (pa_cons pe_str pa_nil))))
      pss_nil))))
      pss_vac)), ?_⟩
    refine ⟨.ref e, rfl, ?_⟩
    dsimp only [tCons, tC, tNil]
    refine ⟨e, es, ep, rfl, he, _, rfl, iteF ?_⟩
    have hsz := m.sz
    refine ⟨.ref e, rfl, e, es, ep, rfl, he, by omega, _, _, rfl, rfl, _, rfl, ite2 (fun _ => ⟨(by show 1 ≤ 1000; decide), do_raise T.eN fun dd H3 s3 _ h3 => q dd _ H3 s3 h3⟩) (fun _ => ?_)⟩
    have kE := hE.keys
    have lt : t.length = ts.length := by
      have := congrArg List.length kE
      rwa [List.length_map, List.length_map] at this
    have kv := mix_keys m
    refine ⟨e, _, he, trivial, fun od => ⟨.ref e, rfl, e, od, es, ep, _, rfl, upd_same, kv, ?_⟩⟩
    have Y : Yields (ItM e od es ep (t.map (fun p => V.str p.1) ++ [key])) (t.map (fun p => V.str p.1) ++ [key]) (fun H => H e = some (.frz od (MixO e es ep))) := yields_mix kv.1
    have he0 : (upd H e (.frz od (MixO e es ep))) e = some (.frz od (MixO e es ep)) := upd_same
    have s0 : ∀ b o, b ≠ e → H b = some o → (upd H e (.frz od (MixO e es ep))) b = some o := fun b o n z => by rw [upd_ne n]; exact z
    have k0 : TupKeep H (upd H e (.frz od (MixO e es ep))) := TupKeep.at fun xs z => by rw [he] at z; cases z
    generalize upd H e (.frz od (MixO e es ep)) = HL at he0 s0 k0
    have back : ∀ {H' : Hp}, Same HL H' → Same H (upd H' e (MixO e es ep)) := fun {H'} s b o z => by
      by_cases hb : b = e
      · rw [hb, upd_same, ← he, ← hb, z]
      · rw [upd_ne hb]
        exact s _ _ (s0 _ _ hb z)
    have lock : ∀ {H' : Hp} (y : V), Same HL H' → ∀ (d : Addr) (H3 : Hp), Same H' H3 → H' d = none → H3 d = some (.xd [("why", y)]) → lockQ H E (.ref cX) (some d) H3 := fun {H'} y s d H3 s3 nd h3 => by
      refine ⟨e, od, _, (s.trans s3) _ _ he0, fun o' u' z => ?_, q d y _ (back (s.trans s3)) ?_⟩
      · rw [he] at z; cases z
      · rw [upd_ne (fun z => by rw [z, (s.trans s3) _ _ he0] at h3; cases h3)]
        exact h3
    refine forG Y (fun i σ H' => Same HL H' ∧ i ≤ t.length ∧ ∃ z, σ = [some (.ref a), some (.ref e), z]) ⟨Same.refl _, Nat.zero_le _, none, rfl⟩ (fun i σ H' ⟨s, _⟩ => s _ _ he0) (fun i x σ H' hx I => ?_) (fun σ H' I => ?_)
    · obtain ⟨s, hi, z, rfl⟩ := I
      rcases Nat.lt_or_ge i t.length with li | li
      · have hie : i < ts.length := by omega
        rw [List.getElem?_append_left (by rw [List.length_map]; exact li), List.getElem?_map, List.getElem?_eq_getElem li] at hx
        cases hx
        have ek1 : t[i].1 = ts[i].1 := by
          have := congrArg (fun l => l[i]?) kE
          simp only [List.getElem?_map, List.getElem?_eq_getElem li, List.getElem?_eq_getElem hie, Option.map_some, Option.some.injEq] at this
          exact this
        have hm : ts[i] ∈ ts := List.getElem_mem hie
        obtain ⟨o1, o2, o3⟩ := ok _ hm
        refine ⟨.str t[i].1, rfl, .str t[i].1, rfl, .str t[i].1 (by rw [ek1]; exact seg_short o1) (by rw [ek1]; exact ok_seg o1), fun H1 s1 => ⟨_, rfl, ?_⟩⟩
        rw [show evalV isSegF (.str t[i].1) = true from (by rw [ek1]; exact o1)]
        refine iteF ?_
        obtain ⟨q0, hv, ht⟩ := hE.val nd _ hm
        have e2 : t[i].2 = .ref q0 := by
          have ndt : Nd t := by unfold Nd; rw [kE]; exact nd
          have := valV_self ndt (List.getElem_mem li)
          rw [ek1] at this
          rw [this] at hv
          exact Option.some.inj hv
        have tk : TupK K H1 q0 (entL ts[i]) := (ht.keep k0).keep (TupKeep.of (s.trans s1))
        refine ⟨.ref e, rfl, .str t[i].1, rfl, e, .ref q0, rfl, ⟨es, ep, t, key, r, i, li, .inr ⟨od, s1 _ _ (s _ _ he0)⟩, m, hk.keep (k0.trans (TupKeep.of (s.trans s1))), by rw [kE]; exact nd, rfl, e2.symm⟩, .ref q0, ek, rfl, .inr T.kE, .inl ⟨q0, ts[i].2.1, ts[i].2.2, rfl, tk, o2, o3, fun H2 s2 => ⟨_, rfl, iteF ⟨s.trans (s1.trans s2), by omega, _, rfl⟩⟩⟩⟩
      · have ei : i = t.length := by omega
        subst ei
        rw [List.getElem?_append_right (by rw [List.length_map]; exact Nat.le_refl _), List.length_map, Nat.sub_self] at hx
        cases hx
        obtain ⟨th, hb⟩ := (hk.keep (k0.trans (TupKeep.of s))).thing
        refine ⟨key, rfl, key, rfl, th, fun H1 s1 => ⟨_, rfl, ?_⟩⟩
        rw [hb]
        exact iteT ⟨(by show 1 ≤ 1000; decide), do_raise (Q := lockQ H E) T.eN fun d H3 s3 nd h3 => lock _ (s.trans s1) d H3 s3 nd h3⟩
    · obtain ⟨s, hi, _⟩ := I
      rw [List.length_append, List.length_map] at hi
      have : t.length + 1 ≤ t.length := hi
      omega
theorem k_TreeX (T : TopO K mg c CS cX iX ek pd) : MakX P w K mg base (L2.CX P w) 5 "Tree" c.T (fun vs H Q E => spTreeN K cX vs H Q E ∨ spTreeM P w K cX vs H Q E) [] := by
  obtain ⟨f, fd, M, F, df⟩ := T.iniT
  exact ⟨f, fd, ["self", "entries"], [], M, fn_or (iniX_Tree T f fd F) (iniM_Tree T f fd F), T.mgT, F.binds df fun _ _ _ _ _ _ us hl => match us, hl with | [_, _], _ => rfl, .nil⟩
end

end Fk

set_option maxHeartbeats 4000000
/-! Sixteen figures, one by one. -/
namespace Fk
open PySem PySem.Spec PyProof.Rows L2
def fig (d : Nat) : Nat := (Nat.digitChar d).toNat
/-- the last k figures, the least last -/
def figG : Nat → Nat → List Nat
  | 0, _ => []
  | k + 1, n => fig (n / 16 ^ k % 16) :: figG k n
theorem figG_low : ∀ k n, figG (k + 1) n = figG k (n / 16) ++ [fig (n % 16)]
  | 0, n => by
    show [fig (n / 16 ^ 0 % 16)] = [fig (n % 16)]
    rw [Nat.pow_zero, Nat.div_one]
  | k + 1, n => by
    show fig (n / 16 ^ (k + 1) % 16) :: figG (k + 1) n = fig (n / 16 / 16 ^ k % 16) :: figG k (n / 16) ++ [fig (n % 16)]
    rw [figG_low k n, Nat.div_div_eq_div_mul, Nat.pow_succ, Nat.mul_comm (16 ^ k) 16]
    rfl
theorem core_app (b : Nat) : ∀ (f n : Nat) (ds : List Char), Nat.toDigitsCore b f n ds = Nat.toDigitsCore b f n [] ++ ds
  | 0, _, _ => rfl
  | f + 1, n, ds => by
    unfold Nat.toDigitsCore
    dsimp only
    split
    · rfl
    · rw [core_app b f (n / b) (Nat.digitChar (n % b) :: ds), core_app b f (n / b) [Nat.digitChar (n % b)], List.append_assoc]
      rfl
theorem core_fig : ∀ (k f n : Nat), n < 16 ^ (k + 1) → n < f → List.replicate (k + 1 - (Nat.toDigitsCore 16 f n []).length) 48 ++ (Nat.toDigitsCore 16 f n []).map Char.toNat = figG (k + 1) n ∧ (Nat.toDigitsCore 16 f n []).length ≤ k + 1
  | k, 0, n, _, h => absurd h (Nat.not_lt_zero n)
  | 0, f + 1, n, h, _ => by
    have h : n < 16 := by simpa using h
    have e : Nat.toDigitsCore 16 (f + 1) n [] = [Nat.digitChar (n % 16)] := by
      unfold Nat.toDigitsCore
      dsimp only
      rw [if_pos (by omega)]
    rw [e]
    refine ⟨?_, Nat.le_refl _⟩
    show [fig (n % 16)] = [fig (n / 16 ^ 0 % 16)]
    rw [Nat.pow_zero, Nat.div_one]
  | k + 1, f + 1, n, h, hf => by
    by_cases c : n / 16 = 0
    · have e : Nat.toDigitsCore 16 (f + 1) n [] = [Nat.digitChar (n % 16)] := by
        unfold Nat.toDigitsCore
        dsimp only
        rw [if_pos c]
      rw [e]
      refine ⟨?_, by show 1 ≤ _; omega⟩
      rw [figG_low, c]
      have z : ∀ m, figG m 0 = List.replicate m 48 := by
        intro m
        induction m with
        | zero => rfl
        | succ m ih =>
          show fig (0 / 16 ^ m % 16) :: figG m 0 = _
          rw [ih, Nat.zero_div]
          rfl
      rw [z]
      rfl
    · have e : Nat.toDigitsCore 16 (f + 1) n [] = Nat.toDigitsCore 16 f (n / 16) [] ++ [Nat.digitChar (n % 16)] := by
        conv => lhs; unfold Nat.toDigitsCore
        dsimp only
        rw [if_neg c, core_app]
      obtain ⟨ih, il⟩ := core_fig k f (n / 16) (by
        rw [Nat.div_lt_iff_lt_mul (by decide)]
        rw [Nat.pow_succ] at h
        exact h) (by omega)
      rw [e, figG_low, ← ih, List.length_append, List.map_append]
      refine ⟨?_, by show _ + 1 ≤ _; omega⟩
      rw [List.append_assoc]
      rw [show k + 1 + 1 - ((Nat.toDigitsCore 16 f (n / 16) []).length + [Nat.digitChar (n % 16)].length) = k + 1 - (Nat.toDigitsCore 16 f (n / 16) []).length by show k + 1 + 1 - (_ + 1) = _; omega]
      rfl
theorem hex_figs {n : Nat} (h : n < 16 ^ 16) : hex16 n = ⟨(figG 16 n).toArray⟩ := by
  have := (core_fig 15 (n + 1) n h (Nat.lt_succ_self n)).1
  unfold hex16 figs
  rw [← this, List.length_map]
  rfl
end Fk

set_option maxHeartbeats 4000000
/-! Sums of bytes, as functions. -/
namespace Fk
open PySem PySem.Spec PyProof.Rows L2
def stepB (n : Int) (c : UInt8) : Int := n * 1000003 + ((c.toNat : Nat) : Int) + 1
/-- what eight bytes make of a number -/
def step8 (f : Int) (b : Array UInt8) (n : Int) (i : Nat) : Int :=
  n * f + ((bI b (8 * i) * 1000003 + bI b (8 * i + 1)) * 1000006000009 + (bI b (8 * i + 2) * 1000003 + bI b (8 * i + 3))) * 1000012000054000108000081 +
    ((bI b (8 * i + 4) * 1000003 + bI b (8 * i + 5)) * 1000006000009 + (bI b (8 * i + 6) * 1000003 + bI b (8 * i + 7) + 1000022000208001096003478006652007108003280))
theorem bI_lt (b : Array UInt8) (k : Nat) : 0 ≤ bI b k ∧ bI b k < 256 := by
  have := (b.getD k 0).toNat_lt
  unfold bI
  omega
def behindF (n : Int) (l : List UInt8) (f : Int) : Int := (List.range (l.length / 8)).foldl (step8 f (l.drop (l.length % 8)).toArray) ((l.take (l.length % 8)).foldl stepB n)
def modF (short : Bool) : Int := if short then 251 else 2305843009213693951
def fac8 : Int := 1000024000252001512005670013608020412017496006561
def blkF (l : List UInt8) (short : Bool) (n : Int) (i : Nat) : Int := behindF n ((l.drop (256 * i)).take 256) (fac8 % modF short) % modF short
def sumI (l : List UInt8) (short : Bool) : Int := (List.range ((l.length + 255) / 256)).foldl (blkF l short) 7
theorem mod_pos (short : Bool) : 0 < modF short ∧ modF short < 16 ^ 16 := by cases short <;> decide
theorem blk_lt (l : List UInt8) (short : Bool) (n : Int) (i : Nat) : 0 ≤ blkF l short n i ∧ blkF l short n i < 16 ^ 16 := by
  obtain ⟨h1, h2⟩ := mod_pos short
  have a := Int.emod_nonneg (behindF n ((l.drop (256 * i)).take 256) (fac8 % modF short)) (by omega : modF short ≠ 0)
  have b := Int.emod_lt_of_pos (behindF n ((l.drop (256 * i)).take 256) (fac8 % modF short)) h1
  unfold blkF
  omega
theorem foldl_range {α : Type} (g : α → Nat → α) (a : α) (n : Nat) : (List.range (n + 1)).foldl g a = g ((List.range n).foldl g a) n := by
  rw [List.range_succ, List.foldl_append]
  rfl
theorem sum_lt (l : List UInt8) (short : Bool) : 0 ≤ sumI l short ∧ sumI l short < 16 ^ 16 := by
  unfold sumI
  cases (l.length + 255) / 256 with
  | zero => exact (show (0 : Int) ≤ 7 ∧ (7 : Int) < 16 ^ 16 from ⟨by decide, by decide⟩)
  | succ n =>
    rw [foldl_range]
    exact blk_lt _ _ _ _
def sumF (l : List UInt8) (short : Bool) : Str := hex16 (sumI l short).toNat
theorem sum_nat (l : List UInt8) (short : Bool) : sumI l short = (((sumI l short).toNat : Nat) : Int) ∧ (sumI l short).toNat < 16 ^ 16 := by
  obtain ⟨h1, h2⟩ := sum_lt l short
  refine ⟨(Int.toNat_of_nonneg h1).symm, ?_⟩
  have : (((sumI l short).toNat : Nat) : Int) < ((16 ^ 16 : Nat) : Int) := by
    rw [Int.toNat_of_nonneg h1]
    exact h2
  exact Int.ofNat_lt.mp this
theorem sum_id (l : List UInt8) (short : Bool) : isIdF (sumF l short) = true := by
  have h := (sum_nat l short).2
  refine id_of (fun u hu => ?_) (hex_len h)
  have q := hex_in (show u ∈ (hex16 (sumI l short).toNat).cps.toList from hu)
  have e : TL.tl HEX = HX := by decide +kernel
  rw [e]
  exact q
/-- the id of an object -/
def idF (o : Ob) (short : Bool) : Str := sumF (byts (encF o)).toList short
theorem and7 (n : Nat) : Builtin.bitAnd (n : Int) 7 = ((n % 8 : Nat) : Int) := by
  have := Bits.bitAnd_mask (x := (n : Int)) 3 (Int.natCast_nonneg n)
  rw [show (2 : Int) ^ 3 - 1 = 7 by decide] at this
  rw [this]
  omega
theorem fits_long {i : Int} (h : -1000000000000 ≤ i) (k : i ≤ 1000000000000) : Builtin.Range.rangeFitsLong i = true := by
  unfold Builtin.Range.rangeFitsLong
  rw [Bool.and_eq_true, decide_eq_true_eq, decide_eq_true_eq]
  omega
theorem range_blk (n : Nat) (h : n ≤ 16777216) : RgC 0 (n : Int) 256 ((n + 255) / 256) := by
  have e : Builtin.Range.rangeSize 0 (n : Int) 256 = (((n + 255) / 256 : Nat) : Int) := by
    unfold Builtin.Range.rangeSize
    rw [if_pos (by decide)]
    split <;> omega
  have k : (n + 255) / 256 ≤ 70000 := by omega
  refine ⟨by decide, by decide, ?_, e⟩
  unfold Builtin.Range.small
  rw [e]
  generalize (n + 255) / 256 = m at k
  rw [if_pos (show (256 : Int) > 0 by decide), fits_long (i := 0) (by decide) (by decide), fits_long (i := (n : Int)) (by omega) (by omega), fits_long (i := 256) (by decide) (by decide), fits_long (i := ((m : Nat) : Int)) (by omega) (by omega), fits_long (i := (n : Int) + (256 - 1)) (by omega) (by omega)]
  simp
end Fk

set_option maxHeartbeats 4000000
/-! The sum by blocks is the sum byte by byte. -/
namespace Fk
open PySem PySem.Spec PyProof.Rows L2
def Cg (M a b : Int) : Prop := a % M = b % M
theorem Cg.rf {M a : Int} : Cg M a a := rfl
theorem Cg.tr {M a b c : Int} (h : Cg M a b) (k : Cg M b c) : Cg M a c := Eq.trans h k
theorem Cg.add {M a b c d : Int} (h : Cg M a b) (k : Cg M c d) : Cg M (a + c) (b + d) := by
  show (a + c) % M = (b + d) % M
  rw [Int.add_emod, show a % M = b % M from h, show c % M = d % M from k, ← Int.add_emod]
theorem Cg.mul {M a b c d : Int} (h : Cg M a b) (k : Cg M c d) : Cg M (a * c) (b * d) := by
  show (a * c) % M = (b * d) % M
  rw [Int.mul_emod, show a % M = b % M from h, show c % M = d % M from k, ← Int.mul_emod]
theorem Cg.md {M a : Int} : Cg M (a % M) a := Int.emod_emod_of_dvd a (Int.dvd_refl M)
/-- byte by byte, not reduced -/
def horn (n : Int) (l : List UInt8) : Int := l.foldl stepB n
theorem horn_app (n : Int) (l m : List UInt8) : horn n (l ++ m) = horn (horn n l) m := List.foldl_append
theorem horn_cg {M a b : Int} (h : Cg M a b) : ∀ l : List UInt8, Cg M (horn a l) (horn b l)
  | [] => h
  | c :: l => horn_cg (a := stepB a c) (b := stepB b c) (((h.mul Cg.rf).add Cg.rf).add Cg.rf) l
theorem eight {l : List UInt8} (h : 8 ≤ l.length) : ∃ a b c d e f g i r, l = a :: b :: c :: d :: e :: f :: g :: i :: r := by
  match l, h with
  | a :: b :: c :: d :: e :: f :: g :: i :: r, _ => exact ⟨a, b, c, d, e, f, g, i, r, rfl⟩
theorem step8_cg {M f : Int} (hf : Cg M f fac8) {l : List UInt8} {k : Nat} (h : 8 * k + 8 ≤ l.length) (n : Int) : Cg M (step8 f l.toArray n k) (horn n ((l.drop (8 * k)).take 8)) := by
  obtain ⟨a0, a1, a2, a3, a4, a5, a6, a7, r, e⟩ := eight (l := l.drop (8 * k)) (by rw [List.length_drop]; omega)
  have g : ∀ j, bI l.toArray (8 * k + j) = (((((l.drop (8 * k))[j]?).getD 0).toNat : Nat) : Int) := fun j => by
    unfold bI
    rw [List.getElem?_drop, Array.getD_eq_getD_getElem?, List.getElem?_toArray]
  have c1 : Cg M (step8 f l.toArray n k) (step8 fac8 l.toArray n k) := (((Cg.rf.mul hf).add Cg.rf).add Cg.rf)
  refine c1.tr ?_
  have g0 := g 0
  have g1 := g 1
  have g2 := g 2
  have g3 := g 3
  have g4 := g 4
  have g5 := g 5
  have g6 := g 6
  have g7 := g 7
  rw [Nat.add_zero] at g0
  rw [e] at g0 g1 g2 g3 g4 g5 g6 g7
  have t : (l.drop (8 * k)).take 8 = [a0, a1, a2, a3, a4, a5, a6, a7] := by rw [e]; rfl
  rw [t]
  unfold step8
  rw [g0, g1, g2, g3, g4, g5, g6, g7]
  show Cg M _ (stepB (stepB (stepB (stepB (stepB (stepB (stepB (stepB n a0) a1) a2) a3) a4) a5) a6) a7)
  simp only [stepB, List.getElem?_cons_zero, List.getElem?_cons_succ, Option.getD_some, fac8]
  generalize ((a0.toNat : Nat) : Int) = x0
  generalize ((a1.toNat : Nat) : Int) = x1
  generalize ((a2.toNat : Nat) : Int) = x2
  generalize ((a3.toNat : Nat) : Int) = x3
  generalize ((a4.toNat : Nat) : Int) = x4
  generalize ((a5.toNat : Nat) : Int) = x5
  generalize ((a6.toNat : Nat) : Int) = x6
  generalize ((a7.toNat : Nat) : Int) = x7
  refine congrArg (· % M) ?_
  omega
theorem eights_cg {M f : Int} (hf : Cg M f fac8) {l : List UInt8} (n : Int) : ∀ k, 8 * k ≤ l.length → Cg M ((List.range k).foldl (step8 f l.toArray) n) (horn n (l.take (8 * k)))
  | 0, _ => Cg.rf
  | k + 1, h => by
    rw [foldl_range]
    have ih := eights_cg hf (l := l) n k (by omega)
    have e : l.take (8 * (k + 1)) = l.take (8 * k) ++ (l.drop (8 * k)).take 8 := by
      rw [show 8 * (k + 1) = 8 * k + 8 by omega, List.take_add]
    rw [e, horn_app]
    exact (step8_cg hf (by omega) _).tr (horn_cg ih _)
theorem behind_cg {M f : Int} (hf : Cg M f fac8) (n : Int) (l : List UInt8) : Cg M (behindF n l f) (horn n l) := by
  unfold behindF
  have h := eights_cg hf (l := l.drop (l.length % 8)) ((l.take (l.length % 8)).foldl stepB n) (l.length / 8) (by rw [List.length_drop]; omega)
  refine h.tr ?_
  rw [List.take_of_length_le (l := l.drop (l.length % 8)) (by rw [List.length_drop]; omega)]
  show Cg M (horn (horn n (l.take (l.length % 8))) (l.drop (l.length % 8))) _
  rw [← horn_app, List.take_append_drop]
  exact Cg.rf
theorem blocks_cg (l : List UInt8) (short : Bool) : ∀ k, Cg (modF short) ((List.range k).foldl (blkF l short) 7) (horn 7 (l.take (256 * k)))
  | 0 => Cg.rf
  | k + 1 => by
    rw [foldl_range]
    have ih := blocks_cg l short k
    have e : l.take (256 * (k + 1)) = l.take (256 * k) ++ (l.drop (256 * k)).take 256 := by
      rw [show 256 * (k + 1) = 256 * k + 256 by omega, List.take_add]
    rw [e, horn_app]
    unfold blkF
    exact Cg.md.tr ((behind_cg Cg.md _ _).tr (horn_cg ih _))
/-- byte by byte, reduced at each -/
def hornM (M n : Int) (l : List UInt8) : Int := l.foldl (fun n c => stepB n c % M) n
theorem hornM_cg {M : Int} (n : Int) : ∀ l : List UInt8, Cg M (hornM M n l) (horn n l)
  | [] => Cg.rf
  | c :: l => (hornM_cg (stepB n c % M) l).tr (horn_cg Cg.md l)
theorem hornM_lt {M n : Int} (h0 : 0 < M) (hn : 0 ≤ n ∧ n < M) : ∀ l : List UInt8, 0 ≤ hornM M n l ∧ hornM M n l < M
  | [] => hn
  | c :: l => hornM_lt h0 ⟨Int.emod_nonneg _ (by omega), Int.emod_lt_of_pos _ h0⟩ l
theorem sum_horn (l : List UInt8) (short : Bool) : sumI l short = hornM (modF short) 7 l := by
  have h0 := (mod_pos short).1
  have h7 : (0 : Int) ≤ 7 ∧ (7 : Int) < modF short := by cases short <;> decide
  obtain ⟨b1, b2⟩ := hornM_lt h0 h7 l
  have a : 0 ≤ sumI l short ∧ sumI l short < modF short := by
    unfold sumI
    cases (l.length + 255) / 256 with
    | zero => exact h7
    | succ n =>
      rw [foldl_range]
      unfold blkF
      exact ⟨Int.emod_nonneg _ (by omega), Int.emod_lt_of_pos _ h0⟩
  have c := blocks_cg l short ((l.length + 255) / 256)
  rw [List.take_of_length_le (by omega)] at c
  have c2 : Cg (modF short) (sumI l short) (hornM (modF short) 7 l) := Eq.trans c (hornM_cg 7 l).symm
  unfold Cg at c2
  rwa [Int.emod_eq_of_lt a.1 a.2, Int.emod_eq_of_lt b1 b2] at c2
end Fk

set_option maxHeartbeats 4000000
namespace Fk
open PySem PySem.Spec PyProof.Rows L2
section
variable {P : Program} {w : World} {K : PySem.W.Frag} {mg : Str → Option Value} {base : Heap}
/-! ### the wells -/
def spCellAt (K : PySem.W.Frag) : Sp := fun vs H Q _ => ∃ (a : Addr) (ns : List Int) (k : Nat), vs = [.ref a, .int k] ∧ SqL K H a (ns.map V.int) ∧ ∀ v : Int, Q (.int v) H
theorem c_l_cell_at (T : Top K mg) : C8.Cal P w K mg base 1 "_law_cell_at" (spCellAt K) [] := by
  refine cal_of T.d_l_cell_at sc_l_cell_at (fun _ _ _ _ _ _ us hl => match us, hl with | [_, _], _ => rfl) (fun vs H Q E h => ?_) (fun f cdv A outer s H vs Q E hr h => ?_)
  · obtain ⟨a, ns, k, rfl, _⟩ := h
    rfl
  · obtain ⟨a, ns, k, rfl, hS, q⟩ := h
    refine ⟨_, (pss_cons (ps_if (pt_cmpR op_lt (pv 1) (pe_callB call_len_seq (by rfl) T.z_len (by decide +kernel) (pa_cons (pv 0) pa_nil)) (nomark _))
      (pss_one (ps_ret (pe_ix ix_list (pv 0) (pv 1) (fun _ _ => rfl))))
      pss_nil)
      (pss_one (ps_ret pe_int))), ?_⟩
    refine ⟨.int k, rfl, .ref a, rfl, a, _, rfl, .inl hS, _, _, rfl, rfl, _, rfl, ite2 (fun h1 => ?_) (fun h1 => ?_)⟩
    · have h1 := of_decide_eq_true h1
      rw [List.length_map] at h1
      have h2 : k < ns.length := by omega
      exact ⟨.ref a, rfl, .int k, rfl, a, _, k, .int ns[k], rfl, rfl, hS, atI_nat (by rw [List.getElem?_map, List.getElem?_eq_getElem h2]; rfl), q _⟩
    · exact q _
def spWell : Sp := fun vs H Q _ => ∃ (x : Int), vs = [.int x] ∧ ∀ H' a, H a = none → Same H H' → Wl H' a 0 → Q (.ref a) H'
theorem c_l_well (T : Top K mg) : C8.Cal P w K mg base 1 "_law_well" spWell [] := by
  refine cal_of T.d_l_well sc_l_well (fun _ _ _ _ _ _ us hl => match us, hl with | [_], _ => rfl) (fun vs H Q E h => ?_) (fun f cdv A outer s H vs Q E hr h => ?_)
  · obtain ⟨x, rfl, _⟩ := h
    rfl
  · obtain ⟨x, rfl, q⟩ := h
    refine ⟨_, (pss_one (ps_ret (pe_lst (pa_cons (pe_op op_mul (pv 0) (pe_callTy call_int1 (by rfl) T.z_int (by decide +kernel) (pa_cons (pe_cmpR op_ge (pv 0) (pe_op op_pow pe_int pe_int) (nomark _)) pa_nil))) (pa_cons (pv 0) (pa_cons pe_int pa_nil)))))), ?_⟩
    refine ⟨.int x, rfl, .int x, rfl, 10, 18, rfl, rfl, ⟨by decide, by decide, by decide⟩, _, _, rfl, rfl, .inr ⟨_, rfl, _, _, rfl, rfl, .inr ?_, .int x, rfl, (by show 3 ≤ sizeLine; decide), fun p hp => ?_⟩⟩
    · split <;> exact ⟨by decide, by decide⟩
    · exact q _ p hp (same_new hp) ⟨Int.le_refl _, _, _, upd_same⟩
/-- the number that is drawn; the well behind it -/
def Drawn (H : Hp) (a : Addr) (n c : Int) (Q : VK) : Prop := ∀ r x y c', 0 ≤ r → r < n → c ≤ c' → c' ≤ c + 1 → Q (.int r) (upd H a (.lst [.int x, .int y, .int c']))
def spDraw : Sp := fun vs H Q _ => ∃ (a : Addr) (n c : Int), vs = [.ref a, .int n] ∧ Wl H a c ∧ 0 < n ∧ n < 2000000000000 ∧ c < 2 ^ 40 ∧ Drawn H a n c Q
theorem at3 (x y c : Int) : atI [V.int x, .int y, .int c] 0 = some (.int x) ∧ atI [V.int x, .int y, .int c] 1 = some (.int y) ∧ atI [V.int x, .int y, .int c] 2 = some (.int c) := ⟨rfl, rfl, rfl⟩
theorem pow_small {i : Int} (h0 : 0 ≤ i) (h : i < 2 ^ 62) : i.natAbs < 2 ^ 64 := by omega
theorem c_l_draw (T : Top K mg) : C8.Cal P w K mg base 1 "_law_draw" spDraw [] := by
  refine cal_of T.d_l_draw sc_l_draw (fun _ _ _ _ _ _ us hl => match us, hl with | [_, _], _ => rfl) (fun vs H Q E h => ?_) (fun f cdv A outer s H vs Q E hr h => ?_)
  · obtain ⟨a, n, c, rfl, _⟩ := h
    rfl
  · obtain ⟨a, n, c, rfl, ⟨hc0, x, y, hw⟩, hn0, hn1, hc, q⟩ := h
    refine ⟨_, (pss_cons (ps_if (pt_cmpR op_gt (pe_ix ix_list (pv 0) pe_int (fun _ _ => rfl)) pe_int (nomark _))
      (pss_cons (ps_set (i := 2) sc_l_draw.nd rfl (Or.inl rfl) (pe_op op_mod (pe_callTy call_int1 (by rfl) T.z_int (by decide +kernel) (pa_cons (pe_ix ix_list (pv 0) pe_int (fun _ _ => rfl)) pa_nil)) (pv 1)))
      (pss_cons (ps_asg (pe_op op_fdivW (pe_ix ix_list (pv 0) pe_int (fun _ _ => rfl)) (pv 1)) (pg_sub (pv 0) pe_int set_list))
      (pss_one (ps_ret (pv 2)))))
      pss_nil)
      (pss_cons (ps_asg (pe_op op_add (pe_ix ix_list (pv 0) pe_int (fun _ _ => rfl)) pe_int) (pg_sub (pv 0) pe_int set_list))
      (pss_cons (ps_set (i := 3) sc_l_draw.nd rfl (Or.inl rfl) (pe_op op_add (pe_op op_mod (pe_callTy call_int1 (by rfl) T.z_int (by decide +kernel) (pa_cons (pe_ix ix_list (pv 0) pe_int (fun _ _ => rfl)) pa_nil)) pe_int) (pe_op op_mul (pe_op op_mod (pe_callTy call_int1 (by rfl) T.z_int (by decide +kernel) (pa_cons (pe_op op_fdivW (pe_ix ix_list (pv 0) pe_int (fun _ _ => rfl)) pe_int) pa_nil)) pe_int) pe_int)))
      (pss_cons (ps_set (i := 4) sc_l_draw.nd rfl (Or.inl rfl) (pe_op op_mod (pe_callTy call_int1 (by rfl) T.z_int (by decide +kernel) (pa_cons (pe_op op_pow (pe_op op_add (pe_op op_add (pv 3) (pe_op op_mul pe_int (pe_ix ix_list (pv 0) pe_int (fun _ _ => rfl)))) pe_int) pe_int) pa_nil)) pe_int))
      (pss_cons (ps_set (i := 4) sc_l_draw.nd rfl (Or.inl rfl) (pe_op op_mod (pe_callTy call_int1 (by rfl) T.z_int (by decide +kernel) (pa_cons (pe_op op_mul (pv 4) (pe_op op_add (pe_op op_add (pe_op op_fdivW (pv 4) pe_int) pe_int) (pe_ix ix_list (pv 0) pe_int (fun _ _ => rfl)))) pa_nil)) pe_int))
      (pss_one (ps_ret (pe_op op_mod (pe_callTy call_int1 (by rfl) T.z_int (by decide +kernel) (pa_cons (pe_op op_mod (pe_callTy call_int1 (by rfl) T.z_int (by decide +kernel) (pa_cons (pe_op op_mul (pv 4) (pe_op op_add (pe_op op_fdivW (pv 4) pe_int) pe_int)) pa_nil)) pe_int) pa_nil)) (pv 1))))))))), ?_⟩
    refine ⟨.ref a, rfl, a, _, 0, _, rfl, rfl, SqL.of hw, rfl, _, _, rfl, rfl, _, rfl, ite2 (fun h1 => ?_) (fun h1 => ?_)⟩
    · refine ⟨.ref a, rfl, a, _, 0, _, rfl, rfl, SqL.of hw, rfl, .inl ⟨_, rfl, .int n, rfl, _, _, rfl, rfl, hn0, ?_⟩⟩
      refine ⟨.ref a, rfl, a, _, 0, _, rfl, rfl, SqL.of hw, rfl, .int n, rfl, _, _, rfl, rfl, wide_div (b := 41) hn0 (by omega) (by decide) (by decide), .ref a, rfl, a, _, 0, 0, rfl, rfl, hw, rfl, .int (x % n), rfl, ?_⟩
      exact q _ _ _ _ (Int.emod_nonneg _ (by omega)) (Int.emod_lt_of_pos _ hn0) (Int.le_refl _) (by omega)
    · refine ⟨.ref a, rfl, a, _, 2, _, rfl, rfl, SqL.of hw, rfl, _, _, rfl, rfl, .ref a, rfl, a, _, 2, 2, rfl, rfl, hw, rfl, ?_⟩
      have hw2 : (upd H a (.lst [V.int x, .int y, .int (c + 1)])) a = some (.lst [V.int x, .int y, .int (c + 1)]) := upd_same
      have b1 : ∀ z m : Int, 0 < m → 0 ≤ z % m ∧ z % m < m := fun z m h => ⟨Int.emod_nonneg _ (by omega), Int.emod_lt_of_pos _ h⟩
      have y1 := b1 y 2147483549 (by decide)
      have y2 := b1 (y / 2147483549) 80021 (by decide)
      refine ⟨.ref a, rfl, a, _, 1, _, rfl, rfl, SqL.of hw2, rfl, .inl ⟨_, rfl, _, _, rfl, rfl, (by show (0 : Int) < _; decide), .ref a, rfl, a, _, 1, _, rfl, rfl, SqL.of hw2, rfl, _, _, rfl, rfl, wide_div (b := 40) (by decide) (by decide) (by decide) (by decide), .inl ⟨_, rfl, _, _, rfl, rfl, (by show (0 : Int) < _; decide), _, _, rfl, rfl, .inr (by decide), _, _, rfl, rfl, ?_⟩⟩⟩
      refine ⟨_, rfl, .ref a, rfl, a, _, 2, _, rfl, rfl, SqL.of hw2, rfl, _, _, rfl, rfl, .inl (by decide), _, _, rfl, rfl, _, _, rfl, rfl, _, _, rfl, rfl, ⟨by decide, by decide, pow_small (by omega) (by omega)⟩, .inl ⟨_, rfl, _, _, rfl, rfl, (by show (0 : Int) < _; decide), ?_⟩⟩
      generalize ((y % 2147483549 + y / 2147483549 % 80021 * 37 + 5843 * (c + 1) + 17) ^ Int.toNat 5) = big
      have m1 := b1 big 2147483647 (by decide)
      refine ⟨_, rfl, _, rfl, _, _, rfl, rfl, wide_div (b := 40) (by decide) (by decide) (by decide) (by decide), _, _, rfl, rfl, .ref a, rfl, a, _, 2, _, rfl, rfl, SqL.of hw2, rfl, _, _, rfl, rfl, _, _, rfl, rfl, .inl (by omega), .inl ⟨_, rfl, _, _, rfl, rfl, (by show (0 : Int) < _; decide), ?_⟩⟩
      generalize (big % 2147483647 * (big % 2147483647 / 953 + 40993 + (c + 1))) = big2
      have m2 := b1 big2 2147483629 (by decide)
      refine ⟨_, rfl, _, rfl, _, _, rfl, rfl, wide_div (b := 40) (by decide) (by decide) (by decide) (by decide), _, _, rfl, rfl, _, _, rfl, rfl, .inl (by omega), .inl ⟨_, rfl, _, _, rfl, rfl, (by show (0 : Int) < _; decide), .inl ⟨_, rfl, .int n, rfl, _, _, rfl, rfl, hn0, ?_⟩⟩⟩
      exact q _ _ _ _ (Int.emod_nonneg _ (by omega)) (Int.emod_lt_of_pos _ hn0) (by omega) (Int.le_refl _)
def spPick (K : PySem.W.Frag) : Sp := fun vs H Q _ => ∃ (a b : Addr) (xs : List V) (c : Int), vs = [.ref a, .ref b] ∧ Wl H a c ∧ SqL K H b xs ∧ b ≠ a ∧ 0 < xs.length ∧ xs.length < 1000000 ∧ c < 2 ^ 40 ∧ ∀ v ∈ xs, Aft a c 1 H (Q v)
theorem c_l_pick (T : Top K mg) : C8.Cal P w K mg base 2 "_law_pick" (spPick K) [] := by
  refine cal_of T.d_l_pick sc_l_pick (fun _ _ _ _ _ _ us hl => match us, hl with | [_, _], _ => rfl) (fun vs H Q E h => ?_) (fun f cdv A outer s H vs Q E hr h => ?_)
  · obtain ⟨a, b, xs, c, rfl, _⟩ := h
    rfl
  · obtain ⟨a, b, xs, c, rfl, hw, hS, nb, h0, h1, hc, q⟩ := h
    refine ⟨_, (pss_one (ps_ret (pe_ix ix_list (pv 1) (C8.pe_c (c_l_draw T) hr (by decide) (by rfl) (pa_cons (pv 0) (pa_cons (pe_callB call_len_seq (by rfl) T.z_len (by decide +kernel) (pa_cons (pv 1) pa_nil)) pa_nil))) (fun _ _ => rfl)))), ?_⟩
    refine ⟨.ref b, rfl, .ref a, rfl, .ref b, rfl, b, xs, rfl, .inl hS, a, xs.length, c, rfl, hw, by omega, by omega, hc, fun r x y c' hr0 hr1 hc1 hc2 => ?_⟩
    obtain ⟨v, hv, _, e⟩ := atI_int hr0 hr1
    exact ⟨b, xs, r, v, rfl, rfl, sql_fr hS nb Fr.at, e, q v hv _ c' Fr.at (Wl.upd (by have := hw.1; omega)) hc1 hc2⟩
def spSigns : Sp := fun vs H Q _ => ∃ (a : Addr) (s : Str) (l m : Nat) (c : Int), vs = [.ref a, .str s, .int l, .int m] ∧ Wl H a c ∧ 0 < s.length ∧ s.length < 100000 ∧ l ≤ m ∧ m ≤ 1000 ∧ c < 2 ^ 39 ∧
  ∀ x : Str, (∀ u ∈ TL.tl x, u ∈ TL.tl s) → l ≤ x.length → x.length ≤ m → Aft a c (m + 1) H (Q (.str x))
theorem c_l_signs (T : Top K mg) : C8.Cal P w K mg base 2 "_law_signs" spSigns [] := by
  refine cal_of T.d_l_signs sc_l_signs (fun _ _ _ _ _ _ us hl => match us, hl with | [_, _, _, _], _ => rfl) (fun vs H Q E h => ?_) (fun f cdv A outer s H vs Q E hr h => ?_)
  · obtain ⟨a, z, l, m, c, rfl, _⟩ := h
    rfl
  · obtain ⟨a, z, l, m, c, rfl, hw, hz0, hz1, hlm, hm, hc, q⟩ := h
    have hc0 := hw.1
    refine ⟨_, (pss_one (ps_ret (pe_join pe_str (pe_lc (own := [("_law_k", 4)]) (g := gName 4) (by rfl) sc_l_signs.nd (pi_range1 (by rfl) T.z_range (pa_cons (pe_op op_add (pv 2) (C8.pe_c (c_l_draw T) hr (by decide) (by rfl) (pa_cons (pv 0) (pa_cons (pe_op op_add (pe_op op_sub (pv 3) (pv 2)) pe_int) pa_nil)))) pa_nil)) (blkOk_by (own := [("_law_k", 4)]) (N := ["_law_well_here", "_law_signs_here", "_law_least", "_law_most", "_law_k"]) (sc := C8.fnScope s_l_signs) (by decide +kernel)) (fun _ _ _ _ _ => (pg_name (i := 4) sc_l_signs.nd rfl (Or.inl rfl))) (fun _ _ _ _ _ => pts_nil) (fun _ _ _ _ _ => (pe_ix ix_str (pv 1) (C8.pe_c (c_l_draw T) hr (by decide) (by rfl) (pa_cons (pv 0) (pa_cons (pe_callB call_len_str (by rfl) T.z_len (by decide +kernel) (pa_cons (pv 1) pa_nil)) pa_nil))) (fun _ _ => rfl))))))), ?_⟩
    refine ⟨⟨_, rfl⟩, .int l, rfl, .ref a, rfl, .int m, rfl, .int l, rfl, _, _, rfl, rfl, _, _, rfl, rfl, a, _, c, rfl, hw, by omega, by omega, by omega, fun r x y c1 hr0 hr1 hc1 hc2 => ?_⟩
    have hw1 := Wl.upd (H := H) (a := a) (x := x) (y := y) (c := c1) (by omega)
    have f1 : Fr a H (upd H a (.lst [.int x, .int y, .int c1])) := Fr.at
    generalize upd H a (.lst [.int x, .int y, .int c1]) = H1 at hw1 f1 ⊢
    refine ⟨_, _, rfl, rfl, _, rfl, by omega, by omega, fun D hD => ?_⟩
    have nD := hw1.ne hD
    have en : ((l : Int) + r).toNat ≤ m := by omega
    refine lc_inv (i := 4) yields_range (fun k acc H' => Fr a H1 H' ∧ ∃ c', Wl H' a c' ∧ c1 ≤ c' ∧ c' ≤ c1 + k ∧ ∃ cs : List Nat, acc = cs.map sgn ∧ (∀ u ∈ cs, u ∈ TL.tl z) ∧ cs.length = k) (fun _ _ _ _ _ => trivial) ?_ (fun k acc H' x I hA hx ha hk => ?_) ?_ (fun acc H' I hA _ => ?_)
    · exact ⟨Fr.new hD, c1, hw1.new hD, Int.le_refl _, by omega, [], rfl, (fun u hu => nomatch hu), rfl⟩
    · obtain ⟨fr, c', hw', hc3, hc4, cs, rfl, hcs, hl⟩ := I
      have hkm : k < m := by
        have := (List.getElem?_eq_some_iff.mp hx).1
        rw [List.length_map, List.length_range] at this
        omega
      refine yes_ ?_
      refine ⟨.str z, rfl, .ref a, rfl, .str z, rfl, z, rfl, small_line (by omega), a, z.length, c', rfl, hw', by omega, by omega, by omega, fun r x y c2 hr0 hr1 hc5 hc6 => ?_⟩
      obtain ⟨u, hu, _, e⟩ := atI_int (xs := TL.tl z) hr0 (by rw [← TL.len_tl]; exact hr1)
      have fr2 : Fr a H' (upd H' a (.lst [.int x, .int y, .int c2])) := Fr.at
      refine ⟨z, r, u, rfl, rfl, small_line (by omega), e, lc_take (by rw [upd_ne nD]; exact hA) ha hk ⟨(fr.trans fr2).mut hD, c2, (Wl.upd (by omega)).mut nD, by omega, by omega, cs ++ [u], by rw [List.map_append]; rfl, fun w hw => ?_, by rw [List.length_append, hl]; rfl⟩⟩
      rcases List.mem_append.mp hw with hw | hw
      · exact hcs w hw
      · rw [List.mem_singleton.mp hw]
        exact hu
    · rw [List.length_map, List.length_range]
      omega
    · obtain ⟨fr, c', hw', hc3, hc4, cs, rfl, hcs, hl⟩ := I
      rw [List.length_map, List.length_range] at hl hc4
      refine ⟨_, D, cs.map fun c => (⟨#[c]⟩ : Str), rfl, rfl, .inl (SqL.of (by rw [List.map_map]; exact hA)), ?_, ?_⟩
      · rw [signs_sum, List.length_map]
        show cs.length + cs.length * 0 ≤ _
        omega
      · have e := join_signs cs
        refine q _ (by rw [e]; exact hcs) (by rw [TL.len_tl, e]; omega) (by rw [TL.len_tl, e]; omega) H' c' (f1.trans fr) hw' (by omega) (by omega)
def spAllSigns : Sp := fun vs H Q _ => vs = [] ∧ Q (.str ALL) H
theorem c_l_all_signs (T : Top K mg) : C8.Cal P w K mg base 1 "_law_all_signs" spAllSigns [] := by
  refine cal_of T.d_l_all_signs sc_l_all_signs (fun _ _ _ _ _ _ us hl => match us, hl with | [], _ => rfl) (fun vs H Q E h => ?_) (fun f cdv A outer s H vs Q E hr h => ?_)
  · obtain ⟨rfl, _⟩ := h
    rfl
  · obtain ⟨rfl, q⟩ := h
    refine ⟨_, (pss_cons (ps_set (i := 0) sc_l_all_signs.nd rfl (Or.inl rfl) pe_str)
      (pss_one (ps_ret (pe_op op_add_str (pe_op op_add_str (pv 0) pe_str) pe_str)))), ?_⟩
    exact ⟨_, rfl, _, _, rfl, rfl, (by decide +kernel), _, _, rfl, rfl, (by decide +kernel), q⟩
def spId : Sp := fun vs H Q _ => ∃ (a : Addr) (c : Int), vs = [.ref a] ∧ Wl H a c ∧ c < 2 ^ 38 ∧ ∀ x : Str, (∀ u ∈ TL.tl x, u ∈ TL.tl HEX) → x.length = 16 → Aft a c 20 H (Q (.str x))
theorem c_l_id (T : Top K mg) : C8.Cal P w K mg base 3 "_law_id" spId [] := by
  refine cal_of T.d_l_id sc_l_id (fun _ _ _ _ _ _ us hl => match us, hl with | [_], _ => rfl) (fun vs H Q E h => ?_) (fun f cdv A outer s H vs Q E hr h => ?_)
  · obtain ⟨a, c, rfl, _⟩ := h
    rfl
  · obtain ⟨a, c, rfl, hw, hc, q⟩ := h
    refine ⟨_, (pss_one (ps_ret (C8.pe_c (c_l_signs T) hr (by decide) (by rfl) (pa_cons (pv 0) (pa_cons pe_str (pa_cons pe_int (pa_cons pe_int pa_nil))))))), ?_⟩
    exact ⟨.ref a, rfl, a, HEX, 16, 16, c, rfl, hw, by decide +kernel, by decide +kernel, by decide, by decide, by omega, fun x hx h1 h2 => (q x hx (by omega)).more (Fr.refl a H) (Int.le_refl _) (by omega)⟩
theorem menu {xs : List Int} {v : V} (h : v ∈ xs.map V.int) : ∃ m ∈ xs, v = .int m := by
  obtain ⟨m, hm, rfl⟩ := List.mem_map.mp h
  exact ⟨m, hm, rfl⟩
def spSegment : Sp := fun vs H Q _ => ∃ (a : Addr) (c : Int), vs = [.ref a] ∧ Wl H a c ∧ c < 2 ^ 38 ∧ ∀ x : Str, isSegF x = true → Aft a c 20 H (Q (.str x))
theorem c_l_segment (T : Top K mg) : C8.Cal P w K mg base 3 "_law_segment" (spSegment) [] := by
  refine cal_of T.d_l_segment sc_l_segment (fun _ _ _ _ _ _ us hl => match us, hl with | [_], _ => rfl) (fun vs H Q E h => ?_) (fun f cdv A outer s H vs Q E hr h => ?_)
  · obtain ⟨a, c, rfl, _⟩ := h
    rfl
  · obtain ⟨a, c, rfl, hw, hc, q⟩ := h
    refine ⟨_, (pss_cons (ps_set (i := 1) sc_l_segment.nd rfl (Or.inl rfl) pe_str)
      (pss_cons (ps_set (i := 2) sc_l_segment.nd rfl (Or.inl rfl) (C8.pe_c (c_l_signs T) hr (by decide) (by rfl) (pa_cons (pv 0) (pa_cons (pv 1) (pa_cons pe_int (pa_cons (C8.pe_c (c_l_pick T) hr (by decide) (by rfl) (pa_cons (pv 0) (pa_cons (pe_lst (pa_cons pe_int (pa_cons pe_int (pa_cons pe_int pa_nil)))) pa_nil))) pa_nil))))))
      (pss_cons (ps_if (PW.pt (pw_and (pt_cmpR op_lt (pe_callB call_len_str (by rfl) T.z_len (by decide +kernel) (pa_cons (pv 2) pa_nil)) pe_int (nomark _)) (pw_and1 (pt_cmpR op_eq (C8.pe_c (c_l_draw T) hr (by decide) (by rfl) (pa_cons (pv 0) (pa_cons pe_int pa_nil))) pe_int (nomark _)))))
      (pss_cons (ps_set (i := 3) sc_l_segment.nd rfl (Or.inl rfl) (C8.pe_c (c_l_draw T) hr (by decide) (by rfl) (pa_cons (pv 0) (pa_cons (pe_op op_add (pe_callB call_len_str (by rfl) T.z_len (by decide +kernel) (pa_cons (pv 2) pa_nil)) pe_int) pa_nil))))
      (pss_one (ps_set (i := 2) sc_l_segment.nd rfl (Or.inl rfl) (pe_op op_add_str (pe_op op_add_str (pe_slice sl_str (pv 2) po_none (po_some (pv 3))) pe_str) (pe_slice sl_str (pv 2) (po_some (pv 3)) po_none)))))
      pss_nil)
      (pss_one (ps_ret (pv 2)))))), ?_⟩
    refine ⟨.ref a, rfl, .str LTS, rfl, .ref a, rfl, (by show 3 ≤ sizeLine; decide), fun p hp => ⟨a, p, _, c, rfl, hw.new hp, SqL.of upd_same, hw.ne hp, (by show 0 < 3; decide), (by show 3 < 1000000; decide), by omega, fun v hv H1 c1 f1 w1 h1 h2 => ?_⟩⟩
    obtain ⟨m, rfl, hm⟩ : ∃ m : Nat, v = .int m ∧ 1 ≤ m ∧ m ≤ 12 := by
      obtain ⟨m, hm, rfl⟩ := menu (xs := [1, 3, 12]) hv
      simp only [List.mem_cons, List.not_mem_nil, or_false] at hm
      exact ⟨m.toNat, by congr 1; omega, by omega, by omega⟩
    refine ⟨a, LTS, 1, m, c1, rfl, w1, (by decide +kernel), (by decide +kernel), by omega, by omega, by omega, fun x hx h3 h4 H2 c2 f2 w2 h5 h6 => ?_⟩
    have fr2 : Fr a H H2 := (Fr.new hp).trans (f1.trans f2)
    refine ⟨.str x, rfl, x, rfl, small_line (by omega), _, _, rfl, rfl, _, rfl, ite2 (fun h7 => ?_) (fun h7 => ?_)⟩
    · have h7 : x.length < 12 := by
        have := of_decide_eq_true h7
        omega
      refine ⟨.ref a, rfl, a, 4, c2, rfl, w2, by decide, by decide, by omega, fun r x1 y1 c3 hr0 hr1 h8 h9 => ?_⟩
      have w3 := Wl.upd (H := H2) (a := a) (x := x1) (y := y1) (c := c3) (by have := w2.1; omega)
      have f3 : Fr a H2 (upd H2 a (.lst [.int x1, .int y1, .int c3])) := Fr.at
      generalize upd H2 a (.lst [.int x1, .int y1, .int c3]) = H3 at w3 f3 ⊢
      refine ⟨rfl, _, rfl, ite2 (fun h10 => ?_) (fun h10 => ?_)⟩
      · refine ⟨.ref a, rfl, .str x, rfl, x, rfl, small_line (by omega), _, _, rfl, rfl, a, _, c3, rfl, w3, by omega, by omega, by omega, fun r2 x2 y2 c4 hr2 hr3 h11 h12 => ?_⟩
        have w4 := Wl.upd (H := H3) (a := a) (x := x2) (y := y2) (c := c4) (by have := w3.1; omega)
        have f4 : Fr a H3 (upd H3 a (.lst [.int x2, .int y2, .int c4])) := Fr.at
        generalize upd H3 a (.lst [.int x2, .int y2, .int c4]) = H4 at w4 f4 ⊢
        obtain ⟨n, rfl⟩ : ∃ n : Nat, r2 = n := ⟨r2.toNat, by omega⟩
        obtain ⟨e1, e2⟩ := seg_dotted n hx h3 h7
        refine ⟨.str x, rfl, .int n, rfl, n, rfl, x, rfl, small_line (by omega), _, _, rfl, rfl, ?_, .str x, rfl, .int n, rfl, n, rfl, x, rfl, small_line (by omega), _, _, rfl, rfl, ?_, .str _, rfl, ?_⟩
        · refine small_line ?_
          have := cutS_le x none (some (n : Int))
          have e : ("." : Str).length = 1 := by decide +kernel
          omega
        · refine small_line ?_
          have := cutS_le x none (some (n : Int))
          have := cutS_le x (some (n : Int)) none
          have e : ("." : Str).length = 1 := by decide +kernel
          rw [Str.length_append]
          omega
        · exact q _ e1 H4 c4 (fr2.trans (f3.trans f4)) w4 (by omega) (by omega)
      · exact ⟨.str x, rfl, q x (seg_plain hx h3 (by omega)) H3 c3 (fr2.trans f3) w3 (by omega) (by omega)⟩
    · exact iteF ⟨.str x, rfl, q x (seg_plain hx h3 (by omega)) H2 c2 fr2 w2 (by omega) (by omega)⟩
def spText : Sp := fun vs H Q _ => ∃ (a : Addr) (c : Int), vs = [.ref a] ∧ Wl H a c ∧ c < 2 ^ 37 ∧ ∀ x : Str, isTextF x = true → x.length ≤ 2000 → Aft a c 100 H (Q (.str x))
theorem c_l_text (T : Top K mg) : C8.Cal P w K mg base 3 "_law_text" (spText) [] := by
  refine cal_of T.d_l_text sc_l_text (fun _ _ _ _ _ _ us hl => match us, hl with | [_], _ => rfl) (fun vs H Q E h => ?_) (fun f cdv A outer s H vs Q E hr h => ?_)
  · obtain ⟨a, c, rfl, _⟩ := h
    rfl
  · obtain ⟨a, c, rfl, hw, hc, q⟩ := h
    have hc0 := hw.1
    refine ⟨_, (pss_cons (ps_set (i := 1) sc_l_text.nd rfl (Or.inl rfl) (C8.pe_c (c_l_pick T) hr (by decide) (by rfl) (pa_cons (pv 0) (pa_cons (pe_lst (pa_cons pe_int (pa_cons pe_int (pa_cons pe_int (pa_cons pe_int pa_nil))))) pa_nil))))
      (pss_cons (ps_set (i := 2) sc_l_text.nd rfl (Or.inl rfl) (C8.pe_c (c_l_signs T) hr (by decide) (by rfl) (pa_cons (pv 0) (pa_cons (pe_c0 (c_l_all_signs T) hr (by decide) (by rfl)) (pa_cons pe_int (pa_cons (pe_callB (call_min2 rfl) (by rfl) T.z_min (by decide +kernel) (pa_cons (pv 1) (pa_cons pe_int pa_nil))) pa_nil))))))
      (pss_cons (ps_if (PW.pt (pw_and (pt_cmpR op_ne (pv 2) pe_str (nomark _)) (pw_and1 (pt_cmpR op_eq (pv 1) pe_int (nomark _)))))
      (pss_one (ps_set (i := 2) sc_l_text.nd rfl (Or.inl rfl) (pe_slice sl_str (pe_op op_mul_si (pv 2) pe_int) po_none (po_some (C8.pe_c (c_l_pick T) hr (by decide) (by rfl) (pa_cons (pv 0) (pa_cons (pe_lst (pa_cons pe_int (pa_cons pe_int (pa_cons pe_int pa_nil)))) pa_nil)))))))
      pss_nil)
      (pss_one (ps_ret (pv 2)))))), ?_⟩
    refine ⟨.ref a, rfl, (by show 4 ≤ sizeLine; decide), fun p hp => ⟨a, p, _, c, rfl, hw.new hp, SqL.of upd_same, hw.ne hp, (by show 0 < 4; decide), (by show 4 < 1000000; decide), by omega, fun v hv H1 c1 f1 w1 h1 h2 => ?_⟩⟩
    obtain ⟨m, rfl, hm⟩ : ∃ m : Int, v = .int m ∧ 3 ≤ m ∧ m ≤ 2000 := by
      obtain ⟨m, hm, rfl⟩ := menu (xs := [3, 3, 20, 2000]) hv
      simp only [List.mem_cons, List.not_mem_nil, or_false] at hm
      exact ⟨m, rfl, by omega, by omega⟩
    refine ⟨.ref a, rfl, rfl, .int m, rfl, _, _, rfl, ?_⟩
    obtain ⟨m', em, hm'⟩ : ∃ m' : Nat, (if (30 : Int) < m then 30 else m) = m' ∧ m' ≤ 30 := by
      split
      · exact ⟨30, rfl, Nat.le_refl _⟩
      · exact ⟨m.toNat, by omega, by omega⟩
    refine ⟨a, ALL, 0, m', c1, by rw [← em]; rfl, w1, (by decide +kernel), (by decide +kernel), by omega, by omega, by omega, fun x hx h3 h4 H2 c2 f2 w2 h5 h6 => ?_⟩
    have fr2 : Fr a H H2 := (Fr.new hp).trans (f1.trans f2)
    have fin : ∀ H3 c3, Fr a H2 H3 → Wl H3 a c3 → c2 ≤ c3 → c3 ≤ c2 + 10 → Q (.str x) H3 := fun H3 c3 f3 w3 h7 h8 => q x (text_of hx (by omega)) (by omega) H3 c3 (fr2.trans f3) w3 (by omega) (by omega)
    refine ⟨.str x, rfl, rfl, _, rfl, ite2 (fun h7 => ?_) (fun h7 => ?_)⟩
    · refine ⟨.int m, rfl, rfl, _, rfl, ite2 (fun h8 => ?_) (fun h8 => ?_)⟩
      · refine ⟨.str x, rfl, x, 2000, rfl, rfl, by decide, by decide, ?_, .ref a, rfl, (by show 3 ≤ sizeLine; decide), fun p2 hp2 => ⟨a, p2, _, c2, rfl, w2.new hp2, SqL.of upd_same, w2.ne hp2, (by show 0 < 3; decide), (by show 3 < 1000000; decide), by omega, fun v hv H3 c3 f3 w3 h9 h10 => ?_⟩⟩
        · have : x.length * Int.toNat 2000 ≤ 30 * 2000 := Nat.mul_le_mul (by omega) (by decide)
          omega
        · obtain ⟨k, rfl, hk⟩ : ∃ k : Nat, v = .int k ∧ k ≤ 2000 := by
            obtain ⟨m, hm, rfl⟩ := menu (xs := [2000, 1999, 1000]) hv
            simp only [List.mem_cons, List.not_mem_nil, or_false] at hm
            exact ⟨m.toNat, by congr 1; omega, by omega⟩
          have e := cut_to (repS x 2000) k
          have hr : (repS x (Int.toNat 2000)).length ≤ 100000 := by
            rw [rep_len]
            have : Int.toNat 2000 * x.length ≤ 2000 * 30 := Nat.mul_le_mul (by decide) (by omega)
            omega
          refine ⟨_, rfl, repS x (Int.toNat 2000), rfl, small_line (by omega), .str _, rfl, ?_⟩
          have hl : (cutS (repS x 2000) none (some (k : Int))).length ≤ 2000 := by
            rw [TL.len_tl, e, List.length_take]
            omega
          refine q _ (text_of (fun u hu => ?_) hl) hl H3 c3 (fr2.trans ((Fr.new hp2).trans f3)) w3 (by omega) (by omega)
          rw [e] at hu
          have hu := List.mem_of_mem_take hu
          rw [tl_rep] at hu
          obtain ⟨l, hl, hu⟩ := List.mem_flatten.mp hu
          rw [(List.mem_replicate.mp hl).2] at hu
          exact hx u hu
      · exact ⟨.str x, rfl, fin H2 c2 (Fr.refl a H2) w2 (Int.le_refl _) (by omega)⟩
    · exact iteF ⟨.str x, rfl, fin H2 c2 (Fr.refl a H2) w2 (Int.le_refl _) (by omega)⟩
end

end Fk

set_option maxHeartbeats 4000000
namespace Fk
open PySem PySem.Spec PyProof.Rows L2
section
variable {P : Program} {w : World} {K : PySem.W.Frag} {mg : Str → Option Value} {base : Heap}
structure Kp (H H' : Hp) : Prop where
  t : TupKeep H H'
  i : InsKeep H H'
  d : ∀ b u, H b = some (.dK u) → H' b = some (.dK u)
theorem Kp.same {H H' : Hp} (s : Same H H') : Kp H H' := ⟨TupKeep.of s, InsKeep.of s, fun _ _ e => s _ _ e⟩
theorem Kp.trans {H H1 H2 : Hp} (x : Kp H H1) (y : Kp H1 H2) : Kp H H2 := ⟨x.t.trans y.t, x.i.trans y.i, fun _ _ e => y.d _ _ (x.d _ _ e)⟩
theorem Kp.wl {H H' : Hp} {w : Addr} {c : Int} (hw : Wl H w c) (f : Fr w H H') : Kp H H' := by
  obtain ⟨_, x, y, e⟩ := hw
  exact ⟨f.tups e, f.inss e, fun _ _ z => f.dict e z⟩
theorem Kp.lst {H : Hp} {a : Addr} {l : List V} {o : HO} (h : H a = some (.lst l)) : Kp H (upd H a o) := by
  have f : Fr a H (upd H a o) := Fr.at
  exact ⟨f.tups h, f.inss h, fun _ _ z => f.dict h z⟩
/-- an odd value: no dict; an empty dict; a dict that is no tree's -/
def NotDW (W : Addr) (H : Hp) (x : V) : Prop := x = .non ∨ (∃ b, x = .bl b) ∨ (∃ i, x = .int i) ∨ (∃ y, x = .str y) ∨ (∃ a xs, x = .ref a ∧ a ≠ W ∧ H a = some (.lst xs)) ∨ ∃ a xs, x = .ref a ∧ H a = some (.tup xs)
def OddT (W : Addr) (H : Hp) (v : V) : Prop := NotDW W H v ∨ (∃ p, v = .ref p ∧ H p = some (.dK [])) ∨ ∃ p, v = .ref p ∧ H p = some (.dK [(.inr "a", .int 1)])
def spOdd (K : PySem.W.Frag) : Sp := fun vs H Q _ => ∃ (a : Addr) (k : Int), vs = [.ref a] ∧ Wl H a k ∧ k < 2 ^ 36 ∧ ∀ (v : V) (H' : Hp) (k' : Int), Fr a H H' → Wl H' a k' → k ≤ k' → k' ≤ k + 1 → OddT a H' v → Q v H'
theorem c_l_odd (T : Top K mg) : C8.Cal P w K mg base 3 "_law_odd" (spOdd K) [] := by
  refine cal_of T.d_l_odd sc_l_odd (fun _ _ _ _ _ _ us hl => match us, hl with | [_], _ => rfl) (fun vs H Q E h => ?_) (fun f cdv A outer s H vs Q E hr h => ?_)
  · obtain ⟨a, k, rfl, _⟩ := h
    rfl
  · obtain ⟨a, k, rfl, hw, hk, q⟩ := h
    refine ⟨_, (pss_one (ps_ret (C8.pe_c (c_l_pick T) hr (by decide) (by rfl) (pa_cons (pv 0) (pa_cons (pe_lst (pa_cons pe_non (pa_cons pe_bl (pa_cons pe_bl (pa_cons pe_int (pa_cons (pe_un un_neg pe_int) (pa_cons pe_str (pa_cons pe_str (pa_cons (pe_tup pa_nil) (pa_cons (pe_lst pa_nil) (pa_cons pe_dnewK (pa_cons (pe_tup (pa_cons pe_str pa_nil)) (pa_cons (pe_lst (pa_cons pe_str pa_nil)) (pa_cons (pe_disp (pps_cons pe_str pe_int pps_nil) (by rfl) (by rfl) (fun z => by cases z) (by decide)) (pa_cons (pe_tup (pa_cons pe_int (pa_cons pe_int pa_nil))) pa_nil))))))))))))))) pa_nil))))), ?_⟩
    refine ⟨.ref a, rfl, _, rfl, (by show 0 ≤ sizeLine; decide), fun p1 h1 => ⟨(by show 0 ≤ sizeLine; decide), fun p2 h2 => fun p3 h3 => ⟨(by show 1 ≤ sizeLine; decide), fun p4 h4 => ⟨(by show 1 ≤ sizeLine; decide), fun p5 h5 => fun p6 h6 => ?_⟩⟩⟩⟩
    refine ⟨upd_same, [(.inr "a", .int 1)], rfl, (by show 1 ≤ 15; decide), (by show 2 ≤ sizeLine; decide), fun p7 h7 => ⟨(by show 14 ≤ sizeLine; decide), fun b hb => ?_⟩⟩
    have t1 := same_new (o := .tup []) h1
    have t2 := same_new (o := .lst []) h2
    have t3 := same_new (o := .dK []) h3
    have t4 := same_new (o := .tup [.str "a"]) h4
    have t5 := same_new (o := .lst [.str "a"]) h5
    have t6 := same_mut (same_new (o := .dK []) h6) (o := .dK (mergeK [] [((.inr "a" : Key), V.int 1)])) h6
    have t7 := same_new (o := .tup [.int 1, .int 2]) h7
    have tb := same_new (o := .lst [V.non, .bl true, .bl false, .int 0, .int (-1), .str "", .str "zz", .ref p1, .ref p2, .ref p3, .ref p4, .ref p5, .ref p6, .ref p7]) hb
    have tall := t1.trans (t2.trans (t3.trans (t4.trans (t5.trans (t6.trans t7)))))
    have a1 := (t2.trans (t3.trans (t4.trans (t5.trans (t6.trans (t7.trans tb)))))) _ _ (show (upd H p1 (.tup [])) p1 = some (.tup []) from upd_same)
    have a2 := (t3.trans (t4.trans (t5.trans (t6.trans (t7.trans tb))))) _ _ (show (upd (upd H p1 (.tup [])) p2 (.lst [])) p2 = some (.lst []) from upd_same)
    have a3 := (t4.trans (t5.trans (t6.trans (t7.trans tb)))) p3 (.dK []) upd_same
    have a4 := (t5.trans (t6.trans (t7.trans tb))) p4 (.tup [.str "a"]) upd_same
    have a5 := (t6.trans (t7.trans tb)) p5 (.lst [.str "a"]) upd_same
    have a6 := (t7.trans tb) p6 (.dK (mergeK [] [((.inr "a" : Key), V.int 1)])) upd_same
    have a7 := tb p7 (.tup [.int 1, .int 2]) upd_same
    have w7 := hw.same tall
    have nb := w7.ne hb
    refine ⟨a, b, _, k, rfl, w7.same tb, SqL.of upd_same, nb, by show 0 < 14; decide, by show 14 < 1000000; decide, by omega, fun v hv H' k' f w' l' m' => ?_⟩
    refine q v H' k' ((Fr.same (tall.trans tb)).trans f) w' l' m' ?_
    have kp := Kp.wl (w7.same tb) f
    simp only [List.mem_cons, List.not_mem_nil, or_false] at hv
    have n2 : p2 ≠ a := fun z => by
      obtain ⟨_, x, y, e⟩ := w7.same tb
      rw [← z, a2] at e
      cases e
    have n5 : p5 ≠ a := fun z => by
      obtain ⟨_, x, y, e⟩ := w7.same tb
      rw [← z, a5] at e
      cases e
    rcases hv with rfl | rfl | rfl | rfl | rfl | rfl | rfl | rfl | rfl | rfl | rfl | rfl | rfl | rfl
    · exact .inl (.inl rfl)
    · exact .inl (.inr (.inl ⟨_, rfl⟩))
    · exact .inl (.inr (.inl ⟨_, rfl⟩))
    · exact .inl (.inr (.inr (.inl ⟨_, rfl⟩)))
    · exact .inl (.inr (.inr (.inl ⟨_, rfl⟩)))
    · exact .inl (.inr (.inr (.inr (.inl ⟨_, rfl⟩))))
    · exact .inl (.inr (.inr (.inr (.inl ⟨_, rfl⟩))))
    · exact .inl (.inr (.inr (.inr (.inr (.inr ⟨_, _, rfl, kp.t _ _ a1⟩)))))
    · exact .inl (.inr (.inr (.inr (.inr (.inl ⟨_, _, rfl, n2, f _ _ n2 a2⟩)))))
    · exact .inr (.inl ⟨_, rfl, kp.d _ _ a3⟩)
    · exact .inl (.inr (.inr (.inr (.inr (.inr ⟨_, _, rfl, kp.t _ _ a4⟩)))))
    · exact .inl (.inr (.inr (.inr (.inr (.inl ⟨_, _, rfl, n5, f _ _ n5 a5⟩)))))
    · exact .inr (.inr ⟨_, rfl, kp.d _ _ a6⟩)
    · exact .inl (.inr (.inr (.inr (.inr (.inr ⟨_, _, rfl, kp.t _ _ a7⟩)))))
end
open LamX
abbrev Q1L : Str := Str.ofString "_law_tree_right" ++ ".<locals>." ++ "<lambda>"
abbrev Q2L : Str := Str.ofString "_law_commit_right" ++ ".<locals>." ++ "<lambda>"
abbrev Q3L : Str := Str.ofString "law" ++ ".<locals>." ++ "<lambda>"
/-- the names of the code objects, by their lines -/
def qfL (n : Nat) : Str := bif Nat.ble n 228 then Q1L else bif Nat.ble n 253 then Q2L else Q3L
/-- isinstance(e, C) of what was caught -/
def rIsS1 (K : PySem.W.Frag) (a : Addr) (cls : Value) (d : Option Addr) : List V → Hp → VK → Prop := fun xs H Q => ∃ (C fI dd : Addr) (fs : List (Str × V)) (c : V) (u : Value) (b : Bool), xs = [.ref a, c] ∧ cls = .ref C ∧ d = some dd ∧ XC K C fI ∧ H dd = some (.xd fs) ∧ ClsV c u ∧ PySem.W.kitOne K (.ref C) u = some b ∧ Q (.bl b) H
theorem call_isS1 {X : Cx} {K : PySem.W.Frag} (eK : X.K = K) {a : Addr} {oe : Obj} {cls : Value} {d : Option Addr} {pn : List (Addr × Obj)} (hz : Zc cls d oe) (hf : ∃ vs, oe.data = .fields vs) : CallR (X.suite a ((a, oe) :: pn)) (.builtin "isinstance") (rIsS1 K a cls d) := by
  subst eK
  intro pins s σ H xs us Q I r h
  obtain ⟨C, fI, dd, fs, c, u, b, rfl, rfl, rfl, T, ed, kc, e, q⟩ := h
  obtain ⟨u1, u2, rfl, r1, r2⟩ := vals2 r
  obtain rfl : u1 = Value.ref a := r1
  have e3 := kc.eq r2
  subst e3
  obtain ⟨hget, _⟩ := I.pin (a, oe) (List.mem_append_left _ List.mem_cons_self)
  obtain ⟨vs, hv⟩ := hf
  obtain ⟨mA, hns, rel⟩ := (show ObjOk X.prog X.w H s.heap dd (.xd fs) from I.hok dd _ ed)
  obtain ⟨od, ho, hl⟩ := lookIn_ns hns
  have J : PySem.W.InstAt s.heap a oe C (some od) := ⟨hget, hz.1, by unfold PySem.W.notCls; rw [hv] <;> rfl, by rw [hz.2]; exact ho⟩
  exact PySem.W.kia_one (kit_v T) I.kIn J e (fun z => nomatch z) fun tk => ⟨.bl b, H, I.tok tk, rfl, q⟩
theorem gBN {K : PySem.W.Frag} {mg : Str → Option Value} {c : C4} {CS cX iX ek pd : Addr} (T : TopO K mg c CS cX iX ek pd) : ∃ u, mg "BadName" = some u ∧ RelV (.ref cX) u := ⟨_, T.eN.mgc, rfl⟩
/-- the reading of the def that asks -/
def TRef (cX : Addr) : (XK → Hp → VK → Prop) → Hp → VK → Prop := fun tl H Q => tl (fun cls d H' => cls = .ref cX ∧ (∃ dd fs, d = some dd ∧ H' dd = some (.xd fs)) ∧ Q (.bl true) H') H fun v H' => Q (.bl false) H'
theorem refused_gives {X : Cx} {c : C4} {CS cX iX ek pd g : Addr} {cdg : Value} (T : TopO X.K X.mg c CS cX iX ek pd) : GivesR X ["_law_ask", "e"] "_law_refused" (C8.fnScope s_l_refused) g cdg (C8.fnBody s_l_refused) "_law_ask" (TRef cX) := by
  intro R f s H Q tl act hc h
  refine' ⟨_, (pss_cons (ps_tryA (tb := fun W D σ H => ∃ Ech : XK, (∀ cls d (σ' : L2.St) H', σ'.length = 2 → Ech cls d H' → W cls d σ' H') ∧ σ[0]? = some (some (.ref f)) ∧ R H ∧ tl Ech H fun v H' => D.nx σ H') rfl rfl takes_none5 (fun W pn xe tk _ => ?B)
    (HdA.as (i := 1) sc_l_refused.nd rfl rfl ⟨rfl, by decide, .inl T.mgF⟩ (fun a oe cls d pn hz hf => ?S) HdA.nil)) (pss_one (ps_ret pe_bl))), ?_⟩
  case B =>
    refine ⟨fun pins s' σ H' D I h' => ?_⟩
    obtain ⟨Ech, hW, h1, h2, h3⟩ := h'
    exact (pss_one (ps_expr (act _ pn xe Ech _ _ (takes_len tk) (fun cls d σ' H' e n => hW cls d σ' H' n e)))).run pins s' σ H' D I ⟨h1, h2, h3⟩
  case S => exact (pss_one (ps_ret (pe_callB (call_isS1 rfl hz hf) (by rfl) T.z_isinstance (by decide +kernel) (pa_cons (pv 1) (pa_cons (C8.pe_gc (by rfl) (gBN T)) pa_nil)))))
  refine ⟨fun cls d H' => cls = .ref cX ∧ (∃ dd fs, d = some dd ∧ H' dd = some (.xd fs)) ∧ Q (.bl true) H', fun cls d σ' H' n h => ?_, rfl, hc, h⟩
  obtain ⟨rfl, ⟨dd, fs, rfl, hd⟩, k⟩ := h
  refine ⟨true, T.exF, fun _ a na => ?_, fun z => Bool.noConfusion z⟩
  refine ⟨.ref a, List.getElem?_set_self (by rw [n]; decide), ?_⟩
  dsimp only [tCons, tC, tNil]
  exact ⟨cX, iX, dd, fs, _, _, true, rfl, rfl, rfl, T.eN.xc, hd, .own _, T.kN, k⟩

end Fk

set_option maxHeartbeats 4000000
namespace Fk
open PySem PySem.Spec PyProof.Rows L2
theorem ObAt.kp {K : PySem.W.Frag} {c : C4} {H H' : Hp} {a d : Addr} {o : Ob} (h : ObAt K c H a d o) (k : Kp H H') : ObAt K c H' a d o := h.keep k.t k.i fun _ e => k.d _ _ e
/-! ### entries -/
theorem paired_app {α β : Type} {R : α → β → Prop} : ∀ {l l' : List α} {m m' : List β}, Paired R l m → Paired R l' m' → Paired R (l ++ l') (m ++ m')
  | _, _, _, _, .nil, h => h
  | _, _, _, _, .cons a b, h => .cons a (paired_app b h)
theorem paired_map2 {α β : Type} {R S : α → β → Prop} {f : α → α} {g : β → β} (h : ∀ a b, R a b → S (f a) (g b)) : ∀ {l : List α} {m : List β}, Paired R l m → Paired S (l.map f) (m.map g)
  | _, _, .nil => .nil
  | _, _, .cons a b => .cons (h _ _ a) (paired_map2 h b)
theorem any_keys {β : Type} (l : List (Str × β)) (x : Str) : (l.any fun kv => decide (kv.1 = x)) = (l.map (·.1)).any fun y => decide (y = x) := by
  rw [List.any_map]
  rfl
def putE (es : List Ent) (x : Str) (v : Str × Str) : List Ent := if (es.any fun kv => decide (kv.1 = x)) = true then es.map (fun kv => if kv.1 = x then (kv.1, v) else kv) else es ++ [(x, v)]
theorem ents_put {K : PySem.W.Frag} {H : Hp} {t : Tab} {es : List Ent} (h : EntsAt K H t es) {x kd i : Str} {q : Addr} (hq : TupK K H q [.str kd, .str i]) : EntsAt K H (putK t x (.ref q)) (putE es x (kd, i)) := by
  have e : (t.any fun kv => decide (kv.1 = x)) = es.any fun kv => decide (kv.1 = x) := by rw [any_keys, any_keys, h.keys]
  unfold putK putE
  rw [e]
  split
  · refine paired_map2 (fun a b ⟨e1, r, e2, e3⟩ => ?_) h
    rw [e1]
    split
    · exact ⟨rfl, q, rfl, hq⟩
    · exact ⟨e1, r, e2, e3⟩
  · exact paired_app h (.cons ⟨rfl, q, rfl, hq⟩ .nil)
theorem mem_putE {es : List Ent} {x : Str} {v : Str × Str} {e : Ent} (h : e ∈ putE es x v) : e ∈ es ∨ e = (x, v) := by
  unfold putE at h
  split at h
  · obtain ⟨f, hf, rfl⟩ := List.mem_map.mp h
    split
    · next z => exact .inr (by rw [z])
    · exact .inl hf
  · rcases List.mem_append.mp h with h | h
    · exact .inl h
    · exact .inr (List.mem_singleton.mp h)
section
variable {P : Program} {w : World} {K : PySem.W.Frag} {mg : Str → Option Value} {base : Heap}
theorem do_draw {H : Hp} {a : Addr} {n k : Int} {Q : VK} (hw : Wl H a k) (h0 : 0 < n) (h1 : n < 2000000000000) (hk : k < 2 ^ 39) (q : ∀ r : Nat, (r : Int) < n → ∀ H' k', Fr a H H' → Wl H' a k' → k ≤ k' → k' ≤ k + 1 → Q (.int r) H') : spDraw [.ref a, .int n] H Q C8.E0 := by
  refine ⟨a, n, k, rfl, hw, h0, h1, by omega, fun r x y k' r0 r1 k1 k2 => ?_⟩
  obtain ⟨m, rfl⟩ := Int.eq_ofNat_of_zero_le r0
  exact q m r1 _ k' Fr.at (Wl.upd (by have := hw.1; omega)) k1 k2
theorem do_pick {H : Hp} {a b : Addr} {xs : List V} {k : Int} {Q : VK} (hw : Wl H a k) (hS : H b = some (.lst xs)) (nb : b ≠ a) (h0 : 0 < xs.length) (h1 : xs.length < 1000000) (hk : k < 2 ^ 39) (q : ∀ v ∈ xs, ∀ H' k', Fr a H H' → Wl H' a k' → k ≤ k' → k' ≤ k + 1 → Q v H') : spPick K [.ref a, .ref b] H Q C8.E0 :=
  ⟨a, b, xs, k, rfl, hw, SqL.of hS, nb, h0, h1, by omega, q⟩
def spEntL (K : PySem.W.Frag) : Sp := fun vs H Q _ => ∃ (W : Addr) (c : Int), vs = [.ref W] ∧ Wl H W c ∧ c < 2 ^ 36 ∧ ∀ p t es H' c', H p = none → Fr W H H' → Wl H' W c' → c ≤ c' → c' ≤ c + 2000 → p ≠ W → H' p = some (.dK (kT t)) → EntsAt K H' t es → es.length ≤ 30 → (es.map (·.1)).Nodup → (∀ e ∈ es, EntOk e) → Q (.ref p) H'
theorem c_l_entries (T : Top K mg) : C8.Cal P w K mg base 4 "_law_entries" (spEntL K) [] := by
  refine cal_of T.d_l_entries sc_l_entries (fun _ _ _ _ _ _ us hl => match us, hl with | [_], _ => rfl) (fun vs H Q E h => ?_) (fun f cdv A outer s H vs Q E hr h => ?_)
  · obtain ⟨W, c, rfl, _⟩ := h
    rfl
  · obtain ⟨a, k, rfl, hw, hk, q⟩ := h
    have hk0 := hw.1
    refine ⟨_, (pss_cons (ps_set (i := 1) sc_l_entries.nd rfl (Or.inl rfl) pe_dnewK)
      (pss_cons (ps_for PassesOwn.never rfl (pi_range1 (by rfl) T.z_range (pa_cons (C8.pe_c (c_l_draw T) hr (by decide) (by rfl) (pa_cons (pv 0) (pa_cons (C8.pe_c (c_l_pick T) hr (by decide) (by rfl) (pa_cons (pv 0) (pa_cons (pe_lst (pa_cons pe_int (pa_cons pe_int pa_nil))) pa_nil))) pa_nil))) pa_nil)) (pg_name (i := 2) sc_l_entries.nd rfl (Or.inl rfl))
      (pss_one (ps_dput (hu_of hr) (pv 1) (C8.pe_c (c_l_segment T) hr (by decide) (by rfl) (pa_cons (pv 0) pa_nil)) (pe_tup (pa_cons (C8.pe_c (c_l_pick T) hr (by decide) (by rfl) (pa_cons (pv 0) (pa_cons (pe_lst (pa_cons pe_str (pa_cons pe_str (pa_cons pe_str pa_nil)))) pa_nil))) (pa_cons (C8.pe_c (c_l_id T) hr (by decide) (by rfl) (pa_cons (pv 0) pa_nil)) pa_nil))) rfl)))
      (pss_one (ps_ret (pv 1))))), ?_⟩
    refine fun d hd => ?_
    have s0 := same_new (o := .dK []) hd
    have hd0 : (upd H d (.dK [])) d = some (.dK (kT [])) := upd_same
    have w0 := hw.same s0
    have nda := hw.ne hd
    refine ⟨.ref a, rfl, .ref a, rfl, (by show 2 ≤ sizeLine; decide), fun b hb => do_pick (w0.new hb) upd_same (w0.ne hb) (by decide) (by decide) (by omega) fun v hv H1 k1 f1 w1 l1 m1 => ?_⟩
    obtain ⟨m, rfl, hm0, hm1⟩ : ∃ m : Int, v = .int m ∧ 3 ≤ m ∧ m ≤ 31 := by
      obtain ⟨m, hm, rfl⟩ := menu (xs := [3, 31]) hv
      simp only [List.mem_cons, List.not_mem_nil, or_false] at hm
      exact ⟨m, rfl, by omega, by omega⟩
    refine do_draw w1 (by omega) (by omega) (by omega) fun r hr1 H2 k2 f2 w2 l2 m2 => ⟨_, rfl, by omega, by omega, ?_⟩
    have F2 := ((Fr.same s0).trans (Fr.new (a := a) hb)).trans (f1.trans f2)
    have hd2 : H2 d = some (.dK (kT [])) := (f1.trans f2) _ _ nda ((same_new hb) _ _ hd0)
    refine forG yields_range (fun i σ H' => ∃ z4 t es k', σ = [some (.ref a), some (.ref d), z4] ∧ Fr a H H' ∧ Wl H' a k' ∧ k ≤ k' ∧ k' ≤ k2 + 60 * i ∧ H' d = some (.dK (kT t)) ∧ EntsAt K H' t es ∧ (es.map (·.1)).Nodup ∧ (∀ e ∈ es, EntOk e) ∧ es.length ≤ i) ⟨none, [], [], k2, rfl, F2, w2, by omega, by omega, hd2, .nil, List.nodup_nil, (fun e he => nomatch he), Nat.le_refl _⟩ (fun _ _ _ _ => trivial) (fun i x σ H' hx I => ?_) (fun σ H' I => ?_)
    · obtain ⟨z4, t, es, k', rfl, fr, w', l', m', hdt, en, nd, ok, hl⟩ := I
      have hi := (List.getElem?_eq_some_iff.mp hx).1
      rw [List.length_map, List.length_range] at hi
      refine ⟨.ref a, rfl, (by show 3 ≤ sizeLine; decide), fun b hb => ?_⟩
      have s1 := same_new (o := .lst [.str "file", .str "exec", .str "dir"]) hb
      refine do_pick (xs := KINDS.map V.str) (w'.same s1) upd_same (w'.ne hb) (by decide) (by decide) (by omega) fun v hv H3 k3 f3 w3 l3 m3 => ?_
      obtain ⟨kd, hkd, rfl⟩ := List.mem_map.mp hv
      refine ⟨.ref a, rfl, a, k3, rfl, w3, by omega, fun id hid hidl H4 k4 f4 w4 l4 m4 => ⟨(by show 2 ≤ sizeLine; decide), fun q0 hq => ?_⟩⟩
      have s5 := same_new (o := .tup [.str kd, .str id]) hq
      have w5 := w4.same s5
      refine ⟨.ref d, rfl, .ref a, rfl, a, k4, rfl, w5, by omega, fun x hx H6 k6 f6 w6 l6 m6 => ?_⟩
      have fA := ((Fr.same s1).trans (f3.trans f4)).trans ((Fr.same (a := a) s5).trans f6)
      have kp := Kp.wl w' fA
      have hd6 := kp.d _ _ hdt
      have q6 : H6 q0 = some (.tup [.str kd, .str id]) := (Kp.wl w5 f6).t _ _ upd_same
      have lt : t.length = es.length := by
        have := congrArg List.length en.keys
        rwa [List.length_map, List.length_map] at this
      refine ⟨d, _, rfl, .inl ⟨kT t, .inr x, hd6, rfl, small_lt (by rw [len_kT]; omega), rfl⟩, ?_⟩
      rw [putK_kT]
      have en2 := ents_put (en.keep kp.t) (x := x) (kd := kd) (i := id) (q := q0) (.inl q6)
      have kt : TupKeep H6 (upd H6 d (.dK (kT (putK t x (.ref q0))))) := TupKeep.at fun xs z => by rw [hd6] at z; cases z
      have hlen : (putE es x (kd, id)).length ≤ es.length + 1 := by
        unfold putE
        split
        · rw [List.length_map]; exact Nat.le_succ _
        · rw [List.length_append]; exact Nat.le_refl _
      refine ⟨_, _, _, k6, rfl, (fr.trans fA).mut hd, w6.mut nda, by omega, by omega, upd_same, en2.keep kt, ?_, fun e he => ?_, by omega⟩
      · have n : Nd t := by unfold Nd; rw [en.keys]; exact nd
        rw [← en2.keys]
        exact nd_put n x (.ref q0)
      · rcases mem_putE he with z | z
        · exact ok e z
        · rw [z]
          exact ⟨hx, hkd, id_of hid hidl⟩
    · obtain ⟨z4, t, es, k', rfl, fr, w', l', m', hdt, en, nd, ok, hl⟩ := I
      rw [List.length_map, List.length_range] at hl m'
      exact ⟨.ref d, rfl, q d t es H' k' hd fr w' (by omega) (by omega) nda hdt en (by omega) nd ok⟩
/-- up to six ids, no two alike -/
def spPar (K : PySem.W.Frag) : Sp := fun vs H Q _ => ∃ (W : Addr) (c : Int), vs = [.ref W] ∧ Wl H W c ∧ c < 2 ^ 36 ∧ ∀ (p : Addr) (ps : List Str) (H' : Hp) (c' : Int), H p = none → Fr W H H' → Wl H' W c' → c ≤ c' → c' ≤ c + 2000 → p ≠ W → H' p = some (.tup (ps.map V.str)) → ps.length ≤ 6 → ps.Nodup → (∀ x ∈ ps, isIdF x = true) → Q (.ref p) H'
theorem c_l_parents (T : Top K mg) : C8.Cal P w K mg base 4 "_law_parents" (spPar K) [] := by
  refine cal_of T.d_l_parents sc_l_parents (fun _ _ _ _ _ _ us hl => match us, hl with | [_], _ => rfl) (fun vs H Q E h => ?_) (fun f cdv A outer s H vs Q E hr h => ?_)
  · obtain ⟨W, c, rfl, _⟩ := h
    rfl
  · obtain ⟨a, k, rfl, hw, hk, q⟩ := h
    have hk0 := hw.1
    refine ⟨_, (pss_cons (ps_set (i := 1) sc_l_parents.nd rfl (Or.inl rfl) (pe_lst pa_nil))
      (pss_cons (ps_for PassesOwn.never rfl (pi_range1 (by rfl) T.z_range (pa_cons (C8.pe_c (c_l_draw T) hr (by decide) (by rfl) (pa_cons (pv 0) (pa_cons pe_int pa_nil))) pa_nil)) (pg_name (i := 2) sc_l_parents.nd rfl (Or.inl rfl))
      (pss_cons (ps_set (i := 3) sc_l_parents.nd rfl (Or.inl rfl) (C8.pe_c (c_l_id T) hr (by decide) (by rfl) (pa_cons (pv 0) pa_nil)))
      (pss_one (ps_if (pt_cmpR op_notIn_seq (pv 3) (pv 1) rfl)
      (pss_one (ps_expr (pe_bm PySem.F.plainAttrs_list PySem.F.slot_list_append PySem.F.type_list_append mt_append (pv 1) (pa_cons (pv 3) pa_nil))))
      pss_nil))))
      (pss_one (ps_ret (pe_callTy call_tuple_of (by rfl) T.z_tuple (by decide +kernel) (pa_cons (pv 1) pa_nil)))))), ?_⟩
    refine ⟨(by show 0 ≤ sizeLine; decide), fun d hd => ?_⟩
    have s0 := same_new (o := .lst []) hd
    have hd0 : (upd H d (.lst [])) d = some (.lst (([] : List Str).map V.str)) := upd_same
    have w0 := hw.same s0
    have nda := hw.ne hd
    refine ⟨.ref a, rfl, do_draw w0 (by decide) (by decide) (by omega) fun r hr1 H2 k2 f2 w2 l2 m2 => ⟨_, rfl, by omega, by omega, ?_⟩⟩
    have F2 := (Fr.same (a := a) s0).trans f2
    have hd2 := f2 _ _ nda hd0
    refine forG yields_range (fun i σ H' => ∃ (z2 z3 : Option V) (ps : List Str) (k' : Int), σ = [some (.ref a), some (.ref d), z2, z3] ∧ Fr a H H' ∧ Wl H' a k' ∧ k ≤ k' ∧ k' ≤ k2 + 60 * i ∧ H' d = some (.lst (ps.map V.str)) ∧ ps.Nodup ∧ (∀ x ∈ ps, isIdF x = true) ∧ ps.length ≤ i) ⟨none, none, [], k2, rfl, F2, w2, by omega, by omega, hd2, List.nodup_nil, (fun e he => nomatch he), Nat.le_refl _⟩ (fun _ _ _ _ => trivial) (fun i x σ H' hx I => ?_) (fun σ H' I => ?_)
    · obtain ⟨z2, z3, ps, k', rfl, fr, w', l', m', hdt, nd, ok, hl⟩ := I
      have hi := (List.getElem?_eq_some_iff.mp hx).1
      rw [List.length_map, List.length_range] at hi
      refine ⟨.ref a, rfl, a, k', rfl, w', by omega, fun id hid hidl H4 k4 f4 w4 l4 m4 => ?_⟩
      have hd4 := f4 _ _ nda hdt
      refine ⟨.str id, rfl, .ref d, rfl, d, _, rfl, .inl (SqL.of hd4), rfl, flat_strs ps, _, rfl, ite2 (fun h => ?_) (fun h => ?_)⟩
      · have hm : id ∉ ps := fun z => by
          have e : (if true = true then !inV (.str id) (ps.map V.str) else inV (.str id) (ps.map V.str)) = true := h
          rw [if_pos rfl] at e
          have e2 : inV (.str id) (ps.map V.str) = true := by
            unfold inV
            rw [List.any_eq_true]
            exact ⟨.str id, List.mem_map.mpr ⟨id, z, rfl⟩, by show (id == id) = true; exact beq_self_eq_true id⟩
          rw [e2] at e
          cases e
        refine ⟨.ref d, rfl, .inl ⟨rfl, _, SqL.of hd4⟩, .str id, rfl, ?_⟩
        refine ⟨d, _, _, rfl, rfl, hd4, small_lt (by rw [List.length_map]; omega), ?_⟩
        refine ⟨_, _, ps ++ [id], k4, rfl, (fr.trans f4).mut hd, w4.mut nda, by omega, by omega, by rw [upd_same, List.map_append]; rfl, ?_, fun y hy => ?_, by rw [List.length_append]; show ps.length + 1 ≤ i + 1; omega⟩
        · rw [List.nodup_append]
          refine ⟨nd, by simp, fun x hx y hy => ?_⟩
          rw [List.mem_singleton.mp hy]
          exact fun z => hm (z ▸ hx)
        · rcases List.mem_append.mp hy with z | z
          · exact ok y z
          · rw [List.mem_singleton.mp z]
            exact id_of hid hidl
      · exact ⟨_, _, ps, k4, rfl, fr.trans f4, w4, by omega, by omega, hd4, nd, ok, by omega⟩
    · obtain ⟨z2, z3, ps, k', rfl, fr, w', l', m', hdt, nd, ok, hl⟩ := I
      rw [List.length_map, List.length_range] at hl m'
      refine ⟨.ref d, rfl, d, _, rfl, .inl ⟨SqL.of hdt, fun l hl2 => ?_⟩⟩
      exact q l ps _ k' (fr.free (w'.ne hl2) hl2) (fr.mut (fr.free (w'.ne hl2) hl2)) (w'.new hl2) (by omega) (by omega) (w'.ne hl2) upd_same (by omega) nd ok
end

end Fk

set_option maxHeartbeats 4000000
/-! What a table holds, as a map; puts, drops, merges, sorted copies; tables as data. -/
namespace Fk
open PySem PySem.Spec PyProof.Rows L2
theorem perm_of_sub {α : Type} [DecidableEq α] : ∀ {l m : List α}, l.Nodup → (∀ x ∈ l, x ∈ m) → m.length ≤ l.length → l.Perm m
  | [], m, _, _, h => by
    rw [List.eq_nil_of_length_eq_zero (Nat.le_zero.mp h)]
  | a :: l, m, n, s, h => by
    obtain ⟨n1, n2⟩ := List.nodup_cons.mp n
    have ha : a ∈ m := s a List.mem_cons_self
    have ih : l.Perm (m.erase a) := perm_of_sub n2 (fun x hx => (List.mem_erase_of_ne (fun e => n1 (by rw [← e]; exact hx))).mpr (s x (List.mem_cons_of_mem _ hx))) (by
      rw [List.length_erase_of_mem ha]
      rw [List.length_cons] at h
      omega)
    exact (ih.cons a).trans (List.perm_cons_erase ha).symm
abbrev Mp (α : Type) := Str → Option α
def putM {α : Type} (f : Mp α) (x : Str) (r : α) : Mp α := fun y => if y = x then some r else f y
def dropM {α : Type} (f : Mp α) (x : Str) : Mp α := fun y => if y = x then none else f y
def orM {α : Type} (f g : Mp α) : Mp α := fun y => (g y).or (f y)
def Holds {α : Type} (R : V → α → Prop) (t : Tab) (f : Mp α) : Prop := ∀ x, (valV t x = none ∧ f x = none) ∨ ∃ v r, valV t x = some v ∧ f x = some r ∧ R v r
section
variable {α : Type} {R R' : V → α → Prop} {t u : Tab} {f g : Mp α} {x : Str} {v : V} {r : α}
theorem Holds.nil : Holds R [] (fun _ => none) := fun _ => .inl ⟨rfl, rfl⟩
theorem Holds.imp (h : Holds R t f) (k : ∀ v r, R v r → R' v r) : Holds R' t f := fun x => (h x).imp id fun ⟨v, r, a, b, c⟩ => ⟨v, r, a, b, k _ _ c⟩
theorem val_putK (t : Tab) (x y : Str) (v : V) : valV (putK t x v) y = if y = x then some v else valV t y := valV_put t x y v
theorem Holds.put (h : Holds R t f) (k : R v r) : Holds R (putK t x v) (putM f x r) := fun y => by
  rw [val_putK]
  unfold putM
  by_cases e : y = x
  · rw [if_pos e, if_pos e]
    exact .inr ⟨v, r, rfl, rfl, k⟩
  · rw [if_neg e, if_neg e]
    exact h y
theorem Holds.drop (h : Holds R t f) : Holds R (dropK t x) (dropM f x) := fun y => by
  rw [valV_drop]
  unfold dropM
  by_cases e : y = x
  · rw [if_pos e, if_pos e]
    exact .inl ⟨rfl, rfl⟩
  · rw [if_neg e, if_neg e]
    exact h y
theorem Holds.isSome (h : Holds R t f) (x : Str) : (valV t x).isSome = (f x).isSome := by
  rcases h x with ⟨a, b⟩ | ⟨v, r, a, b, _⟩ <;> rw [a, b] <;> rfl
theorem Holds.mem (h : Holds R t f) : x ∈ t.map (·.1) ↔ (f x).isSome = true := by rw [mem_val, h.isSome]
theorem Holds.at (h : Holds R t f) (e : f x = some r) : ∃ v, valV t x = some v ∧ R v r := by
  rcases h x with ⟨_, b⟩ | ⟨v, r', a, b, c⟩
  · rw [e] at b; cases b
  · rw [e] at b
    cases b
    exact ⟨v, a, c⟩
theorem Holds.at' (h : Holds R t f) (e : valV t x = some v) : ∃ r, f x = some r ∧ R v r := by
  rcases h x with ⟨a, _⟩ | ⟨v', r, a, b, c⟩
  · rw [e] at a; cases a
  · rw [e] at a
    cases a
    exact ⟨r, b, c⟩
theorem Holds.nil_iff (h : Holds R t f) : t = [] ↔ ∀ x, f x = none := by
  constructor
  · intro e x
    rcases h x with ⟨_, b⟩ | ⟨v, r, a, _, _⟩
    · exact b
    · rw [e] at a; cases a
  · intro e
    cases t with
    | nil => rfl
    | cons p l =>
      rcases h p.1 with ⟨a, _⟩ | ⟨v, r, _, b, _⟩
      · rw [show p = (p.1, p.2) from rfl, valV_pos rfl] at a; cases a
      · rw [e] at b; cases b
/-- picked by keys -/
theorem Holds.sel (h : Holds R t f) {ys : List Str} {g : Mp α} (hg : ∀ x, g x = if x ∈ ys then f x else none) (hs : ∀ y ∈ ys, y ∈ t.map (·.1)) : Holds R (ys.map fun y => (y, (valV t y).getD .non)) g := fun x => by
  rw [val_keys, hg]
  by_cases e : x ∈ ys
  · rw [if_pos e, if_pos e]
    rcases h x with ⟨a, b⟩ | ⟨v, r, a, b, c⟩
    · have := mem_val.mp (hs x e)
      rw [a] at this
      cases this
    · rw [a]
      exact .inr ⟨v, r, rfl, b, c⟩
  · rw [if_neg e, if_neg e]
    exact .inl ⟨rfl, rfl⟩
/-- all of it, in another order -/
theorem Holds.perm (h : Holds R t f) {ys : List Str} (hp : ys.Perm (t.map (·.1))) : Holds R (ys.map fun y => (y, (valV t y).getD .non)) f := by
  refine h.sel (fun x => ?_) fun y hy => hp.mem_iff.mp hy
  by_cases e : x ∈ ys
  · rw [if_pos e]
  · rw [if_neg e]
    cases q : f x with
    | none => rfl
    | some r => exact absurd (hp.mem_iff.mpr (h.mem.mpr (by rw [q]; rfl))) e
/-- made anew by keys -/
theorem holds_by {ys : List Str} {vf : Str → V} {g : Mp α} (hg : ∀ y ∈ ys, ∃ r, g y = some r ∧ R (vf y) r) (hn : ∀ y, y ∉ ys → g y = none) : Holds R (ys.map fun y => (y, vf y)) g := fun x => by
  rw [val_keys]
  by_cases e : x ∈ ys
  · rw [if_pos e]
    obtain ⟨r, a, b⟩ := hg x e
    exact .inr ⟨_, r, rfl, a, b⟩
  · rw [if_neg e]
    exact .inl ⟨rfl, hn x e⟩
theorem nd_by {ys : List Str} (h : ys.Nodup) (vf : Str → V) : Nd (ys.map fun y => (y, vf y)) := by
  unfold Nd
  rw [List.map_map]
  have : ((fun p : Str × V => p.1) ∘ fun y => (y, vf y)) = id := rfl
  rw [this, List.map_id]
  exact h
/-- one table taken into another -/
theorem merge_any (t u : Tab) : ∃ m : Tab, mergeK (kT t) (kT u) = kT m ∧ (Nd t → Nd m) ∧ m.length ≤ t.length + u.length ∧ ∀ x, Nd u → valV m x = (valV u x).or (valV t x) := by
  induction u generalizing t with
  | nil => exact ⟨t, rfl, id, Nat.le_refl _, fun x _ => rfl⟩
  | cons p l ih =>
    obtain ⟨m, e, n, len, vl⟩ := ih (putK t p.1 p.2)
    refine ⟨m, ?_, fun h => n (nd_put h _ _), ?_, fun x hu => ?_⟩
    · show mergeK (putK (kT t) (.inr p.1) p.2) (kT l) = _
      rw [putK_kT, e]
    · have := length_putK t p.1 p.2
      rw [List.length_cons]
      omega
    · obtain ⟨h1, h2⟩ := List.nodup_cons.mp (show ((p :: l).map (·.1)).Nodup from hu)
      rw [vl x h2, val_putK]
      by_cases e : p.1 = x
      · have nl : valV l x = none := by
          cases c : valV l x with
          | none => rfl
          | some w => exact absurd (show p.1 ∈ l.map (·.1) by rw [e]; exact valV_in c) h1
        rw [nl, if_pos e.symm, show p = (p.1, p.2) from rfl, valV_pos e]
        rfl
      · rw [if_neg (fun z => e z.symm), valV_neg e]
theorem Holds.merge (h : Holds R t f) (k : Holds R u g) (nt : Nd t) (nu : Nd u) : ∃ m : Tab, mergeK (kT t) (kT u) = kT m ∧ Nd m ∧ m.length ≤ t.length + u.length ∧ Holds R m (orM f g) := by
  obtain ⟨m, e, n, len, vl⟩ := merge_any t u
  refine ⟨m, e, n nt, len, fun x => ?_⟩
  rw [vl x nu]
  unfold orM
  rcases k x with ⟨a, b⟩ | ⟨v, r, a, b, c⟩
  · rw [a, b]
    exact h x
  · rw [a, b]
    exact .inr ⟨v, r, rfl, rfl, c⟩
/-! ### as data -/
def dataM (dat : α → PyData) (t : Tab) (f : Mp α) : List (Key × PyData) := (t.map (·.1)).map fun y => ((.inr y : Key), ((f y).map dat).getD .none)
theorem Holds.dd {K : PySem.W.Frag} {H : Hp} {dat : α → PyData} (hd : ∀ v r, R v r → Dp K H v (dat r)) (nt : Nd t) (h : Holds R t f) : DD K H (kT t) (dataM dat t f) := by
  have key : ∀ l : Tab, (∀ p ∈ l, ∃ r, f p.1 = some r ∧ R p.2 r) → DD K H (kT l) (dataM dat l f) := by
    intro l
    induction l with
    | nil => intro _; exact .nil
    | cons p l ih =>
      intro hl
      obtain ⟨r, a, b⟩ := hl p List.mem_cons_self
      refine .cons ⟨rfl, ?_⟩ (ih fun q hq => hl q (List.mem_cons_of_mem _ hq))
      show Dp K H p.2 (((f p.1).map dat).getD .none)
      rw [a]
      exact hd _ _ b
  refine key t fun p hp => ?_
  have e : valV t p.1 = some p.2 := by
    clear key h
    induction t with
    | nil => cases hp
    | cons q l ih =>
      obtain ⟨h1, h2⟩ := List.nodup_cons.mp (show ((q :: l).map (·.1)).Nodup from nt)
      rcases List.mem_cons.mp hp with z | z
      · rw [z, show q = (q.1, q.2) from rfl, valV_pos rfl]
      · rw [valV_neg (fun e => h1 (by dsimp only; rw [e]; exact List.mem_map.mpr ⟨p, z, rfl⟩))]
        exact ih h2 z
  exact h.at' e
theorem valD_data (dat : α → PyData) (t : Tab) (f : Mp α) (x : Str) : valD (dataM dat t f) (.inr x) = if x ∈ t.map (·.1) then some (((f x).map dat).getD .none) else none := by
  unfold dataM
  generalize t.map (·.1) = ys
  induction ys with
  | nil => rfl
  | cons y l ih =>
    rw [List.map_cons]
    by_cases e : y = x
    · rw [valD_pos (by rw [e]), if_pos (by rw [e]; exact List.mem_cons_self), e]
    · rw [valD_neg (fun z => e (Sum.inr.inj z)), ih]
      by_cases m : x ∈ l
      · rw [if_pos m, if_pos (List.mem_cons_of_mem _ m)]
      · rw [if_neg m, if_neg (fun z => (List.mem_cons.mp z).elim (fun q => e q.symm) m)]
theorem eqv_data {dat : α → PyData} (inj : ∀ a b, PyData.eqv (dat a) (dat b) = true ↔ a = b) (h : Holds R t f) (k : Holds R u g) (nt : Nd t) (nu : Nd u) : eqvDict (dataM dat t f) (dataM dat u g) = true ↔ f = g := by
  have lt : (dataM dat t f).length = t.length := by unfold dataM; rw [List.length_map, List.length_map]
  have lu : (dataM dat u g).length = u.length := by unfold dataM; rw [List.length_map, List.length_map]
  unfold eqvDict
  rw [Bool.and_eq_true, decide_eq_true_eq, lt, lu, List.all_eq_true]
  constructor
  · rintro ⟨hl, ha⟩
    have sub : ∀ x r, f x = some r → g x = some r := fun x r e => by
      have m : x ∈ t.map (·.1) := h.mem.mpr (by rw [e]; rfl)
      have q := ha ((.inr x : Key), dat r) (by
        unfold dataM
        exact List.mem_map.mpr ⟨x, m, by rw [e]; rfl⟩)
      unfold hitD at q
      rw [valD_data] at q
      by_cases m2 : x ∈ u.map (·.1)
      · rw [if_pos m2] at q
        have z := k.mem.mp m2
        cases y : g x with
        | none => rw [y] at z; cases z
        | some r' =>
          rw [y] at q
          rw [(inj r r').mp q]
      · rw [if_neg m2] at q
        cases q
    have ks : (t.map (·.1)).Perm (u.map (·.1)) := by
      have s1 : ∀ x ∈ t.map (·.1), x ∈ u.map (·.1) := fun x hx => by
        have z := h.mem.mp hx
        cases y : f x with
        | none => rw [y] at z; cases z
        | some r => exact k.mem.mpr (by rw [sub x r y]; rfl)
      exact perm_of_sub nt s1 (by rw [List.length_map, List.length_map]; omega)
    funext x
    cases y : f x with
    | some r => exact (sub x r y).symm
    | none =>
      cases z : g x with
      | none => rfl
      | some r =>
        have := h.mem.mp (ks.mem_iff.mpr (k.mem.mpr (by rw [z]; rfl)))
        rw [y] at this
        cases this
  · intro e
    subst e
    have ks : (t.map (·.1)).Perm (u.map (·.1)) := (List.perm_ext_iff_of_nodup nt nu).mpr fun x => by rw [h.mem, k.mem]
    refine ⟨by have := ks.length_eq; rwa [List.length_map, List.length_map] at this, fun p hp => ?_⟩
    unfold dataM at hp
    obtain ⟨x, hx, rfl⟩ := List.mem_map.mp hp
    unfold hitD
    rw [valD_data, if_pos (ks.mem_iff.mp hx)]
    have z := h.mem.mp hx
    cases y : f x with
    | none => rw [y] at z; cases z
    | some r => exact (inj r r).mpr rfl
end
/-! ### tables made with values that are new -/
theorem paired_keys {α : Type} {kf : α → Str} {R : V → α → Prop} : ∀ {tab : Tab} {us : List α}, Paired (fun e u => e.1 = kf u ∧ R e.2 u) tab us → tab.map (·.1) = us.map kf
  | _, _, .nil => rfl
  | _, _, .cons h r => by rw [List.map_cons, List.map_cons, h.1, paired_keys r]
theorem paired_snoc {α : Type} {R : Str × V → α → Prop} {e : Str × V} {u : α} (h : R e u) : ∀ {tab : Tab} {us : List α}, Paired R tab us → Paired R (tab ++ [e]) (us ++ [u])
  | _, _, .nil => .cons h .nil
  | _, _, .cons a r => .cons a (paired_snoc h r)
theorem holds_paired {α β : Type} {kf : α → Str} {rf : α → β} {R : V → β → Prop} {g : Mp β} : ∀ {tab : Tab} {us : List α}, Paired (fun e u => e.1 = kf u ∧ R e.2 (rf u)) tab us → (us.map kf).Nodup → (∀ u ∈ us, g (kf u) = some (rf u)) → (∀ x, x ∉ us.map kf → g x = none) → Holds R tab g
  | _, _, .nil, _, _, hn => fun x => .inl ⟨rfl, hn x (by simp)⟩
  | _, _, .cons (a := e) (b := u) (l₂ := us) ⟨h1, h2⟩ r, nd, hg, hn => fun x => by
    obtain ⟨n1, n2⟩ := List.nodup_cons.mp (show (kf u :: us.map kf).Nodup from nd)
    by_cases c : e.1 = x
    · refine .inr ⟨e.2, rf u, valV_pos c, ?_, h2⟩
      rw [← c, h1]
      exact hg u List.mem_cons_self
    · rw [valV_neg c]
      have ih := holds_paired (g := fun y => if y = kf u then none else g y) r n2 (fun w hw => by
        rw [if_neg (fun z => n1 (by rw [← z]; exact List.mem_map.mpr ⟨w, hw, rfl⟩))]
        exact hg w (List.mem_cons_of_mem _ hw)) (fun y hy => by
          by_cases z : y = kf u
          · rw [if_pos z]
          · rw [if_neg z]
            exact hn y fun q => (List.mem_cons.mp q).elim z hy) x
      dsimp only at ih
      rw [if_neg (fun z => c (by rw [h1, z]))] at ih
      exact ih
section
variable {α β : Type} {J : It} {us : List α} {val : α → V} {G : Hp → Prop} {H1 : Hp} {D : Addr} {σ : L2.St} {vs : List Nat} {g : TG} {tt : TT} {tk tv : TE} {Q : Hp → Prop}
theorem dc_hold (Y : Yields J (us.map val) G) (kf : α → Str) (R : Hp → V → β → Prop) (rf : α → β) (p : α → Bool) (σf : α → L2.St) (hD1 : H1 D = none) (hG : ∀ H, Same H1 H → G H) (hw : ∀ u ∈ us, wipe (σf u) vs = wipe σ vs)
    (hg : ∀ H u, Same H1 H → u ∈ us → ∀ (S : L2.St → Hp → Prop), S (σf u) H → g (val u) (wipe σ vs) H S)
    (ht : ∀ H u, Same H1 H → u ∈ us → ∀ (S : Bool → Hp → Prop), (∀ H3, Same H H3 → S (p u) H3) → tt (σf u) H S)
    (hk : ∀ H u, Same H1 H → u ∈ us → p u = true → ∀ (S : VK), (∀ H3, Same H H3 → S (.str (kf u)) H3) → tk (σf u) H S)
    (mono : ∀ H H' v r, TupKeep H H' → R H v r → R H' v r)
    (hv : ∀ H u, Same H1 H → u ∈ us → p u = true → ∀ (S : VK), (∀ v H3, Same H H3 → R H3 v (rf u) → S v H3) → tv (σf u) H S)
    (hl : us.length ≤ 1000000) (nd : (us.map kf).Nodup) (hd : ∀ H tab, Same H1 H → H D = some (.dK (kT tab)) → Paired (fun e u => e.1 = kf u ∧ R H e.2 (rf u)) tab (us.filter p) → Q H) :
    ∃ W : Nat → Nat → Hp → Prop, (∃ m, W 0 m (upd H1 D (.dK []))) ∧ ∀ k m H, W k m H →
      (J.stop k H ∧ Q H) ∨ (J.go k H ∧ ∃ Nx : Hp → Prop, (∀ H', Nx H' → ∃ m', m' < m ∧ W (k + 1) m' H') ∧ ∀ x H', J.yld k H x H' → g x (wipe σ vs) H' fun σ2 H2 => wipe σ2 vs = wipe σ vs ∧ tt σ2 H2 fun b H3 =>
        if b = true then tk σ2 H3 fun y H4 => tv σ2 H4 fun z H5 => ∃ kvs key, y = kV key ∧ H5 D = some (.dK kvs) ∧ kvs.length < sizeLine ∧ Nx (upd H5 D (.dK (putK kvs key z))) else Nx H3) := by
  refine dcG Y (fun k kvs H => Same H1 H ∧ ∃ tab, kvs = kT tab ∧ Paired (fun e u => e.1 = kf u ∧ R H e.2 (rf u)) tab ((us.take k).filter p)) (fun k acc H h _ => hG H h.1) ⟨same_new hD1, [], rfl, .nil⟩ (fun k kvs H x hI hD hx hacc hk' => ?_) (by rw [List.length_map]; exact hl) (fun acc H hI hD _ => ?_)
  · obtain ⟨sm, tab, ea, pr⟩ := hI
    rw [List.getElem?_map] at hx
    cases hu : us[k]? with
    | none => rw [hu] at hx; cases hx
    | some u =>
      rw [hu] at hx
      cases hx
      have hm : u ∈ us := List.mem_of_getElem? hu
      have et : us.take (k + 1) = us.take k ++ [u] := by
        rw [List.take_add_one, hu]
        rfl
      refine hg H u sm hm _ ⟨hw u hm, ht H u sm hm _ fun H3 s3 => ?_⟩
      by_cases hp : p u = true
      · rw [if_pos hp]
        refine hk H3 u (sm.trans s3) hm hp _ fun H4 s4 => hv H4 u ((sm.trans s3).trans s4) hm hp _ fun v H5 s5 rv => ?_
        have s35 := (s3.trans s4).trans s5
        have new : valV tab (kf u) = none := by
          cases c : valV tab (kf u) with
          | none => rfl
          | some z =>
            have m := valV_in c
            rw [paired_keys (R := fun v u => R H v (rf u)) pr] at m
            obtain ⟨w, hw', ew⟩ := List.mem_map.mp m
            have e : us = us.take k ++ (u :: us.drop (k + 1)) := by
              conv => lhs; rw [← List.take_append_drop (k + 1) us, et, List.append_assoc]
              rfl
            rw [e, List.map_append] at nd
            exact absurd ew ((List.nodup_append.mp nd).2.2 (kf w) (List.mem_map.mpr ⟨w, (List.mem_filter.mp hw').1, rfl⟩) (kf u) List.mem_cons_self)
        refine dc_take (key := .inr (kf u)) (s35 _ _ hD) hacc hk' ⟨same_mut (sm.trans s35) hD1, tab ++ [(kf u, v)], ?_, ?_⟩
        · rw [ea, putK_kT, putK_new _ new]
        · have k1 : TupKeep H5 (upd H5 D (.dK (putK kvs (.inr (kf u)) v))) := TupKeep.at fun xs z => by rw [s35 _ _ hD] at z; cases z
          have k2 : TupKeep H (upd H5 D (.dK (putK kvs (.inr (kf u)) v))) := (TupKeep.of s35).trans k1
          rw [et, List.filter_append, List.filter_cons, hp]
          exact paired_snoc (R := fun e u => e.1 = kf u ∧ R _ e.2 (rf u)) ⟨rfl, mono _ _ _ _ k1 rv⟩ (Paired.mapP pr fun e w ⟨a, b⟩ => ⟨a, mono _ _ _ _ k2 b⟩)
      · rw [if_neg hp]
        refine dc_skip (s3 _ _ hD) hacc ⟨sm.trans s3, tab, ea, ?_⟩
        rw [et, List.filter_append, List.filter_cons, if_neg hp]
        simp only [List.filter_nil, List.append_nil]
        exact Paired.mapP pr fun e w ⟨a, b⟩ => ⟨a, mono _ _ _ _ (TupKeep.of s3) b⟩
  · obtain ⟨sm, tab, ea, pr⟩ := hI
    rw [List.length_map, List.take_length] at pr
    rw [ea] at hD
    exact hd H tab sm hD pr
end
section
variable {α β : Type} {J : It} {us : List α} {G : Hp → Prop} {H1 : Hp} {D : Addr} {σ : L2.St} {vs : List Nat} {g : TG} {tt : TT} {tk tv : TE} {Q : Hp → Prop}
/-- .. over things that are new at each turn -/
theorem dc_holdS (hgo : ∀ k H, G H → k < us.length → J.go k H) (hstop : ∀ H, G H → J.stop us.length H) (kf : α → Str) (R : Hp → V → β → Prop) (rf : α → β) (p : α → Bool) (σf : α → L2.St) (hD1 : H1 D = none) (hG : ∀ H, Same H1 H → G H) (hw : ∀ u ∈ us, wipe (σf u) vs = wipe σ vs)
    (hg : ∀ k H u x H', Same H1 H → us[k]? = some u → J.yld k H x H' → Same H H' ∧ ∀ (S : L2.St → Hp → Prop), S (σf u) H' → g x (wipe σ vs) H' S)
    (ht : ∀ H u, Same H1 H → u ∈ us → ∀ (S : Bool → Hp → Prop), (∀ H3, Same H H3 → S (p u) H3) → tt (σf u) H S)
    (hk : ∀ H u, Same H1 H → u ∈ us → p u = true → ∀ (S : VK), (∀ H3, Same H H3 → S (.str (kf u)) H3) → tk (σf u) H S)
    (mono : ∀ H H' v r, TupKeep H H' → R H v r → R H' v r)
    (hv : ∀ H u, Same H1 H → u ∈ us → p u = true → ∀ (S : VK), (∀ v H3, Same H H3 → R H3 v (rf u) → S v H3) → tv (σf u) H S)
    (hl : us.length ≤ 1000000) (nd : (us.map kf).Nodup) (hd : ∀ H tab, Same H1 H → H D = some (.dK (kT tab)) → Paired (fun e u => e.1 = kf u ∧ R H e.2 (rf u)) tab (us.filter p) → Q H) :
    ∃ W : Nat → Nat → Hp → Prop, (∃ m, W 0 m (upd H1 D (.dK []))) ∧ ∀ k m H, W k m H →
      (J.stop k H ∧ Q H) ∨ (J.go k H ∧ ∃ Nx : Hp → Prop, (∀ H', Nx H' → ∃ m', m' < m ∧ W (k + 1) m' H') ∧ ∀ x H', J.yld k H x H' → g x (wipe σ vs) H' fun σ2 H2 => wipe σ2 vs = wipe σ vs ∧ tt σ2 H2 fun b H3 =>
        if b = true then tk σ2 H3 fun y H4 => tv σ2 H4 fun z H5 => ∃ kvs key, y = kV key ∧ H5 D = some (.dK kvs) ∧ kvs.length < sizeLine ∧ Nx (upd H5 D (.dK (putK kvs key z))) else Nx H3) := by
  let In : Nat → Hp → Prop := fun k H => Same H1 H ∧ ∃ tab, H D = some (.dK (kT tab)) ∧ tab.length ≤ k ∧ Paired (fun e u => e.1 = kf u ∧ R H e.2 (rf u)) tab ((us.take k).filter p)
  refine ⟨fun k m H => m = us.length - k ∧ k ≤ us.length ∧ In k H, ⟨us.length, rfl, Nat.zero_le _, same_new hD1, [], upd_same, Nat.zero_le _, .nil⟩, ?_⟩
  rintro k m H ⟨rfl, hk', sm, tab, hD, ltab, pr⟩
  by_cases hlt : k < us.length
  · refine .inr ⟨hgo k H (hG _ sm) hlt, In (k + 1), fun H' q => ⟨us.length - (k + 1), by omega, rfl, hlt, q⟩, fun x H' y => ?_⟩
    obtain ⟨u, hu⟩ : ∃ u, us[k]? = some u := ⟨us[k], List.getElem?_eq_getElem hlt⟩
    have hm : u ∈ us := List.mem_of_getElem? hu
    have et : us.take (k + 1) = us.take k ++ [u] := by
      rw [List.take_add_one, hu]
      rfl
    obtain ⟨s0, gg⟩ := hg k H u x H' sm hu y
    refine gg _ ⟨hw u hm, ht H' u (sm.trans s0) hm _ fun H3 s3 => ?_⟩
    have s03 := s0.trans s3
    by_cases hp : p u = true
    · rw [if_pos hp]
      refine hk H3 u (sm.trans s03) hm hp _ fun H4 s4 => hv H4 u ((sm.trans s03).trans s4) hm hp _ fun v H5 s5 rv => ?_
      have s35 := (s03.trans s4).trans s5
      have new : valV tab (kf u) = none := by
        cases c : valV tab (kf u) with
        | none => rfl
        | some z =>
          have m := valV_in c
          rw [paired_keys (R := fun v u => R H v (rf u)) pr] at m
          obtain ⟨w, hw', ew⟩ := List.mem_map.mp m
          have e : us = us.take k ++ (u :: us.drop (k + 1)) := by
            conv => lhs; rw [← List.take_append_drop (k + 1) us, et, List.append_assoc]
            rfl
          rw [e, List.map_append] at nd
          exact absurd ew ((List.nodup_append.mp nd).2.2 (kf w) (List.mem_map.mpr ⟨w, (List.mem_filter.mp hw').1, rfl⟩) (kf u) List.mem_cons_self)
      have k1 : TupKeep H5 (upd H5 D (.dK (putK (kT tab) (.inr (kf u)) v))) := TupKeep.at fun xs z => by rw [s35 _ _ hD] at z; cases z
      have k2 : TupKeep H (upd H5 D (.dK (putK (kT tab) (.inr (kf u)) v))) := (TupKeep.of s35).trans k1
      refine ⟨kT tab, .inr (kf u), rfl, s35 _ _ hD, small_lt (by rw [len_kT]; omega), same_mut (sm.trans s35) hD1, tab ++ [(kf u, v)], ?_, by rw [List.length_append]; show _ + 1 ≤ _; omega, ?_⟩
      · rw [upd_same, putK_kT, putK_new _ new]
      · rw [et, List.filter_append, List.filter_cons, hp]
        exact paired_snoc (R := fun e u => e.1 = kf u ∧ R _ e.2 (rf u)) ⟨rfl, mono _ _ _ _ k1 rv⟩ (Paired.mapP pr fun e w ⟨a, b⟩ => ⟨a, mono _ _ _ _ k2 b⟩)
    · rw [if_neg hp]
      refine ⟨sm.trans s03, tab, s03 _ _ hD, by omega, ?_⟩
      rw [et, List.filter_append, List.filter_cons, if_neg hp]
      simp only [List.filter_nil, List.append_nil]
      exact Paired.mapP pr fun e w ⟨a, b⟩ => ⟨a, mono _ _ _ _ (TupKeep.of s03) b⟩
  · have e : k = us.length := by omega
    subst e
    rw [List.take_length] at pr
    exact .inl ⟨hstop H (hG _ sm), hd H tab sm hD pr⟩
end
end Fk

set_option maxHeartbeats 4000000
/-! Values of files and rows of changes: what they are, where they stand. -/
namespace Fk
open PySem PySem.Spec PyProof.Rows L2
/-- a file's value, or that there is none -/
abbrev Fv := Option (Str × Str)
abbrev Rw := Fv × Fv
def fvD : Fv → PyData
  | none => .none
  | some p => .tuple [.str p.1, .str p.2]
def rwD (r : Rw) : PyData := .tuple [fvD r.1, fvD r.2]
def FKS : List Str := ["file", "exec"]
section
variable {K : PySem.W.Frag} {H H' : Hp}
def FvV (K : PySem.W.Frag) (H : Hp) (v : V) : Fv → Prop
  | none => v = .non
  | some p => ∃ q, v = .ref q ∧ TupK K H q [.str p.1, .str p.2]
def RwV (K : PySem.W.Frag) (H : Hp) (v : V) (r : Rw) : Prop := ∃ q v1 v2, v = .ref q ∧ TupK K H q [v1, v2] ∧ FvV K H v1 r.1 ∧ FvV K H v2 r.2
theorem FvV.keep {v : V} {f : Fv} (h : FvV K H v f) (k : TupKeep H H') : FvV K H' v f := by
  cases f with
  | none => exact h
  | some p =>
    obtain ⟨q, e, t⟩ := h
    exact ⟨q, e, t.keep k⟩
theorem RwV.keep {v : V} {r : Rw} (h : RwV K H v r) (k : TupKeep H H') : RwV K H' v r := by
  obtain ⟨q, v1, v2, e, t, a, b⟩ := h
  exact ⟨q, v1, v2, e, t.keep k, a.keep k, b.keep k⟩
theorem FvV.dp {v : V} {f : Fv} (h : FvV K H v f) : Dp K H v (fvD f) := by
  cases f with
  | none =>
    obtain rfl : v = .non := h
    exact .non
  | some p =>
    obtain ⟨q, rfl, t⟩ := h
    exact dp_head t
theorem RwV.dp {v : V} {r : Rw} (h : RwV K H v r) : Dp K H v (rwD r) := by
  obtain ⟨q, v1, v2, rfl, t, a, b⟩ := h
  exact .tup t.sq (.cons a.dp (.cons b.dp .nil))
def GoodF (f : Fv) : Prop := ∀ p, f = some p → p.1 ∈ FKS ∧ isIdF p.2 = true
def GoodR (r : Rw) : Prop := GoodF r.1 ∧ GoodF r.2
theorem ok_fks : ∀ x ∈ FKS, OkS x := by
  intro x hx
  simp only [FKS, List.mem_cons, List.not_mem_nil, or_false] at hx
  rcases hx with rfl | rfl <;> exact ok_by (by decide +kernel)
theorem ok_idF {x : Str} (h : isIdF x = true) : OkS x ∧ x.length = 16 := by
  unfold isIdF at h
  obtain ⟨h1, h2⟩ := Bool.and_eq_true_iff.mp h
  refine ⟨fun u hu => ?_, of_decide_eq_true h1⟩
  unfold hasOnly at h2
  have := List.all_eq_true.mp h2 u hu
  exact ok_hex u (of_decide_eq_true this)
theorem lay_fv {f : Fv} (h : GoodF f) : PyData.canLay0 (fvD f) = true := by
  cases f with
  | none => rfl
  | some p =>
    obtain ⟨h1, h2⟩ := h p rfl
    show PyData.canLayAll0 ([p.1, p.2].map PyData.str) = true
    exact lay_strs _ fun y hy => by
      simp only [List.mem_cons, List.not_mem_nil, or_false] at hy
      rcases hy with rfl | rfl
      · exact ok_fks _ h1
      · exact (ok_idF h2).1
theorem depth_fv (f : Fv) : PyData.depth (fvD f) ≤ 1 := by
  cases f with
  | none => exact Nat.zero_le _
  | some p => exact Nat.le_refl _
end
theorem shaped_fv {f : Fv} (h : GoodF f) : SeqAt.shaped (fvD f) = true := by
  unfold SeqAt.shaped
  rw [lay_fv h, Bool.true_and]
  exact decide_eq_true (Nat.le_trans (depth_fv f) (by decide))
theorem shaped_rw {r : Rw} (h : GoodR r) : SeqAt.shaped (rwD r) = true := by
  unfold SeqAt.shaped rwD
  have d1 := depth_fv r.1
  have d2 := depth_fv r.2
  have c : PyData.canLay0 (.tuple [fvD r.1, fvD r.2]) = true := by
    simp only [PyData.canLay0, PyData.canLayAll0, lay_fv h.1, lay_fv h.2, Bool.and_self]
  rw [c, Bool.true_and]
  refine decide_eq_true ?_
  show PyData.depthAll [fvD r.1, fvD r.2] + 1 ≤ 64
  simp only [PyData.depthAll]
  omega
theorem eqv_fv (a b : Fv) : PyData.eqv (fvD a) (fvD b) = decide (a = b) := by
  cases a with
  | none => cases b <;> rfl
  | some p =>
    cases b with
    | none => rfl
    | some q =>
      show PyData.eqv (.tuple [.str p.1, .str p.2]) (.tuple [.str q.1, .str q.2]) = _
      rw [eqv_head]
      refine decide_eq_decide.mpr ⟨fun h => ?_, fun h => ?_⟩
      · rw [show p = (p.1, p.2) from rfl, show q = (q.1, q.2) from rfl, h]
      · cases h
        rfl
theorem eqv_rw (a b : Rw) : PyData.eqv (rwD a) (rwD b) = decide (a = b) := by
  show PyData.eqvAll [fvD a.1, fvD a.2] [fvD b.1, fvD b.2] = _
  simp only [PyData.eqvAll, eqv_fv, Bool.and_true]
  rw [Bool.eq_iff_iff, Bool.and_eq_true, decide_eq_true_eq, decide_eq_true_eq, decide_eq_true_eq]
  exact ⟨fun ⟨x, y⟩ => Prod.ext x y, fun e => by rw [e]; exact ⟨rfl, rfl⟩⟩
/-- a path that may stand in files and changes -/
def PathOk (x : Str) : Prop := isPathF x = true ∧ x.length ≤ 1000 ∧ OkS x
/-- rows by paths, each as it should be -/
structure RowsOk (n : Nat) (t : Tab) (m : Mp Rw) : Prop where
  nd : Nd t
  len : t.length ≤ n
  path : ∀ x ∈ t.map (·.1), PathOk x
  good : ∀ x r, m x = some r → GoodR r
/-- a dict of rows at e -/
def RowsAt (K : PySem.W.Frag) (H : Hp) (e : Addr) (n : Nat) (m : Mp Rw) : Prop := ∃ t, H e = some (.dK (kT t)) ∧ Holds (RwV K H) t m ∧ RowsOk n t m
/-- a change at a, its dict at d, the rows in order -/
def ChAt (K : PySem.W.Frag) (C : Addr) (H : Hp) (a dx d : Addr) (n : Nat) (m : Mp Rw) : Prop := H a = some (.ins C dx [("_rows", .ref d)]) ∧ ∃ t, H d = some (.dK (kT t)) ∧ Holds (RwV K H) t m ∧ RowsOk n t m ∧ sortedS (t.map (·.1)) = true
section
variable {K : PySem.W.Frag} {H H' : Hp} {n : Nat} {m : Mp Rw} {C e a dx d : Addr}
theorem RowsAt.same (h : RowsAt K H e n m) (s : Same H H') : RowsAt K H' e n m := by
  obtain ⟨t, h1, h2, h3⟩ := h
  exact ⟨t, s _ _ h1, h2.imp fun _ _ x => x.keep (TupKeep.of s), h3⟩
theorem ChAt.same (h : ChAt K C H a dx d n m) (s : Same H H') : ChAt K C H' a dx d n m := by
  obtain ⟨h0, t, h1, h2, h3⟩ := h
  exact ⟨s _ _ h0, t, s _ _ h1, h2.imp fun _ _ x => x.keep (TupKeep.of s), h3⟩
theorem RowsOk.mono {t : Tab} {n' : Nat} (h : RowsOk n t m) (l : n ≤ n') : RowsOk n' t m := ⟨h.nd, Nat.le_trans h.len l, h.path, h.good⟩
theorem RowsOk.shaped {t : Tab} (h : RowsOk n t m) (hh : Holds (RwV K H) t m) : shapedAll (dataM rwD t m) := fun p hp => by
  unfold dataM at hp
  obtain ⟨x, hx, rfl⟩ := List.mem_map.mp hp
  have z := hh.mem.mp hx
  cases y : m x with
  | none => rw [y] at z; cases z
  | some r => exact shaped_rw (h.good x r y)
theorem rows_eq {b : Addr} {t u : Tab} {n' : Nat} {f g : Mp Rw} {Q : VK} {c : Bool} (ha : H a = some (.dK (kT t))) (hb : H b = some (.dK (kT u))) (h : Holds (RwV K H) t f) (k : Holds (RwV K H) u g) (ho : RowsOk n t f) (ko : RowsOk n' u g) (hc : c = true ↔ f = g) (q : Q (.bl c) H) : rEqDD K (.ref a) (.ref b) H Q := by
  refine ⟨a, b, dataM rwD t f, dataM rwD u g, rfl, rfl, ⟨_, ha, h.dd (fun _ _ x => x.dp) ho.nd⟩, ⟨_, hb, k.dd (fun _ _ x => x.dp) ko.nd⟩, ho.shaped h, ko.shaped k, ?_⟩
  have e : eqvDict (dataM rwD t f) (dataM rwD u g) = c := by
    rw [Bool.eq_iff_iff, eqv_data (fun a b => by rw [eqv_rw, decide_eq_true_eq]) h k ho.nd ko.nd, hc]
  rw [e]
  exact q
end
/-! ### == and != of values -/
def rEqFv (K : PySem.W.Frag) : R2 := fun x y H Q => ∃ f g, FvV K H x f ∧ FvV K H y g ∧ GoodF f ∧ GoodF g ∧ Q (.bl (decide (f = g))) H
def rNeFv (K : PySem.W.Frag) : R2 := fun x y H Q => ∃ f g, FvV K H x f ∧ FvV K H y g ∧ GoodF f ∧ GoodF g ∧ Q (.bl (!decide (f = g))) H
theorem op_eqFv {X : Cx} {K : PySem.W.Frag} (e : X.K = K) (hu : X.A.units + 64 < cLine) : OpR X (compareOp .Eq) (rEqFv K) := fun pn s σ H x y v u Q I rx ry h => by
  subst e
  obtain ⟨f, g, a, b, gf, gg, q⟩ := h
  exact op_eqD hu pn s σ H x y v u Q I rx ry ⟨_, _, a.dp, b.dp, shaped_fv gf, shaped_fv gg, by rw [eqv_fv]; exact q⟩
theorem op_neFv {X : Cx} {K : PySem.W.Frag} (e : X.K = K) (hu : X.A.units + 64 < cLine) : OpR X (compareOp .NotEq) (rNeFv K) := fun pn s σ H x y v u Q I rx ry h => by
  subst e
  obtain ⟨f, g, a, b, gf, gg, q⟩ := h
  exact op_neD hu pn s σ H x y v u Q I rx ry ⟨_, _, a.dp, b.dp, shaped_fv gf, shaped_fv gg, by rw [eqv_fv]; exact q⟩
end Fk

set_option maxHeartbeats 4000000
/-! Lists of pairs (key, value) with values that are new; a dict of them; tables as lists of pairs. -/
namespace Fk
open PySem PySem.Spec PyProof.Rows L2
theorem paired_snoc' {α β : Type} {R : α → β → Prop} {e : α} {u : β} (h : R e u) : ∀ {l : List α} {us : List β}, Paired R l us → Paired R (l ++ [e]) (us ++ [u])
  | _, _, .nil => .cons h .nil
  | _, _, .cons a r => .cons a (paired_snoc' h r)
section
variable {α β : Type} {J : It} {us : List α} {val : α → V} {G : Hp → Prop} {H1 : Hp} {D : Addr} {σ : L2.St} {vs : List Nat} {g : TG} {tt : TT} {te : TE} {Q : Hp → Prop}
/-- a list of new pairs -/
theorem lc_pairs (Y : Yields J (us.map val) G) (kf : α → Str) (R : Hp → V → β → Prop) (rf : α → β) (p : α → Bool) (σf : α → L2.St) (hD1 : H1 D = none) (hG : ∀ H, Same H1 H → G H) (hw : ∀ u ∈ us, wipe (σf u) vs = wipe σ vs)
    (hg : ∀ H u, Same H1 H → u ∈ us → ∀ (S : L2.St → Hp → Prop), S (σf u) H → g (val u) (wipe σ vs) H S)
    (ht : ∀ H u, Same H1 H → u ∈ us → ∀ (S : Bool → Hp → Prop), (∀ H3, Same H H3 → S (p u) H3) → tt (σf u) H S)
    (mono : ∀ H H' v r, TupKeep H H' → R H v r → R H' v r)
    (he : ∀ H u, Same H1 H → u ∈ us → p u = true → ∀ (S : VK), (∀ a v H3, Same H H3 → H3 a = some (.tup [.str (kf u), v]) → R H3 v (rf u) → S (.ref a) H3) → te (σf u) H S)
    (hl : us.length ≤ 1000000) (hd : ∀ as H, Same H1 H → H D = some (.lst (as.map V.ref)) → Paired (fun (a : Addr) u => ∃ v, H a = some (.tup [.str (kf u), v]) ∧ R H v (rf u)) as (us.filter p) → Q H) :
    ∃ W : Nat → Nat → Hp → Prop, (∃ m, W 0 m (upd H1 D (.lst []))) ∧ ∀ k m H, W k m H →
      (J.stop k H ∧ Q H) ∨ (J.go k H ∧ ∃ Nx : Hp → Prop, (∀ H', Nx H' → ∃ m', m' < m ∧ W (k + 1) m' H') ∧ ∀ x H', J.yld k H x H' → g x (wipe σ vs) H' fun σ2 H2 => wipe σ2 vs = wipe σ vs ∧ tt σ2 H2 fun b H3 =>
        if b = true then te σ2 H3 fun y H4 => ∃ acc, H4 D = some (.lst acc) ∧ acc.length < sizeLine ∧ Nx (upd H4 D (.lst (acc ++ [y]))) else Nx H3) := by
  refine lcG Y (fun k acc H => Same H1 H ∧ ∃ as : List Addr, acc = as.map V.ref ∧ Paired (fun (a : Addr) u => ∃ v, H a = some (.tup [.str (kf u), v]) ∧ R H v (rf u)) as ((us.take k).filter p)) (fun k acc H h _ => hG H h.1) ⟨same_new hD1, [], rfl, .nil⟩ (fun k acc H x hI hD hx hacc hk => ?_) (by rw [List.length_map]; exact hl) (fun acc H hI hD _ => ?_)
  · obtain ⟨sm, as, ea, pr⟩ := hI
    rw [List.getElem?_map] at hx
    cases hu : us[k]? with
    | none => rw [hu] at hx; cases hx
    | some u =>
      rw [hu] at hx
      cases hx
      have hm : u ∈ us := List.mem_of_getElem? hu
      have et : us.take (k + 1) = us.take k ++ [u] := by
        rw [List.take_add_one, hu]
        rfl
      refine hg H u sm hm _ ⟨hw u hm, ht H u sm hm _ fun H3 s3 => ?_⟩
      by_cases hp : p u = true
      · rw [if_pos hp]
        refine he H3 u (sm.trans s3) hm hp _ fun a v H4 s4 h4 rv => ?_
        have hD4 := s4 _ _ (s3 _ _ hD)
        have kp : TupKeep H4 (upd H4 D (.lst (acc ++ [V.ref a]))) := TupKeep.at fun xs z => by rw [hD4] at z; cases z
        have k2 := (TupKeep.of (s3.trans s4)).trans kp
        refine lc_take hD4 hacc hk ⟨same_mut ((sm.trans s3).trans s4) hD1, as ++ [a], by rw [ea, List.map_append]; rfl, ?_⟩
        rw [et, List.filter_append, List.filter_cons, hp]
        exact paired_snoc' ⟨v, kp _ _ h4, mono _ _ _ _ kp rv⟩ (Paired.mapP pr fun e w ⟨z, a, b⟩ => ⟨z, k2 _ _ a, mono _ _ _ _ k2 b⟩)
      · rw [if_neg hp]
        refine lc_skip (s3 _ _ hD) hacc ⟨sm.trans s3, as, ea, ?_⟩
        rw [et, List.filter_append, List.filter_cons, if_neg hp]
        simp only [List.filter_nil, List.append_nil]
        exact Paired.mapP pr fun e w ⟨z, a, b⟩ => ⟨z, TupKeep.of s3 _ _ a, mono _ _ _ _ (TupKeep.of s3) b⟩
  · obtain ⟨sm, as, ea, pr⟩ := hI
    rw [List.length_map, List.take_length] at pr
    rw [ea] at hD
    exact hd as H sm hD pr
end
theorem mergeK_nd (t u : Tab) (nd : Nd u) (dis : ∀ x ∈ u.map (·.1), x ∉ t.map (·.1)) : mergeK (kT t) (kT u) = kT (t ++ u) := by
  induction u generalizing t with
  | nil => rw [List.append_nil]; rfl
  | cons p l ih =>
    obtain ⟨h1, h2⟩ := List.nodup_cons.mp (show ((p :: l).map (·.1)).Nodup from nd)
    have new : valV t p.1 = none := by
      cases c : valV t p.1 with
      | none => rfl
      | some w => exact absurd (valV_in c) (dis p.1 (by rw [List.map_cons]; exact List.mem_cons_self))
    show mergeK (putK (kT t) (.inr p.1) p.2) (kT l) = _
    rw [putK_kT, putK_new _ new, ih (t ++ [(p.1, p.2)]) h2 (fun x hx z => ?_), List.append_assoc]
    · rfl
    · rw [List.map_append] at z
      rcases List.mem_append.mp z with z | z
      · exact dis x (by rw [List.map_cons]; exact List.mem_cons_of_mem _ hx) z
      · rw [List.map_cons, List.map_nil] at z
        rw [List.mem_singleton.mp z] at hx
        exact h1 hx
/-- the dict of a list of pairs, as a table -/
theorem pairs_tab {α β : Type} {K : PySem.W.Frag} {H : Hp} {kf : α → Str} {R : V → β → Prop} {rf : α → β} : ∀ {as : List Addr} {us : List α}, Paired (fun (a : Addr) u => ∃ v, H a = some (.tup [.str (kf u), v]) ∧ R v (rf u)) as us →
    ∃ tab : Tab, Paired (fun p kv => SqT K H p [kV kv.1, kv.2]) as (kT tab) ∧ Paired (fun e u => e.1 = kf u ∧ R e.2 (rf u)) tab us
  | _, _, .nil => ⟨[], .nil, .nil⟩
  | _, _, .cons (b := u) ⟨v, h1, h2⟩ r => by
    obtain ⟨tab, p1, p2⟩ := pairs_tab r
    exact ⟨(kf u, v) :: tab, .cons (.inl (.inl h1)) p1, .cons ⟨rfl, h2⟩ p2⟩
/-! ### tables as lists of pairs -/
def pairsD {α : Type} (dat : α → PyData) (ys : List Str) (f : Mp α) : PyData := .list (ys.map fun y => .tuple [.str y, ((f y).map dat).getD .none])
theorem eqvAll_refl : ∀ {ds : List PyData}, (∀ d ∈ ds, PyData.eqv d d = true) → PyData.eqvAll ds ds = true
  | [], _ => rfl
  | d :: r, h => by
    simp only [PyData.eqvAll, h d List.mem_cons_self, eqvAll_refl fun z hz => h z (List.mem_cons_of_mem _ hz), Bool.and_self]
theorem eqv_pairs {α : Type} {dat : α → PyData} (inj : ∀ a, PyData.eqv (dat a) (dat a) = true) (ys : List Str) (f : Mp α) : PyData.eqv (pairsD dat ys f) (pairsD dat ys f) = true := by
  unfold pairsD
  simp only [PyData.eqv]
  refine eqvAll_refl fun d hd => ?_
  obtain ⟨y, _, rfl⟩ := List.mem_map.mp hd
  have e : PyData.eqv (((f y).map dat).getD .none) (((f y).map dat).getD .none) = true := by
    cases f y with
    | none => rfl
    | some r => exact inj r
  simp only [PyData.eqv, PyData.eqvAll, e, beq_self_eq_true, Bool.and_self]
theorem layAll_of : ∀ {ds : List PyData}, (∀ d ∈ ds, PyData.canLay0 d = true) → PyData.canLayAll0 ds = true
  | [], _ => rfl
  | d :: r, h => by simp only [PyData.canLayAll0, h d List.mem_cons_self, layAll_of fun z hz => h z (List.mem_cons_of_mem _ hz), Bool.and_self]
theorem depthAll_le {n : Nat} : ∀ {ds : List PyData}, (∀ d ∈ ds, PyData.depth d ≤ n) → PyData.depthAll ds ≤ n
  | [], _ => by simp [PyData.depthAll]
  | d :: r, h => by
    simp only [PyData.depthAll]
    exact Nat.max_le.mpr ⟨h d List.mem_cons_self, depthAll_le fun z hz => h z (List.mem_cons_of_mem _ hz)⟩
theorem depth_rw (r : Rw) : PyData.depth (rwD r) ≤ 2 := by
  have d1 := depth_fv r.1
  have d2 := depth_fv r.2
  show PyData.depthAll [fvD r.1, fvD r.2] + 1 ≤ 2
  simp only [PyData.depthAll]
  omega
theorem lay_rw {r : Rw} (h : GoodR r) : PyData.canLay0 (rwD r) = true := by
  unfold rwD
  simp only [PyData.canLay0, PyData.canLayAll0, lay_fv h.1, lay_fv h.2, Bool.and_self]
theorem shaped_pairs {ys : List Str} {f : Mp Rw} (hk : ∀ y ∈ ys, OkS y) (hg : ∀ x r, f x = some r → GoodR r) : SeqAt.shaped (pairsD rwD ys f) = true := by
  unfold SeqAt.shaped pairsD
  have one : ∀ y ∈ ys, PyData.canLay0 (.tuple [.str y, ((f y).map rwD).getD .none]) = true ∧ PyData.depth (.tuple [.str y, ((f y).map rwD).getD .none]) ≤ 3 := fun y hy => by
    cases e : f y with
    | none =>
      refine ⟨?_, ?_⟩
      · show PyData.canLay0 (.tuple [.str y, .none]) = true
        simp only [PyData.canLay0, PyData.canLayAll0, strOk_of (hk y hy), Bool.and_self]
      · show PyData.depthAll [.str y, .none] + 1 ≤ 3
        simp [PyData.depthAll, PyData.depth]
    | some r =>
      refine ⟨?_, ?_⟩
      · show PyData.canLay0 (.tuple [.str y, rwD r]) = true
        simp only [PyData.canLay0, PyData.canLayAll0, strOk_of (hk y hy), lay_rw (hg y r e), Bool.and_self]
      · show PyData.depthAll [.str y, rwD r] + 1 ≤ 3
        have := depth_rw r
        simp only [PyData.depthAll, PyData.depth]
        omega
  have c : PyData.canLay0 (.list (ys.map fun y => .tuple [.str y, ((f y).map rwD).getD .none])) = true := by
    simp only [PyData.canLay0]
    exact layAll_of fun d hd => by
      obtain ⟨y, hy, rfl⟩ := List.mem_map.mp hd
      exact (one y hy).1
  rw [c, Bool.true_and]
  refine decide_eq_true ?_
  show PyData.depthAll (ys.map fun y => .tuple [.str y, ((f y).map rwD).getD .none]) + 1 ≤ 64
  have : PyData.depthAll (ys.map fun y => .tuple [.str y, ((f y).map rwD).getD .none]) ≤ 3 := depthAll_le fun d hd => by
    obtain ⟨y, hy, rfl⟩ := List.mem_map.mp hd
    exact (one y hy).2
  omega
/-- addresses of pairs with known rows, as data -/
theorem dp_pairs {K : PySem.W.Frag} {H : Hp} {p : Addr} {f : Mp Rw} : ∀ {as : List Addr} {ys : List Str}, Paired (fun (a : Addr) y => ∃ v r, H a = some (.tup [.str y, v]) ∧ f y = some r ∧ RwV K H v r) as ys → DpAll K H (as.map V.ref) (ys.map fun y => .tuple [.str y, ((f y).map rwD).getD .none])
  | _, _, .nil => .nil
  | _, _, .cons (b := y) ⟨v, r, h1, h2, h3⟩ l => by
    refine .cons (.tup (.inl (.inl h1)) (.cons (.str y) (.cons ?_ .nil))) (dp_pairs (p := p) l)
    rw [h2]
    exact h3.dp
end Fk

set_option maxHeartbeats 4000000
/-! A list of new pairs, over things that are new at each turn. -/
namespace Fk
open PySem PySem.Spec PyProof.Rows L2
section
variable {α β : Type} {J : It} {us : List α} {G : Hp → Prop} {H1 : Hp} {D : Addr} {σ : L2.St} {vs : List Nat} {g : TG} {tt : TT} {te : TE} {Q : Hp → Prop}
theorem lc_pairsS (hgo : ∀ k H, G H → k < us.length → J.go k H) (hstop : ∀ H, G H → J.stop us.length H) (kf : α → Str) (R : Hp → V → β → Prop) (rf : α → β) (p : α → Bool) (σf : α → L2.St) (hD1 : H1 D = none) (hG : ∀ H, Same H1 H → G H) (hw : ∀ u ∈ us, wipe (σf u) vs = wipe σ vs)
    (hg : ∀ k H u x H', Same H1 H → us[k]? = some u → J.yld k H x H' → Same H H' ∧ ∀ (S : L2.St → Hp → Prop), S (σf u) H' → g x (wipe σ vs) H' S)
    (ht : ∀ H u, Same H1 H → u ∈ us → ∀ (S : Bool → Hp → Prop), (∀ H3, Same H H3 → S (p u) H3) → tt (σf u) H S)
    (mono : ∀ H H' v r, TupKeep H H' → R H v r → R H' v r)
    (he : ∀ H u, Same H1 H → u ∈ us → p u = true → ∀ (S : VK), (∀ a v H3, Same H H3 → H3 a = some (.tup [.str (kf u), v]) → R H3 v (rf u) → S (.ref a) H3) → te (σf u) H S)
    (hl : us.length ≤ 1000000) (hd : ∀ as H, Same H1 H → H D = some (.lst (as.map V.ref)) → Paired (fun (a : Addr) u => ∃ v, H a = some (.tup [.str (kf u), v]) ∧ R H v (rf u)) as (us.filter p) → Q H) :
    ∃ W : Nat → Nat → Hp → Prop, (∃ m, W 0 m (upd H1 D (.lst []))) ∧ ∀ k m H, W k m H →
      (J.stop k H ∧ Q H) ∨ (J.go k H ∧ ∃ Nx : Hp → Prop, (∀ H', Nx H' → ∃ m', m' < m ∧ W (k + 1) m' H') ∧ ∀ x H', J.yld k H x H' → g x (wipe σ vs) H' fun σ2 H2 => wipe σ2 vs = wipe σ vs ∧ tt σ2 H2 fun b H3 =>
        if b = true then te σ2 H3 fun y H4 => ∃ acc, H4 D = some (.lst acc) ∧ acc.length < sizeLine ∧ Nx (upd H4 D (.lst (acc ++ [y]))) else Nx H3) := by
  let In : Nat → Hp → Prop := fun k H => Same H1 H ∧ ∃ as : List Addr, H D = some (.lst (as.map V.ref)) ∧ as.length ≤ k ∧ Paired (fun (a : Addr) u => ∃ v, H a = some (.tup [.str (kf u), v]) ∧ R H v (rf u)) as ((us.take k).filter p)
  refine ⟨fun k m H => m = us.length - k ∧ k ≤ us.length ∧ In k H, ⟨us.length, rfl, Nat.zero_le _, same_new hD1, [], upd_same, Nat.zero_le _, .nil⟩, ?_⟩
  rintro k m H ⟨rfl, hk', sm, as, hD, las, pr⟩
  by_cases hlt : k < us.length
  · refine .inr ⟨hgo k H (hG _ sm) hlt, In (k + 1), fun H' q => ⟨us.length - (k + 1), by omega, rfl, hlt, q⟩, fun x H' y => ?_⟩
    obtain ⟨u, hu⟩ : ∃ u, us[k]? = some u := ⟨us[k], List.getElem?_eq_getElem hlt⟩
    have hm : u ∈ us := List.mem_of_getElem? hu
    have et : us.take (k + 1) = us.take k ++ [u] := by
      rw [List.take_add_one, hu]
      rfl
    obtain ⟨s0, gg⟩ := hg k H u x H' sm hu y
    refine gg _ ⟨hw u hm, ht H' u (sm.trans s0) hm _ fun H3 s3 => ?_⟩
    have s03 := s0.trans s3
    by_cases hp : p u = true
    · rw [if_pos hp]
      refine he H3 u (sm.trans s03) hm hp _ fun a v H4 s4 h4 rv => ?_
      have s34 := s03.trans s4
      have hD4 := s34 _ _ hD
      have k1 : TupKeep H4 (upd H4 D (.lst (as.map V.ref ++ [V.ref a]))) := TupKeep.at fun xs z => by rw [hD4] at z; cases z
      have k2 : TupKeep H (upd H4 D (.lst (as.map V.ref ++ [V.ref a]))) := (TupKeep.of s34).trans k1
      refine ⟨_, hD4, small_lt (by rw [List.length_map]; omega), same_mut (sm.trans s34) hD1, as ++ [a], by rw [upd_same, List.map_append]; rfl, by rw [List.length_append]; show _ + 1 ≤ _; omega, ?_⟩
      rw [et, List.filter_append, List.filter_cons, hp]
      exact paired_snoc' ⟨v, k1 _ _ h4, mono _ _ _ _ k1 rv⟩ (Paired.mapP pr fun e w ⟨z, a, b⟩ => ⟨z, k2 _ _ a, mono _ _ _ _ k2 b⟩)
    · rw [if_neg hp]
      refine ⟨sm.trans s03, as, s03 _ _ hD, by omega, ?_⟩
      rw [et, List.filter_append, List.filter_cons, if_neg hp]
      simp only [List.filter_nil, List.append_nil]
      exact Paired.mapP pr fun e w ⟨z, a, b⟩ => ⟨z, TupKeep.of s03 _ _ a, mono _ _ _ _ (TupKeep.of s03) b⟩
  · have e : k = us.length := by omega
    subst e
    rw [List.take_length] at pr
    exact .inl ⟨hstop H (hG _ sm), hd as H sm hD pr⟩
end
end Fk

set_option maxHeartbeats 4000000
namespace Fk
open PySem PySem.Spec PyProof.Rows L2
open LamX
/-- what is kept -/
def Kq (W : Addr) (H H' : Hp) : Prop := ∀ b o, b ≠ W → (∀ ps, o ≠ .tbl ps) → H b = some o → H' b = some o
theorem Kq.refl (W : Addr) (H : Hp) : Kq W H H := fun _ _ _ _ e => e
theorem Kq.trans {W : Addr} {H H1 H2 : Hp} (x : Kq W H H1) (y : Kq W H1 H2) : Kq W H H2 := fun b o n t e => y b o n t (x b o n t e)
theorem Kq.same {W : Addr} {H H' : Hp} (s : Same H H') : Kq W H H' := fun b o _ _ e => s b o e
theorem Kq.fr {W : Addr} {H H' : Hp} (s : Fr W H H') : Kq W H H' := fun b o n _ e => s b o n e
theorem Kq.extN {W : Addr} {H H' : Hp} (s : ExtN H H') : Kq W H H' := fun b o _ t e => s b o e t
theorem Wl.ext {W : Addr} {H H' : Hp} {c : Int} (h : Wl H W c) (e : ExtN H H') : Wl H' W c := by
  obtain ⟨h0, x, y, hw⟩ := h
  exact ⟨h0, x, y, e _ _ hw fun ps z => nomatch z⟩
theorem TabsL.fr {Ps : List Addr} {qf : Nat → Str} {W : Addr} {H H' : Hp} {c : Int} (t : TabsL qf Ps H) (w : Wl H W c) (f : Fr W H H') : TabsL qf Ps H' := t.ext fun b o nl _ e => f b o (fun z => by
  obtain ⟨_, x, y, hw⟩ := w
  rw [z, hw] at e
  exact nl _ (Option.some.inj e).symm) e
/-- what a kept object is: not the well's own list -/
theorem Kq.at {W b : Addr} {H H' : Hp} {c : Int} {o : HO} (s : Kq W H H') (w : Wl H W c) (n1 : ∀ x y z, o ≠ .lst [.int x, .int y, .int z]) (n2 : ∀ ps, o ≠ .tbl ps) (h : H b = some o) : H' b = some o := by
  obtain ⟨_, x, y, hw⟩ := w
  exact s b o (fun z => by rw [z, hw] at h; exact n1 _ _ _ (Option.some.inj h).symm) n2 h
theorem Kq.tups {W : Addr} {H H' : Hp} {c : Int} (s : Kq W H H') (w : Wl H W c) : TupKeep H H' := fun b xs e => s.at w (fun _ _ _ z => nomatch z) (fun _ z => nomatch z) e
theorem Kq.dK {W b : Addr} {H H' : Hp} {c : Int} {ks : List (Key × V)} (s : Kq W H H') (w : Wl H W c) (h : H b = some (.dK ks)) : H' b = some (.dK ks) := s.at w (fun _ _ _ z => nomatch z) (fun _ z => nomatch z) h
theorem Kq.ext {W b : Addr} {H H' : Hp} {c : Int} {φ : Heap → Prop} (s : Kq W H H') (w : Wl H W c) (h : H b = some (.ext φ)) : H' b = some (.ext φ) := s.at w (fun _ _ _ z => nomatch z) (fun _ z => nomatch z) h
theorem Kq.two {W b : Addr} {H H' : Hp} {c : Int} {x y : Str} (s : Kq W H H') (w : Wl H W c) (h : H b = some (.lst [.str x, .str y])) : H' b = some (.lst [.str x, .str y]) := s.at w (fun _ _ _ z => by cases z) (fun _ z => nomatch z) h
/-! ### simple values -/
def SimV (K : PySem.W.Frag) (H : Hp) (v : V) : Prop := v = .non ∨ v = .int 1 ∨ (∃ x, v = .str x ∧ OkS x) ∨ (∃ (q : Addr) (a b : Str), v = .ref q ∧ H q = some (.lst [.str a, .str b]) ∧ OkS a ∧ OkS b) ∨ ∃ (q : Addr) (ys : List Str), v = .ref q ∧ TupK K H q (ys.map V.str) ∧ ∀ y ∈ ys, OkS y
section
variable {P : Program} {w : World} {K : PySem.W.Frag} {mg : Str → Option Value} {base : Heap}
theorem SimV.keep {H H' : Hp} {v : V} (h : SimV K H v) (k : TupKeep H H') (l : ∀ (q : Addr) (a b : Str), H q = some (.lst [.str a, .str b]) → H' q = some (.lst [.str a, .str b])) : SimV K H' v := by
  rcases h with h | h | h | ⟨q, a, b, e, h, r⟩ | ⟨q, ys, e, h, r⟩
  · exact .inl h
  · exact .inr (.inl h)
  · exact .inr (.inr (.inl h))
  · exact .inr (.inr (.inr (.inl ⟨q, a, b, e, l _ _ _ h, r⟩)))
  · exact .inr (.inr (.inr (.inr ⟨q, ys, e, h.keep k, r⟩)))
theorem shaped_lst (ys : List Str) (h : ∀ y ∈ ys, OkS y) : SeqAt.shaped (.list (ys.map PyData.str)) = true := by
  simp [SeqAt.shaped, PyData.canLay0, lay_strs ys h, PyData.depth, depth_strs]
theorem SimV.dat {H : Hp} {v : V} (h : SimV K H v) : ∃ d, Dp K H v d ∧ SeqAt.shaped d = true := by
  rcases h with rfl | rfl | ⟨x, rfl, o⟩ | ⟨q, a, b, rfl, h, oa, ob⟩ | ⟨q, ys, rfl, h, r⟩
  · exact ⟨_, .non, by decide +kernel⟩
  · exact ⟨_, .int 1, by decide +kernel⟩
  · refine ⟨_, .str x, ?_⟩
    have := lay_strs [x] (fun y hy => by rw [List.mem_singleton.mp hy]; exact o)
    have h1 : PyData.canLay0 (.str x) = true := (Bool.and_eq_true_iff.mp this).1
    simp [SeqAt.shaped, PyData.canLay0, PyData.depth]
    simpa [PyData.canLay0] using h1
  · refine ⟨_, .lst (SqL.of h) (dp_strs [a, b]), ?_⟩
    have oo : ∀ y ∈ [a, b], OkS y := fun y hy => by
      simp only [List.mem_cons, List.not_mem_nil, or_false] at hy
      rcases hy with rfl | rfl
      · exact oa
      · exact ob
    exact shaped_lst [a, b] oo
  · exact ⟨_, .tup h.sq (dp_strs ys), shaped_tup ys r⟩
def SimT (K : PySem.W.Frag) (H : Hp) (t : Tab) : Prop := ∀ e ∈ t, SimV K H e.2
theorem SimT.dat {H : Hp} : ∀ {t : Tab}, SimT K H t → ∃ ds, DD K H (kT t) ds ∧ shapedAll ds
  | [], _ => ⟨[], .nil, fun _ h => nomatch h⟩
  | e :: t, h => by
    obtain ⟨d, h1, h2⟩ := (h e List.mem_cons_self).dat
    obtain ⟨ds, h3, h4⟩ := SimT.dat (t := t) (fun x hx => h x (List.mem_cons_of_mem _ hx))
    refine ⟨(.inr e.1, d) :: ds, .cons ⟨rfl, h1⟩ h3, fun p hp => ?_⟩
    rcases List.mem_cons.mp hp with z | z
    · rw [z]; exact h2
    · exact h4 p z
/-! ### what is no tree's entries -/
/-- a candidate of the loop: W the well, kd the dict of the entries -/
def Cand (P : Program) (w : World) (K : PySem.W.Frag) (W : Addr) (n : Nat) (H : Hp) (v : V) : Prop := NotDW W H v ∨ (∃ p, v = .ref p ∧ H p = some (.dK [])) ∨
  (∃ p ks, v = .ref p ∧ H p = some (.dK ks) ∧ ks ≠ [] ∧ ks.length ≠ n ∧ BadDict K H v) ∨ (∃ p t, v = .ref p ∧ H p = some (.dK (kT t)) ∧ t ≠ [] ∧ SimT K H t ∧ BadDict K H v) ∨
  ∃ p es ep, v = .ref p ∧ H p = some (MixO p es ep) ∧ es.size ≠ n ∧ 0 < es.size ∧ BadMix P w K H v
theorem NotDW.not {W : Addr} {H : Hp} {v : V} (h : NotDW W H v) : NotD H v := by
  rcases h with h | h | h | h | ⟨a, xs, e, _, h⟩ | h
  · exact .inl h
  · exact .inr (.inl h)
  · exact .inr (.inr (.inl h))
  · exact .inr (.inr (.inr (.inl h)))
  · exact .inr (.inr (.inr (.inr (.inl ⟨a, xs, e, h⟩))))
  · exact .inr (.inr (.inr (.inr (.inr h))))
theorem NotDW.dict {W : Addr} {H : Hp} {v : V} (h : NotDW W H v) : NoDict K H v := by
  rcases h with rfl | ⟨b, rfl⟩ | ⟨i, rfl⟩ | ⟨y, rfl⟩ | ⟨a, xs, rfl, _, h⟩ | ⟨a, xs, rfl, h⟩
  · exact ⟨"NoneType", by decide, .base .non⟩
  · exact ⟨"bool", by decide, .base (.bl b)⟩
  · exact ⟨"int", by decide, .base (.int i)⟩
  · exact ⟨"str", by decide, .base (.str y)⟩
  · exact ⟨"list", by decide, .base (.lst h)⟩
  · exact ⟨"tuple", by decide, .base (.tup h)⟩
theorem NotDW.kq {W : Addr} {H H' : Hp} {v : V} {c : Int} (h : NotDW W H v) (hw : Wl H W c) (s : Kq W H H') : NotDW W H' v := by
  rcases h with h | h | h | h | ⟨a, xs, e, n, h⟩ | ⟨a, xs, e, h⟩
  · exact .inl h
  · exact .inr (.inl h)
  · exact .inr (.inr (.inl h))
  · exact .inr (.inr (.inr (.inl h)))
  · exact .inr (.inr (.inr (.inr (.inl ⟨a, xs, e, n, s _ _ n (fun _ z => nomatch z) h⟩))))
  · exact .inr (.inr (.inr (.inr (.inr ⟨a, xs, e, (s.tups hw) _ _ h⟩))))
theorem BadVT.kq {H H' : Hp} {W : Addr} {c : Int} {kb : Key} {vb : V} (h : BadEnt K H kb vb) (hw : Wl H W c) (s : Kq W H H') : BadEnt K H' kb vb := by
  rcases h with h | ⟨x, e, l, o, h⟩
  · exact .inl h
  · exact .inr ⟨x, e, l, o, h.imp id fun z => z.keep (s.tups hw) fun q a b y => s.two hw y⟩
theorem BadDict.kq {H H' : Hp} {W : Addr} {c : Int} {v : V} (h : BadDict K H v) (hw : Wl H W c) (s : Kq W H H') : BadDict K H' v := by
  rcases h with ⟨e, kvs, rfl, he, r⟩ | ⟨e, t, es, kb, vb, rest, rfl, he, hE, ok, nd, nk, hl, hb⟩
  · exact .inl ⟨e, kvs, rfl, s.dK hw he, r⟩
  · exact .inr ⟨e, t, es, kb, vb, rest, rfl, s.dK hw he, hE.keep (s.tups hw), ok, nd, nk, hl, BadVT.kq hb hw s⟩
theorem SimT.kq {H H' : Hp} {W : Addr} {c : Int} {t : Tab} (h : SimT K H t) (hw : Wl H W c) (s : Kq W H H') : SimT K H' t := fun e he => (h e he).keep (s.tups hw) fun q a b y => s.two hw y
theorem BadMix.kq {H H' : Hp} {W : Addr} {c : Int} {v : V} (h : BadMix P w K H v) (hw : Wl H W c) (s : Kq W H H') : BadMix P w K H' v := by
  obtain ⟨e, es, ep, t, key, r, ts, rfl, he, m, hk, hE, x⟩ := h
  exact ⟨e, es, ep, t, key, r, ts, rfl, s.ext hw he, m, hk.keep (s.tups hw), hE.keep (s.tups hw), x⟩
theorem Cand.kq {W : Addr} {n : Nat} {H H' : Hp} {v : V} {c : Int} (h : Cand P w K W n H v) (hw : Wl H W c) (s : Kq W H H') : Cand P w K W n H' v := by
  rcases h with h | ⟨p, e, h⟩ | ⟨p, ks, e, h, h1, h2, h3⟩ | ⟨p, t, e, h, h1, h2, h3⟩ | ⟨p, es, ep, e, h, h1, h2, h3⟩
  · exact .inl (h.kq hw s)
  · exact .inr (.inl ⟨p, e, s.dK hw h⟩)
  · exact .inr (.inr (.inl ⟨p, ks, e, s.dK hw h, h1, h2, h3.kq hw s⟩))
  · exact .inr (.inr (.inr (.inl ⟨p, t, e, s.dK hw h, h1, h2.kq hw s, h3.kq hw s⟩)))
  · exact .inr (.inr (.inr (.inr ⟨p, es, ep, e, s.ext hw h, h1, h2, h3.kq hw s⟩)))
/-- v != {} -/
theorem Cand.ne0 {W : Addr} {n : Nat} {H : Hp} {v : V} {b : Addr} {Q : VK} (h : Cand P w K W n H v) (hb : H b = some (.dK [])) (q : (∀ p, v = .ref p → H p ≠ some (.dK [])) → Q (.bl true) H) (q0 : Q (.bl false) H) : rNeAny K v (.ref b) H Q := by
  rcases h with h | ⟨p, rfl, h⟩ | ⟨p, ks, rfl, h, h1, h2, h3⟩ | ⟨p, t, rfl, h, h1, h2, h3⟩ | ⟨p, es, ep, rfl, h, h1, h2, h3⟩
  · refine .inl ⟨b, _, rfl, hb, .inl ⟨h.not, q fun p e z => ?_⟩⟩
    rcases h with y | ⟨_, y⟩ | ⟨_, y⟩ | ⟨_, y⟩ | ⟨a, xs, y, _, h⟩ | ⟨a, xs, y, h⟩ <;> rw [y] at e <;> cases e
    · rw [h] at z; cases z
    · rw [h] at z; cases z
  · exact .inr ⟨p, b, [], [], rfl, rfl, ⟨_, h, .nil⟩, ⟨_, hb, .nil⟩, (fun _ z => nomatch z), (fun _ z => nomatch z), q0⟩
  · exact .inl ⟨b, _, rfl, hb, .inr (.inl ⟨p, ks, rfl, h, fun z => h1 (List.length_eq_zero_iff.mp z), q fun p' e z => by
      cases e
      rw [h] at z
      exact h1 (HO.dK.inj (Option.some.inj z))⟩)⟩
  · have hn : (kT t).length ≠ 0 := fun z => h1 (by rw [len_kT] at z; exact List.length_eq_zero_iff.mp z)
    exact .inl ⟨b, _, rfl, hb, .inr (.inl ⟨p, _, rfl, h, hn, q fun p' e z => by
      cases e
      rw [h] at z
      rw [HO.dK.inj (Option.some.inj z)] at hn
      exact hn rfl⟩)⟩
  · exact .inl ⟨b, _, rfl, hb, .inr (.inr ⟨p, es, ep, rfl, h, (by show es.size ≠ 0; omega), q fun p' e z => by
      cases e
      rw [h] at z
      cases z⟩)⟩
/-- v != kept -/
theorem Cand.neK {W : Addr} {n : Nat} {H : Hp} {v : V} {b : Addr} {te : Tab} {es : List Ent} {Q : VK} (h : Cand P w K W n H v) (hb : H b = some (.dK (kT te))) (hn : te.length = n) (hE : EntsAt K H te es) (ok : ∀ e ∈ es, EntOk e) (q : ∀ x, Q (.bl x) H) : rNeAny K v (.ref b) H Q := by
  rcases h with h | ⟨p, rfl, h⟩ | ⟨p, ks, rfl, h, h1, h2, h3⟩ | ⟨p, t, rfl, h, h1, h2, h3⟩ | ⟨p, es, ep, rfl, h, h1, h2, h3⟩
  · exact .inl ⟨b, _, rfl, hb, .inl ⟨h.not, q _⟩⟩
  · exact .inr ⟨p, b, [], datE es, rfl, rfl, ⟨_, h, .nil⟩, ⟨_, hb, dat_at hE⟩, (fun _ z => nomatch z), shaped_ents ok, q _⟩
  · exact .inl ⟨b, _, rfl, hb, .inr (.inl ⟨p, ks, rfl, h, (by rw [len_kT, hn]; exact h2), q _⟩)⟩
  · obtain ⟨ds, d1, d2⟩ := h2.dat
    exact .inr ⟨p, b, ds, _, rfl, rfl, ⟨_, h, d1⟩, ⟨_, hb, dat_at hE⟩, d2, shaped_ents ok, q _⟩
  · exact .inl ⟨b, _, rfl, hb, .inr (.inr ⟨p, _, ep, rfl, h, (by rw [len_kT, hn]; exact h1), q _⟩)⟩
/-- what is no empty dict is refused -/
theorem Cand.bad2 {W : Addr} {n : Nat} {H H' : Hp} {v : V} {c : Int} (h : Cand P w K W n H v) (ne : ∀ p, v = .ref p → H p ≠ some (.dK [])) (hw : Wl H W c) (s : Kq W H H') : BadTree K H' v ∨ BadMix P w K H' v := by
  rcases h with h | ⟨p, e, h⟩ | ⟨p, ks, rfl, h, h1, h2, h3⟩ | ⟨p, t, rfl, h, h1, h2, h3⟩ | ⟨p, es, ep, rfl, h, h1, h2, h3⟩
  · exact .inl (.inl (h.kq hw s).dict)
  · exact absurd h (ne p e)
  · exact .inl (.inr (h3.kq hw s))
  · exact .inl (.inr (h3.kq hw s))
  · exact .inr (h3.kq hw s)
end

end Fk

set_option maxHeartbeats 4000000
namespace Fk
open PySem PySem.Spec PyProof.Rows L2
open LamX
theorem look_all {es fs : List Ent} {ys : List Str} (nd : (es.map (·.1)).Nodup) (p : fs.Perm es) (ok : EntsOk fs) (hy : ys.Perm (es.map (·.1))) (hs : sortedS ys = true) : fs = ys.map (lookE es) := by
  have e : fs.map (·.1) = ys := sort_uniq ok.2.2.1 hs ((p.map _).trans hy.symm)
  rw [← e, List.map_map]
  conv => lhs; rw [← List.map_id fs]
  exact List.map_congr_left fun x hx => (look_mem nd (p.mem_iff.mp hx)).symm
/-- entries as pairs -/
def itD (es : List Ent) : PyData := .list (es.map fun e => .tuple [.str e.1, .tuple [.str e.2.1, .str e.2.2]])
theorem itD_eqv (es : List Ent) : PyData.eqv (itD es) (itD es) = true := by
  show PyData.eqvAll _ _ = true
  refine eqvAll_refl fun d hd => ?_
  obtain ⟨e, _, rfl⟩ := List.mem_map.mp hd
  show PyData.eqvAll [.str e.1, .tuple [.str e.2.1, .str e.2.2]] [.str e.1, .tuple [.str e.2.1, .str e.2.2]] = true
  simp [PyData.eqvAll, PyData.eqv]
theorem itD_shaped {es : List Ent} (h : ∀ e ∈ es, EntOk e) : SeqAt.shaped (itD es) = true := by
  have h1 : PyData.canLayAll0 (es.map fun e => PyData.tuple [.str e.1, .tuple [.str e.2.1, .str e.2.2]]) = true := layAll_of fun d hd => by
    obtain ⟨e, he, rfl⟩ := List.mem_map.mp hd
    obtain ⟨o1, o2, o3⟩ := h e he
    have := lay_strs [e.1, e.2.1, e.2.2] (fun y hy => by
      simp only [List.mem_cons, List.not_mem_nil, or_false] at hy
      rcases hy with rfl | rfl | rfl
      · exact ok_seg o1
      · exact kinds_ok _ o2
      · exact id_ok o3)
    simp [PyData.canLay0, PyData.canLayAll0] at this ⊢
    exact this
  have h2 : PyData.depthAll (es.map fun e => PyData.tuple [.str e.1, .tuple [.str e.2.1, .str e.2.2]]) ≤ 2 := depthAll_le fun d hd => by
    obtain ⟨e, he, rfl⟩ := List.mem_map.mp hd
    simp [PyData.depth, PyData.depthAll]
  unfold itD
  simp [SeqAt.shaped, PyData.canLay0, h1, PyData.depth]
  omega
section
variable {P : Program} {w : World} {K : PySem.W.Frag} {mg : Str → Option Value} {base : Heap} {c : C4} {CS cX iX ek pd : Addr}
theorem mk_blob {x : Str} {H : Hp} {R : Hp → Prop} {a dx : Addr} (hx : isTextF x = true) (ha : H a = none) (hd : H dx = none) (q : ∀ H', Same H H' → ObAt K c H' a a (.blob x) → R H') :
    spBlobI c [.ref a, .str x] (upd (upd H dx (.own a)) a (.ins c.B dx [])) (fun v H2 => v = .non ∧ R H2) C8.E0 :=
  ⟨a, dx, x, rfl, upd_same, hx, fun H' f e => ⟨rfl, q H' (made_same ha hd f) ⟨dx, e⟩⟩⟩
theorem mk_tag {tg lb msg : Str} {H : Hp} {R : Hp → Prop} {a dx : Addr} (ok : Ob.ok (.tag tg lb msg)) (ha : H a = none) (hd : H dx = none) (q : ∀ H', Same H H' → ObAt K c H' a a (.tag tg lb msg) → R H') :
    spTagI c [.ref a, .str tg, .str lb, .str msg] (upd (upd H dx (.own a)) a (.ins c.G dx [])) (fun v H2 => v = .non ∧ R H2) C8.E0 :=
  ⟨a, dx, tg, lb, msg, rfl, upd_same, ok, fun H' f e => ⟨rfl, q H' (made_same ha hd f) ⟨dx, e⟩⟩⟩
theorem mk_commit {p : Addr} {t : Str} {ps : List Str} {au : Str} {tm : Int} {msg : Str} {H : Hp} {R : Hp → Prop} {a dx : Addr} (hp : TupK K H p (ps.map V.str)) (ok : Ob.ok (.commit t ps au tm msg)) (ha : H a = none) (hd : H dx = none) (q : ∀ H', Same H H' → ObAt K c H' a a (.commit t ps au tm msg) → R H') :
    spCommitI K c [.ref a, .str t, .ref p, .str au, .int tm, .str msg] (upd (upd H dx (.own a)) a (.ins c.C dx [])) (fun v H2 => v = .non ∧ R H2) C8.E0 :=
  ⟨a, dx, p, t, ps, au, tm, msg, rfl, upd_same, hp.keep (TupKeep.of (made_same ha hd (Fr.refl _ _))), ok, fun H' f e => ⟨rfl, q H' (made_same ha hd f) ⟨dx, p, e, hp.keep (TupKeep.of (made_same ha hd f))⟩⟩⟩
theorem mk_tree {e : Addr} {t : Tab} {es : List Ent} {H : Hp} {R : Hp → Prop} {a dx : Addr} (he : H e = some (.dK (kT t))) (hE : EntsAt K H t es) (hl : es.length ≤ 30) (nd : (es.map (·.1)).Nodup) (ok : ∀ x ∈ es, EntOk x) (ha : H a = none) (hd : H dx = none)
    (q : ∀ d es' H', H d = none → Same H H' → es'.Perm es → Ob.ok (.tree es') → ObAt K c H' a d (.tree es') → R H') :
    spTreeI K c [.ref a, .ref e] (upd (upd H dx (.own a)) a (.ins c.T dx [])) (fun v H2 => v = .non ∧ R H2) C8.E0 := by
  have s1 : Same H (upd (upd H dx (.own a)) a (.ins c.T dx [])) := made_same ha hd (Fr.refl _ _)
  exact ⟨a, e, dx, t, es, rfl, upd_same, s1 _ _ he, hE.keep (TupKeep.of s1), hl, nd, ok, fun d t' es' H' hd' f h1 h2 h3 hp hok => ⟨rfl, q d es' H' (s1.free hd') (made_same ha hd f) hp hok ⟨dx, t', h1, h2, h3⟩⟩⟩
theorem dp_its {H : Hp} : ∀ {as : List Addr} {es : List Ent}, Paired (fun (a : Addr) (e : Ent) => ∃ v q, H a = some (.tup [.str e.1, v]) ∧ v = .ref q ∧ TupK K H q (entL e)) as es → DpAll K H (as.map V.ref) (es.map fun e => .tuple [.str e.1, .tuple [.str e.2.1, .str e.2.2]])
  | _, _, .nil => .nil
  | _, _, .cons (b := e) ⟨v, q, h1, h2, h3⟩ r => by
    subst h2
    exact .cons (.tup (SqT.of h1) (.cons (.str e.1) (.cons (dp_head h3) .nil))) (dp_its r)
theorem dpW {H : Hp} {te : Tab} {es : List Ent} : ∀ {as : List Addr} {ys : List Str}, Tups H as (ys.map fun y => [.str y, (valV te y).getD .non]) → (∀ y ∈ ys, ∃ q0, valV te y = some (.ref q0) ∧ TupK K H q0 (entL (lookE es y)) ∧ (lookE es y).1 = y) →
    DpAll K H (as.map V.ref) ((ys.map (lookE es)).map fun e => .tuple [.str e.1, .tuple [.str e.2.1, .str e.2.2]])
  | [], [], _, _ => .nil
  | a :: as, [], t, _ => by cases t.1
  | [], y :: ys, t, _ => by cases t.1
  | a :: as, y :: ys, t, h => by
    obtain ⟨q0, e1, e2, e3⟩ := h y List.mem_cons_self
    have h0 : H a = some (.tup [.str y, (valV te y).getD .non]) := t.2 0 _ _ rfl rfl
    rw [e1] at h0
    have h0 : H a = some (.tup [.str y, .ref q0]) := h0
    refine .cons (.tup (.inl (.inl h0)) (.cons ?_ (.cons (dp_head e2) .nil))) (dpW ⟨Nat.succ.inj t.1, fun i b l hb hl => t.2 (i + 1) b l (by rw [List.getElem?_cons_succ]; exact hb) (by rw [List.map_cons, List.getElem?_cons_succ]; exact hl)⟩ fun z hz => h z (List.mem_cons_of_mem _ hz))
    rw [e3]
    exact .str y
theorem dpI {H : Hp} : ∀ {ts : List Addr} {t : Tab} {es : List Ent}, Paired (fun (a : Addr) (q : Key × V) => H a = some (.tup [kV q.1, q.2])) ts (kT t) → EntsAt K H t es → DpAll K H (ts.map V.ref) (es.map fun e => .tuple [.str e.1, .tuple [.str e.2.1, .str e.2.2]])
  | _, [], _, .nil, h => by
    cases h
    exact .nil
  | _, p :: t, _, .cons h r, hE => by
    unfold EntsAt at hE
    cases hE with
    | cons z hr =>
      obtain ⟨e1, q, e2, e3⟩ := z
      rw [e2] at h
      refine .cons (.tup (.inl (.inl h)) (.cons ?_ (.cons (dp_head e3) .nil))) (dpI r hr)
      rw [← e1]
      exact .str p.1
def EntR (K : PySem.W.Frag) (H : Hp) (v : V) (r : Str × Str) : Prop := ∃ q, v = .ref q ∧ TupK K H q [.str r.1, .str r.2]
/-- the entries that a list of pairs makes -/
theorem ents_pairs {H : Hp} {es : List Ent} {as : List Addr} {us : List Str} (nd : us.Nodup) (hk : ∀ x ∈ us, (lookE es x).1 = x) (pr : Paired (fun (a : Addr) (x : Str) => ∃ v, H a = some (.tup [.str x, v]) ∧ EntR K H v (lookE es x).2) as us) :
    ∃ tab : Tab, Paired (fun p kv => SqT K H p [kV kv.1, kv.2]) as (kT tab) ∧ mergeK [] (kT tab) = kT tab ∧ EntsAt K H tab (us.map (lookE es)) := by
  obtain ⟨tab, p1, p2⟩ := pairs_tab (K := K) (kf := fun x : Str => x) (R := fun v r => EntR K H v r) (rf := fun x => (lookE es x).2) pr
  have ek : tab.map (·.1) = us.map fun x => x := paired_keys (R := fun v u => EntR K H v (lookE es u).2) p2
  rw [List.map_id'] at ek
  have ndt : Nd tab := by unfold Nd; rw [ek]; exact nd
  refine ⟨tab, p1, mergeK_nd [] tab ndt fun x _ z => (nomatch z), ?_⟩
  clear p1 pr ek ndt nd
  unfold EntsAt
  induction p2 with
  | nil => exact .nil
  | @cons a u l us' h1 h2 ih =>
    obtain ⟨e1, q, e2, e3⟩ := h1
    refine .cons ⟨by rw [hk u List.mem_cons_self]; exact e1, q, e2, e3⟩ (ih fun x hx => hk x (List.mem_cons_of_mem _ hx))
end

end Fk

set_option maxHeartbeats 4000000
namespace Fk
open PySem PySem.Spec PyProof.Rows L2
open LamX
theorem putK_split (x : Str) (v : V) : ∀ t : Tab, ∃ (l r : Tab) (t0 : Tab), putK t x v = l ++ (x, v) :: r ∧ t = l ++ t0 ∧ x ∉ l.map (·.1) ∧ l.length + r.length ≤ t.length ∧ ∀ e ∈ r, e ∈ t ∨ e.2 = v
  | [] => ⟨[], [], [], rfl, rfl, (by simp), Nat.le_refl _, fun _ h => nomatch h⟩
  | p :: t => by
    by_cases h : p.1 = x
    · refine ⟨[], t.map fun kv => if kv.1 = x then (kv.1, v) else kv, p :: t, ?_, rfl, (by simp), (by simp), fun e he => ?_⟩
      · unfold putK
        rw [if_pos (by simp [h])]
        simp [h]
      · obtain ⟨y, hy, rfl⟩ := List.mem_map.mp he
        by_cases z : y.1 = x
        · rw [if_pos z]; exact .inr rfl
        · rw [if_neg z]; exact .inl (List.mem_cons_of_mem _ hy)
    · obtain ⟨l, r, t0, e1, e2, e3, e4, e5⟩ := putK_split x v t
      have e6 : putK (p :: t) x v = p :: putK t x v := by
        unfold putK
        rw [List.any_cons, decide_eq_false h, Bool.false_or]
        by_cases z : (t.any fun kv => decide (kv.1 = x)) = true
        · rw [if_pos z, if_pos z, List.map_cons, if_neg h]
        · rw [if_neg z, if_neg z]; rfl
      refine ⟨p :: l, r, t0, by rw [e6, e1]; rfl, by rw [e2]; rfl, ?_, by simp only [List.length_cons]; omega, fun e he => (e5 e he).imp (List.mem_cons_of_mem _) id⟩
      simp only [List.map_cons, List.mem_cons, not_or]
      exact ⟨fun z => h z.symm, e3⟩
section
variable {P : Program} {w : World} {K : PySem.W.Frag} {mg : Str → Option Value} {base : Heap} {c : C4} {CS cX iX ek pd : Addr}
theorem paired_pre {α β : Type} {R : α → β → Prop} : ∀ {l r : List α} {m : List β}, Paired R (l ++ r) m → ∃ m1 m2, m = m1 ++ m2 ∧ Paired R l m1
  | [], _, m, _ => ⟨[], m, rfl, .nil⟩
  | _ :: _, _, _, .cons h t => by
    obtain ⟨m1, m2, rfl, h2⟩ := paired_pre t
    exact ⟨_ :: m1, m2, rfl, .cons h h2⟩
theorem ents_sim {H : Hp} : ∀ {t : Tab} {es : List Ent}, EntsAt K H t es → (∀ e ∈ es, EntOk e) → SimT K H t
  | _, _, .nil, _, _, h => nomatch h
  | _, _, .cons (b := b) ⟨e1, q, e2, e3⟩ r, ok, e, h => by
    rcases List.mem_cons.mp h with z | z
    · rw [z]
      obtain ⟨o1, o2, o3⟩ := ok _ List.mem_cons_self
      refine .inr (.inr (.inr (.inr ⟨q, [b.2.1, b.2.2], e2, e3, fun y hy => ?_⟩)))
      simp only [List.mem_cons, List.not_mem_nil, or_false] at hy
      rcases hy with rfl | rfl
      · exact kinds_ok _ o2
      · exact id_ok o3
    · exact ents_sim r (fun x hx => ok x (List.mem_cons_of_mem _ hx)) e z
theorem keys_seg {H : Hp} {t : Tab} {es : List Ent} (hE : EntsAt K H t es) (ok : ∀ e ∈ es, EntOk e) {kb : Key} (h : kb ∈ (kT t).map (·.1)) : ∃ x, kb = .inr x ∧ isSegF x = true := by
  unfold kT at h
  rw [List.map_map] at h
  obtain ⟨p, hp, rfl⟩ := List.mem_map.mp h
  have : p.1 ∈ es.map (·.1) := by rw [← hE.keys]; exact List.mem_map.mpr ⟨p, hp, rfl⟩
  obtain ⟨e, he, e2⟩ := List.mem_map.mp this
  exact ⟨p.1, rfl, by rw [← e2]; exact (ok e he).1⟩
/-- a tree's entries, one value of them bad -/
theorem cand_turned {W : Addr} {n : Nat} {H : Hp} {p : Addr} {t : Tab} {es : List Ent} {x : Str} {v : V} (hp : H p = some (.dK (kT (putK t x v)))) (hE : EntsAt K H t es) (ok : ∀ e ∈ es, EntOk e) (nd : (es.map (·.1)).Nodup) (hl : es.length ≤ 30) (hx : x.length ≤ 1000) (ox : OkS x)
    (hb : BadValS K H v) (hs : SimV K H v) : Cand P w K W n H (.ref p) := by
  obtain ⟨l, r, t0, e1, e2, e3, e4, e5⟩ := putK_split x v t
  have lt : t.length = es.length := by
    have := congrArg List.length hE.keys
    rwa [List.length_map, List.length_map] at this
  have sT := ents_sim hE ok
  refine .inr (.inr (.inr (.inl ⟨p, putK t x v, rfl, hp, fun z => ?_, fun e he => ?_, .inr ?_⟩)))
  · rw [e1] at z
    cases l <;> cases z
  · rw [e1] at he
    rcases List.mem_append.mp he with z | z
    · exact sT e (by rw [e2]; exact List.mem_append_left _ z)
    · rcases List.mem_cons.mp z with z | z
      · rw [z]; exact hs
      · rcases e5 e z with y | y
        · exact sT e y
        · rw [y]; exact hs
  · have hE2 := hE
    unfold EntsAt at hE2
    rw [e2] at hE2
    obtain ⟨m1, m2, em, h1⟩ := paired_pre hE2
    refine ⟨p, l, m1, .inr x, v, kT r, rfl, ?_, h1, fun y hy => ok y (by rw [em]; exact List.mem_append_left _ hy), ?_, ?_, ?_, .inr ⟨x, rfl, hx, ox, .inr hb⟩⟩
    · rw [hp, e1]
      unfold kT
      rw [List.map_append]
      rfl
    · rw [em, List.map_append] at nd
      exact (List.nodup_append.mp nd).1
    · intro z
      unfold kT at z
      rw [List.map_map] at z
      obtain ⟨y, hy, ey⟩ := List.mem_map.mp z
      exact e3 (List.mem_map.mpr ⟨y, hy, Sum.inr.inj ey⟩)
    · rw [len_kT]
      omega
theorem putK_last {kvs : List (Key × V)} {k : Key} (v : V) (h : k ∉ kvs.map (·.1)) : putK kvs k v = kvs ++ [(k, v)] := by
  refine putK_new v ?_
  unfold valV
  rw [List.find?_eq_none.mpr fun p hp z => h (List.mem_map.mpr ⟨p, hp, of_decide_eq_true z⟩)]
  rfl
/-- a tree's entries with one key that is no segment -/
theorem cand_odd {W : Addr} {H : Hp} {p : Addr} {t : Tab} {es : List Ent} {kb : Key} {v : V} (hp : H p = some (.dK (putK (kT t) kb v))) (hE : EntsAt K H t es) (ok : ∀ e ∈ es, EntOk e) (nd : (es.map (·.1)).Nodup) (hl : es.length ≤ 30)
    (hk : (∃ i, kb = .inl i) ∨ ∃ x : Str, kb = .inr x ∧ x.length ≤ 1000 ∧ OkS x ∧ isSegF x = false) : Cand P w K W t.length H (.ref p) := by
  have lt : t.length = es.length := by
    have := congrArg List.length hE.keys
    rwa [List.length_map, List.length_map] at this
  have nk : kb ∉ (kT t).map (·.1) := fun z => by
    obtain ⟨x, e1, e2⟩ := keys_seg hE ok z
    rcases hk with ⟨i, e⟩ | ⟨y, e, _, _, e3⟩
    · rw [e] at e1; cases e1
    · rw [e] at e1
      rw [Sum.inr.inj e1, e2] at e3
      cases e3
  rw [putK_last v nk] at hp
  refine .inr (.inr (.inl ⟨p, _, rfl, hp, (by simp), (by rw [List.length_append, len_kT]; show t.length + 1 ≠ t.length; omega), .inr ⟨p, t, es, kb, v, [], rfl, hp, hE, ok, nd, nk, (by show t.length + 0 ≤ 1000; omega), ?_⟩⟩))
  exact hk.imp id fun ⟨x, e, l, o, s⟩ => ⟨x, e, l, o, .inl s⟩
theorem cand_mix {W : Addr} {H : Hp} {p : Addr} {t : Tab} {es : List Ent} {key v : V} {ds : Array DictEntry} {ep : Nat} (hp : H p = some (MixO p ds ep)) (m : MixE P w t key v ds) (hk : OddK H key) (hE : EntsAt K H t es) (ok : ∀ e ∈ es, EntOk e) (nd : (es.map (·.1)).Nodup) (hl : es.length ≤ 30) : Cand P w K W t.length H (.ref p) := by
  have lt : t.length = es.length := by
    have := congrArg List.length hE.keys
    rwa [List.length_map, List.length_map] at this
  have := m.sz
  exact .inr (.inr (.inr (.inr ⟨p, ds, ep, rfl, hp, by omega, by omega, p, ds, ep, t, key, v, es, rfl, hp, m, hk, hE, ok, nd, by omega⟩)))
theorem cand_long {W : Addr} {n : Nat} {H : Hp} {p : Addr} {ks : List (Key × V)} (hp : H p = some (.dK ks)) (hl : ks.length = 31) (hn : n ≤ 30) : Cand P w K W n H (.ref p) :=
  .inr (.inr (.inl ⟨p, ks, rfl, hp, (fun z => by rw [z] at hl; cases hl), by omega, .inl ⟨p, ks, rfl, hp, by omega, by omega⟩⟩))
end

end Fk

set_option maxHeartbeats 4000000
namespace Fk
open PySem PySem.Spec PyProof.Rows L2
open LamX
section
variable {P : Program} {w : World} {K : PySem.W.Frag} {mg : Str → Option Value} {base : Heap} {c : C4} {CS cX iX ek pd : Addr}
def spTrR (P1 P2 P3 : Addr) : Sp := fun vs H Q _ => ∃ (W : Addr) (k : Int), vs = [.ref W] ∧ Wl H W k ∧ k < 2 ^ 35 ∧ TabsL qfL [P1, P2, P3] H ∧ ∀ H' k', Wl H' W k' → k ≤ k' → k' ≤ k + 10000 → Kq W H H' → TabsL qfL [P1, P2, P3] H' → Q (.bl true) H'
set_option pp.maxSteps 60 in
theorem c_l_tree_right (T : TopO K mg c CS cX iX ek pd) {cd P1 P2 P3 : Addr} (TB : TabB base mg cd P1) (D : IsDefC K mg "_law_tree_right" s_l_tree_right cd) : C8.Cal P w K mg base 10 "_law_tree_right" (spTrR P1 P2 P3) [] := by
  refine cal_ofC D sc_l_tree_right (fun _ _ _ _ _ _ us hl => match us, hl with | [_], _ => rfl) (fun vs H Q E h => ?_) (fun fa A outer s H vs Q E hr h => ?_)
  · obtain ⟨W, c, rfl, _⟩ := h
    rfl
  · obtain ⟨W, k, rfl, hw, hk, tb, q⟩ := h
    have hk0 := hw.1
    refine ⟨_, (pss_cons (ps_set (i := 1) sc_l_tree_right.nd rfl (Or.inl rfl) (C8.pe_c (c_l_entries T.toTop) hr (by decide) (by rfl) (pa_cons (pv 0) pa_nil)))
      (pss_cons (ps_set (i := 2) sc_l_tree_right.nd rfl (Or.inr rfl) (pe_callTy call_dictD (by rfl) T.z_dict (by decide +kernel) (pa_cons (pv 1) pa_nil)))
      (pss_cons (ps_set (i := 3) sc_l_tree_right.nd rfl (Or.inl rfl) (C8.pe_mk (k_Tree T) hr (by decide) (by rfl) (pa_cons (pv 1) pa_nil)))
      (pss_cons (ps_setLc (i := 4) (own := [("_law_name", 5)]) (g := gName 5) (by rfl) sc_l_tree_right.nd rfl rfl (sw_true rfl rfl rfl (by decide +kernel)) (pi_list (pe_callB (call_sortedD (by rfl)) (by rfl) T.z_sorted (by decide +kernel) (pa_cons (pv 2) pa_nil))) (blkOk_by (own := [("_law_name", 5)]) (N := ["_law_well_here", "_law_entries_here", "_law_kept", "_law_tree", "_law_wanted", "_law_name", "_law_told", "_law_again", "_law_turned", "_law_other", "_law_bad", "_law_odd_here", "_law_long", "_law_k", "_law_thing"]) (sc := C8.fnScope s_l_tree_right) (by decide +kernel)) (fun _ _ _ _ _ => (pg_name (i := 5) sc_l_tree_right.nd rfl (Or.inl rfl))) (fun _ _ _ _ _ => pts_nil) (fun _ _ _ _ _ => (pe_tup (pa_cons (pv 5) (pa_cons (pe_dget (hu_of hr) (pv 2) (pv 5) (fun _ _ => rfl)) pa_nil)))))
      (pss_cons (ps_expr (pe_dclear (pv 1)))
      (pss_cons (ps_set (i := 6) sc_l_tree_right.nd rfl (Or.inl rfl) (pe_pr (p_Tree_entries T) hr (by decide) (pv 3)))
      (pss_cons (ps_if (PW.pt (pw_or (pt_not (pt_val (pe_callB call_isi (by rfl) T.z_isinstance (by decide +kernel) (pa_cons (pv 6) (pa_cons (pe_bltn (v := .ty "dict") (by rfl) T.z_dict (by decide +kernel) rfl) pa_nil))))) (pw_or1 (pt_cmpR (op_neD hr.units) (LiI.pe_listItems rfl (pv 6) (by rfl) T.z_list (by decide +kernel)) (pv 4) (nomark _)))))
      (pss_one (ps_ret pe_bl))
      pss_nil)
      (pss_cons (ps_dput (hu_of hr) (pv 6) pe_str (pe_tup (pa_cons pe_str (pa_cons (pe_op op_mul_si pe_str pe_int) pa_nil))) rfl)
      (pss_cons (ps_set (i := 7) sc_l_tree_right.nd rfl (Or.inl rfl) (pe_pr (p_Tree_entries T) hr (by decide) (pv 3)))
      (pss_cons (ps_set (i := 8) sc_l_tree_right.nd rfl (Or.inl rfl) (pe_callTy (call_dictP rfl) (by rfl) T.z_dict (by decide +kernel) (pa_cons (pe_lc (own := [("_law_name", 5)]) (g := gName 5) (by rfl) sc_l_tree_right.nd (pi_list (pe_back (pe_callB (call_sortedD (by rfl)) (by rfl) T.z_sorted (by decide +kernel) (pa_cons (pv 2) pa_nil)) (pe_un un_neg pe_int))) (blkOk_by (own := [("_law_name", 5)]) (N := ["_law_well_here", "_law_entries_here", "_law_kept", "_law_tree", "_law_wanted", "_law_name", "_law_told", "_law_again", "_law_turned", "_law_other", "_law_bad", "_law_odd_here", "_law_long", "_law_k", "_law_thing"]) (sc := C8.fnScope s_l_tree_right) (by decide +kernel)) (fun _ _ _ _ _ => (pg_name (i := 5) sc_l_tree_right.nd rfl (Or.inl rfl))) (fun _ _ _ _ _ => pts_nil) (fun _ _ _ _ _ => (pe_tup (pa_cons (pv 5) (pa_cons (pe_dget (hu_of hr) (pv 2) (pv 5) (fun _ _ => rfl)) pa_nil))))) pa_nil)))
      (pss_cons (ps_set (i := 9) sc_l_tree_right.nd rfl (Or.inl rfl) (C8.pe_mk (k_Tree T) hr (by decide) (by rfl) (pa_cons (pv 8) pa_nil)))
      (pss_cons (ps_if (PW.pt (pw_or (pt_cmpR (op_neD hr.units) (LiI.pe_listItems rfl (pv 7) (by rfl) T.z_list (by decide +kernel)) (pv 4) (nomark _)) (pw_or (pt_not (pt_cmpR (op_obEq T (hr.mono (by decide))) (pv 9) (pv 3) (nomark _))) (pw_or1 (pt_cmpR op_ne (pe_cmpR (op_obEq T (hr.mono (by decide))) (pv 3) (C8.pe_mk (k_Tree T) hr (by decide) (by rfl) (pa_cons pe_dnewK pa_nil)) (nomark _)) (pe_cmpR (op_eqDD (room66 hr)) (pv 2) pe_dnewK (nomark _)) (nomark _))))))
      (pss_one (ps_ret pe_bl))
      pss_nil)
      (pss_cons (ps_set (i := 10) sc_l_tree_right.nd rfl (Or.inl rfl) (C8.pe_c (c_l_pick T.toTop) hr (by decide) (by rfl) (pa_cons (pv 0) (pa_cons (pe_lst (pa_cons (pe_tup (pa_cons pe_str (pa_cons (pe_op op_mul_si pe_str pe_int) pa_nil))) (pa_cons (pe_tup (pa_cons pe_str (pa_cons (pe_op op_mul_si pe_str pe_int) pa_nil))) (pa_cons (pe_tup (pa_cons pe_str pa_nil)) (pa_cons (pe_lst (pa_cons pe_str (pa_cons (pe_op op_mul_si pe_str pe_int) pa_nil))) (pa_cons pe_non (pa_cons pe_str pa_nil))))))) pa_nil))))
      (pss_cons (ps_dput (hu_of hr) (pv 8) (C8.pe_c (c_l_pick T.toTop) hr (by decide) (by rfl) (pa_cons (pv 0) (pa_cons (pe_lst (pa_cons pe_str (pa_cons pe_str pa_nil))) pa_nil))) (pv 10) rfl)
      (pss_cons (ps_set (i := 11) sc_l_tree_right.nd rfl (Or.inl rfl) (pe_callTy call_dictD (by rfl) T.z_dict (by decide +kernel) (pa_cons (pv 2) pa_nil)))
      (C8.pss_cut (ps_dputM (hu_of hr) (pv 11) (C8.pe_c (c_l_pick T.toTop) hr (by decide) (by rfl) (pa_cons (pv 0) (pa_cons (pe_lst (pa_cons pe_str (pa_cons pe_str (pa_cons pe_str (pa_cons pe_str (pa_cons pe_str (pa_cons (pe_op op_mul_si pe_str pe_int) (pa_cons pe_int (pa_cons pe_non (pa_cons (pe_tup (pa_cons pe_str pa_nil)) pa_nil)))))))))) pa_nil))) (pe_tup (pa_cons pe_str (pa_cons (pe_op op_mul_si pe_str pe_int) pa_nil))) rfl)
      (pss_cons (ps_set (i := 12) sc_l_tree_right.nd rfl (Or.inl rfl) (pe_callTy (call_dictP rfl) (by rfl) T.z_dict (by decide +kernel) (pa_cons (pe_lc (own := [("_law_k", 13)]) (g := gName 13) (by rfl) sc_l_tree_right.nd (pi_range1 (by rfl) T.z_range (pa_cons pe_int pa_nil)) (blkOk_by (own := [("_law_k", 13)]) (N := ["_law_well_here", "_law_entries_here", "_law_kept", "_law_tree", "_law_wanted", "_law_name", "_law_told", "_law_again", "_law_turned", "_law_other", "_law_bad", "_law_odd_here", "_law_long", "_law_k", "_law_thing"]) (sc := C8.fnScope s_l_tree_right) (by decide +kernel)) (fun _ _ _ _ _ => (pg_name (i := 13) sc_l_tree_right.nd rfl (Or.inl rfl))) (fun _ _ _ _ _ => pts_nil) (fun _ _ _ _ _ => (pe_tup (pa_cons (pe_op op_add_str pe_str (pe_callTy call_str_int (by rfl) T.z_str (by decide +kernel) (pa_cons (pv 13) pa_nil))) (pa_cons (pe_tup (pa_cons pe_str (pa_cons (pe_op op_mul_si pe_str pe_int) pa_nil))) pa_nil))))) pa_nil)))
      (C8.pss_cut (ps_for PassesOwn.never rfl (pi_list (pe_lst (pa_cons (pv 8) (pa_cons (pv 11) (pa_cons (pv 12) (pa_cons (LiI.pe_listItems rfl (pv 2) (by rfl) T.z_list (by decide +kernel)) (pa_cons pe_non (pa_cons (pe_tup pa_nil) (pa_cons (C8.pe_c (c_l_odd T.toTop) hr (by decide) (by rfl) (pa_cons (pv 0) pa_nil)) pa_nil))))))))) (pg_name (i := 14) sc_l_tree_right.nd rfl (Or.inr rfl))
      (pss_one (ps_if (PW.pt (pw_and (pt_cmpR (op_neAny (K := K) rfl (room66 hr)) (pv 14) pe_dnewK (nomark _)) (pw_and (pt_cmpR (op_neAny (K := K) rfl (room66 hr)) (pv 14) (pv 2) (nomark _)) (pw_and1 (pt_not (pt_val (pe_askX (k := 7) T.d_l_refused sc_l_refused (fun _ _ _ _ _ _ us hl => match us, hl with | [_], _ => rfl) (by rfl) rfl (.inl rfl) (fun g cdg => refused_gives T) hr (by decide) (pe_lamL (qf := qfL) (Ps := [P1, P2, P3]) (k := 7) TB rfl List.mem_cons_self rfl (show LamS (C8.fnScope s_l_tree_right) _ from lamS_by (by decide +kernel)) rfl (fun _ _ _ _ _ => rfl) (fun A outer s H E f c2 hr2 => (pe_mkX (k_TreeX (P := P) (w := w) (base := base) T) hr2 (by decide) (by rfl) (passes_call takes_lam fun _ _ _ _ h => h) (pa_cons (pv 14) pa_nil)))))))))))
      (pss_one (ps_ret pe_bl))
      pss_nil)))
      (pss_one (ps_ret pe_bl)))))))))))))))))))), ?_⟩
    refine ⟨.ref W, rfl, W, k, rfl, hw, by omega, fun e te es H1 k1 he f1 w1 l1 m1 neW hte hE hl nd ok => ?_⟩
    have kE := hE.keys
    have ltes : te.length = es.length := by
      have := congrArg List.length kE
      rwa [List.length_map, List.length_map] at this
    refine ⟨.ref e, rfl, e, kT te, rfl, .inl hte, fun kd hkd => ?_⟩
    have s2 := same_new (o := .dK (kT te)) hkd
    have nkW : kd ≠ W := w1.ne hkd
    have hkd2 : (upd H1 kd (.dK (kT te))) kd = some (.dK (kT te)) := upd_same
    generalize upd H1 kd (.dK (kT te)) = H2 at s2 hkd2
    refine ⟨.ref e, rfl, fun a dx ha hdx _ => mk_tree (K := K) (s2 _ _ hte) (hE.keep (TupKeep.of s2)) hl nd ok ha hdx fun d es' H3 hd s3 hpe hok hob => ?_⟩
    have s23 := s2.trans s3
    have hkd3 := s3 _ _ hkd2
    refine ⟨.ref kd, rfl, kd, kT te, te.map (·.1), rfl, .inl hkd3, keys_kT te, (by rw [List.length_map]; omega), fun ys p hp hs np => ⟨p, rfl, ⟨_, SqL.of upd_same⟩, fun Dw hDw => ?_⟩⟩
    have s4 := same_new (o := .lst (ys.map V.str)) np
    have hp1 : (upd H3 p (.lst (ys.map V.str))) p = some (.lst (ys.map V.str)) := upd_same
    generalize upd H3 p (.lst (ys.map V.str)) = H4 at s4 hp1 hDw
    have lys : ys.length ≤ 30 := by rw [hp.length_eq, List.length_map]; omega
    have hpk : ys.Perm (es.map (·.1)) := by rw [← kE]; exact hp
    have hes' : es' = ys.map (lookE es) := look_all nd hpe hok hpk hs
    have val : ∀ y ∈ ys, ∃ q0, valV te y = some (.ref q0) ∧ TupK K H1 q0 (entL (lookE es y)) := fun y hy => by
      obtain ⟨e0, h0, rfl⟩ := List.mem_map.mp (hpk.mem_iff.mp hy)
      rw [look_mem nd h0]
      exact hE.val nd e0 h0
    refine lc_new (us := ys) (val := V.str) yields_list (fun y => [.str y, (valV te y).getD .non]) (fun _ => true) (fun y => [some (.ref W), some (.ref e), some (.ref kd), some (.ref a), none, some (.str y), none, none, none, none, none, none, none, none, none]) hDw (fun H s => SqL.of (s _ _ hp1)) (fun _ _ => rfl) (fun H u _ _ R r => r) (fun H u _ _ R r => r H (Same.refl H)) (fun H5 y s5 hy _ R r => ?_) (by omega) (fun as H5 s5 h5 tp => ?_)
    · obtain ⟨q0, e1, e2⟩ := val y hy
      have g1 := dget_kT (.inl (s5 _ _ (s4 _ _ hkd3))) y
      rw [e1] at g1 r
      exact ⟨.str y, rfl, .ref kd, rfl, .str y, rfl, kd, _, rfl, g1, (by show 2 ≤ sizeLine; decide), fun tp ntp => r tp _ (same_new ntp) upd_same⟩
    · rw [filt_all] at tp
      have s15 := s23.trans (s4.trans s5)
      have s35 := s4.trans s5
      have hE5 : ∀ y ∈ ys, ∃ q0, valV te y = some (.ref q0) ∧ TupK K H5 q0 (entL (lookE es y)) ∧ (lookE es y).1 = y := fun y hy => by
        obtain ⟨q0, e1, e2⟩ := val y hy
        obtain ⟨e0, h0, rfl⟩ := List.mem_map.mp (hpk.mem_iff.mp hy)
        exact ⟨q0, e1, e2.keep (TupKeep.of s15), by rw [look_mem nd h0]⟩
      have dW : Dp K H5 (.ref Dw) (itD es') := by
        rw [hes']
        exact .lst (SqL.of h5) (dpW tp hE5)
      have he5 := s15 _ _ hte
      have hkd5 := s35 _ _ hkd3
      have hob5 := hob.same s35
      have F5 := f1.trans (Fr.same (a := W) s15)
      have w5 := w1.same s15
      have nDe : Dw ≠ e := fun z => by rw [z, he5] at h5; cases h5
      have nkde : kd ≠ e := fun z => by rw [z, hte] at hkd; cases hkd
      refine ⟨.ref e, rfl, .inr (.inr (.inl ⟨rfl, .inl ⟨_, he5⟩⟩)), e, _, rfl, rfl, he5, ?_⟩
      have k56 : ∀ b o, b ≠ e → H5 b = some o → (upd H5 e (.dK [])) b = some o := fun b o n z => by rw [upd_ne n]; exact z
      have t56 : TupKeep H5 (upd H5 e (.dK [])) := TupKeep.at fun xs z => by rw [he5] at z; cases z
      have F6 := F5.mut (o := .dK []) he
      have w6 : Wl (upd H5 e (.dK [])) W k1 := w5.mut neW
      obtain ⟨dx', t', hTa, hTd, hTe⟩ := hob5
      have nae : a ≠ e := fun z => by rw [z, he5] at hTa; cases hTa
      have nde : d ≠ e := fun z => by rw [z] at hd; rw [s2 _ _ hte] at hd; cases hd
      have hTa6 := k56 _ _ nae hTa
      have hTd6 := k56 _ _ nde hTd
      have hTe6 := hTe.keep t56
      have hkd6 := k56 _ _ nkde hkd5
      have dW6 : DpAll K (upd H5 e (.dK [])) (as.map V.ref) (es'.map fun e => .tuple [.str e.1, .tuple [.str e.2.1, .str e.2.2]]) := by
        rw [hes']
        exact dpW ⟨tp.1, fun i b l hb hl => t56 _ _ (tp.2 i b l hb hl)⟩ fun y hy => by
          obtain ⟨q0, e1, e2, e3⟩ := hE5 y hy
          exact ⟨q0, e1, e2.keep t56, e3⟩
      have h56 := k56 _ _ nDe h5
      have hE6 := (hE.keep (TupKeep.of s15)).keep t56
      generalize upd H5 e (.dK []) = H6 at k56 t56 F6 w6 hTa6 hTd6 hTe6 hkd6 dW6 h56 hE6
      refine ⟨.ref a, rfl, a, dx', _, rfl, hTa6, a, dx', d, kT t', rfl, hTa6, hTd6, fun p7 np7 => ?_⟩
      have s7 := same_new (o := .dK (kT t')) np7
      have h7 : (upd H6 p7 (.dK (kT t'))) p7 = some (.dK (kT t')) := upd_same
      generalize upd H6 p7 (.dK (kT t')) = H7 at s7 h7
      refine ⟨.ref p7, rfl, ?_⟩
      dsimp only [tCons, tC, tNil]
      refine ⟨_, _, .type "dict", .type "dict", true, rfl, .ty "dict", .base (.dK h7), kit_ty (by decide +kernel), _, rfl, iteF ?_⟩
      refine ⟨.ref p7, rfl, p7, kT t', rfl, h7, fun H8 p8 ts s8 np8 nts nin h8 pr => ?_⟩
      have s68 : Same H6 H8 := s7.trans s8
      have dW8 : Dp K H8 (.ref Dw) (itD es') := .lst (SqL.of (s68 _ _ h56)) (dpAll_same s68 dW6)
      have dI8 : Dp K H8 (.ref p8) (itD es') := .lst (SqL.of h8) (dpI pr (hTe6.keep (TupKeep.of s68)))
      have shp : SeqAt.shaped (itD es') = true := itD_shaped hok.2.2.2
      refine ⟨.ref Dw, rfl, _, _, dI8, dW8, shp, shp, _, rfl, ?_⟩
      rw [itD_eqv]
      refine iteF ?_
      refine ⟨("0" : Str), 16, rfl, rfl, by decide, by decide, by decide +kernel, (by show 2 ≤ sizeLine; decide), fun p9 np9 => ?_⟩
      have s9 := same_new (o := .tup [V.str "file", .str (repS ("0" : Str) (Int.toNat 16))]) np9
      have n76 : H6 p7 = none := np7
      have h79 := s9 _ _ (s8 _ _ h7)
      refine ⟨.ref p7, rfl, p7, _, rfl, DPut.k (k := .inr "zz") h79 (small_lt (by rw [len_kT]; have := congrArg List.length hTe.keys; rw [List.length_map, List.length_map] at this; have := hok.1; omega)), ?_⟩
      have s69 : Same H6 (upd H8 p9 (.tup [V.str "file", .str (repS ("0" : Str) (Int.toNat 16))])) := s68.trans s9
      generalize upd H8 p9 (.tup [V.str "file", .str (repS ("0" : Str) (Int.toNat 16))]) = H9 at s69 h79
      have s610 : Same H6 (upd H9 p7 (.dK (putK (kT t') (.inr "zz") (.ref p9)))) := same_mut (o := .dK (putK (kT t') (.inr "zz") (.ref p9))) s69 n76
      generalize upd H9 p7 (.dK (putK (kT t') (.inr "zz") (.ref p9))) = H10 at s610
      refine ⟨.ref a, rfl, a, dx', _, rfl, s610 _ _ hTa6, a, dx', d, kT t', rfl, s610 _ _ hTa6, s610 _ _ hTd6, fun p11 np11 => ?_⟩
      have s11 := same_new (o := .dK (kT t')) np11
      have h11 : (upd H10 p11 (.dK (kT t'))) p11 = some (.dK (kT t')) := upd_same
      generalize upd H10 p11 (.dK (kT t')) = H11 at s11 h11
      have s611 := s610.trans s11
      refine ⟨.ref kd, rfl, kd, kT te, te.map (·.1), rfl, .inl (s611 _ _ hkd6), keys_kT te, (by rw [List.length_map]; omega), fun zs pz hpz hsz npz => ⟨1, rfl, rfl, .inl ⟨pz, zs.map V.str, rfl, SqL.of upd_same, fun pb npb => ⟨pb, rfl, ⟨_, SqL.of upd_same⟩, fun Dt hDt => ?_⟩⟩⟩⟩
      have sp := (same_new (o := .lst (zs.map V.str)) npz).trans (same_new (o := .lst (zs.map V.str).reverse) npb)
      have hpb : (upd (upd H11 pz (.lst (zs.map V.str))) pb (.lst (zs.map V.str).reverse)) pb = some (.lst ((zs.reverse).map V.str)) := by rw [upd_same, List.map_reverse]
      generalize upd (upd H11 pz (.lst (zs.map V.str))) pb (.lst (zs.map V.str).reverse) = H12 at sp hpb hDt
      have hpzk : zs.Perm (es.map (·.1)) := by rw [← kE]; exact hpz
      have s612 := s611.trans sp
      have valr : ∀ {x : Str}, x ∈ zs.reverse → ∃ q0, valV te x = some (.ref q0) ∧ TupK K H6 q0 (entL (lookE es x)) ∧ (lookE es x).1 = x := fun {x} hx => by
        obtain ⟨e0, h0, rfl⟩ := List.mem_map.mp (hpzk.mem_iff.mp (List.mem_reverse.mp hx))
        obtain ⟨q0, e1, e2⟩ := hE6.val nd e0 h0
        rw [look_mem nd h0]
        exact ⟨q0, e1, e2, rfl⟩
      have nr : zs.reverse.Nodup := (List.reverse_perm zs).nodup_iff.mpr (hpzk.nodup_iff.mpr nd)
      have lr : zs.reverse.length ≤ 30 := by rw [List.length_reverse, hpzk.length_eq, List.length_map]; exact hl
      refine lc_pairs (us := zs.reverse) (val := V.str) yields_list (fun x => x) (EntR K) (fun x => (lookE es x).2) (fun _ => true) (fun x => [some (.ref W), some (.ref e), some (.ref kd), some (.ref a), some (.ref Dw), some (.str x), some (.ref p7), some (.ref p11), none, none, none, none, none, none, none]) hDt (fun H5 s5 => SqL.of (s5 _ _ hpb)) (fun _ _ => rfl)
        (fun H5 x _ _ S k => k) (fun H5 x _ _ S k => k H5 (Same.refl H5)) (fun _ _ _ _ k ⟨q, e, h⟩ => ⟨q, e, h.keep k⟩) (fun H5 x s5 hx _ S k => ?_) (by omega) (fun as2 H13 s13 h13 pr => ?_)
      · obtain ⟨q0, e1, e2, e3⟩ := valr hx
        have s15 := s612.trans s5
        have d1 := dget_kT (.inl (s15 _ _ hkd6)) x
        rw [e1] at d1
        refine ⟨.str x, rfl, .ref kd, rfl, .str x, rfl, kd, _, rfl, d1, (by show 2 ≤ sizeLine; decide), fun tp ntp => ?_⟩
        have st := same_new (o := .tup [.str x, .ref q0]) ntp
        exact k tp (.ref q0) _ st upd_same ⟨q0, rfl, e2.keep (TupKeep.of (s15.trans st))⟩
      rw [filt_all] at pr
      obtain ⟨tab, p1', em, hTab⟩ := ents_pairs (K := K) (es := es) nr (fun x hx => (valr hx).choose_spec.2.2) pr
      refine ⟨Dt, as2, kT tab, rfl, .inl (.inl h13), p1', fun pT npT => ?_⟩
      rw [em]
      have s613 := s612.trans s13
      have s14 := same_new (o := .dK (kT tab)) npT
      have h14 : (upd H13 pT (.dK (kT tab))) pT = some (.dK (kT tab)) := upd_same
      have hTab14 := hTab.keep (TupKeep.of s14)
      generalize upd H13 pT (.dK (kT tab)) = H14 at s14 h14 hTab14
      have s614 := s613.trans s14
      clear p1' pr h13 hDt hTab
      have pT' : (zs.reverse.map (lookE es)).Perm es := ((List.reverse_perm zs).map _).trans (look_perm nd hpzk)
      have okT : ∀ x ∈ zs.reverse.map (lookE es), EntOk x := fun x hx => ok x (pT'.mem_iff.mp hx)
      have ndT : ((zs.reverse.map (lookE es)).map (·.1)).Nodup := (pT'.map _).nodup_iff.mpr nd
      refine ⟨.ref pT, rfl, fun a2 dx2 ha2 hdx2 _ => mk_tree (K := K) h14 hTab14 (by rw [pT'.length_eq]; exact hl) ndT okT ha2 hdx2 fun d2 es2 H15 hd2 s15 hpe2 hok2 hob2 => ?_⟩
      have hes2 : es2 = es' := by rw [hes', look_all nd (hpe2.trans pT') hok2 hpk hs]
      subst hes2
      have hob15 : ObAt K c H15 a d (.tree es2) := ⟨dx', t', (s614.trans s15) _ _ hTa6, (s614.trans s15) _ _ hTd6, hTe6.keep (TupKeep.of (s614.trans s15))⟩
      have s1115 := ((sp.trans s13).trans s14).trans s15
      refine ⟨.ref p11, rfl, p11, kT t', rfl, s1115 _ _ h11, fun H16 p16 ts16 s16 np16 nts16 nin16 h16 pr16 => ?_⟩
      have s16 : Same H15 H16 := s16
      have s616 : Same H6 H16 := (s614.trans s15).trans s16
      have dW16 : Dp K H16 (.ref Dw) (itD es2) := .lst (SqL.of (s616 _ _ h56)) (dpAll_same s616 dW6)
      have dI16 : Dp K H16 (.ref p16) (itD es2) := .lst (SqL.of h16) (dpI pr16 (hTe6.keep (TupKeep.of s616)))
      refine ⟨.ref Dw, rfl, _, _, dI16, dW16, shp, shp, _, rfl, ?_⟩
      rw [itD_eqv]
      refine iteF ?_
      refine ⟨.ref a2, rfl, .ref a, rfl, a2, a, d2, d, .tree es2, .tree es2, rfl, rfl, hob2.same s16, hob15.same s16, hok, hok, fun H17 s17 => ⟨_, rfl, ?_⟩⟩
      rw [if_neg Bool.false_ne_true, decide_eq_true rfl]
      refine iteF ?_
      refine ⟨.ref a, rfl, fun pe npe => fun a3 dx3 ha3 hdx3 _ => mk_tree (K := K) (t := []) (es := []) upd_same .nil (by decide) List.nodup_nil (fun _ z => nomatch z) ha3 hdx3 fun d3 es3 H18 hd3 s18 hpe3 hok3 hob3 => ?_⟩
      obtain rfl : es3 = [] := hpe3.eq_nil
      have s1518 : Same H15 H18 := (s16.trans s17).trans ((same_new (o := .dK []) npe).trans s18)
      refine ⟨a, a3, d, d3, .tree es2, .tree [], rfl, rfl, hob15.same s1518, hob3, hok, hok3, fun H19 s19 => ?_⟩
      have s1519 := s1518.trans s19
      have s619 := (s614.trans s15).trans s1519
      refine ⟨.ref kd, rfl, fun pe2 npe2 => ?_⟩
      have s20 := same_new (o := .dK []) npe2
      have s620 := s619.trans s20
      refine ⟨kd, pe2, datE es, [], rfl, rfl, ⟨_, s620 _ _ hkd6, dat_at (hE6.keep (TupKeep.of s620))⟩, ⟨_, upd_same, .nil⟩, shaped_ents ok, (fun _ z => nomatch z), ?_⟩
      have e12 : (if false = true then !decide (Ob.tree es2 = Ob.tree []) else decide (Ob.tree es2 = Ob.tree [])) = eqvDict (datE es) [] := by
        rw [if_neg Bool.false_ne_true]
        have l2 : es2.length = es.length := hpe.length_eq
        cases es with
        | nil =>
          have : es2 = [] := List.length_eq_zero_iff.mp l2
          rw [this]
          decide +kernel
        | cons x r =>
          have n2 : es2 ≠ [] := fun z => by rw [z] at l2; cases l2
          rw [decide_eq_false (fun z => n2 (by injection z))]
          unfold eqvDict
          rw [decide_eq_false (fun z => by unfold datE at z; rw [List.length_map] at z; cases z)]
          rfl
      rw [e12]
      refine ⟨rfl, _, rfl, ?_⟩
      rw [decide_eq_true rfl]
      refine iteF ?_
      have w20 : Wl (upd H19 pe2 (.dK [])) W k1 := w6.same s620
      have F20 : Fr W H (upd H19 pe2 (.dK [])) := F6.trans (Fr.same s620)
      have hkd20 := s620 _ _ hkd6
      have hE20 := hE6.keep (TupKeep.of s620)
      have s1420 : Same H14 (upd H19 pe2 (.dK [])) := s15.trans (s1519.trans s20)
      have hT20 := s1420 _ _ h14
      have hTab20 := hTab14.keep (TupKeep.of s1420)
      generalize upd H19 pe2 (.dK []) = H20 at w20 F20 hkd20 hE20 hT20 hTab20
      clear e12 hob3 hob2 hob15 dW16 dI16 dW8 dI8 dW6 dW tp pr16 pr hTa6 hTd6 hTe6 hTa hTd hTe hE6 hE5 val valr h7 h8 h79 h5 h56 h16
      refine ⟨.ref W, rfl, ("0" : Str), 16, rfl, rfl, by decide, by decide, by decide +kernel, (by show 2 ≤ sizeLine; decide), fun t1 nt1 => ⟨("0" : Str), 15, rfl, rfl, by decide, by decide, by decide +kernel, (by show 2 ≤ sizeLine; decide), fun t2 nt2 => ⟨(by show 1 ≤ sizeLine; decide), fun t3 nt3 => ⟨("0" : Str), 16, rfl, rfl, by decide, by decide, by decide +kernel, (by show 2 ≤ sizeLine; decide), fun l4 nl4 => ⟨(by show 6 ≤ sizeLine; decide), fun kS nkS => ?_⟩⟩⟩⟩⟩
      have z1 := same_new (o := .tup [V.str "link", .str (repS ("0" : Str) (Int.toNat 16))]) nt1
      have y1 := upd_same (H := H20) (a := t1) (o := .tup [V.str "link", .str (repS ("0" : Str) (Int.toNat 16))])
      generalize upd H20 t1 (.tup [V.str "link", .str (repS ("0" : Str) (Int.toNat 16))]) = J1 at z1 y1 nt2 nt3 nl4 nkS ⊢
      have z2 := same_new (o := .tup [V.str "file", .str (repS ("0" : Str) (Int.toNat 15))]) nt2
      have y2 := upd_same (H := J1) (a := t2) (o := .tup [V.str "file", .str (repS ("0" : Str) (Int.toNat 15))])
      generalize upd J1 t2 (.tup [V.str "file", .str (repS ("0" : Str) (Int.toNat 15))]) = J2 at z2 y2 nt3 nl4 nkS ⊢
      have z3 := same_new (o := .tup [V.str "file"]) nt3
      have y3 := upd_same (H := J2) (a := t3) (o := .tup [V.str "file"])
      generalize upd J2 t3 (.tup [V.str "file"]) = J3 at z3 y3 nl4 nkS ⊢
      have z4 := same_new (o := .lst [V.str "file", .str (repS ("0" : Str) (Int.toNat 16))]) nl4
      have y4 := upd_same (H := J3) (a := l4) (o := .lst [V.str "file", .str (repS ("0" : Str) (Int.toNat 16))])
      generalize upd J3 l4 (.lst [V.str "file", .str (repS ("0" : Str) (Int.toNat 16))]) = J4 at z4 y4 nkS ⊢
      have z5 := same_new (o := .lst [V.ref t1, .ref t2, .ref t3, .ref l4, .non, .str "file"]) nkS
      have y5 := upd_same (H := J4) (a := kS) (o := .lst [V.ref t1, .ref t2, .ref t3, .ref l4, .non, .str "file"])
      generalize upd J4 kS (.lst [V.ref t1, .ref t2, .ref t3, .ref l4, .non, .str "file"]) = J5 at z5 y5 ⊢
      have z25 := z3.trans (z4.trans z5)
      have z205 : Same H20 J5 := z1.trans (z2.trans z25)
      have wJ := w20.same z205
      refine do_pick wJ y5 (fun z => by rw [z] at nkS; exact (w20.same (z1.trans (z2.trans (z3.trans z4)))).ne nkS rfl) (by show 0 < 6; decide) (by show 6 < 1000000; decide) (by omega) fun bad hbad H21 k21 f21 w21 l21 m21 => ?_
      have kq21 : Kq W J5 H21 := Kq.fr f21
      have tu21 := kq21.tups wJ
      have hbv : BadValS K H21 bad ∧ SimV K H21 bad := by
        have ok0 : OkS (repS ("0" : Str) (Int.toNat 16)) ∧ OkS (repS ("0" : Str) (Int.toNat 15)) ∧ OkS ("file" : Str) ∧ OkS ("link" : Str) := ⟨ok_by (by decide +kernel), ok_by (by decide +kernel), ok_by (by decide +kernel), ok_by (by decide +kernel)⟩
        simp only [List.mem_cons, List.not_mem_nil, or_false] at hbad
        rcases hbad with rfl | rfl | rfl | rfl | rfl | rfl
        · have h := tu21 _ _ ((z2.trans z25) _ _ y1)
          exact ⟨.inr (.inr (.inr (.inr (.inr ⟨t1, _, _, rfl, .inl h, .inl (by decide +kernel)⟩)))), .inr (.inr (.inr (.inr ⟨t1, ["link", _], rfl, .inl h, fun y hy => by
            simp only [List.mem_cons, List.not_mem_nil, or_false] at hy
            rcases hy with rfl | rfl
            · exact ok0.2.2.2
            · exact ok0.1⟩)))⟩
        · have h := tu21 _ _ (z25 _ _ y2)
          exact ⟨.inr (.inr (.inr (.inr (.inr ⟨t2, _, _, rfl, .inl h, .inr ⟨by decide +kernel, ok0.2.1, by decide +kernel⟩⟩)))), .inr (.inr (.inr (.inr ⟨t2, ["file", _], rfl, .inl h, fun y hy => by
            simp only [List.mem_cons, List.not_mem_nil, or_false] at hy
            rcases hy with rfl | rfl
            · exact ok0.2.2.1
            · exact ok0.2.1⟩)))⟩
        · have h := tu21 _ _ ((z4.trans z5) _ _ y3)
          exact ⟨.inr (.inr (.inr (.inr (.inl ⟨t3, _, rfl, .inl h, (by decide), (by decide)⟩)))), .inr (.inr (.inr (.inr ⟨t3, ["file"], rfl, .inl h, fun y hy => by
            rw [List.mem_singleton.mp hy]
            exact ok0.2.2.1⟩)))⟩
        · have h := kq21.two wJ (z5 _ _ y4)
          exact ⟨.inr (.inr (.inr (.inl ⟨l4, _, _, rfl, h⟩))), .inr (.inr (.inr (.inl ⟨l4, _, _, rfl, h, ok0.2.2.1, ok0.1⟩)))⟩
        · exact ⟨.inl rfl, .inl rfl⟩
        · exact ⟨.inr (.inr (.inl ⟨_, rfl⟩)), .inr (.inr (.inl ⟨_, rfl, ok0.2.2.1⟩))⟩
      refine ⟨bad, rfl, .ref pT, rfl, .ref W, rfl, (by show 2 ≤ sizeLine; decide), fun kA nkA => ?_⟩
      have zA := same_new (o := .lst [V.str "a", .str "zz"]) nkA
      have yA := upd_same (H := H21) (a := kA) (o := .lst [V.str "a", .str "zz"])
      have nAW := w21.ne nkA
      generalize upd H21 kA (.lst [V.str "a", .str "zz"]) = J6 at zA yA ⊢
      refine do_pick (w21.same zA) yA nAW (by show 0 < 2; decide) (by show 2 < 1000000; decide) (by omega) fun kx hkx H22 k22 f22 w22 l22 m22 => ?_
      have kq2122 : Kq W H21 H22 := (Kq.same zA).trans (Kq.fr f22)
      have kq2022 : Kq W H20 H22 := (Kq.same z205).trans (kq21.trans kq2122)
      have hT22 := kq2022.dK w20 hT20
      have ltab : tab.length ≤ 30 := by
        have := congrArg List.length hTab20.keys
        rw [List.length_map, List.length_map, List.length_map] at this
        omega
      obtain ⟨x, rfl, hx1, hx2⟩ : ∃ x : Str, kx = .str x ∧ x.length ≤ 1000 ∧ OkS x := by
        simp only [List.mem_cons, List.not_mem_nil, or_false] at hkx
        rcases hkx with rfl | rfl
        · exact ⟨_, rfl, by decide +kernel, ok_by (by decide +kernel)⟩
        · exact ⟨_, rfl, by decide +kernel, ok_by (by decide +kernel)⟩
      refine ⟨pT, _, rfl, DPut.k (k := .inr x) hT22 (small_lt (by rw [len_kT]; omega)), ?_⟩
      rw [putK_kT]
      have w613 := w6.same s613
      have npW : pT ≠ W := w613.ne npT
      have F13 : Fr W H H13 := F6.trans (Fr.same s613)
      have nHT : H pT = none := F13.free npW npT
      have nkp : kd ≠ pT := ne_of_none (s613 _ _ hkd6) npT
      have F22 : Fr W H H22 := F20.trans ((Fr.same z205).trans (f21.trans ((Fr.same zA).trans f22)))
      have F23 : Fr W H (upd H22 pT (.dK (kT (putK tab x bad)))) := F22.mut nHT
      have w23 : Wl (upd H22 pT (.dK (kT (putK tab x bad)))) W k22 := w22.mut npW
      have t23 : TupKeep H22 (upd H22 pT (.dK (kT (putK tab x bad)))) := TupKeep.at fun xs z => by rw [hT22] at z; cases z
      have hkd23 : (upd H22 pT (.dK (kT (putK tab x bad)))) kd = some (.dK (kT te)) := by rw [upd_ne nkp]; exact kq2022.dK w20 hkd20
      have hE23 := (hE20.keep (kq2022.tups w20)).keep t23
      have hTab23 := (hTab20.keep (kq2022.tups w20)).keep t23
      have hb23 : BadValS K (upd H22 pT (.dK (kT (putK tab x bad)))) bad := hbv.1.keep ((kq2122.tups w21).trans t23) fun q a b z => by
        have z2 := kq2122.two w21 z
        rw [upd_ne (fun y => by rw [y, hT22] at z2; cases z2)]
        exact z2
      have hs23 : SimV K (upd H22 pT (.dK (kT (putK tab x bad)))) bad := hbv.2.keep ((kq2122.tups w21).trans t23) fun q a b z => by
        have z2 := kq2122.two w21 z
        rw [upd_ne (fun y => by rw [y, hT22] at z2; cases z2)]
        exact z2
      have hcT : Cand P w K W te.length (upd H22 pT (.dK (kT (putK tab x bad)))) (.ref pT) := cand_turned upd_same hTab23 okT ndT (by rw [pT'.length_eq]; exact hl) hx1 hx2 hb23 hs23
      generalize upd H22 pT (.dK (kT (putK tab x bad))) = H23 at F23 w23 hkd23 hE23 hcT
      refine ⟨.ref kd, rfl, kd, kT te, rfl, .inl hkd23, fun po npo => ?_⟩
      have s24 := same_new (o := .dK (kT te)) npo
      have h24 := upd_same (H := H23) (a := po) (o := .dK (kT te))
      have nkpo : kd ≠ po := ne_of_none hkd23 npo
      have npoW := w23.ne npo
      generalize upd H23 po (.dK (kT te)) = H24 at s24 h24
      have w24 := w23.same s24
      refine ⟨fun σ' H' => σ' = [some (.ref W), some (.ref e), some (.ref kd), some (.ref a), some (.ref Dw), none, some (.ref p7), some (.ref p11), some (.ref pT), some (.ref a2), some bad, some (.ref po), none, none, none] ∧ ∃ k', Wl H' W k' ∧ k ≤ k' ∧ k' ≤ k1 + 10 ∧ Fr W H H' ∧ H' kd = some (.dK (kT te)) ∧ EntsAt K H' te es ∧ Cand P w K W te.length H' (.ref pT) ∧ Cand P w K W te.length H' (.ref po), ?first, fun σ' H' hM => ?_⟩
      case first =>
        refine ⟨("0" : Str), 16, rfl, rfl, by decide, by decide, by decide +kernel, (by show 2 ≤ sizeLine; decide), fun tv ntv => ⟨.ref po, rfl, .ref W, rfl, ("x" : Str), 13, rfl, rfl, by decide, by decide, by decide +kernel, (by show 1 ≤ sizeLine; decide), fun tq ntq => ⟨(by show 9 ≤ sizeLine; decide), fun kO nkO => ?_⟩⟩⟩
        have zv := same_new (o := .tup [V.str "file", .str (repS ("0" : Str) (Int.toNat 16))]) ntv
        generalize upd H24 tv (.tup [V.str "file", .str (repS ("0" : Str) (Int.toNat 16))]) = J7 at zv ntq nkO ⊢
        have zq := same_new (o := .tup [V.str "a"]) ntq
        have yq := upd_same (H := J7) (a := tq) (o := .tup [V.str "a"])
        generalize upd J7 tq (.tup [V.str "a"]) = J8 at zq yq nkO ⊢
        have zO := same_new (o := .lst [V.str "", .str ".", .str "a/b", .str "A", .str "a..b", .str (repS ("x" : Str) (Int.toNat 13)), .int 3, .non, .ref tq]) nkO
        have yO := upd_same (H := J8) (a := kO) (o := .lst [V.str "", .str ".", .str "a/b", .str "A", .str "a..b", .str (repS ("x" : Str) (Int.toNat 13)), .int 3, .non, .ref tq])
        have wJ8 := w24.same (zv.trans zq)
        have nOW := wJ8.ne nkO
        generalize upd J8 kO (.lst [V.str "", .str ".", .str "a/b", .str "A", .str "a..b", .str (repS ("x" : Str) (Int.toNat 13)), .int 3, .non, .ref tq]) = J9 at zO yO ⊢
        have z249 : Same H24 J9 := zv.trans (zq.trans zO)
        refine do_pick (w24.same z249) yO nOW (by show 0 < 9; decide) (by show 9 < 1000000; decide) (by omega) fun ky hky H25 k25 f25 w25 l25 m25 => ⟨po, rfl, ?_⟩
        have kq2425 : Kq W H24 H25 := (Kq.same z249).trans (Kq.fr f25)
        have hpo25 := kq2425.dK w24 h24
        have fin : ∀ o : HO, (∀ H', H' = upd H25 po o → H' po = some o → EntsAt K H' te es → Cand P w K W te.length H' (.ref po)) → ∃ k', Wl (upd H25 po o) W k' ∧ k ≤ k' ∧ k' ≤ k1 + 10 ∧ Fr W H (upd H25 po o) ∧ (upd H25 po o) kd = some (.dK (kT te)) ∧ EntsAt K (upd H25 po o) te es ∧ Cand P w K W te.length (upd H25 po o) (.ref pT) ∧ Cand P w K W te.length (upd H25 po o) (.ref po) := by
          intro o hc
          have kq : Kq W H23 (upd H25 po o) := fun b u n t h => by
            rw [upd_ne (ne_of_none h npo)]
            exact kq2425 b u n t (s24 _ _ h)
          have en := hE23.keep (kq.tups w23)
          have nHo : H po = none := F23.free npoW npo
          exact ⟨k25, w25.mut npoW, by omega, by omega, (F23.trans ((Fr.same s24).trans ((Fr.same z249).trans f25))).mut nHo, kq.dK w23 hkd23, en, hcT.kq w23 kq, hc _ rfl upd_same en⟩
        have txt : ∀ y : Str, isSegF y = false → y.length ≤ 1000 → OkS y → ky = .str y → _ := fun y h1 h2 h3 h4 => fin (.dK (putK (kT te) (.inr y) (.ref tv))) fun H' _ hp' en => cand_odd hp' en ok nd hl (.inr ⟨y, rfl, h2, h3, h1⟩)
        have hsm : (kT te).length < sizeLine := small_lt (by rw [len_kT]; omega)
        simp only [List.mem_cons, List.not_mem_nil, or_false] at hky
        rcases hky with rfl | rfl | rfl | rfl | rfl | rfl | rfl | rfl | rfl
        · exact .inl ⟨_, DPut.k (k := .inr "") hpo25 hsm, rfl, txt "" (by decide +kernel) (by decide +kernel) (ok_by (by decide +kernel)) rfl⟩
        · exact .inl ⟨_, DPut.k (k := .inr ".") hpo25 hsm, rfl, txt "." (by decide +kernel) (by decide +kernel) (ok_by (by decide +kernel)) rfl⟩
        · exact .inl ⟨_, DPut.k (k := .inr "a/b") hpo25 hsm, rfl, txt "a/b" (by decide +kernel) (by decide +kernel) (ok_by (by decide +kernel)) rfl⟩
        · exact .inl ⟨_, DPut.k (k := .inr "A") hpo25 hsm, rfl, txt "A" (by decide +kernel) (by decide +kernel) (ok_by (by decide +kernel)) rfl⟩
        · exact .inl ⟨_, DPut.k (k := .inr "a..b") hpo25 hsm, rfl, txt "a..b" (by decide +kernel) (by decide +kernel) (ok_by (by decide +kernel)) rfl⟩
        · exact .inl ⟨_, DPut.k (k := .inr (repS ("x" : Str) (Int.toNat 13))) hpo25 hsm, rfl, txt _ (by decide +kernel) (by decide +kernel) (ok_by (by decide +kernel)) rfl⟩
        · exact .inl ⟨_, DPut.k (k := .inl 3) hpo25 hsm, rfl, fin _ fun H' _ hp' en => cand_odd hp' en ok nd hl (.inl ⟨3, rfl⟩)⟩
        · exact .inr ⟨te, hpo25, .inl rfl, small_lt (by omega), fun ds ep m => ⟨rfl, fin _ fun H' _ hp' en => cand_mix hp' m (.inl rfl) en ok nd hl⟩⟩
        · have hq25 : H25 tq = some (.tup (([.inr "a"] : List Key).map kV)) := ((Kq.fr f25).tups (w24.same z249)) _ _ (zO _ _ yq)
          refine .inr ⟨te, hpo25, .inr ⟨tq, _, rfl, hq25⟩, small_lt (by omega), fun ds ep m => ⟨rfl, fin _ fun H' eH hp' en => cand_mix hp' m (.inr ⟨tq, [.inr "a"], rfl, ?_⟩) en ok nd hl⟩⟩
          rw [eH, upd_ne (fun z => by rw [z, hpo25] at hq25; cases hq25)]
          exact hq25
      obtain ⟨rfl, k', w', l', m', F', hkd', hE', hcT', hcO'⟩ := hM
      clear f1 w1 hte hE f21 w21 f22 w22 hcT
      refine ⟨31, rfl, by decide, by decide, fun Dl hDl => ?_⟩
      refine lc_pairs (us := List.range 31) (val := fun u : Nat => V.int u) yields_range (fun u => ("n" : Str) ++ (Str.ofString (toString (u : Int)))) (fun _ _ _ => True) (fun _ => ()) (fun _ => true) (fun u => [some (.ref W), some (.ref e), some (.ref kd), some (.ref a), some (.ref Dw), none, some (.ref p7), some (.ref p11), some (.ref pT), some (.ref a2), some bad, some (.ref po), none, some (.int (u : Nat)), none]) hDl (fun _ _ => trivial) (fun _ _ => rfl)
        (fun H5 x _ _ S k => k) (fun H5 x _ _ S k => k H5 (Same.refl H5)) (fun _ _ _ _ _ _ => trivial) (fun H5 u s5 hu _ S k => ?_) (by decide) (fun as3 H26 s26 h26 pr3 => ?_)
      · have hu31 : u < 31 := List.mem_range.mp hu
        have l2 : ((u : Int)).natAbs.log2 < 1920 := by
          have : ((u : Int)).natAbs = u := rfl
          rw [this]
          have : u.log2 ≤ u := Nat.log2_le_self u
          omega
        have ln : ∀ u : Nat, u < 31 → (Str.ofString (toString (u : Int))).length ≤ 2 := by decide +kernel
        have ln2 := ln u hu31
        have ln1 : ("n" : Str).length = 1 := by decide +kernel
        refine ⟨.int u, rfl, u, rfl, l2, _, _, rfl, rfl, small_line (by omega), ("0" : Str), 16, rfl, rfl, by decide, by decide, by decide +kernel, (by show 2 ≤ sizeLine; decide), fun tp ntp => ⟨(by show 2 ≤ sizeLine; decide), fun tp2 ntp2 => ?_⟩⟩
        exact k tp2 (.ref tp) _ ((same_new ntp).trans (same_new ntp2)) upd_same trivial
      rw [filt_all] at pr3
      obtain ⟨tab3, p3', q3'⟩ := pairs_tab (K := K) (kf := fun u : Nat => ("n" : Str) ++ (Str.ofString (toString (u : Int)))) (R := fun (_ : V) (_ : Unit) => True) (rf := fun _ => ()) pr3
      have ek3 : tab3.map (·.1) = (List.range 31).map fun u : Nat => ("n" : Str) ++ (Str.ofString (toString (u : Int))) := paired_keys (R := fun (_ : V) (_ : Nat) => True) q3'
      have nd3 : Nd tab3 := by
        unfold Nd
        rw [ek3]
        decide +kernel
      have l3 : tab3.length = 31 := by
        have := congrArg List.length ek3
        rw [List.length_map, List.length_map, List.length_range] at this
        exact this
      have em3 : mergeK [] (kT tab3) = kT tab3 := mergeK_nd [] tab3 nd3 fun x _ z => (nomatch z)
      refine ⟨Dl, as3, kT tab3, rfl, .inl (.inl h26), p3', fun pl npl => ?_⟩
      rw [em3]
      have s27 := same_new (o := .dK (kT tab3)) npl
      have h27 := upd_same (H := H26) (a := pl) (o := .dK (kT tab3))
      generalize upd H26 pl (.dK (kT tab3)) = H27 at s27 h27
      have sM27 : Same H' H27 := s26.trans s27
      have w27 := w'.same sM27
      have n30 : te.length ≤ 30 := by omega
      refine ⟨fun σ' H'' => ∃ k2, Wl H'' W k2 ∧ k' ≤ k2 ∧ k2 ≤ k' + 100 ∧ Kq W H H'' ∧ TabsL qfL [P1, P2, P3] H'', ?first2, fun σ' H'' hM2 => ?_⟩
      case first2 =>
        refine ⟨.ref pT, rfl, .ref po, rfl, .ref pl, rfl, .ref kd, rfl, kd, kT te, rfl, sM27 _ _ hkd', fun H28 p8' ts8 s28 np8' nts8 nin8 h28 pr8 => ⟨(by show 0 ≤ sizeLine; decide), fun pu npu => ⟨.ref W, rfl, W, k', rfl, (w27.same s28).new npu, by omega, fun ov H30 k30 f30 w30 l30 m30 hov => ⟨(by show 7 ≤ sizeLine; decide), fun L nL => ?_⟩⟩⟩⟩
        have s28 : Same H27 H28 := s28
        have w28 := w27.same s28
        have z29 := same_new (o := .tup []) npu
        have yu := upd_same (H := H28) (a := pu) (o := .tup [])
        generalize upd H28 pu (.tup []) = H29 at z29 yu f30
        have w29 := w28.same z29
        have s29 : Same H' H29 := sM27.trans (s28.trans z29)
        have kq30 : Kq W H' H30 := (Kq.same s29).trans (Kq.fr f30)
        have zL := same_new (o := .lst [V.ref pT, .ref po, .ref pl, .ref p8', .non, .ref pu, ov]) nL
        have yL := upd_same (H := H30) (a := L) (o := .lst [V.ref pT, .ref po, .ref pl, .ref p8', .non, .ref pu, ov])
        have nLW := w30.ne nL
        generalize upd H30 L (.lst [V.ref pT, .ref po, .ref pl, .ref p8', .non, .ref pu, ov]) = H31 at zL yL
        have w31 := w30.same zL
        have kq31 : Kq W H' H31 := kq30.trans (Kq.same zL)
        have np8W : p8' ≠ W := w27.ne np8'
        have cands : ∀ v ∈ [V.ref pT, .ref po, .ref pl, .ref p8', .non, .ref pu, ov], Cand P w K W te.length H31 v := by
          intro v hv
          simp only [List.mem_cons, List.not_mem_nil, or_false] at hv
          have kq2931 : Kq W H29 H31 := (Kq.fr f30).trans (Kq.same zL)
          rcases hv with rfl | rfl | rfl | rfl | rfl | rfl | rfl
          · exact hcT'.kq w' kq31
          · exact hcO'.kq w' kq31
          · exact (cand_long (P := P) (w := w) (K := K) (W := W) h27 (by rw [len_kT]; exact l3) n30).kq w27 ((Kq.same (s28.trans z29)).trans kq2931)
          · exact Cand.kq (.inl (.inr (.inr (.inr (.inr (.inl ⟨p8', _, rfl, np8W, h28⟩)))))) w28 ((Kq.same z29).trans kq2931)
          · exact .inl (.inl rfl)
          · exact Cand.kq (.inl (.inr (.inr (.inr (.inr (.inr ⟨pu, _, rfl, yu⟩)))))) w29 kq2931
          · refine Cand.kq ?_ w30 (Kq.same zL)
            rcases hov with y | ⟨p, rfl, y⟩ | ⟨p, rfl, y⟩
            · exact .inl y
            · exact .inr (.inl ⟨p, rfl, y⟩)
            · refine .inr (.inr (.inr (.inl ⟨p, [("a", .int 1)], rfl, y, (fun z => nomatch z), fun e he => ?_, .inr ⟨p, [], [], .inr "a", .int 1, [], rfl, y, .nil, (fun _ z => nomatch z), List.nodup_nil, (by simp [kT]), (by decide), .inr ⟨"a", rfl, by decide +kernel, ok_by (by decide +kernel), .inr (.inr (.inl ⟨1, rfl⟩))⟩⟩⟩)))
              rw [List.mem_singleton.mp he]
              exact .inr (.inl rfl)
        have hkd31 := kq31.dK w' hkd'
        have hE31 := hE'.keep (kq31.tups w')
        have tb31 : TabsL qfL [P1, P2, P3] H31 := TabsL.fr tb hw (F'.trans ((Fr.same s29).trans (f30.trans (Fr.same zL))))
        refine ⟨L, rfl, ⟨_, SqL.of yL⟩, ?_⟩
        refine forG (items := [V.ref pT, .ref po, .ref pl, .ref p8', .non, .ref pu, ov]) yields_list (fun i σ H' => ∃ z, σ = [some (.ref W), some (.ref e), some (.ref kd), some (.ref a), some (.ref Dw), none, some (.ref p7), some (.ref p11), some (.ref pT), some (.ref a2), some bad, some (.ref po), some (.ref pl), none, z] ∧ Kq W H31 H' ∧ Wl H' W k30 ∧ TabsL qfL [P1, P2, P3] H')
          ⟨_, rfl, Kq.refl _ _, w31, tb31⟩ (fun i σ H' ⟨_, _, kq, _⟩ => SqL.of (kq L _ nLW (fun _ z => nomatch z) yL)) (fun i x σ H32 hx I => ?_) (fun σ H32 I => ?_)
        · obtain ⟨z, rfl, kq32, w32, tb32⟩ := I
          have hc := (cands x (List.mem_of_getElem? hx)).kq w31 kq32
          refine ⟨x, rfl, fun pz npz => ?_⟩
          have zz := same_new (o := .dK []) npz
          have yz := upd_same (H := H32) (a := pz) (o := .dK [])
          generalize upd H32 pz (.dK []) = H33 at zz yz
          have hc33 := hc.kq w32 (Kq.same zz)
          have w33 := w32.same zz
          have tb33 := tb32.same zz
          have kq33 := kq32.trans (Kq.same (W := W) zz)
          have done : ∀ H', Kq W H33 H' → Wl H' W k30 → TabsL qfL [P1, P2, P3] H' → ∃ z, [some (V.ref W), some (.ref e), some (.ref kd), some (.ref a), some (.ref Dw), none, some (.ref p7), some (.ref p11), some (.ref pT), some (.ref a2), some bad, some (.ref po), some (.ref pl), none, some x] = [some (.ref W), some (.ref e), some (.ref kd), some (.ref a), some (.ref Dw), none, some (.ref p7), some (.ref p11), some (.ref pT), some (.ref a2), some bad, some (.ref po), some (.ref pl), none, z] ∧ Kq W H31 H' ∧ Wl H' W k30 ∧ TabsL qfL [P1, P2, P3] H' := fun H' a1 a2 a3 => ⟨_, rfl, kq33.trans a1, a2, a3⟩
          refine hc33.ne0 yz (fun ne => ⟨_, rfl, iteT ?_⟩) ⟨_, rfl, iteF (done _ (Kq.refl _ _) w33 tb33)⟩
          refine ⟨x, rfl, .ref kd, rfl, hc33.neK (kq33.dK w31 hkd31) rfl (hE31.keep (kq33.tups w31)) ok fun b => ⟨_, rfl, ?_⟩⟩
          cases b with
          | false => exact iteF (done _ (Kq.refl _ _) w33 tb33)
          | true =>
            refine iteT ⟨tb33, fun f H34 e34 tb34 nf af => ⟨f, _, rfl, af, ?_⟩⟩
            refine ⟨x, rfl, fun a3 dx3 ha3 hdx3 _ => ?_⟩
            have sM : Same H34 (upd (upd H34 dx3 (.own a3)) a3 (.ins c.T dx3 [])) := made_same ha3 hdx3 (Fr.refl _ _)
            have kqM : Kq W H33 (upd (upd H34 dx3 (.own a3)) a3 (.ins c.T dx3 [])) := (Kq.extN e34).trans (Kq.same sM)
            have w34 := w33.ext e34
            rcases hc33.bad2 ne w33 kqM with y | y
            · exact .inl ⟨a3, x, rfl, y, fun dd y2 H35 s35 h35 => ⟨rfl, ⟨dd, _, rfl, h35⟩, ⟨_, rfl, iteF (done _ (kqM.trans (Kq.same s35)) (w34.same (sM.trans s35)) (tb34.same (sM.trans s35)))⟩⟩⟩
            · exact .inr ⟨a3, x, rfl, y, fun dd y2 H35 s35 h35 => ⟨rfl, ⟨dd, _, rfl, h35⟩, ⟨_, rfl, iteF (done _ (kqM.trans (Kq.same s35)) (w34.same (sM.trans s35)) (tb34.same (sM.trans s35)))⟩⟩⟩
        · obtain ⟨z, rfl, kq32, w32, tb32⟩ := I
          exact ⟨k30, w32, by omega, by omega, (Kq.fr F').trans (kq31.trans kq32), tb32⟩
      · obtain ⟨k2, w2, l2, m2, kq2, tb2⟩ := hM2
        exact q H'' k2 w2 (by omega) (by omega) kq2 tb2
end

end Fk

set_option maxHeartbeats 4000000
/-! sum(lists, list); d.update(e). -/
namespace Fk
open PySem PySem.Spec PyProof.Rows L2
theorem mt_update {X : Cx} : MtR X "dict.update" (fun x xs H Q => ∃ (a b : Addr) (kvs more : List (Key × V)), x = .ref a ∧ xs = [.ref b] ∧ a ≠ b ∧ H a = some (.dK kvs) ∧ H b = some (.dK more) ∧ kvs.length + more.length ≤ sizeLine ∧ Q .non (upd H a (.dK (mergeK kvs more)))) := by
  intro pins s σ H x xs v us Q I rx rxs h
  obtain ⟨a, b, kvs, more, rfl, rfl, ne, ha, hb, hl, q⟩ := h
  cases rx
  cases Vals.ref1 rxs
  obtain ⟨z1, hd1, vs1, r1, d1⟩ := dk_of I.hok ha
  obtain ⟨z2, hd2, vs2, r2, d2⟩ := dk_of I.hok hb
  refine call_meetsIn PySem.F.slot_dict_update d1.typeIs PySem.F.entry_dict_update (PySem.F.args_dict_update_2 _ _) (meets_dict_update (mixKind X.prog X.w) a b ne hd2) ⟨vs1, vs2, d1, d2, by rw [← r1.length, ← r2.length]; exact hl, fun h' e1 e2 sb => ?_⟩
  have he : ∃ q, h'.get? a = some q := let ⟨q, _, _, hq, _⟩ := e1; ⟨q, hq⟩
  refine ⟨.non, _, d_write I (by rw [ha]; exact True.intro) sb he (dk_new ?_ hd1 (r2.merge r1) e1), rfl, q⟩
  have := length_mergeK more kvs
  omega
def lstO (its : List Value) (n : Nat) : Obj := { cls := .type "list", data := .seq its.toArray n }
section
variable {prog : Program} {w : World} {A : Around} {R : Result → Shared → Prop} {I : Addr} {fp wr : List Addr} {G : Array GenState → Array GenState → Prop} {P : Nat → Value → Prop} {St : Nat → Shared → Prop}
theorem sum_loopL {ls : List (List Value)} {x0 : List Value} (H0 : Heap) (W : WalksS prog w A.in1 I fp wr G ls.length P St) (S : Addr) (hSf : S ∉ fp) (hwS : ∀ b ∈ wr, b < S) (h0S : H0.objs.size ≤ S) (hw : ∀ b o, H0.get? b = some o → b ∉ wr)
    (hval : ∀ i v, P i v → ∃ (l : Addr) (its : List Value) (n : Nat), v = .ref l ∧ ls[i]? = some its ∧ H0.get? l = some (lstO its n)) (q0 : Addr) (hz : (x0 ++ ls.flatten).length ≤ sizeLine) :
    ∀ (k i : Nat) (s : Shared) (q : Addr) (n c : Nat), ls.length - i = k → i ≤ ls.length → St i s → (∀ b o, H0.get? b = some o → s.heap.get? b = some o) → s.heap.get? S = some { cls := .type "list", dict := none, data := .seq #[.ref q] c, slots := #[] } →
    s.heap.get? q = some (lstO (x0 ++ (ls.take i).flatten) n) → q ≠ S → q ∉ wr → (q = q0 ∨ H0.objs.size ≤ q) →
    (∀ s' q' n', s'.heap.get? q' = some (lstO (x0 ++ ls.flatten) n') → (q' = q0 ∨ H0.objs.size ≤ q') → Moved (S :: wr) G s s' → R (.ok (.ret (.ref q'))) s') → codeAny (model prog w) A (.builtin "sum.loop" ⟨[.ref I, .ref S, rawInt 2, rawInt 0], []⟩) R s := by
  have hSw : S ∉ wr := fun h => hSf (W.sub _ h)
  have hsub : ∀ b ∈ wr, b ∈ S :: wr := fun b hb => List.mem_cons_of_mem _ hb
  intro k
  induction k with
  | zero =>
    intro i s q n c hk hi hst hH hS hq nq nw ho hR
    have hin : i = ls.length := by omega
    subst hin
    rw [List.take_length] at hq
    refine codeAny_builtin F.entry_sum_loop ?_
    rw [Around.under_plainId F.plain_sum_loop _]
    show wpAny _ A.in1 (seqItems? (.ref S) >>= _) _ _ s
    refine wpAny_bind (wpAny_seqItems hS rfl ?_)
    show wpAny _ A.in1 (tryCatch (pyNext (.ref I)) _ >>= _) _ _ s
    refine wpAny_bind (wpAny_tryCatch (W.done s _ _ hst fun s' hm => ?_))
    exact wpAny_pure (hR s' q n (hm.heap q _ nw hq) ho (hm.mono hsub))
  | succ k ih =>
    intro i s q n c hk hi hst hH hS hq nq nw ho hR
    have hlt : i < ls.length := by omega
    refine codeAny_builtin F.entry_sum_loop ?_
    rw [Around.under_plainId F.plain_sum_loop _]
    show wpAny _ A.in1 (seqItems? (.ref S) >>= _) _ _ s
    refine wpAny_bind (wpAny_seqItems hS rfl ?_)
    show wpAny _ A.in1 (tryCatch (pyNext (.ref I)) _ >>= _) _ _ s
    refine wpAny_bind (wpAny_tryCatch (W.item i s _ _ hlt hst fun v s' hP hst' hm => ?_))
    obtain ⟨l, its, m, rfl, hi2, hl⟩ := hval i v hP
    have hS' := hm.heap S _ hSw hS
    have hq' := hm.heap q _ nw hq
    have hl' := hm.heap l _ (hw l _ hl) (hH l _ hl)
    have etk : (ls.take (i + 1)).flatten = (ls.take i).flatten ++ its := by
      rw [List.take_add_one, hi2, List.flatten_append]
      simp
    have hz2 : (x0 ++ (ls.take i).flatten).length + its.length ≤ sizeLine := by
      have e : ls.flatten = (ls.take (i + 1)).flatten ++ (ls.drop (i + 1)).flatten := by rw [← List.flatten_append, List.take_append_drop]
      rw [e, etk] at hz
      simp only [List.length_append] at hz ⊢
      omega
    refine wpAny_bind (wpAny_attempt (wpAny_holding (PySem.P.add_list hq' hl' ?_ (by simpa using hz2))))
    have ea : (x0 ++ (ls.take i).flatten).toArray ++ its.toArray = (x0 ++ (ls.take (i + 1)).flatten).toArray := by rw [etk]; simp
    rw [ea]
    have hlt2 : S < s'.heap.objs.size := Heap.lt_size hS'
    have hSp := Heap.get?_push_of_some { cls := .type "list", data := .seq (x0 ++ (ls.take (i + 1)).flatten).toArray } hS'
    have hqp : (s'.heap.push { cls := .type "list", data := .seq (x0 ++ (ls.take (i + 1)).flatten).toArray }).get? s'.heap.objs.size = some (lstO (x0 ++ (ls.take (i + 1)).flatten) 0) := Heap.get?_push_size _ rfl
    have hop : ∀ b o, s'.heap.get? b = some o → (s'.heap.push { cls := .type "list", data := .seq (x0 ++ (ls.take (i + 1)).flatten).toArray }).get? b = some o := fun b o e => Heap.get?_push_of_some _ e
    show wpAny _ A.in1 (updateSeq S (fun _ => #[Value.ref s'.heap.objs.size]) >>= _) _ _ _
    generalize (s'.heap.push { cls := .type "list", data := .seq (x0 ++ (ls.take (i + 1)).flatten).toArray }) = hp at hSp hqp hop
    refine wpAny_bind (wpAny_updateSeq hSp rfl ?_)
    have hS₂ := Heap.get?_update_self (Obj.mapSeq fun _ => #[Value.ref s'.heap.objs.size]) hSp rfl
    refine wpAny_bind (wpAny_letGo ?_)
    have up : ∀ b o, S ≠ b → hp.get? b = some o → ((hp.update S (Obj.mapSeq fun _ => #[Value.ref s'.heap.objs.size])).update S (Obj.mapSeq fun _ => #[Value.ref s'.heap.objs.size])).get? b = some o := fun b o n e => (Heap.get?_update_other _ _ n).trans ((Heap.get?_update_other _ _ n).trans e)
    refine wpAny_bind (wpAny_updateSeq hS₂ rfl (wpAny_pure ⟨plainId_quiet F.plain_sum_loop _, ih (i + 1) _ s'.heap.objs.size 0 _ (by omega) hlt (W.frame _ s' _ _ hst' (Nat.le_refl _) fun b hb o e => ?_) (fun b o e => ?_) (Heap.get?_update_self _ hS₂ rfl) (up _ _ (Nat.ne_of_lt hlt2) hqp) (Nat.ne_of_gt hlt2) (fun z => absurd (hwS _ z) (Nat.not_lt_of_lt hlt2)) (.inr (Nat.le_trans h0S (Nat.le_of_lt hlt2))) fun s'' q'' n'' e1 e2 hm'' => hR s'' q'' n'' e1 e2 (Moved.trans W.gtrans ((hm.mono hsub).then_heap (Nat.le_refl _) fun b o hb e => ?_) hm'')⟩))
    · exact up _ _ (fun h => hSf (by rw [h]; exact hb)) (hop _ _ e)
    · have hb : b < H0.objs.size := Heap.lt_size e
      exact up _ _ (Nat.ne_of_gt (Nat.lt_of_lt_of_le hb h0S)) (hop _ _ (hm.heap b _ (hw b _ e) (hH b _ e)))
    · exact up _ _ (fun h => hb (by rw [h]; exact List.mem_cons_self)) (hop _ _ e)
end
theorem args_sum2 (a b : Value) : argsOk "sum" ⟨[a, b], []⟩ := by unfold argsOk; kernel_rfl
section
variable {prog : Program} {w : World} {A : Around} {E : Value → Shared → Prop} {s : Shared} {Q : Value → Shared → Prop}
theorem call_sumL {l b : Addr} {its : List Value} {ls : List (List Value)} {x0 : List Value} {n0 : Nat} (hh : A.handled = none) (hl : s.heap.IsList l its.toArray) (hb : s.heap.get? b = some (lstO x0 n0)) (hlen : its.length = ls.length)
    (hv : ∀ (i : Nat) (v : Value), its[i]? = some v → ∃ (l : Addr) (is : List Value) (n : Nat), v = Value.ref l ∧ ls[i]? = some is ∧ s.heap.get? l = some (lstO is n)) (hz : (x0 ++ ls.flatten).length ≤ sizeLine)
    (h : ∀ h' tk q n, (∀ b o, s.heap.get? b = some o → h'.get? b = some o) → h'.get? q = some (lstO (x0 ++ ls.flatten) n) → (q = b ∨ s.heap.objs.size ≤ q) → Q (.ref q) { s with heap := h', toks := tk }) :
    wpAny (model prog w) A (call (.builtin "sum") [.ref l, .ref b]) Q E s := by
  refine call_function_tree F.kind_sum F.plain_sum F.entry_sum (args_sum2 _ _) ?_
  unfold Builtin.«sum»
  simp only [List.length_cons, List.length_nil]
  rw [if_neg (by decide)]
  refine wpAny_bind (wpAny_of_eq (show Builtin.Builtins.bindParams "sum" ["start"] 0 ⟨[.ref b], []⟩ = pure [some (.ref b)] from rfl) ?_)
  refine wpAny_bind (Flt.iter_list_ hl fun s₂ e st hfp hlI => ?_)
  subst e
  have hb2 : (s.heap.push { cls := .type "list_iterator", data := .fields #[.ref l, .int 0 0] }).get? b = some (lstO x0 n0) := Heap.get?_push_of_some _ hb
  have tb : ∀ {tk : Nat}, ({ s with heap := s.heap.push { cls := .type "list_iterator", data := .fields #[.ref l, .int 0 0] } } : Shared).TypeIs (.ref b) "list" := fun {_} => ⟨_, hb2, rfl⟩
  refine wpAny_bind (wpAny_pure ?_)
  simp only [List.forIn_cons, List.forIn_nil]
  refine wpAny_bind (wpAny_bind (wpAny_bind (wpAny_isInstance (T := "list") (b := false) (tb (tk := 0)) sub_list_str ?_)))
  simp only [Bool.false_eq_true, if_false]
  refine wpAny_pure (wpAny_bind (wpAny_bind (wpAny_isInstance (T := "list") (b := false) (tb (tk := 0)) F.sub_list_bytes ?_)))
  simp only [Bool.false_eq_true, if_false]
  refine wpAny_pure (wpAny_bind (wpAny_bind (wpAny_isInstance (T := "list") (b := false) (tb (tk := 0)) F.sub_list_bytearray ?_)))
  simp only [Bool.false_eq_true, if_false]
  refine wpAny_pure (wpAny_pure ?_)
  refine wpAny_bind (wpAny_newObj_type ?_)
  have W := (Walks.list (prog := prog) (w := w) (A := A.in1) hh _ l hlI its.toArray).toS
  have hlen : its.toArray.size = ls.length := by simpa using hlen
  rw [hlen] at W
  have sz : (s.heap.push { cls := .type "list_iterator", data := .fields #[.ref l, .int 0 0] }).objs.size = s.heap.objs.size + 1 := Heap.size_push _ _
  have bs := Heap.lt_size hb
  refine wpAny_pure ⟨plainId_quiet F.plain_sum_loop _, sum_loopL s.heap W (s.heap.push { cls := .type "list_iterator", data := .fields #[.ref l, .int 0 0] }).objs.size (fun hm => Nat.lt_irrefl _ (hfp _ hm)) (fun b hb => ?_) (by rw [sz]; exact Nat.le_succ _) (fun b o e hb => ?_) (fun i v hP => hv i v (by simpa using hP)) b hz ls.length 0 _ b n0 _ rfl (Nat.zero_le _)
    (W.frame 0 { s with heap := s.heap.push { cls := .type "list_iterator", data := .fields #[.ref l, .int 0 0] } } _ _ st (by first | exact Nat.le_refl _ | exact Nat.le_succ _ | omega) fun b _ o e => Heap.get?_push_of_some _ e) (fun c o e => Heap.get?_push_of_some _ (Heap.get?_push_of_some _ e)) (Heap.get?_push_size _ rfl) ?_ (by rw [sz]; exact Nat.ne_of_lt (Nat.lt_succ_of_lt bs)) (fun hb => ?_) (.inl rfl) fun s' q n e1 e2 hm => ?_⟩
  · rw [List.mem_singleton.mp hb, sz]
    exact Nat.lt_succ_self _
  · rw [List.mem_singleton.mp hb] at e
    exact Nat.lt_irrefl _ (Heap.lt_size e)
  · rw [List.take_zero, List.flatten_nil, List.append_nil]
    exact Heap.get?_push_of_some _ hb2
  · rw [List.mem_singleton.mp hb] at bs
    exact Nat.lt_irrefl _ bs
  · obtain ⟨hp, g, d, tk, os⟩ := s'
    have a1 : g = s.gens := hm.gens
    have a2 : d = s.drawn := hm.drawn
    have a3 : os = s.os := hm.os
    subst a1 a2 a3
    refine h hp tk q n (fun c o e => ?_) e1 e2
    have hc := Heap.lt_size e
    refine hm.heap c o (fun z => ?_) (Heap.get?_push_of_some _ (Heap.get?_push_of_some _ e))
    simp only [List.mem_cons, List.not_mem_nil, or_false] at z
    rcases z with z | z
    · rw [z, sz] at hc
      exact absurd hc (Nat.not_lt_of_le (Nat.le_succ _))
    · rw [z] at hc
      exact Nat.lt_irrefl _ hc
end
/-- the values of some lists -/
theorem lists_at {X : Cx} {pins : List (Addr × Obj)} {σ : L2.St} {H : Hp} {s : Shared} (I : Inv X pins σ H s) : ∀ (as : List Addr) (ls : List (List V)), as.length = ls.length → (∀ (i : Nat) (l : Addr) (xs : List V), as[i]? = some l → ls[i]? = some xs → H l = some (.lst xs)) →
    ∃ vs : List (List Value), vs.length = ls.length ∧ Vals ls.flatten vs.flatten ∧ ∀ (i : Nat) (l : Addr), as[i]? = some l → ∃ (is : List Value) (n : Nat), vs[i]? = some is ∧ s.heap.get? l = some (lstO is n)
  | [], [], _, _ => ⟨[], rfl, .nil, fun i l h => by simp at h⟩
  | [], _ :: _, h, _ => by simp at h
  | _ :: _, [], h, _ => by simp at h
  | a :: as, xs :: ls, h, g => by
    obtain ⟨vs, h1, h2, h3⟩ := lists_at I as ls (by simpa using h) fun i l ys h1 h2 => g (i + 1) l ys (by simpa using h1) (by simpa using h2)
    obtain ⟨z, its, n, r, _, e⟩ := I.lstM (g 0 a xs rfl rfl)
    refine ⟨its :: vs, by simp [h1], by rw [List.flatten_cons, List.flatten_cons]; exact r.append h2, fun i l hi => ?_⟩
    cases i with
    | zero =>
      simp only [List.getElem?_cons_zero, Option.some.injEq] at hi
      subst hi
      exact ⟨its, n, rfl, e⟩
    | succ i =>
      obtain ⟨is, m, e1, e2⟩ := h3 i l (by simpa using hi)
      exact ⟨is, m, by simpa using e1, e2⟩
def rSumL (K : PySem.W.Frag) : List V → Hp → VK → Prop := fun vs H Q => ∃ (a b : Addr) (as : List Addr) (x0 : List V) (ls : List (List V)), vs = [.ref a, .ref b] ∧ SqL K H a (as.map V.ref) ∧ H b = some (.lst x0) ∧ as.length = ls.length ∧
  (∀ (i : Nat) (l : Addr) (xs : List V), as[i]? = some l → ls[i]? = some xs → H l = some (.lst xs)) ∧ (x0 ++ ls.flatten).length ≤ sizeLine ∧ ∀ p H', Same H H' → H' p = some (.lst (x0 ++ ls.flatten)) → (p = b ∨ H p = none) → Q (.ref p) H'
theorem vals_get {vs : List V} {us : List Value} (h : Vals vs us) : ∀ (i : Nat) (u : Value), us[i]? = some u → ∃ v, vs[i]? = some v ∧ RelV v u := by
  induction h with
  | nil => intro i u e; simp at e
  | cons r _ ih =>
    intro i u e
    cases i with
    | zero =>
      simp only [List.getElem?_cons_zero, Option.some.injEq] at e
      subst e
      exact ⟨_, rfl, r⟩
    | succ i => simpa using ih i u (by simpa using e)
theorem cr_sumL {X : Cx} (hc : X.calm = true) : CallR X (.builtin "sum") (rSumL X.K) := by
  intro pins s σ H vs us Q I r h
  obtain ⟨a, b, as, x0, ls, rfl, hs, hb, el, hls, hz, q⟩ := h
  obtain ⟨its, rv, hl, _⟩ := I.list hs
  obtain ⟨z0, its0, n0, r0, _, e0⟩ := I.lstM hb
  obtain ⟨ws, w1, w2, w3⟩ := lists_at I as ls el hls
  obtain ⟨u1, u2, rfl, ru1, ru2⟩ : ∃ u1 u2, us = [u1, u2] ∧ RelV (.ref a) u1 ∧ RelV (.ref b) u2 := by
    cases r with
    | cons r1 r2 =>
      cases r2 with
      | cons r2 r3 =>
        cases r3
        exact ⟨_, _, rfl, r1, r2⟩
  cases (show u1 = Value.ref a from ru1)
  cases (show u2 = Value.ref b from ru2)
  have lw := rv.length
  rw [List.length_map] at lw
  have rall := r0.append w2
  refine call_sumL (ls := ws) (I.ok.hd hc) hl.isList e0 (by omega) (fun i v hv => ?_) (by rw [← rall.length]; exact hz) fun h' tk p n hk hp ho => ?_
  · obtain ⟨y, hy, ry⟩ := vals_get rv i v hv
    rw [List.getElem?_map] at hy
    cases ha : as[i]? with
    | none => rw [ha] at hy; cases hy
    | some l =>
      rw [ha] at hy
      cases hy
      obtain ⟨is, n, e1, e2⟩ := w3 i l ha
      exact ⟨l, is, n, ry, e1, e2⟩
  · rcases ho with rfl | ho
    · have e := hk _ _ e0
      rw [hp] at e
      have ez : ls.flatten = [] := by
        unfold lstO at e
        simp only [Option.some.injEq, Obj.mk.injEq, Data.seq.injEq, true_and, and_true] at e
        have e1 := congrArg Array.size e.1
        simp only [List.size_toArray, List.length_append] at e1
        have := w2.length
        exact List.eq_nil_of_length_eq_zero (by omega)
      exact ⟨.ref p, H, I.kept hk, rfl, q p H (Same.refl H) (by rw [ez, List.append_nil]; exact hb) (.inl rfl)⟩
    · exact ⟨.ref p, _, I.laid (a := p) (o := .lst (x0 ++ ls.flatten)) (t' := tk) (fun b u e => hk b u e) ho ⟨hz, _, n, rall, hp⟩, rfl, q p _ (same_new (I.hok.fresh ho)) upd_same (.inr (I.hok.fresh ho))⟩
end Fk

set_option maxHeartbeats 4000000
/-! xs == []. -/
namespace Fk
open PySem PySem.Spec PyProof.Rows L2
def rEqE : R2 := fun x y H Q => ∃ a b xs, x = .ref a ∧ y = .ref b ∧ H a = some (.lst xs) ∧ H b = some (.lst []) ∧ Q (.bl xs.isEmpty) H
theorem op_eqE {X : Cx} (hu : X.A.units + 64 < cLine) : OpR X (compareOp .Eq) rEqE := by
  intro pins s σ H x y v u Q I rx ry h
  obtain ⟨a, b, xs, rfl, rfl, ha, hb, q⟩ := h
  cases rx
  cases ry
  obtain ⟨z1, its1, n1, r1, l1, e1⟩ := I.lstM ha
  obtain ⟨z2, its2, n2, r2, l2, e2⟩ := I.lstM hb
  have hb0 : its2 = [] := by cases r2; rfl
  subst hb0
  have done : EP X pins σ Q (.bool xs.isEmpty) s := ⟨.bl _, H, I, rfl, q⟩
  cases xs with
  | nil =>
    have h0 : its1 = [] := by cases r1; rfl
    subst h0
    exact SeqAt.RcAt.lists (e := fun _ => true) ⟨_, e1, rfl, _, rfl⟩ ⟨_, e2, rfl, _, rfl⟩ rfl (by omega) (fun j j1 _ => absurd j1 (by simp)) _ _ _ _ done
  | cons c r =>
    obtain ⟨u, us, rfl⟩ : ∃ u us, its1 = u :: us := by cases r1; exact ⟨_, _, rfl⟩
    exact SeqAt.RcAt.lists_lengths ⟨_, e1, rfl, _, rfl⟩ ⟨_, e2, rfl, _, rfl⟩ (by simp) (by omega) _ _ _ _ done
end Fk

set_option maxHeartbeats 4000000
namespace Fk
open PySem PySem.Spec PyProof.Rows L2
open LamX
def lamScOf : Expr → Scope
  | .Lambda _ _ sc _ => sc
  | _ => C8.fnScope (.Pass ⟨0, 0, 0, 0⟩)
def argOf : Stmt → Expr
  | .Expr (.Call _ (e :: _) _ _) _ => e
  | _ => .Name "" ⟨0, 0, 0, 0⟩
def lamSc (st : Stmt) (i : Nat) : Scope := lamScOf (argOf ((C8.fnBody st).getD i (.Pass ⟨0, 0, 0, 0⟩)))
def rListOf (K : PySem.W.Frag) : List V → Hp → VK → Prop := fun xs H Q => ∃ p ys, xs = [.ref p] ∧ (SqL K H p ys ∨ SqT K H p ys) ∧ ∀ l, H l = none → Q (.ref l) (upd H l (.lst ys))
theorem call_list_ofK {X : Cx} {K : PySem.W.Frag} (h : X.K = K) : CallR X (.type "list") (rListOf K) := h ▸ call_list_of
def rTupOf (K : PySem.W.Frag) : List V → Hp → VK → Prop := fun xs H Q => ∃ p ys, xs = [.ref p] ∧ ((SqL K H p ys ∧ ∀ l, H l = none → Q (.ref l) (upd H l (.tup ys))) ∨ (SqT K H p ys ∧ Q (.ref p) H))
theorem call_tuple_ofK {X : Cx} {K : PySem.W.Frag} (h : X.K = K) : CallR X (.type "tuple") (rTupOf K) := h ▸ call_tuple_of
theorem op_catAK {X : Cx} {K : PySem.W.Frag} (h : X.K = K) : OpR X (binaryOp .Add) (rCatA K) := h ▸ op_catA
theorem pe_mkKX {X : Cx} {k j n : Nat} {C : Addr} {x : Str} {sp : Sp} {p pos : Pos} {e : Expr} {es : List Expr} {kws : List Keyword} {ks : List Str} {t tk : TA} {gV : List V → List V → List V} {E : XK} (c : MakKX X.prog X.w X.K X.mg X.base k x C sp (n + 1) ks gV) (hr : Room j X.A) (hk : k + 1 ≤ j) (hg : Gl X x) (hx : Passes (L2.CX X.prog X.w) X E) (ha : PA X (e :: es) t) (hkw : PK X kws tk)
    (hall : (backToKw pos (keywordEach kws X.env)).all (·.1.isSome) = true := by rfl) (hks : (backToKw pos (keywordEach kws X.env)).filterMap (·.1) = ks := by rfl) (hdb : (x == ("__debug__" : Str)) = false := by decide)
    (he : starEach (e :: es) X.env = (false, eval e X.env) :: starEach es X.env := by rfl) (hpl : ((backTo pos (starEach (e :: es) X.env)).any (·.1) || (backToKw pos (keywordEach kws X.env)).any (·.1.isNone)) = false := by rfl) :
    PE X (.Call (.Name x p) (e :: es) kws pos) (tMakeK C n ks.length sp gV E t tk) := by
  obtain ⟨f, fd, ps, g, M, F, hm, b⟩ := c.ex
  exact pe_makeK M F (hr.mono hk) hg hm b hx ha hkw hall hks hdb he hpl
theorem ask_kq {X : Cx} {kk : Nat} {f : Addr} {t : XK → TE} {W : Addr} {H H' : Hp} {c : Int} (h : AskOf X kk f t H) (w : Wl H W c) (s : Kq W H H') : AskOf X kk f t H' := by
  obtain ⟨params, body, scope, c', h1, h2, h3⟩ := h
  exact ⟨params, body, scope, c', s.at w (fun _ _ _ z => by cases z) lamE_ne h1, s.at w (fun _ _ _ z => by cases z) codeO_ne h2, h3⟩
/-- the asks so far, at p -/
structure AskSt (X : Cx) (Ps : List Addr) (p : Addr) (H : Hp) (fs : List (Addr × (XK → TE))) : Prop where
  at_ : H p = some (.lst (fs.map fun f => V.ref f.1))
  all : ∀ f ∈ fs, AskOf X 7 f.1 f.2 H
  tab : TabsL qfL Ps H
theorem TabsL.lst {Ps : List Addr} {H : Hp} {p : Addr} {l l' : List V} (t : TabsL qfL Ps H) (h : H p = some (.lst l)) : TabsL qfL Ps (upd H p (.lst l')) := t.ext fun b o nl _ e => by
  rw [upd_ne (fun z => by rw [z, h] at e; exact nl _ (Option.some.inj e).symm)]
  exact e
theorem AskOf.upd {X : Cx} {kk : Nat} {f p : Addr} {t : XK → TE} {H : Hp} {l : List V} {o : HO} (a : AskOf X kk f t H) (h : H p = some (.lst l)) : AskOf X kk f t (upd H p o) := by
  obtain ⟨params, body, scope, c', h1, h2, h3⟩ := a
  have ne : ∀ {b : Addr} {φ : Heap → Prop}, H b = some (.ext φ) → b ≠ p := fun e z => by rw [z, h] at e; cases e
  exact ⟨params, body, scope, c', by rw [upd_ne (ne h1)]; exact h1, by rw [upd_ne (ne h2)]; exact h2, h3⟩
theorem AskSt.one {X : Cx} {Ps : List Addr} {p f : Addr} {t : XK → TE} {H : Hp} (hp : H p = none) (tb : TabsL qfL Ps H) (af : AskOf X 7 f t H) : AskSt X Ps p (upd H p (.lst [.ref f])) [(f, t)] :=
  ⟨upd_same, fun x hx => by
    obtain rfl := List.mem_singleton.mp hx
    exact af.ext (ExtN.of (same_new hp)), tb.same (same_new hp)⟩
theorem AskSt.step {X : Cx} {Ps : List Addr} {p f : Addr} {t : XK → TE} {H H2 : Hp} {fs : List (Addr × (XK → TE))} (s : AskSt X Ps p H fs) (e : ExtN H H2) (tb : TabsL qfL Ps H2) (af : AskOf X 7 f t H2) :
    H2 p = some (.lst (fs.map fun f => V.ref f.1)) ∧ AskSt X Ps p (upd H2 p (.lst ((fs.map fun f => V.ref f.1) ++ [.ref f]))) (fs ++ [(f, t)]) := by
  have h2 := e _ _ s.at_ (fun ps z => nomatch z)
  refine ⟨h2, by rw [upd_same, List.map_append]; rfl, fun x hx => ?_, tb.lst h2⟩
  rcases List.mem_append.mp hx with h | h
  · exact ((s.all x h).ext e).upd h2
  · obtain rfl := List.mem_singleton.mp h
    exact af.upd h2
theorem AskSt.fr {X : Cx} {Ps : List Addr} {p W : Addr} {H H2 : Hp} {fs : List (Addr × (XK → TE))} {c : Int} (s : AskSt X Ps p H fs) (w : Wl H W c) (n : p ≠ W) (f : Fr W H H2) : AskSt X Ps p H2 fs :=
  ⟨f _ _ n s.at_, fun x hx => ask_kq (s.all x hx) w (Kq.fr f), TabsL.fr s.tab w f⟩
theorem AskSt.same {X : Cx} {Ps : List Addr} {p : Addr} {H H2 : Hp} {fs : List (Addr × (XK → TE))} (s : AskSt X Ps p H fs) (f : Same H H2) : AskSt X Ps p H2 fs :=
  ⟨f _ _ s.at_, fun x hx => (s.all x hx).ext (ExtN.of f), s.tab.same f⟩
/-- what is kept by a change of the asks' own list -/
theorem Kq.mutL {W p : Addr} {H0 H H2 : Hp} {o : HO} (k : Kq W H0 H) (e : ExtN H H2) (n : ∀ u, (∀ ps, u ≠ .tbl ps) → H0 p ≠ some u) : Kq W H0 (upd H2 p o) := fun b u nb t h => by
  rw [upd_ne (fun z => n u t (by rw [← z]; exact h))]
  exact e _ _ (k b u nb t h) t
/-- the asks so far, with what is kept of the heap before them -/
structure AskAt (X : Cx) (Ps : List Addr) (W p : Addr) (k : Int) (H0 H : Hp) (fs : List (Addr × (XK → TE))) : Prop where
  st : AskSt X Ps p H fs
  kq : Kq W H0 H
  ws : Wl H W k
  nw : p ≠ W
  no : ∀ u, (∀ ps, u ≠ .tbl ps) → H0 p ≠ some u
theorem AskAt.one {X : Cx} {Ps : List Addr} {W p f : Addr} {k : Int} {t : XK → TE} {H0 H : Hp} (w : Wl H0 W k) (e : ExtN H0 H) (tb : TabsL qfL Ps H) (af : AskOf X 7 f t H) (hp : H p = none) : AskAt X Ps W p k H0 (upd H p (.lst [.ref f])) [(f, t)] :=
  ⟨AskSt.one hp tb af, (Kq.extN e).trans (Kq.same (same_new hp)), (w.ext e).new hp, (w.ext e).ne hp, fun u t' h => by
    have := e _ _ h t'
    rw [hp] at this
    cases this⟩
theorem AskAt.step {X : Cx} {Ps : List Addr} {W p f : Addr} {k : Int} {t : XK → TE} {H0 H H2 : Hp} {fs : List (Addr × (XK → TE))} (s : AskAt X Ps W p k H0 H fs) (e : ExtN H H2) (tb : TabsL qfL Ps H2) (af : AskOf X 7 f t H2) :
    H2 p = some (.lst (fs.map fun f => V.ref f.1)) ∧ AskAt X Ps W p k H0 (upd H2 p (.lst ((fs.map fun f => V.ref f.1) ++ [.ref f]))) (fs ++ [(f, t)]) := by
  obtain ⟨h, st⟩ := s.st.step e tb af
  exact ⟨h, st, s.kq.mutL e s.no, (s.ws.ext e).mut s.nw, s.nw, s.no⟩
theorem AskAt.nth {X : Cx} {Ps : List Addr} {W p f : Addr} {k : Int} {t : XK → TE} {H0 H : Hp} {fs : List (Addr × (XK → TE))} (s : AskAt X Ps W p k H0 H fs) (i : Nat) (h : fs[i]? = some (f, t)) : AskOf X 7 f t H := s.st.all (f, t) (List.mem_of_getElem? h)
theorem AskAt.fr {X : Cx} {Ps : List Addr} {W p : Addr} {k k' : Int} {H0 H H2 : Hp} {fs : List (Addr × (XK → TE))} (s : AskAt X Ps W p k H0 H fs) (f : Fr W H H2) (w : Wl H2 W k') : AskAt X Ps W p k' H0 H2 fs :=
  ⟨s.st.fr s.ws s.nw f, s.kq.trans (Kq.fr f), w, s.nw, s.no⟩
theorem AskAt.same {X : Cx} {Ps : List Addr} {W p : Addr} {k : Int} {H0 H H2 : Hp} {fs : List (Addr × (XK → TE))} (s : AskAt X Ps W p k H0 H fs) (f : Same H H2) : AskAt X Ps W p k H0 H2 fs :=
  ⟨s.st.same f, s.kq.trans (Kq.same f), s.ws.same f, s.nw, s.no⟩
theorem abcxyz_let : ∀ u ∈ TL.tl ("abcxyz" : Str), u ∈ TL.tl LET := by decide +kernel
theorem ok_one : OkS ("1" : Str) := by
  have h : ∀ u ∈ TL.tl ("1" : Str), u < 1114112 := by decide +kernel
  exact h
theorem cut_msg {x : Str} (ox : isTextF x = true) : isTextF (cutS x none (some 200)) = true ∧ (cutS x none (some 200)).length ≤ 200 := by
  have e := cut_to x 200
  rw [show ((200 : Nat) : Int) = 200 from rfl] at e
  constructor
  · have hx := ox
    unfold isTextF at hx ⊢
    obtain ⟨x1, x2⟩ := Bool.and_eq_true_iff.mp hx
    have x1 := of_decide_eq_true x1
    have c1 := cutS_le x none (some 200)
    rw [Bool.and_eq_true]
    refine ⟨decide_eq_true (by omega), ?_⟩
    rw [e]
    exact List.all_eq_true.mpr fun u hu => List.all_eq_true.mp x2 u (List.mem_of_mem_take hu)
  · rw [TL.len_tl, e, List.length_take]
    omega
theorem rev_eq {ps : List Str} (nd : ps.Nodup) : ps.reverse = ps ↔ ps.length < 2 := by
  constructor
  · intro e
    rcases Nat.lt_or_ge ps.length 2 with h | h
    · exact h
    · exfalso
      have h0 : 0 < ps.length := by omega
      have h1 : ps.length - 1 < ps.length := by omega
      have g : ps.reverse[0]? = ps[0]? := by rw [e]
      rw [List.getElem?_reverse h0, Nat.sub_zero, List.getElem?_eq_getElem h1, List.getElem?_eq_getElem h0] at g
      have := nodup_inj nd h1 h0 (Option.some.inj g)
      omega
  · intro h
    match ps, h with
    | [], _ => rfl
    | [x], _ => rfl
theorem short_id {t : Str} (h : isIdF t = true) : isIdF (cutS t (some 1) none) = false := by
  have l : (cutS t (some 1) none).length = 15 := by
    have e := cut_from t 1
    rw [show ((1 : Nat) : Int) = 1 from rfl] at e
    rw [TL.len_tl, e, List.length_drop, ← TL.len_tl]
    have := (ok_id h).2
    omega
  unfold isIdF
  rw [decide_eq_false (by omega), Bool.false_and]
/-- a commit's fields as data -/
def comD (t : Str) (ps : List Str) (au : Str) (tm : Int) (msg : Str) : PyData := .tuple [.str t, .tuple (ps.map PyData.str), .str au, .int tm, .str msg]
theorem comD_eqv (t : Str) (ps : List Str) (au : Str) (tm : Int) (msg : Str) : PyData.eqv (comD t ps au tm msg) (comD t ps au tm msg) = true := by
  show PyData.eqvAll [.str t, .tuple (ps.map PyData.str), .str au, .int tm, .str msg] [.str t, .tuple (ps.map PyData.str), .str au, .int tm, .str msg] = true
  refine eqvAll_refl fun d hd => ?_
  simp only [List.mem_cons, List.not_mem_nil, or_false] at hd
  rcases hd with rfl | rfl | rfl | rfl | rfl
  · simp [PyData.eqv]
  · show PyData.eqvAll _ _ = true
    rw [eqv_tups]
    exact decide_eq_true rfl
  · simp [PyData.eqv]
  · simp [PyData.eqv]
  · simp [PyData.eqv]
theorem comD_shaped {t : Str} {ps : List Str} {au : Str} {tm : Int} {msg : Str} (h1 : OkS t) (h2 : ∀ y ∈ ps, OkS y) (h3 : OkS au) (h4 : OkS msg) : SeqAt.shaped (comD t ps au tm msg) = true := by
  have := lay_strs [t, au, msg] (fun y hy => by
    simp only [List.mem_cons, List.not_mem_nil, or_false] at hy
    rcases hy with rfl | rfl | rfl
    · exact h1
    · exact h3
    · exact h4)
  simp [PyData.canLay0, PyData.canLayAll0] at this
  have hp := lay_strs ps h2
  have hd := depth_strs ps
  simp [comD, SeqAt.shaped, PyData.canLay0, PyData.canLayAll0, hp, PyData.depth, PyData.depthAll, hd, this]
section
variable {P : Program} {w : World} {K : PySem.W.Frag} {mg : Str → Option Value} {base : Heap} {c : C4} {CS cX iX ek pd : Addr}
theorem dp_com {H : Hp} {p pp : Addr} {t : Str} {ps : List Str} {au : Str} {tm : Int} {msg : Str} (h : H p = some (.tup [.str t, .ref pp, .str au, .int tm, .str msg])) (hp : TupK K H pp (ps.map V.str)) : Dp K H (.ref p) (comD t ps au tm msg) :=
  .tup (SqT.of h) (.cons (.str t) (.cons (.tup hp.sq (dp_strs ps)) (.cons (.str au) (.cons (.int tm) (.cons (.str msg) .nil)))))
theorem BadCom.same {H H' : Hp} {t p au tm msg : V} (h : BadCom K H t p au tm msg) (s : Same H H') : BadCom K H' t p au tm msg := by
  obtain ⟨b, h1, h2, h3, h4, h5, h6⟩ := h
  exact ⟨b, h1.same s, h2.same s, h3.same s, h4.same s, h5.same s, h6⟩
theorem mk_badC {H : Hp} {a dx : Addr} {t p au tm msg : V} {Q : VK} {E : XK} (ha : H a = none) (hd : H dx = none) (b : BadCom K H t p au tm msg) (q : ∀ dd y H', Same H H' → H' dd = some (.xd [("why", y)]) → E (.ref cX) (some dd) H') :
    spCommitN K cX [.ref a, t, p, au, tm, msg] (upd (upd H dx (.own a)) a (.ins c.C dx [])) Q E :=
  have sM := made_same ha hd (Fr.refl _ _)
  ⟨a, t, p, au, tm, msg, rfl, b.same sM, fun dd y H5 s5 h5 => q dd y H5 (sM.trans s5) h5⟩
theorem th_id {x : Str} (h : isIdF x = true) (H : Hp) : Thing H (.str x) := .str x (by have := (ok_id h).2; omega) (ok_id h).1
theorem th_cut {x : Str} (h : isIdF x = true) (H : Hp) : Thing H (.str (cutS x (some 1) none)) := .str _ (by have := (ok_id h).2; have := cutS_le x (some 1) none; omega) (ok_cut (ok_id h).1 _ _)
theorem th_word {x : Str} (h : isWordF LET x = true) (H : Hp) : Thing H (.str x) := .str x (by have := (word_ok h ok_let).2; omega) (word_ok h ok_let).1
theorem th_nil (H : Hp) : Thing H (.str "") := .str _ (by decide) (fun _ z => by cases z)
def id7 (u : Nat) : Str := repS ("0" : Str) (Int.toNat 15) ++ Str.ofString (toString (u : Int))
theorem id7_ok : ∀ x ∈ (List.range 7).map id7, isIdF x = true := by decide +kernel
theorem nodup2 {ps : List Str} {t : Str} (n : ¬ (ps ++ [t, t]).Nodup → False) : False := n fun z => by
  have := (List.nodup_append.mp z).2.1
  simp at this
def spCoR (P1 P2 P3 : Addr) : Sp := fun vs H Q _ => ∃ (W : Addr) (k : Int), vs = [.ref W] ∧ Wl H W k ∧ k < 2 ^ 35 ∧ TabsL qfL [P1, P2, P3] H ∧ ∀ H' k', Wl H' W k' → k ≤ k' → k' ≤ k + 10000 → Kq W H H' → TabsL qfL [P1, P2, P3] H' → Q (.bl true) H'
set_option pp.maxSteps 200 in
theorem c_l_commit_right (T : TopO K mg c CS cX iX ek pd) {cd P1 P2 P3 : Addr} (TB : TabB base mg cd P2) (D : IsDefC K mg "_law_commit_right" s_l_commit_right cd) : C8.Cal P w K mg base 10 "_law_commit_right" (spCoR P1 P2 P3) [] := by
  refine cal_ofC D sc_l_commit_right (fun _ _ _ _ _ _ us hl => match us, hl with | [_], _ => rfl) (fun vs H Q E h => ?_) (fun fa A outer s H vs Q E hr h => ?_)
  · obtain ⟨W, c, rfl, _⟩ := h
    rfl
  · obtain ⟨W, k, rfl, hw, hk, tb, q⟩ := h
    have hk0 := hw.1
    refine ⟨_, (pss_cons (ps_asg (pe_tup (pa_cons (C8.pe_c (c_l_id T.toTop) hr (by decide) (by rfl) (pa_cons (pv 0) pa_nil)) (pa_cons (C8.pe_c (c_l_parents T.toTop) hr (by decide) (by rfl) (pa_cons (pv 0) pa_nil)) pa_nil))) (pg_tup rfl (pgs_cons (pg_name (i := 1) sc_l_commit_right.nd rfl (Or.inr rfl)) (pgs_cons (pg_name (i := 2) sc_l_commit_right.nd rfl (Or.inr rfl)) pgs_nil))))
      (pss_cons (ps_set (i := 3) sc_l_commit_right.nd rfl (Or.inr rfl) (C8.pe_c (c_l_signs T.toTop) hr (by decide) (by rfl) (pa_cons (pv 0) (pa_cons pe_str (pa_cons pe_int (pa_cons pe_int pa_nil))))))
      (pss_cons (ps_set (i := 4) sc_l_commit_right.nd rfl (Or.inr rfl) (C8.pe_c (c_l_pick T.toTop) hr (by decide) (by rfl) (pa_cons (pv 0) (pa_cons (pe_lst (pa_cons pe_int (pa_cons (C8.pe_c (c_l_draw T.toTop) hr (by decide) (by rfl) (pa_cons (pv 0) (pa_cons pe_int pa_nil))) (pa_cons (pe_op op_pow pe_int pe_int) (pa_cons (C8.pe_c (c_l_draw T.toTop) hr (by decide) (by rfl) (pa_cons (pv 0) (pa_cons (pe_op op_pow pe_int pe_int) pa_nil))) pa_nil))))) pa_nil))))
      (pss_cons (ps_set (i := 5) sc_l_commit_right.nd rfl (Or.inl rfl) (pe_slice sl_str (C8.pe_c (c_l_text T.toTop) hr (by decide) (by rfl) (pa_cons (pv 0) pa_nil)) po_none (po_some pe_int)))
      (pss_cons (ps_set (i := 6) sc_l_commit_right.nd rfl (Or.inl rfl) (pe_mkK (k_Commit_2_author_time_message T) hr (by decide) (by rfl) (pa_cons (pv 1) (pa_cons (pv 2) pa_nil)) (pk_cons (pv 3) (pk_cons (pv 4) (pk_cons (pv 5) pk_nil)))))
      (pss_cons (ps_if (pt_cmpR (op_neD hr.units) (pe_tup (pa_cons (pe_pr (p_Commit_tree T) hr (by decide) (pv 6)) (pa_cons (pe_pr (p_Commit_parents T) hr (by decide) (pv 6)) (pa_cons (pe_pr (p_Commit_author T) hr (by decide) (pv 6)) (pa_cons (pe_pr (p_Commit_time T) hr (by decide) (pv 6)) (pa_cons (pe_pr (p_Commit_message T) hr (by decide) (pv 6)) pa_nil)))))) (pe_tup (pa_cons (pv 1) (pa_cons (pv 2) (pa_cons (pv 3) (pa_cons (pv 4) (pa_cons (pv 5) pa_nil)))))) (nomark _))
      (pss_one (ps_ret pe_bl))
      pss_nil)
      (pss_cons (ps_set (i := 7) sc_l_commit_right.nd rfl (Or.inl rfl) (pe_mkK (k_Commit_1_author_time T) hr (by decide) (by rfl) (pa_cons (pv 1) pa_nil) (pk_cons (pv 3) (pk_cons (pv 4) pk_nil))))
      (C8.pss_cut (ps_if (PW.pt (pw_or (pt_cmpR (op_neD hr.units) (pe_pr (p_Commit_parents T) hr (by decide) (pv 7)) (pe_tup pa_nil) (nomark _)) (pw_or (pt_cmpR op_ne (pe_pr (p_Commit_message T) hr (by decide) (pv 7)) pe_str (nomark _)) (pw_or1 (pt_cmpR op_ne (pe_cmpR (op_obEq T (hr.mono (by decide))) (pv 7) (pv 6) (nomark _)) (pe_and (pe_cmpR (op_eqD hr.units) (pv 2) (pe_tup pa_nil) (nomark _)) (pe_one (pe_cmpR op_eq (pv 5) pe_str (nomark _)))) (nomark _))))))
      (pss_one (ps_ret pe_bl))
      pss_nil)
      (C8.pss_cut (ps_for PassesOwn.never rfl (pi_list (pe_lst (pa_cons (pe_mkK (k_Commit_2_author_time_message T) hr (by decide) (by rfl) (pa_cons (pv 1) (pa_cons (pe_back (pv 2) (pe_un un_neg pe_int)) pa_nil)) (pk_cons (pv 3) (pk_cons (pv 4) (pk_cons (pv 5) pk_nil)))) pa_nil))) (pg_name (i := 8) sc_l_commit_right.nd rfl (Or.inl rfl))
      (pss_one (ps_if (pt_cmpR op_ne (pe_cmpR (op_obEq T (hr.mono (by decide))) (pv 8) (pv 6) (nomark _)) (pe_cmpR op_lt (pe_callB call_len_seq (by rfl) T.z_len (by decide +kernel) (pa_cons (pv 2) pa_nil)) pe_int (nomark _)) (nomark _))
      (pss_one (ps_ret pe_bl))
      pss_nil)))
      (pss_cons (ps_set (i := 9) sc_l_commit_right.nd rfl (Or.inl rfl) (pe_lst (pa_cons (pe_lamL (qf := qfL) (Ps := [P1, P2, P3]) (k := 7) TB rfl (List.mem_cons_of_mem _ List.mem_cons_self) rfl (show LamS (C8.fnScope s_l_commit_right) _ from lamS_by (by decide +kernel)) rfl (fun _ _ _ _ _ => rfl) (fun A outer s H E f c2 hr2 => (pe_mkKX (k_CommitX_2 (P := P) (w := w) (base := base) T) hr2 (by decide) (by rfl) (passes_call takes_lam fun _ _ _ _ h => h) (pa_cons (pe_slice sl_str (pv 1) (po_some pe_int) po_none) (pa_cons (pv 2) pa_nil)) (pk_cons (pv 3) (pk_cons (pv 4) pk_nil))))) pa_nil)))
      (pss_cons (ps_expr (pe_bm PySem.F.plainAttrs_list PySem.F.slot_list_append PySem.F.type_list_append mt_append (pv 9) (pa_cons (pe_lamL (qf := qfL) (Ps := [P1, P2, P3]) (k := 7) TB rfl (List.mem_cons_of_mem _ List.mem_cons_self) rfl (show LamS (C8.fnScope s_l_commit_right) _ from lamS_by (by decide +kernel)) rfl (fun _ _ _ _ _ => rfl) (fun A outer s H E f c2 hr2 => (pe_mkKX (k_CommitX_2 (P := P) (w := w) (base := base) T) hr2 (by decide) (by rfl) (passes_call takes_lam fun _ _ _ _ h => h) (pa_cons (pv 1) (pa_cons (pe_op (op_catAK (K := K) rfl) (pv 2) (pe_tup (pa_cons (pv 1) (pa_cons (pv 1) pa_nil)))) pa_nil)) (pk_cons (pv 3) (pk_cons (pv 4) pk_nil))))) pa_nil)))
      (pss_cons (ps_expr (pe_bm PySem.F.plainAttrs_list PySem.F.slot_list_append PySem.F.type_list_append mt_append (pv 9) (pa_cons (pe_lamL (qf := qfL) (Ps := [P1, P2, P3]) (k := 7) TB rfl (List.mem_cons_of_mem _ List.mem_cons_self) rfl (show LamS (C8.fnScope s_l_commit_right) _ from lamS_by (by decide +kernel)) rfl (fun _ _ _ _ _ => rfl) (fun A outer s H E f c2 hr2 => (pe_mkKX (k_CommitX_2 (P := P) (w := w) (base := base) T) hr2 (by decide) (by rfl) (passes_call takes_lam fun _ _ _ _ h => h) (pa_cons (pv 1) (pa_cons (pe_callTy (call_list_ofK (K := K) rfl) (by rfl) T.z_list (by decide +kernel) (pa_cons (pv 2) pa_nil)) pa_nil)) (pk_cons (pv 3) (pk_cons (pv 4) pk_nil))))) pa_nil)))
      (pss_cons (ps_expr (pe_bm PySem.F.plainAttrs_list PySem.F.slot_list_append PySem.F.type_list_append mt_append (pv 9) (pa_cons (pe_lamL (qf := qfL) (Ps := [P1, P2, P3]) (k := 7) TB rfl (List.mem_cons_of_mem _ List.mem_cons_self) rfl (show LamS (C8.fnScope s_l_commit_right) _ from lamS_by (by decide +kernel)) rfl (fun _ _ _ _ _ => rfl) (fun A outer s H E f c2 hr2 => (pe_mkKX (k_CommitX_2 (P := P) (w := w) (base := base) T) hr2 (by decide) (by rfl) (passes_call takes_lam fun _ _ _ _ h => h) (pa_cons (pv 1) (pa_cons (pe_tup (pa_cons pe_non pa_nil)) pa_nil)) (pk_cons (pv 3) (pk_cons (pv 4) pk_nil))))) pa_nil)))
      (pss_cons (ps_expr (pe_bm PySem.F.plainAttrs_list PySem.F.slot_list_append PySem.F.type_list_append mt_append (pv 9) (pa_cons (pe_lamL (qf := qfL) (Ps := [P1, P2, P3]) (k := 7) TB rfl (List.mem_cons_of_mem _ List.mem_cons_self) rfl (show LamS (C8.fnScope s_l_commit_right) _ from lamS_by (by decide +kernel)) rfl (fun _ _ _ _ _ => rfl) (fun A outer s H E f c2 hr2 => (pe_mkKX (k_CommitX_2 (P := P) (w := w) (base := base) T) hr2 (by decide) (by rfl) (passes_call takes_lam fun _ _ _ _ h => h) (pa_cons (pv 1) (pa_cons (pv 2) pa_nil)) (pk_cons (C8.pe_c (c_l_pick T.toTop) hr2 (by decide) (by rfl) (pa_cons (pv 0) (pa_cons (pe_lst (pa_cons pe_str (pa_cons pe_str (pa_cons pe_str (pa_cons pe_non (pa_cons pe_int pa_nil)))))) pa_nil))) (pk_cons (pv 4) pk_nil))))) pa_nil)))
      (pss_cons (ps_set (i := 10) sc_l_commit_right.nd rfl (Or.inr rfl) (C8.pe_c (c_l_pick T.toTop) hr (by decide) (by rfl) (pa_cons (pv 0) (pa_cons (pe_lst (pa_cons (pe_un un_neg pe_int) (pa_cons (pe_op op_add (pe_op op_pow pe_int pe_int) pe_int) (pa_cons pe_bl (pa_cons pe_str (pa_cons pe_non pa_nil)))))) pa_nil))))
      (pss_cons (ps_set (i := 11) sc_l_commit_right.nd rfl (Or.inr rfl) (C8.pe_c (c_l_pick T.toTop) hr (by decide) (by rfl) (pa_cons (pv 0) (pa_cons (pe_lst (pa_cons (pe_op op_mul_si pe_str pe_int) (pa_cons pe_non pa_nil))) pa_nil))))
      (pss_cons (ps_expr (pe_bm PySem.F.plainAttrs_list PySem.F.slot_list_append PySem.F.type_list_append mt_append (pv 9) (pa_cons (pe_lamL (qf := qfL) (Ps := [P1, P2, P3]) (k := 7) TB rfl (List.mem_cons_of_mem _ List.mem_cons_self) rfl (show LamS (C8.fnScope s_l_commit_right) _ from lamS_by (by decide +kernel)) rfl (fun _ _ _ _ _ => rfl) (fun A outer s H E f c2 hr2 => (pe_mkKX (k_CommitX_2 (P := P) (w := w) (base := base) T) hr2 (by decide) (by rfl) (passes_call takes_lam fun _ _ _ _ h => h) (pa_cons (pv 1) (pa_cons (pv 2) pa_nil)) (pk_cons (pv 3) (pk_cons (pv 10) pk_nil))))) pa_nil)))
      (pss_cons (ps_expr (pe_bm PySem.F.plainAttrs_list PySem.F.slot_list_append PySem.F.type_list_append mt_append (pv 9) (pa_cons (pe_lamL (qf := qfL) (Ps := [P1, P2, P3]) (k := 7) TB rfl (List.mem_cons_of_mem _ List.mem_cons_self) rfl (show LamS (C8.fnScope s_l_commit_right) _ from lamS_by (by decide +kernel)) rfl (fun _ _ _ _ _ => rfl) (fun A outer s H E f c2 hr2 => (pe_mkKX (k_CommitX_2f (P := P) (w := w) (base := base) T) hr2 (by decide) (by rfl) (passes_call takes_lam fun _ _ _ _ h => h) (pa_cons (pv 1) (pa_cons (pv 2) pa_nil)) (pk_cons (pv 3) (pk_cons (pv 4) (pk_cons (pv 11) pk_nil)))))) pa_nil)))
      (pss_cons (ps_expr (pe_bm PySem.F.plainAttrs_list PySem.F.slot_list_append PySem.F.type_list_append mt_append (pv 9) (pa_cons (pe_lamL (qf := qfL) (Ps := [P1, P2, P3]) (k := 7) TB rfl (List.mem_cons_of_mem _ List.mem_cons_self) rfl (show LamS (C8.fnScope s_l_commit_right) _ from lamS_by (by decide +kernel)) rfl (fun _ _ _ _ _ => rfl) (fun A outer s H E f c2 hr2 => (pe_mkKX (k_CommitX_2 (P := P) (w := w) (base := base) T) hr2 (by decide) (by rfl) (passes_call takes_lam fun _ _ _ _ h => h) (pa_cons (pv 1) (pa_cons (pe_callTy (call_tuple_ofK (K := K) rfl) (by rfl) T.z_tuple (by decide +kernel) (pa_cons (pe_lc (own := [("_law_k", 12)]) (g := gName 12) (by rfl) sc_l_commit_right.nd (pi_range1 (by rfl) T.z_range (pa_cons pe_int pa_nil)) (blkOk_by (own := [("_law_k", 12)]) (N := ["_law_well_here", "_law_tree", "_law_parents_here", "_law_hand", "_law_moment", "_law_text_here", "_law_made", "_law_plain", "_law_other", "_law_asks", "_law_bad_time", "_law_bad_text", "_law_k", "_law_ask"]) (sc := lamSc s_l_commit_right 18) (by decide +kernel)) (fun _ _ _ _ _ => (pg_name (i := 12) sc_l_commit_right.nd rfl (Or.inl rfl))) (fun _ _ _ _ _ => pts_nil) (fun _ _ _ _ _ => (pe_op op_add_str (pe_op op_mul_si pe_str pe_int) (pe_callTy call_str_int (by rfl) T.z_str (by decide +kernel) (pa_cons (pv 12) pa_nil))))) pa_nil)) pa_nil)) (pk_cons (pv 3) (pk_cons (pv 4) pk_nil))))) pa_nil)))
      (pss_one (ps_ret (pe_cmpR (op_eqE hr.units) (pe_lcI (own := [("_law_ask", 13)]) (g := gName 13) (by rfl) sc_l_commit_right.nd (pi_list (pv 9)) (blkOk_by (own := [("_law_ask", 13)]) (N := ["_law_well_here", "_law_tree", "_law_parents_here", "_law_hand", "_law_moment", "_law_text_here", "_law_made", "_law_plain", "_law_other", "_law_asks", "_law_bad_time", "_law_bad_text", "_law_k", "_law_ask"]) (sc := C8.fnScope s_l_commit_right) (by decide +kernel)) (fun _ _ _ _ _ => (pg_name (i := 13) sc_l_commit_right.nd rfl (Or.inl rfl))) (fun pins σ s H C cl fp B => pts_one (pt_not (pt_val (pe_askY (k := 7) B T.d_l_refused sc_l_refused (fun _ _ _ _ _ _ us hl => match us, hl with | [_], _ => rfl) (by rfl) rfl (.inl rfl) (fun g cdg => refused_gives T) hr (by decide) (pv 13))))) (fun pins σ s H C cl fp B => (pv 13))) (pe_lst pa_nil) (nomark _))))))))))))))))))))))), ?_⟩
    refine ⟨.ref W, rfl, W, k, rfl, hw, by omega, fun t ht htl H1 k1 f1 w1 l1 m1 => ⟨.ref W, rfl, W, k1, rfl, w1, by omega, fun pp ps H2 k2 npp f2 w2 l2 m2 nppW hps hpl hpn hpi => ⟨(by show 2 ≤ sizeLine; decide), fun tp ntp => ?_⟩⟩⟩
    have s3 := same_new (o := .tup [V.str t, .ref pp]) ntp
    refine ⟨tp, _, rfl, SqT.of upd_same, rfl, .str t, _, rfl, .ref pp, _, rfl, rfl, ?_⟩
    have w3 := w2.same s3
    generalize upd H2 tp (.tup [V.str t, .ref pp]) = H3 at s3 w3
    refine ⟨.ref W, rfl, W, "abcxyz", 1, 12, k2, rfl, w3, by decide +kernel, by decide +kernel, by decide, by decide, by omega, fun au hau hl1 hl2 H4 k4 f4 w4 l4 m4 => ?_⟩
    have oka : isWordF LET au = true := word_of (fun u hu => abcxyz_let u (hau u hu)) hl1 hl2
    refine ⟨.ref W, rfl, .ref W, rfl, do_draw w4 (by decide) (by decide) (by omega) fun r1 hr1 H5 k5 f5 w5 l5 m5 => ⟨10, 12, rfl, rfl, ⟨by decide, by decide, by decide⟩, .ref W, rfl, 10, 12, rfl, rfl, ⟨by decide, by decide, by decide⟩, do_draw w5 (by decide) (by decide) (by omega) fun r2 hr2 H6 k6 f6 w6 l6 m6 => ⟨(by show 4 ≤ sizeLine; decide), fun b hb => do_pick (w6.new hb) upd_same (w6.ne hb) (by show 0 < 4; decide) (by show 4 < 1000000; decide) (by omega) fun v hv H7 k7 f7 w7 l7 m7 => ?_⟩⟩⟩
    obtain ⟨tm, rfl, t0, t1⟩ : ∃ tm : Int, v = .int tm ∧ 0 ≤ tm ∧ tm ≤ 1000000000000 := by
      simp only [List.mem_cons, List.not_mem_nil, or_false] at hv
      rcases hv with rfl | rfl | rfl | rfl
      · exact ⟨_, rfl, by decide, by decide⟩
      · exact ⟨_, rfl, by omega, by omega⟩
      · exact ⟨_, rfl, by decide, by decide⟩
      · refine ⟨_, rfl, by omega, ?_⟩
        have : ((r2 : Nat) : Int) < 1000000000000 := hr2
        omega
    refine ⟨.ref W, rfl, W, k7, rfl, w7, by omega, fun x ox lx H8 k8 f8 w8 l8 m8 => ⟨_, rfl, x, rfl, small_line (by omega), ?_⟩⟩
    obtain ⟨okm, lm⟩ := cut_msg ox
    generalize cutS x none (some 200) = msg at okm lm
    have oki : isIdF t = true := id_of ht htl
    have f38 : Fr W H3 H8 := f4.trans (f5.trans (f6.trans ((Fr.new hb).trans (f7.trans f8))))
    have F8 : Fr W H H8 := f1.trans (f2.trans ((Fr.same s3).trans f38))
    have hps8 : H8 pp = some (.tup (ps.map V.str)) := ((Kq.fr f38).tups w3) _ _ (s3 _ _ hps)
    have okC : Ob.ok (.commit t ps au tm msg) := ⟨oki, hpl, hpn, hpi, oka, t0, t1, okm, lm⟩
    refine ⟨.str t, rfl, .ref pp, rfl, .str au, rfl, .int tm, rfl, .str msg, rfl, rfl, rfl, fun a dx ha hdx _ => mk_commit (K := K) (.inl hps8) okC ha hdx fun H9 s9 o9 => ?_⟩
    obtain ⟨dx', p', ho9, hpp9⟩ := id o9
    refine ⟨.ref a, rfl, a, dx', _, rfl, ho9, a, dx', _, .str t, rfl, ho9, rfl, .ref a, rfl, a, dx', _, rfl, ho9, a, dx', _, .ref p', rfl, ho9, rfl, .ref a, rfl, a, dx', _, rfl, ho9, a, dx', _, .str au, rfl, ho9, rfl, .ref a, rfl, a, dx', _, rfl, ho9, a, dx', _, .int tm, rfl, ho9, rfl, .ref a, rfl, a, dx', _, rfl, ho9, a, dx', _, .str msg, rfl, ho9, rfl, (by show 5 ≤ sizeLine; decide), fun q1 nq1 => ?_⟩
    have s10 := same_new (o := .tup [V.str t, .ref p', .str au, .int tm, .str msg]) nq1
    have h10 := upd_same (H := H9) (a := q1) (o := .tup [V.str t, .ref p', .str au, .int tm, .str msg])
    generalize upd H9 q1 (.tup [V.str t, .ref p', .str au, .int tm, .str msg]) = H10 at s10 h10
    refine ⟨.str t, rfl, .ref pp, rfl, .str au, rfl, .int tm, rfl, .str msg, rfl, (by show 5 ≤ sizeLine; decide), fun q2 nq2 => ?_⟩
    have s11 := same_new (o := .tup [V.str t, .ref pp, .str au, .int tm, .str msg]) nq2
    have h11 := upd_same (H := H10) (a := q2) (o := .tup [V.str t, .ref pp, .str au, .int tm, .str msg])
    generalize upd H10 q2 (.tup [V.str t, .ref pp, .str au, .int tm, .str msg]) = H11 at s11 h11
    have s911 := s10.trans s11
    have d1 : Dp K H11 (.ref q1) (comD t ps au tm msg) := dp_com (s11 _ _ h10) (hpp9.keep (TupKeep.of s911))
    have d2 : Dp K H11 (.ref q2) (comD t ps au tm msg) := dp_com h11 (.inl (s911 _ _ (s9 _ _ hps8)))
    have sh := comD_shaped (tm := tm) (ok_id oki).1 (fun y hy => (ok_id (hpi y hy)).1) (word_ok oka ok_let).1 (ok_text okm)
    refine ⟨_, _, d1, d2, sh, sh, _, rfl, ?_⟩
    rw [comD_eqv]
    refine iteF ?_
    have okP : Ob.ok (.commit t [] au tm "") := ⟨oki, by decide, List.nodup_nil, (fun _ z => nomatch z), oka, t0, t1, by decide +kernel, by decide +kernel⟩
    refine ⟨.str t, rfl, .str au, rfl, .int tm, rfl, rfl, rfl, fun a2 dx2 ha2 hdx2 _ => mk_commit (K := K) (ps := []) (.inr T.kP) okP ha2 hdx2 fun H12 s12 o12 => ?_⟩
    obtain ⟨dx3, p3, ho12, hpp12⟩ := id o12
    have o912 := o9.same (s911.trans s12)
    refine ⟨fun σ' H' => σ' = [some (.ref W), some (.str t), some (.ref pp), some (.str au), some (.int tm), some (.str msg), some (.ref a), some (.ref a2), none, none, none, none, none, none] ∧ Wl H' W k8 ∧ Fr W H H' ∧ ObAt K c H' a a (.commit t ps au tm msg) ∧ H' pp = some (.tup (ps.map V.str)), ?first, fun σ' H' hM => ?_⟩
    case first =>
      refine ⟨.ref a2, rfl, a2, dx3, _, rfl, ho12, a2, dx3, _, .ref p3, rfl, ho12, rfl, (by show 0 ≤ sizeLine; decide), fun q3 nq3 => ?_⟩
      have s13 := same_new (o := .tup []) nq3
      have h13 := upd_same (H := H12) (a := q3) (o := .tup [])
      generalize upd H12 q3 (.tup []) = H13 at s13 h13
      have e0 : SeqAt.shaped (.tuple []) = true := by decide +kernel
      refine ⟨.tuple [], .tuple [], .tup (hpp12.keep (TupKeep.of s13)).sq .nil, .tup (SqT.of h13) .nil, e0, e0, _, rfl, ?_⟩
      rw [show (PyData.eqv (.tuple []) (.tuple [])) = true from rfl]
      refine iteF ?_
      have ho13 := s13 _ _ ho12
      refine ⟨.ref a2, rfl, a2, dx3, _, rfl, ho13, a2, dx3, _, .str "", rfl, ho13, rfl, rfl, _, rfl, ?_⟩
      rw [decide_eq_true rfl]
      refine iteF ?_
      refine ⟨.ref a2, rfl, .ref a, rfl, a2, a, a2, a, .commit t [] au tm "", .commit t ps au tm msg, rfl, rfl, o12.same s13, o912.same s13, okP, okC, fun H14 s14 => ?_⟩
      have s914 : Same H9 H14 := (s911.trans s12).trans (s13.trans s14)
      refine ⟨.ref pp, rfl, (by show 0 ≤ sizeLine; decide), fun q4 nq4 => ?_⟩
      have s15 := same_new (o := .tup []) nq4
      have h15 := upd_same (H := H14) (a := q4) (o := .tup [])
      generalize upd H14 q4 (.tup []) = H15 at s15 h15
      have s915 := s914.trans s15
      have hps15 := s915 _ _ (s9 _ _ hps8)
      refine ⟨.tuple (ps.map PyData.str), .tuple [], .tup (SqT.of hps15) (dp_strs ps), .tup (SqT.of h15) .nil, shaped_tup ps (fun y hy => (ok_id (hpi y hy)).1), e0, _, rfl, ?_⟩
      have e1 : PyData.eqv (.tuple (ps.map PyData.str)) (.tuple []) = decide (ps = []) := eqv_tups ps []
      rw [e1]
      have e2 : (if false = true then !decide (Ob.commit t [] au tm "" = Ob.commit t ps au tm msg) else decide (Ob.commit t [] au tm "" = Ob.commit t ps au tm msg)) = (decide (ps = []) && decide (V.str msg = V.str "")) := by
        rw [if_neg Bool.false_ne_true, Bool.eq_iff_iff, Bool.and_eq_true, decide_eq_true_eq, decide_eq_true_eq, decide_eq_true_eq]
        constructor
        · intro z
          injection z with z1 z2 z3 z4 z5
          exact ⟨z2.symm, by rw [z5]⟩
        · intro ⟨z1, z2⟩
          rw [z1, V.str.inj z2]
      have w15 : Wl H15 W k8 := w8.same (s9.trans s915)
      have F15 : Fr W H H15 := F8.trans (Fr.same (s9.trans s915))
      have o915 := o9.same s915
      by_cases hp0 : ps = []
      · rw [if_pos (decide_eq_true hp0)]
        refine ⟨.str msg, rfl, rfl, rfl, _, rfl, ?_⟩
        rw [e2, decide_eq_true hp0, Bool.true_and, decide_eq_true rfl]
        exact iteF ⟨rfl, w15, F15, o915, hps15⟩
      · rw [if_neg (fun z => hp0 (of_decide_eq_true z))]
        refine ⟨rfl, _, rfl, ?_⟩
        rw [e2, decide_eq_false hp0, Bool.false_and, decide_eq_true rfl]
        exact iteF ⟨rfl, w15, F15, o915, hps15⟩
    obtain ⟨rfl, w', F', oM, hpp'⟩ := hM
    clear o912 ho12 hpp12 o12 d1 d2 ho9 hpp9 o9 h10 h11 hps8
    have okR : Ob.ok (.commit t ps.reverse au tm msg) := ⟨oki, by rw [List.length_reverse]; exact hpl, (List.reverse_perm ps).nodup_iff.mpr hpn, fun y hy => hpi y (List.mem_reverse.mp hy), oka, t0, t1, okm, lm⟩
    refine ⟨fun σ' H'' => ∃ z8, σ' = [some (.ref W), some (.str t), some (.ref pp), some (.str au), some (.int tm), some (.str msg), some (.ref a), some (.ref a2), z8, none, none, none, none, none] ∧ Wl H'' W k8 ∧ Fr W H H'' ∧ H'' pp = some (.tup (ps.map V.str)), ?loop, fun σ' H'' hM => ?_⟩
    case loop =>
      refine ⟨.str t, rfl, .ref pp, rfl, 1, rfl, rfl, .inr ⟨pp, _, rfl, SqT.of hpp', fun pb npb => ?_⟩⟩
      have sb := same_new (o := .tup (ps.map V.str).reverse) npb
      have hb' : (upd H' pb (.tup (ps.map V.str).reverse)) pb = some (.tup (ps.reverse.map V.str)) := by rw [upd_same, List.map_reverse]
      generalize upd H' pb (.tup (ps.map V.str).reverse) = H16 at sb hb'
      refine ⟨.str au, rfl, .int tm, rfl, .str msg, rfl, rfl, rfl, fun a3 dx3 ha3 hdx3 _ => mk_commit (K := K) (ps := ps.reverse) (.inl hb') okR ha3 hdx3 fun H17 s17 o17 => ⟨(by show 1 ≤ sizeLine; decide), fun L nL => ?_⟩⟩
      have sL := same_new (o := .lst [V.ref a3]) nL
      have hL := upd_same (H := H17) (a := L) (o := .lst [V.ref a3])
      have nLW := ((w'.same sb).same s17).ne nL
      generalize upd H17 L (.lst [V.ref a3]) = H18 at sL hL
      have s18 : Same H' H18 := sb.trans (s17.trans sL)
      refine ⟨L, rfl, ⟨_, SqL.of hL⟩, ?_⟩
      refine forG (items := [V.ref a3]) yields_list (fun i σ H'' => ∃ z8, σ = [some (.ref W), some (.str t), some (.ref pp), some (.str au), some (.int tm), some (.str msg), some (.ref a), some (.ref a2), z8, none, none, none, none, none] ∧ Same H18 H'') ⟨none, rfl, Same.refl _⟩ (fun i σ H'' ⟨_, _, s⟩ => SqL.of (s _ _ hL)) (fun i x σ H'' hx I => ?_) (fun σ H'' I => ?_)
      · obtain ⟨z8, rfl, s19⟩ := I
        obtain rfl : x = .ref a3 := List.mem_singleton.mp (List.mem_of_getElem? hx)
        refine ⟨.ref a3, rfl, .ref a, rfl, a3, a, a3, a, .commit t ps.reverse au tm msg, .commit t ps au tm msg, rfl, rfl, o17.same (sL.trans s19), oM.same (s18.trans s19), okR, okC, fun H20 s20 => ?_⟩
        have s1820 := s19.trans s20
        refine ⟨.ref pp, rfl, pp, _, rfl, .inr (SqT.of ((s18.trans s1820) _ _ hpp')), _, _, rfl, rfl, rfl, _, rfl, ?_⟩
        have e3 : (if false = true then !decide (Ob.commit t ps.reverse au tm msg = Ob.commit t ps au tm msg) else decide (Ob.commit t ps.reverse au tm msg = Ob.commit t ps au tm msg)) = decide (((ps.map V.str).length : Int) < 2) := by
          rw [if_neg Bool.false_ne_true, Bool.eq_iff_iff, decide_eq_true_eq, decide_eq_true_eq, List.length_map]
          have := rev_eq hpn
          constructor
          · intro z
            have z2 : ps.reverse = ps := congrArg (fun o => match o with | Ob.commit _ p _ _ _ => p | _ => []) z
            have := this.mp z2
            omega
          · intro z
            exact congrArg (fun z => Ob.commit t z au tm msg) (this.mpr (by omega))
        rw [e3, decide_eq_true rfl]
        exact iteF ⟨_, rfl, s1820⟩
      · obtain ⟨z8, rfl, s19⟩ := I
        have s1819 := s18.trans s19
        exact ⟨z8, rfl, w'.same s1819, F'.trans (Fr.same s1819), s1819 _ _ hpp'⟩
    obtain ⟨z8, rfl, wa, Fa, hppa⟩ := hM
    have tbA : TabsL qfL [P1, P2, P3] H'' := TabsL.fr tb hw Fa
    refine ⟨tbA, fun f1' H20 e20 tb20 _ af1 => ⟨(by show 1 ≤ sizeLine; decide), fun p hp => ?_⟩⟩
    have st := AskAt.one wa e20 tb20 af1 hp
    clear af1
    generalize upd H20 p (.lst [V.ref f1']) = G1 at st ⊢
    refine ⟨.ref p, rfl, .inl ⟨rfl, _, SqL.of st.st.at_⟩, st.st.tab, fun f2 Hb eN tbn _ af => ?_⟩
    obtain ⟨hp2, st⟩ := st.step eN tbn af
    refine ⟨p, _, .ref f2, rfl, rfl, hp2, by show 1 < sizeLine; decide, ?_⟩
    clear hp2 af tbn eN
    generalize upd Hb p _ = G2 at st
    refine ⟨.ref p, rfl, .inl ⟨rfl, _, SqL.of st.st.at_⟩, st.st.tab, fun f3 Hb eN tbn _ af => ?_⟩
    obtain ⟨hp2, st⟩ := st.step eN tbn af
    refine ⟨p, _, .ref f3, rfl, rfl, hp2, by show 2 < sizeLine; decide, ?_⟩
    clear hp2 af tbn eN
    generalize upd Hb p _ = G3 at st
    refine ⟨.ref p, rfl, .inl ⟨rfl, _, SqL.of st.st.at_⟩, st.st.tab, fun f4 Hb eN tbn _ af => ?_⟩
    obtain ⟨hp2, st⟩ := st.step eN tbn af
    refine ⟨p, _, .ref f4, rfl, rfl, hp2, by show 3 < sizeLine; decide, ?_⟩
    clear hp2 af tbn eN
    generalize upd Hb p _ = G4 at st
    refine ⟨.ref p, rfl, .inl ⟨rfl, _, SqL.of st.st.at_⟩, st.st.tab, fun f5 Hb eN tbn _ af => ?_⟩
    obtain ⟨hp2, st⟩ := st.step eN tbn af
    refine ⟨p, _, .ref f5, rfl, rfl, hp2, by show 4 < sizeLine; decide, ?_⟩
    clear hp2 af tbn eN
    generalize upd Hb p _ = G5 at st
    clear e20 tb20 hp
    refine ⟨.ref W, rfl, _, rfl, 10, 12, rfl, rfl, ⟨by decide, by decide, by decide⟩, _, _, rfl, rfl, (by show 5 ≤ sizeLine; decide), fun b2 hb2 => do_pick (st.ws.new hb2) upd_same (st.ws.ne hb2) (by show 0 < 5; decide) (by show 5 < 1000000; decide) (by omega) fun v1 hv1 H30 k30 f30 w30 l30 m30 => ?_⟩
    have st := (st.same (same_new hb2)).fr f30 w30
    clear f30 hb2
    have bt : (∀ H', Thing H' v1) ∧ timeV v1 = false := by
      simp only [List.mem_cons, List.not_mem_nil, or_false] at hv1
      rcases hv1 with rfl | rfl | rfl | rfl | rfl
      · exact ⟨fun _ => .int _, by decide⟩
      · exact ⟨fun _ => .int _, by decide⟩
      · exact ⟨fun _ => .bl _, rfl⟩
      · exact ⟨fun _ => .str _ (by decide) ok_one, rfl⟩
      · exact ⟨fun _ => .non, rfl⟩
    clear hv1
    refine ⟨.ref W, rfl, _, _, rfl, rfl, (by decide), (by decide), (by decide +kernel), (by show 2 ≤ sizeLine; decide), fun b3 hb3 => do_pick (st.ws.new hb3) upd_same (st.ws.ne hb3) (by show 0 < 2; decide) (by show 2 < 1000000; decide) (by omega) fun v2 hv2 H31 k31 f31 w31 l31 m31 => ?_⟩
    have st := (st.same (same_new hb3)).fr f31 w31
    clear f31 hb3
    have bm : (∀ H', Thing H' v2) ∧ evalV msgF v2 = false := by
      simp only [List.mem_cons, List.not_mem_nil, or_false] at hv2
      rcases hv2 with rfl | rfl
      · have ho : ∀ u ∈ TL.tl (repS ("a" : Str) (Int.toNat 201)), u < 1114112 := by decide +kernel
        exact ⟨fun _ => .str _ (by decide +kernel) ho, by decide +kernel⟩
      · exact ⟨fun _ => .non, rfl⟩
    clear hv2
    refine ⟨.ref p, rfl, .inl ⟨rfl, _, SqL.of st.st.at_⟩, st.st.tab, fun f6 Hb eN tbn _ af => ?_⟩
    obtain ⟨hp2, st⟩ := st.step eN tbn af
    refine ⟨p, _, .ref f6, rfl, rfl, hp2, by show 5 < sizeLine; decide, ?_⟩
    clear hp2 af tbn eN
    generalize upd Hb p _ = G6 at st
    refine ⟨.ref p, rfl, .inl ⟨rfl, _, SqL.of st.st.at_⟩, st.st.tab, fun f7 Hb eN tbn _ af => ?_⟩
    obtain ⟨hp2, st⟩ := st.step eN tbn af
    refine ⟨p, _, .ref f7, rfl, rfl, hp2, by show 6 < sizeLine; decide, ?_⟩
    clear hp2 af tbn eN
    generalize upd Hb p _ = G7 at st
    refine ⟨.ref p, rfl, .inl ⟨rfl, _, SqL.of st.st.at_⟩, st.st.tab, fun f8 Hb eN tbn _ af => ?_⟩
    obtain ⟨hp2, st⟩ := st.step eN tbn af
    refine ⟨p, _, .ref f8, rfl, rfl, hp2, by show 7 < sizeLine; decide, ?_⟩
    clear hp2 af tbn eN
    generalize upd Hb p _ = G8 at st
    have hr8 := st.st.at_
    refine ⟨.ref p, rfl, p, rfl, ⟨_, SqL.of hr8⟩, fun DD hDD0 => ?_⟩
    have nDW := st.ws.ne hDD0
    have sD := same_new (o := .lst []) hDD0
    have st := st.same sD
    have hdd := upd_same (H := G8) (a := DD) (o := .lst [])
    refine lc_inv (i := 13) yields_list (fun j acc H' => acc = [] ∧ Kq W (upd G8 DD (.lst [])) H' ∧ (∃ c', Wl H' W c' ∧ k31 ≤ c' ∧ c' ≤ k31 + j) ∧ TabsL qfL [P1, P2, P3] H') (fun j acc H' I _ => SqL.of (I.2.1 _ _ st.nw (fun ps z => nomatch z) (sD _ _ hr8))) ⟨rfl, Kq.refl _ _, ⟨k31, st.ws, Int.le_refl _, by omega⟩, st.st.tab⟩ (fun j acc H' x I hDD hx hacc hj => ?_) (by show 8 ≤ 1000000; decide) (fun acc H' I hDD hacc => ?_)
    · obtain ⟨rfl, KJ, ⟨c', w', l', m'⟩, tb'⟩ := I
      have hpp2 : H' pp = some (.tup (ps.map V.str)) := (KJ.tups st.ws) _ _ ((st.kq.tups wa) _ _ hppa)
      have hm7 := List.mem_of_getElem? hx
      have case1 := st.nth 0 rfl
      have case2 := st.nth 1 rfl
      have case3 := st.nth 2 rfl
      have case4 := st.nth 3 rfl
      have case5 := st.nth 4 rfl
      have case6 := st.nth 5 rfl
      have case7 := st.nth 6 rfl
      have case8 := st.nth 7 rfl
      have hm7 : x = .ref f1' ∨ x = .ref f2 ∨ x = .ref f3 ∨ x = .ref f4 ∨ x = .ref f5 ∨ x = .ref f6 ∨ x = .ref f7 ∨ x = .ref f8 := by
        have h : x ∈ [V.ref f1', .ref f2, .ref f3, .ref f4, .ref f5, .ref f6, .ref f7, .ref f8] := hm7
        simpa only [List.mem_cons, List.not_mem_nil, or_false] using h
      rcases hm7 with rfl | rfl | rfl | rfl | rfl | rfl | rfl | rfl
      · refine ⟨.ref f1', rfl, f1', _, rfl, ask_kq case1 st.ws KJ, ?_⟩
        exact ⟨.str t, rfl, _, rfl, t, rfl, small_line (by omega), .ref pp, rfl, .str au, rfl, .int tm, rfl, rfl, rfl, fun a7 dx7 ha7 hdx7 _ => mk_badC ha7 hdx7 ⟨_, th_cut oki _, (.many pp ps (.inl hpp2) (by omega) hpi), th_word oka _, .int _, th_nil _, .inl (short_id oki)⟩ fun dd y H5 s5 h5 => ⟨rfl, ⟨dd, _, rfl, h5⟩, _, rfl, iteF ⟨[], (s5) _ _ hDD, Nat.zero_le _, rfl, KJ.trans (Kq.same (s5)), ⟨c', w'.same (s5), l', by push_cast; omega⟩, tb'.same (s5)⟩⟩⟩
      · refine ⟨.ref f2, rfl, f2, _, rfl, ask_kq case2 st.ws KJ, ?_⟩
        refine ⟨.str t, rfl, .ref pp, rfl, .str t, rfl, .str t, rfl, (by show 2 ≤ sizeLine; decide), fun b7 hb7 => catA (SqT.of ((same_new hb7) _ _ hpp2)) upd_same (by simp) (by simp only [List.length_map, List.length_cons, List.length_nil]; omega) fun pc Hc sc hpc => ?_⟩
        have sc := (same_new hb7).trans sc
        have hpc' : Hc pc = some (.tup ((ps ++ [t, t]).map V.str)) := by rw [hpc, List.map_append]; rfl
        have nn : ¬ (ps ++ [t, t]).Nodup := fun z => nodup2 fun y => y z
        exact ⟨.str au, rfl, .int tm, rfl, rfl, rfl, fun a7 dx7 ha7 hdx7 _ => mk_badC ha7 hdx7 ⟨_, th_id oki _, .many pc (ps ++ [t, t]) (.inl hpc') (by simp only [List.length_append, List.length_cons, List.length_nil]; omega) (fun y hy => by
          rcases List.mem_append.mp hy with h | h
          · exact hpi y h
          · simp only [List.mem_cons, List.not_mem_nil, or_false] at h
            rcases h with rfl | rfl <;> exact oki), th_word oka _, .int _, th_nil _, .inr (.inl (by rw [decide_eq_false nn, Bool.and_false]))⟩ fun dd y H5 s5 h5 => ⟨rfl, ⟨dd, _, rfl, h5⟩, _, rfl, iteF ⟨[], (sc.trans s5) _ _ hDD, Nat.zero_le _, rfl, KJ.trans (Kq.same (sc.trans s5)), ⟨c', w'.same (sc.trans s5), l', by push_cast; omega⟩, tb'.same (sc.trans s5)⟩⟩⟩
      · refine ⟨.ref f3, rfl, f3, _, rfl, ask_kq case3 st.ws KJ, ?_⟩
        refine ⟨.str t, rfl, .ref pp, rfl, pp, _, rfl, .inr (SqT.of hpp2), fun l hl => ?_⟩
        have sc := same_new (o := .lst (ps.map V.str)) hl
        exact ⟨.str au, rfl, .int tm, rfl, rfl, rfl, fun a7 dx7 ha7 hdx7 _ => mk_badC ha7 hdx7 ⟨_, th_id oki _, .no (.ref l) ⟨"list", by decide, .base (.lst upd_same)⟩, th_word oka _, .int _, th_nil _, .inr (.inl rfl)⟩ fun dd y H5 s5 h5 => ⟨rfl, ⟨dd, _, rfl, h5⟩, _, rfl, iteF ⟨[], (sc.trans s5) _ _ hDD, Nat.zero_le _, rfl, KJ.trans (Kq.same (sc.trans s5)), ⟨c', w'.same (sc.trans s5), l', by push_cast; omega⟩, tb'.same (sc.trans s5)⟩⟩⟩
      · refine ⟨.ref f4, rfl, f4, _, rfl, ask_kq case4 st.ws KJ, ?_⟩
        refine ⟨.str t, rfl, (by show 1 ≤ sizeLine; decide), fun l hl => ?_⟩
        have sc := same_new (o := .tup [V.non]) hl
        exact ⟨.str au, rfl, .int tm, rfl, rfl, rfl, fun a7 dx7 ha7 hdx7 _ => mk_badC ha7 hdx7 ⟨_, th_id oki _, .ids l [.non] (.inl upd_same) (by decide) (fun x hx => by obtain rfl := List.mem_singleton.mp hx; exact .non) rfl, th_word oka _, .int _, th_nil _, .inr (.inl rfl)⟩ fun dd y H5 s5 h5 => ⟨rfl, ⟨dd, _, rfl, h5⟩, _, rfl, iteF ⟨[], (sc.trans s5) _ _ hDD, Nat.zero_le _, rfl, KJ.trans (Kq.same (sc.trans s5)), ⟨c', w'.same (sc.trans s5), l', by push_cast; omega⟩, tb'.same (sc.trans s5)⟩⟩⟩
      · refine ⟨.ref f5, rfl, f5, _, rfl, ask_kq case5 st.ws KJ, ?_⟩
        refine ⟨.str t, rfl, .ref pp, rfl, .ref W, rfl, (by show 5 ≤ sizeLine; decide), fun b7 hb7 => do_pick (w'.new hb7) upd_same (w'.ne hb7) (by show 0 < 5; decide) (by show 5 < 1000000; decide) (by omega) fun v3 hv3 H8 c8 f8' w8 l8' m8' => ?_⟩
        have KB : Kq W H' H8 := (Kq.same (same_new hb7)).trans (Kq.fr f8')
        have tb8 : TabsL qfL [P1, P2, P3] H8 := TabsL.fr (tb'.same (same_new hb7)) (w'.new hb7) f8'
        have hDD8 : H8 DD = some (.lst []) := KB DD _ nDW (fun ps z => nomatch z) hDD
        have hpp8 := (KB.tups w') _ _ hpp2
        have ba : (∀ H', Thing H' v3) ∧ evalV (isWordF LET) v3 = false := by
          simp only [List.mem_cons, List.not_mem_nil, or_false] at hv3
          rcases hv3 with rfl | rfl | rfl | rfl | rfl
          · exact ⟨th_nil, by decide +kernel⟩
          · exact ⟨fun _ => .str _ (by decide) (ok_by (by decide +kernel)), by decide +kernel⟩
          · exact ⟨fun _ => .str _ (by decide) (ok_by (by decide +kernel)), by decide +kernel⟩
          · exact ⟨fun _ => .non, rfl⟩
          · exact ⟨fun _ => .int _, rfl⟩
        exact ⟨.int tm, rfl, rfl, rfl, fun a7 dx7 ha7 hdx7 _ => mk_badC ha7 hdx7 ⟨_, th_id oki _, (.many pp ps (.inl hpp8) (by omega) hpi), ba.1 _, .int _, th_nil _, .inr (.inr (.inl ba.2))⟩ fun dd y H5 s5 h5 => ⟨rfl, ⟨dd, _, rfl, h5⟩, _, rfl, iteF ⟨[], s5 _ _ hDD8, Nat.zero_le _, rfl, (KJ.trans KB).trans (Kq.same s5), ⟨c8, w8.same s5, by omega, by push_cast; omega⟩, tb8.same s5⟩⟩⟩
      · refine ⟨.ref f6, rfl, f6, _, rfl, ask_kq case6 st.ws KJ, ?_⟩
        exact ⟨.str t, rfl, .ref pp, rfl, .str au, rfl, v1, rfl, rfl, rfl, fun a7 dx7 ha7 hdx7 _ => mk_badC ha7 hdx7 ⟨_, th_id oki _, (.many pp ps (.inl hpp2) (by omega) hpi), th_word oka _, bt.1 _, th_nil _, .inr (.inr (.inr (.inl bt.2)))⟩ fun dd y H5 s5 h5 => ⟨rfl, ⟨dd, _, rfl, h5⟩, _, rfl, iteF ⟨[], (s5) _ _ hDD, Nat.zero_le _, rfl, KJ.trans (Kq.same (s5)), ⟨c', w'.same (s5), l', by push_cast; omega⟩, tb'.same (s5)⟩⟩⟩
      · refine ⟨.ref f7, rfl, f7, _, rfl, ask_kq case7 st.ws KJ, ?_⟩
        exact ⟨.str t, rfl, .ref pp, rfl, .str au, rfl, .int tm, rfl, v2, rfl, rfl, rfl, fun a7 dx7 ha7 hdx7 _ => mk_badC ha7 hdx7 ⟨_, th_id oki _, (.many pp ps (.inl hpp2) (by omega) hpi), th_word oka _, .int _, bm.1 _, .inr (.inr (.inr (.inr bm.2)))⟩ fun dd y H5 s5 h5 => ⟨rfl, ⟨dd, _, rfl, h5⟩, _, rfl, iteF ⟨[], (s5) _ _ hDD, Nat.zero_le _, rfl, KJ.trans (Kq.same (s5)), ⟨c', w'.same (s5), l', by push_cast; omega⟩, tb'.same (s5)⟩⟩⟩
      · refine ⟨.ref f8, rfl, f8, _, rfl, ask_kq case8 st.ws KJ, ?_⟩
        refine ⟨.str t, rfl, 7, rfl, by decide, by decide, fun Dl hDl => ?_⟩
        refine lc_pure (i := 12) (us := List.range 7) (g := fun u : Nat => V.int u) yields_range (fun u => V.str (id7 u)) (fun _ => true) hDl (fun _ _ => trivial) (fun H5 x _ _ S k => k H5 (Same.refl H5)) (fun H5 u s5 hu _ S k => ?_) (by decide) (fun H6 s6 h6 => ?_)
        · have hu7 : u < 7 := List.mem_range.mp hu
          have l2 : ((u : Int)).natAbs.log2 < 1920 := by
            have : ((u : Int)).natAbs = u := rfl
            rw [this]
            have : u.log2 ≤ u := Nat.log2_le_self u
            omega
          have ln : ∀ u : Nat, u < 7 → (repS ("0" : Str) (Int.toNat 15)).length + (Str.ofString (toString (u : Int))).length ≤ 100 := by decide +kernel
          exact ⟨_, _, rfl, rfl, by decide, by decide, by decide +kernel, .int u, rfl, u, rfl, l2, _, _, rfl, rfl, small_line (by have := ln u hu7; omega), k _ (Same.refl _)⟩
        rw [filt_all] at h6
        refine ⟨Dl, _, rfl, .inl ⟨SqL.of h6, fun l hl => ?_⟩⟩
        have sc := s6.trans (same_new (o := .tup ((List.range 7).map fun u => V.str (id7 u))) hl)
        have nn : ¬ ((List.range 7).map id7).length ≤ 6 := by rw [List.length_map, List.length_range]; omega
        exact ⟨.str au, rfl, .int tm, rfl, rfl, rfl, fun a7 dx7 ha7 hdx7 _ => mk_badC ha7 hdx7 ⟨_, th_id oki _, .many l ((List.range 7).map id7) (.inl (by rw [upd_same, List.map_map]; rfl)) (by rw [List.length_map, List.length_range]; omega) id7_ok, th_word oka _, .int _, th_nil _, .inr (.inl (by rw [decide_eq_false nn, Bool.false_and]))⟩ fun dd y H5 s5 h5 => ⟨rfl, ⟨dd, _, rfl, h5⟩, _, rfl, iteF ⟨[], (sc.trans s5) _ _ hDD, Nat.zero_le _, rfl, KJ.trans (Kq.same (sc.trans s5)), ⟨c', w'.same (sc.trans s5), l', by push_cast; omega⟩, tb'.same (sc.trans s5)⟩⟩⟩
    · obtain ⟨rfl, KJ, ⟨c', w', l', m'⟩, tb'⟩ := I
      refine ⟨(by show 0 ≤ sizeLine; decide), fun q3 n3 => ⟨DD, q3, [], rfl, rfl, (same_new n3) _ _ hDD, upd_same, ?_⟩⟩
      have s5 := same_new (o := .lst []) n3
      have m8' : c' ≤ k31 + 8 := m'
      clear m'
      exact q _ c' (w'.same s5) (by omega) (by omega) ((Kq.fr Fa).trans (st.kq.trans (KJ.trans (Kq.same s5)))) (tb'.same s5)
end

end Fk

set_option maxHeartbeats 4000000
namespace Fk
open PySem PySem.Spec PyProof.Rows L2
open LamX
section
variable {P : Program} {w : World} {K : PySem.W.Frag} {mg : Str → Option Value} {base : Heap} {c : C4} {CS cX iX ek pd : Addr}
theorem fn_ofC {x qual : Str} {st : Stmt} {N ps : List Str} {k : Nat} {sp : Sp} {f cd : Addr} {fd : FuncData} (F : C8.Fun K x qual st f fd) (hc : fd.code = .ref cd) (S : FnScope N ps (C8.fnScope st))
    (len : ∀ vs H Q E, sp vs H Q E → vs.length = ps.length)
    (hbody : ∀ (A : Around) (outer : List Env) (s : Shared) (H : Hp) (vs : List V) (Q : VK) (E : XK), Room k (A.deeper (envOfC qual (C8.fnScope st) s.heap.objs.size f (.ref cd))) → sp vs H Q E →
      ∃ t, PSs (cxOf C8.CX0 P w K mg base N qual (C8.fnScope st) f (.ref cd) A outer s H E).nox (C8.fnBody st) t ∧ t { nx := fun _ H' => Q .non H', rt := Q } (start N vs) H) : FnOk P w K mg base C8.CX0 (k + 1) f fd ps sp := by
  obtain ⟨oc, od, dV, kV, doc, pm, an, cdv, ct, osl, rfl, lk, hcd⟩ := F.ex
  have e2 : cdv = .ref cd := hc
  subst e2
  exact fn_of lk hcd S len fun A outer s H vs Q E hr hsp => by
    obtain ⟨t, h, q⟩ := hbody A outer s H vs Q E hr hsp
    exact ⟨t, h.nox, q⟩
theorem mk_badB {H : Hp} {a dx : Addr} {v : V} {Q : VK} {E : XK} (ha : H a = none) (hd : H dx = none) (t : Thing H v) (b : evalV isTextF v = false) (q : ∀ dd y H', Same H H' → H' dd = some (.xd [("why", y)]) → E (.ref cX) (some dd) H') :
    spBlobN cX [.ref a, v] (upd (upd H dx (.own a)) a (.ins c.B dx [])) Q E :=
  have sM := made_same ha hd (Fr.refl _ _)
  ⟨a, v, rfl, t.same sM, b, fun dd y H5 s5 h5 => q dd y H5 (sM.trans s5) h5⟩
theorem mk_badG {H : Hp} {a dx : Addr} {tg lb msg : V} {Q : VK} {E : XK} (ha : H a = none) (hd : H dx = none) (b : BadTag H tg lb msg) (q : ∀ dd y H', Same H H' → H' dd = some (.xd [("why", y)]) → E (.ref cX) (some dd) H') :
    spTagN cX [.ref a, tg, lb, msg] (upd (upd H dx (.own a)) a (.ins c.G dx [])) Q E :=
  have sM := made_same ha hd (Fr.refl _ _)
  ⟨a, tg, lb, msg, rfl, ⟨b.1.same sM, b.2.1.same sM, b.2.2.1.same sM, b.2.2.2⟩, fun dd y H5 s5 h5 => q dd y H5 (sM.trans s5) h5⟩
theorem long_a : ∀ u ∈ TL.tl (repS ("a" : Str) (Int.toNat 2001)), u < 1114112 := by decide +kernel
theorem long_b : ∀ u ∈ TL.tl (repS ("b" : Str) (Int.toNat 201)), u < 1114112 := by decide +kernel
def spLawT (K : PySem.W.Frag) (P1 P2 P3 : Addr) : Sp := fun vs H Q _ => ∃ (a : Addr) (zs : List Int), vs = [.ref a] ∧ SqL K H a (zs.map V.int) ∧ zs.length ≤ 63 ∧ TabsL qfL [P1, P2, P3] H ∧ ∀ H', Q (.bl true) H'
set_option pp.maxSteps 1000 in
theorem ok_law (T : TopO K mg c CS cX iX ek pd) {cd1 cd2 cd P1 P2 P3 : Addr} (TB1 : TabB base mg cd1 P1) (D1 : IsDefC K mg "_law_tree_right" s_l_tree_right cd1) (TB2 : TabB base mg cd2 P2) (D2 : IsDefC K mg "_law_commit_right" s_l_commit_right cd2) (TB : TabB base mg cd P3) {f : Addr} {fd : FuncData} (F : C8.Fun K "law" "law" s_law f fd) (hc : fd.code = .ref cd) : FnOk P w K mg base C8.CX0 11 f fd ["_law_script"] (spLawT K P1 P2 P3) := by
  refine fn_ofC F hc sc_law (fun vs H Q E h => ?_) (fun A outer s H vs Q E hr h => ?_)
  · obtain ⟨a, zs, rfl, _⟩ := h
    rfl
  · obtain ⟨a, zs, rfl, hS, hlen, tb, q⟩ := h
    refine ⟨_, (C8.pss_cut (ps_for PassesOwn.never rfl (pi_list (pe_op op_cat (pe_lst (pa_cons (C8.pe_c (c_l_cell_at T.toTop) hr (by decide) (by rfl) (pa_cons (pv 0) (pa_cons pe_int pa_nil))) pa_nil)) (pe_slice sl_list (pv 0) (po_some pe_int) (po_some pe_int)))) (pg_name (i := 1) sc_law.nd rfl (Or.inl rfl))
      (pss_cons (ps_set (i := 2) sc_law.nd rfl (Or.inr rfl) (C8.pe_c (c_l_well T.toTop) hr (by decide) (by rfl) (pa_cons (pv 1) pa_nil)))
      (pss_cons (ps_asg (pe_tup (pa_cons (C8.pe_c (c_l_text T.toTop) hr (by decide) (by rfl) (pa_cons (pv 2) pa_nil)) (pa_cons (C8.pe_c (c_l_id T.toTop) hr (by decide) (by rfl) (pa_cons (pv 2) pa_nil)) pa_nil))) (pg_tup rfl (pgs_cons (pg_name (i := 3) sc_law.nd rfl (Or.inl rfl)) (pgs_cons (pg_name (i := 4) sc_law.nd rfl (Or.inr rfl)) pgs_nil))))
      (pss_cons (ps_set (i := 5) sc_law.nd rfl (Or.inr rfl) (C8.pe_c (c_l_segment T.toTop) hr (by decide) (by rfl) (pa_cons (pv 2) pa_nil)))
      (pss_cons (ps_par (i := 6) (j := 7) rfl sc_law.nd rfl rfl (by decide) rfl rfl (pa_cons (C8.pe_mk (k_Blob T) hr (by decide) (by rfl) (pa_cons (pv 3) pa_nil)) (pa_cons (pe_mkK (k_Tag_1_label_message T) hr (by decide) (by rfl) (pa_cons (pv 4) pa_nil) (pk_cons (pv 5) (pk_cons (pe_slice sl_str (pv 3) po_none (po_some pe_int)) pk_nil))) pa_nil)) rfl)
      (pss_cons (ps_if (PW.pt (pw_or (pt_cmpR op_ne (pe_pr (p_Blob_text T) hr (by decide) (pv 6)) (pv 3) (nomark _)) (pw_or (pt_cmpR (op_neD hr.units) (pe_tup (pa_cons (pe_pr (p_Tag_target T) hr (by decide) (pv 7)) (pa_cons (pe_pr (p_Tag_label T) hr (by decide) (pv 7)) pa_nil))) (pe_tup (pa_cons (pv 4) (pa_cons (pv 5) pa_nil))) (nomark _)) (pw_or1 (pt_cmpR op_ne (pe_pr (p_Tag_message T) hr (by decide) (pv 7)) (pe_slice sl_str (pv 3) po_none (po_some pe_int)) (nomark _))))))
      (pss_one (ps_ret pe_bl))
      pss_nil)
      (pss_cons (ps_if (PW.pt (pw_or (pt_cmpR op_ne (pe_pr (p_Tag_message T) hr (by decide) (pe_mkK (k_Tag_1_label T) hr (by decide) (by rfl) (pa_cons (pv 4) pa_nil) (pk_cons (pv 5) pk_nil))) pe_str (nomark _)) (pw_or1 (pt_not (pt_cmpR (op_obEq T (hr.mono (by decide))) (pv 6) (C8.pe_mk (k_Blob T) hr (by decide) (by rfl) (pa_cons (pv 3) pa_nil)) (nomark _))))))
      (pss_one (ps_ret pe_bl))
      pss_nil)
      (pss_cons (ps_if (PW.pt (pw_or (pt_cmpR (op_obEq T (hr.mono (by decide))) (pv 6) (C8.pe_mk (k_Blob T) hr (by decide) (by rfl) (pa_cons (pe_ix ix_list (pe_lst (pa_cons pe_str (pa_cons pe_str pa_nil))) (pe_callTy call_int1 (by rfl) T.z_int (by decide +kernel) (pa_cons (pe_cmpR op_ne (pv 3) pe_str (nomark _)) pa_nil)) (fun _ _ => rfl)) pa_nil)) (nomark _)) (pw_or (pt_cmpR (op_obO T (hr.mono (by decide))) (pv 6) (pv 3) (nomark _)) (pw_or1 (pt_cmpR (op_obO T (hr.mono (by decide))) (pv 7) (pv 4) (nomark _))))))
      (pss_one (ps_ret pe_bl))
      pss_nil)
      (pss_cons (ps_if (PW.pt (pw_or (pt_cmpR (op_obEq T (hr.mono (by decide))) (pv 6) (pv 7) (nomark _)) (pw_or (pt_cmpR (op_obEq T (hr.mono (by decide))) (pv 7) (pv 6) (nomark _)) (pw_or (pt_cmpR (op_obEq T (hr.mono (by decide))) (pv 6) (C8.pe_mk (k_Tree T) hr (by decide) (by rfl) (pa_cons pe_dnewK pa_nil)) (nomark _)) (pw_or1 (pt_cmpR (op_obO T (hr.mono (by decide))) (pv 7) pe_int (nomark _)))))))
      (pss_one (ps_ret pe_bl))
      pss_nil)
      (pss_cons (ps_set (i := 8) sc_law.nd rfl (Or.inl rfl) (pe_lst (pa_cons (pe_lamL (qf := qfL) (Ps := [P1, P2, P3]) (k := 7) TB rfl (List.mem_cons_of_mem _ (List.mem_cons_of_mem _ List.mem_cons_self)) rfl (show LamS (C8.fnScope s_law) _ from lamS_by (by decide +kernel)) rfl (fun _ _ _ _ _ => rfl) (fun A outer s H E f c2 hr2 => (pe_mkX (k_BlobX (P := P) (w := w) (base := base) T) hr2 (by decide) (by rfl) (passes_call takes_lam fun _ _ _ _ h => h) (pa_cons (pe_op op_mul_si pe_str pe_int) pa_nil)))) pa_nil)))
      (pss_cons (ps_expr (pe_bm PySem.F.plainAttrs_list PySem.F.slot_list_append PySem.F.type_list_append mt_append (pv 8) (pa_cons (pe_lamL (qf := qfL) (Ps := [P1, P2, P3]) (k := 7) TB rfl (List.mem_cons_of_mem _ (List.mem_cons_of_mem _ List.mem_cons_self)) rfl (show LamS (C8.fnScope s_law) _ from lamS_by (by decide +kernel)) rfl (fun _ _ _ _ _ => rfl) (fun A outer s H E f c2 hr2 => (pe_mkX (k_BlobX (P := P) (w := w) (base := base) T) hr2 (by decide) (by rfl) (passes_call takes_lam fun _ _ _ _ h => h) (pa_cons (C8.pe_c (c_l_pick T.toTop) hr2 (by decide) (by rfl) (pa_cons (pv 2) (pa_cons (pe_lst (pa_cons pe_non (pa_cons pe_int (pa_cons (pe_tup (pa_cons pe_str pa_nil)) pa_nil)))) pa_nil))) pa_nil)))) pa_nil)))
      (pss_cons (ps_expr (pe_bm PySem.F.plainAttrs_list PySem.F.slot_list_append PySem.F.type_list_append mt_append (pv 8) (pa_cons (pe_lamL (qf := qfL) (Ps := [P1, P2, P3]) (k := 7) TB rfl (List.mem_cons_of_mem _ (List.mem_cons_of_mem _ List.mem_cons_self)) rfl (show LamS (C8.fnScope s_law) _ from lamS_by (by decide +kernel)) rfl (fun _ _ _ _ _ => rfl) (fun A outer s H E f c2 hr2 => (pe_mkKX (k_TagX_1 (P := P) (w := w) (base := base) T) hr2 (by decide) (by rfl) (passes_call takes_lam fun _ _ _ _ h => h) (pa_cons (pe_slice sl_str (pv 4) (po_some pe_int) po_none) pa_nil) (pk_cons (pv 5) pk_nil)))) pa_nil)))
      (pss_cons (ps_expr (pe_bm PySem.F.plainAttrs_list PySem.F.slot_list_append PySem.F.type_list_append mt_append (pv 8) (pa_cons (pe_lamL (qf := qfL) (Ps := [P1, P2, P3]) (k := 7) TB rfl (List.mem_cons_of_mem _ (List.mem_cons_of_mem _ List.mem_cons_self)) rfl (show LamS (C8.fnScope s_law) _ from lamS_by (by decide +kernel)) rfl (fun _ _ _ _ _ => rfl) (fun A outer s H E f c2 hr2 => (pe_mkKX (k_TagX_1 (P := P) (w := w) (base := base) T) hr2 (by decide) (by rfl) (passes_call takes_lam fun _ _ _ _ h => h) (pa_cons (pv 4) pa_nil) (pk_cons pe_str pk_nil)))) pa_nil)))
      (pss_cons (ps_expr (pe_bm PySem.F.plainAttrs_list PySem.F.slot_list_append PySem.F.type_list_append mt_append (pv 8) (pa_cons (pe_lamL (qf := qfL) (Ps := [P1, P2, P3]) (k := 7) TB rfl (List.mem_cons_of_mem _ (List.mem_cons_of_mem _ List.mem_cons_self)) rfl (show LamS (C8.fnScope s_law) _ from lamS_by (by decide +kernel)) rfl (fun _ _ _ _ _ => rfl) (fun A outer s H E f c2 hr2 => (pe_mkKX (k_TagX_2 (P := P) (w := w) (base := base) T) hr2 (by decide) (by rfl) (passes_call takes_lam fun _ _ _ _ h => h) (pa_cons (pv 4) pa_nil) (pk_cons (pv 5) (pk_cons (pe_op op_mul_si pe_str pe_int) pk_nil))))) pa_nil)))
      (pss_cons (ps_if (pt_cmpR (op_neD hr.units) (pe_lcI (own := [("_law_ask", 9)]) (g := gName 9) (by rfl) sc_law.nd (pi_list (pv 8)) (blkOk_by (own := [("_law_ask", 9)]) (N := ["_law_script", "_law_cell", "_law_well_here", "_law_text_here", "_law_target", "_law_tab", "_law_blob", "_law_tag", "_law_asks", "_law_ask"]) (sc := C8.fnScope s_law) (by decide +kernel)) (fun _ _ _ _ _ => (pg_name (i := 9) sc_law.nd rfl (Or.inl rfl))) (fun pins σ s H C cl fp B => pts_one (pt_not (pt_val (pe_askY (k := 7) B T.d_l_refused sc_l_refused (fun _ _ _ _ _ _ us hl => match us, hl with | [_], _ => rfl) (by rfl) rfl (.inl rfl) (fun g cdg => refused_gives T) hr (by decide) (pv 9))))) (fun pins σ s H C cl fp B => (pv 9))) (pe_lst pa_nil) (nomark _))
      (pss_one (ps_ret pe_bl))
      pss_nil)
      (pss_one (ps_if (PW.pt (pw_or (pt_not (pt_val (C8.pe_c (c_l_tree_right (P1 := P1) (P2 := P2) (P3 := P3) T TB1 D1) hr (by decide) (by rfl) (pa_cons (pv 2) pa_nil)))) (pw_or1 (pt_not (pt_val (C8.pe_c (c_l_commit_right (P1 := P1) (P2 := P2) (P3 := P3) T TB2 D2) hr (by decide) (by rfl) (pa_cons (pv 2) pa_nil)))))))
      (pss_one (ps_ret pe_bl))
      pss_nil)))))))))))))))))
      (pss_one (ps_ret pe_bl))), ?_⟩
    refine ⟨fun σ' H' => True, ?cells, fun σ' H' _ => q _⟩
    refine ⟨.ref a, rfl, a, zs, 0, rfl, hS, fun v => ⟨(by show 1 ≤ sizeLine; decide), fun p1 n1 => ?_⟩⟩
    have s2 := same_new (o := .lst [V.int v]) n1
    have h1 : (upd H p1 (.lst [V.int v])) p1 = some (.lst [V.int v]) := upd_same
    generalize upd H p1 (.lst [V.int v]) = H2 at s2 h1 ⊢
    refine ⟨.ref a, rfl, 1, rfl, 10, rfl, a, zs.map V.int, rfl, s2.seq hS, fun p2 n2 => ?_⟩
    have s3 := same_new (o := .lst (cutV (zs.map V.int) (some 1) (some 10))) n2
    have h2 : (upd H2 p2 (.lst (cutV (zs.map V.int) (some 1) (some 10)))) p2 = some (.lst (cutV (zs.map V.int) (some 1) (some 10))) := upd_same
    generalize upd H2 p2 (.lst (cutV (zs.map V.int) (some 1) (some 10))) = H3 at s3 h2 ⊢
    refine ⟨p1, p2, _, _, rfl, rfl, s3 _ _ h1, h2, ?_, fun L nLL => ?_⟩
    · have := cutV_length (zs.map V.int) (some 1) (some 10)
      rw [List.length_map] at this
      exact small_line (by simp only [List.length_cons, List.length_nil]; omega)
    have s4 := same_new (o := .lst ([V.int v] ++ cutV (zs.map V.int) (some 1) (some 10))) nLL
    have h4 : (upd H3 L (.lst ([V.int v] ++ cutV (zs.map V.int) (some 1) (some 10)))) L = some (.lst ([V.int v] ++ cutV (zs.map V.int) (some 1) (some 10))) := upd_same
    generalize upd H3 L (.lst ([V.int v] ++ cutV (zs.map V.int) (some 1) (some 10))) = H4 at s4 h4 ⊢
    refine ⟨L, rfl, ⟨_, SqL.of h4⟩, ?_⟩
    have tb4 := tb.same ((s2.trans s3).trans s4)
    refine forG (items := [V.int v] ++ cutV (zs.map V.int) (some 1) (some 10)) yields_list (fun i σ H' => H' L = some (.lst ([V.int v] ++ cutV (zs.map V.int) (some 1) (some 10))) ∧ TabsL qfL [P1, P2, P3] H' ∧ ∃ z1 z2 z3 z4 z5 z6 z7 z8 z9, σ = [some (.ref a), z1, z2, z3, z4, z5, z6, z7, z8, z9])
      ⟨h4, tb4, none, none, none, none, none, none, none, none, none, rfl⟩ (fun i σ H' I => SqL.of I.1) (fun i x σ H' hi I => ?_) (fun σ H' I => trivial)
    obtain ⟨hL, tb, z1, z2, z3, z4, z5, z6, z7, z8, z9, rfl⟩ := I
    obtain ⟨n, rfl⟩ : ∃ n, x = .int n := by
      have h := List.mem_of_getElem? hi
      rcases List.mem_append.mp h with h | h
      · exact ⟨v, List.mem_singleton.mp h⟩
      · have e : ∃ m : List Int, cutV (zs.map V.int) (some 1) (some 10) = m.map V.int := by
          unfold cutV
          rw [← List.map_drop, ← List.map_take]
          exact ⟨_, rfl⟩
        obtain ⟨m, e⟩ := e
        rw [e] at h
        obtain ⟨n, _, rfl⟩ := List.mem_map.mp h
        exact ⟨n, rfl⟩
    clear hi q hS h1 h2 h4 s2 s3 s4 tb4
    refine ⟨.int n, rfl, n, rfl, fun H5 W nW s5 w5 => ?_⟩
    have LW : L ≠ W := fun e => by rw [← e, hL] at nW; cases nW
    have tb5 := tb.same s5
    have hL5 := s5 _ _ hL
    clear tb hL
    refine ⟨.ref W, rfl, W, 0, rfl, w5, by omega, fun x ox lx H6 c6 f6 w6 l6 m6 => ⟨.ref W, rfl, W, c6, rfl, w6, by omega, fun t ht htl H7 c7 f7 w7 l7 m7 => ⟨(by show 2 ≤ sizeLine; decide), fun tp ntp => ?_⟩⟩⟩
    have oki : isIdF t = true := id_of ht htl
    have s8 := same_new (o := .tup [V.str x, .str t]) ntp
    refine ⟨tp, _, rfl, SqT.of upd_same, rfl, .str x, _, rfl, .str t, _, rfl, rfl, ?_⟩
    have w8 := w7.same s8
    have K58 : Fr W H5 (upd H7 tp (.tup [V.str x, .str t])) := f6.trans (f7.trans (Fr.same s8))
    generalize upd H7 tp (.tup [V.str x, .str t]) = H8 at s8 w8 K58
    refine ⟨.ref W, rfl, W, c7, rfl, w8, by omega, fun g og H9 c9 f9 w9 l9 m9 => ?_⟩
    have K59 : Fr W H5 H9 := K58.trans f9
    obtain ⟨okm, lm⟩ := cut_msg ox
    have okT : Ob.ok (.tag t g (cutS x none (some 200))) := ⟨oki, og, okm, lm⟩
    refine ⟨.str x, rfl, fun a1 d1 ha1 hd1 _ => mk_blob (K := K) ox ha1 hd1 fun H10 s10 o1 => ⟨.str t, rfl, .str g, rfl, .str x, rfl, _, rfl, x, rfl, small_line (by omega), rfl, rfl, fun a2 d2 ha2 hd2 _ => mk_tag (K := K) okT ha2 hd2 fun H12 s11 o2 => ⟨_, _, rfl, ?_⟩⟩⟩
    have o1 := o1.same s11
    have s912 := s10.trans s11
    clear ha1 hd1 ha2 hd2 s10 s11
    obtain ⟨dx1, ho1⟩ := id o1
    obtain ⟨dx2, ho2⟩ := id o2
    have w12 := w9.same s912
    have K512 : Fr W H5 H12 := K59.trans (Fr.same s912)
    refine ⟨.ref a1, rfl, a1, dx1, _, rfl, ho1, a1, dx1, _, .str x, rfl, ho1, rfl, .str x, rfl, rfl, _, rfl, ?_⟩
    rw [decide_eq_true rfl]
    refine iteF ?_
    refine ⟨.ref a2, rfl, a2, dx2, _, rfl, ho2, a2, dx2, _, .str t, rfl, ho2, rfl, .ref a2, rfl, a2, dx2, _, rfl, ho2, a2, dx2, _, .str g, rfl, ho2, rfl, (by show 2 ≤ sizeLine; decide), fun q1 nq1 => ?_⟩
    have s13 := same_new (o := .tup [V.str t, .str g]) nq1
    have h13 := upd_same (H := H12) (a := q1) (o := .tup [V.str t, .str g])
    generalize upd H12 q1 (.tup [V.str t, .str g]) = H13 at s13 h13
    refine ⟨.str t, rfl, .str g, rfl, (by show 2 ≤ sizeLine; decide), fun q2 nq2 => ?_⟩
    have s14 := same_new (o := .tup [V.str t, .str g]) nq2
    have h14 := upd_same (H := H13) (a := q2) (o := .tup [V.str t, .str g])
    generalize upd H13 q2 (.tup [V.str t, .str g]) = H14 at s14 h14
    have sh := shaped_tup [t, g] (fun y hy => by
      simp only [List.mem_cons, List.not_mem_nil, or_false] at hy
      rcases hy with rfl | rfl
      · exact (ok_id oki).1
      · exact ok_seg og)
    refine ⟨.tuple ([t, g].map PyData.str), .tuple ([t, g].map PyData.str), .tup (SqT.of (s14 _ _ h13)) (dp_strs [t, g]), .tup (SqT.of h14) (dp_strs [t, g]), sh, sh, _, rfl, ?_⟩
    rw [show PyData.eqv (.tuple ([t, g].map PyData.str)) (.tuple ([t, g].map PyData.str)) = true from (eqv_tups [t, g] [t, g]).trans (decide_eq_true rfl)]
    refine iteF ?_
    have s1214 := s13.trans s14
    have ho2' := s1214 _ _ ho2
    refine ⟨.ref a2, rfl, a2, dx2, _, rfl, ho2', a2, dx2, _, .str (cutS x none (some 200)), rfl, ho2', rfl, .str x, rfl, _, rfl, x, rfl, small_line (by omega), rfl, _, rfl, ?_⟩
    rw [decide_eq_true rfl]
    refine iteF ?_
    have ok0 : Ob.ok (.tag t g "") := ⟨oki, og, by decide +kernel, by decide +kernel⟩
    have okB : Ob.ok (.blob x) := ox
    have o1 := o1.same s1214
    have o2 := o2.same s1214
    have w14 := w12.same s1214
    have K514 : Fr W H5 H14 := K512.trans (Fr.same s1214)
    clear s1214 ho2' ho1 ho2 s13 s14 h13 h14 w12 K512 s912
    refine ⟨.str t, rfl, .str g, rfl, rfl, rfl, fun a3 d3 ha3 hd3 _ => mk_tag (K := K) ok0 ha3 hd3 fun H15 s15 o3 => ?_⟩
    obtain ⟨dx3, ho3⟩ := id o3
    refine ⟨a3, dx3, _, rfl, ho3, a3, dx3, _, .str "", rfl, ho3, rfl, rfl, _, rfl, ?_⟩
    rw [decide_eq_true rfl]
    refine iteF ?_
    refine ⟨.ref a1, rfl, .str x, rfl, fun a4 d4 ha4 hd4 _ => mk_blob (K := K) ox ha4 hd4 fun H16 s16 o4 => ?_⟩
    refine ⟨a1, a4, a1, a4, .blob x, .blob x, rfl, rfl, (o1.same s15).same s16, o4, okB, okB, fun H17 s17 => ⟨_, rfl, ?_⟩⟩
    rw [if_neg Bool.false_ne_true, decide_eq_true rfl]
    refine iteF ?_
    have s1417 := (s15.trans s16).trans s17
    have o1 := o1.same s1417
    have o2 := o2.same s1417
    have w17 := w14.same s1417
    have K517 : Fr W H5 H17 := K514.trans (Fr.same s1417)
    clear s1417 s15 s16 s17 o3 ho3 o4 ha3 hd3 ha4 hd4 w14 K514
    obtain ⟨y, hy, oy, ney⟩ : ∃ y : Str, atI [V.str ("x" : Str), .str ("" : Str)] (if (!decide (V.str x = V.str ("" : Str))) = true then 1 else 0) = some (.str y) ∧ isTextF y = true ∧ y ≠ x := by
      by_cases e : x = ("" : Str)
      · subst e
        rw [decide_eq_true rfl]
        exact ⟨"x", rfl, by decide +kernel, by decide⟩
      · rw [decide_eq_false (fun z => e (V.str.inj z))]
        exact ⟨"", rfl, by decide +kernel, fun z => e z.symm⟩
    refine ⟨.ref a1, rfl, (by show 2 ≤ sizeLine; decide), fun b5 hb5 => ⟨.str x, rfl, rfl, .inr ⟨_, rfl, b5, _, _, .str y, rfl, rfl, SqL.of upd_same, hy, fun a5 d5 ha5 hd5 _ => mk_blob (K := K) oy ha5 hd5 fun H19 s19 o5 => ?_⟩⟩⟩
    have s1719 := (same_new hb5).trans s19
    refine ⟨a1, a5, a1, a5, .blob x, .blob y, rfl, rfl, o1.same s1719, o5, okB, oy, fun H20 s20 => ⟨_, rfl, ?_⟩⟩
    rw [if_neg Bool.false_ne_true, decide_eq_false (fun z => ney (by injection z with z; exact z.symm))]
    refine iteF ?_
    have s1720 := s1719.trans s20
    have o1 := o1.same s1720
    have o2 := o2.same s1720
    have w20 := w17.same s1720
    have K520 : Fr W H5 H20 := K517.trans (Fr.same s1720)
    clear s1720 s1719 s19 s20 o5 ha5 hd5 hb5 w17 K517
    refine ⟨.ref a1, rfl, .str x, rfl, a1, a1, .blob x, rfl, o1, .inl rfl, ⟨"str", by decide, .base (.str x)⟩, _, rfl, iteF ?_⟩
    refine ⟨.ref a2, rfl, .str t, rfl, a2, a2, .tag t g (cutS x none (some 200)), rfl, o2, .inr rfl, ⟨"str", by decide, .base (.str t)⟩, _, rfl, iteF ?_⟩
    refine ⟨.ref a1, rfl, .ref a2, rfl, a1, a2, a1, a2, .blob x, .tag t g (cutS x none (some 200)), rfl, rfl, o1, o2, okB, okT, fun H21 s21 => ⟨_, rfl, ?_⟩⟩
    rw [if_neg Bool.false_ne_true, decide_eq_false (fun z => by cases z)]
    refine iteF ?_
    refine ⟨.ref a2, rfl, .ref a1, rfl, a2, a1, a2, a1, .tag t g (cutS x none (some 200)), .blob x, rfl, rfl, o2.same s21, o1.same s21, okT, okB, fun H22 s22 => ⟨_, rfl, ?_⟩⟩
    rw [if_neg Bool.false_ne_true, decide_eq_false (fun z => by cases z)]
    refine iteF ?_
    refine ⟨.ref a1, rfl, fun pe npe => fun a6 dx6 ha6 hdx6 _ => mk_tree (K := K) (t := []) (es := []) upd_same .nil (by decide) List.nodup_nil (fun _ z => nomatch z) ha6 hdx6 fun d6 es6 H23 hd6 s23 hpe6 hok6 hob6 => ?_⟩
    have s2023 := (s21.trans s22).trans ((same_new (o := .dK []) npe).trans s23)
    refine ⟨a1, a6, a1, d6, .blob x, .tree es6, rfl, rfl, o1.same s2023, hob6, okB, hok6, fun H24 s24 => ⟨_, rfl, ?_⟩⟩
    rw [if_neg Bool.false_ne_true, decide_eq_false (fun z => by cases z)]
    refine iteF ?_
    have s2024 := s2023.trans s24
    have o2 := o2.same s2024
    have w24 := w20.same s2024
    have K524 : Fr W H5 H24 := K520.trans (Fr.same s2024)
    refine ⟨.ref a2, rfl, a2, a2, .tag t g (cutS x none (some 200)), rfl, o2, .inr rfl, ⟨"int", by decide, .base (.int 0)⟩, _, rfl, iteF ?_⟩
    clear o1 o2 okT okB ok0 s2024 s2023 s24 s23 s22 s21 hob6 ha6 hdx6 hd6 npe w20 K520
    have tb24 : TabsL qfL [P1, P2, P3] H24 := TabsL.fr tb5 w5 K524
    have hL24 := K524 _ _ LW hL5
    clear tb5 hL5 K524 K58 K59
    refine ⟨tb24, fun f1' H30 e30 tb30 _ af1 => ⟨(by show 1 ≤ sizeLine; decide), fun p hp => ?_⟩⟩
    have st := AskAt.one w24 e30 tb30 af1 hp
    clear af1 e30 tb30 hp
    generalize upd H30 p (.lst [V.ref f1']) = G1 at st ⊢
    refine ⟨.ref p, rfl, .inl ⟨rfl, _, SqL.of st.st.at_⟩, st.st.tab, fun f2 Hb eN tbn _ af => ?_⟩
    obtain ⟨hp2, st⟩ := st.step eN tbn af
    refine ⟨p, _, .ref f2, rfl, rfl, hp2, by show 1 < sizeLine; decide, ?_⟩
    clear hp2 af tbn eN
    generalize upd Hb p _ = G2 at st
    refine ⟨.ref p, rfl, .inl ⟨rfl, _, SqL.of st.st.at_⟩, st.st.tab, fun f3 Hb eN tbn _ af => ?_⟩
    obtain ⟨hp2, st⟩ := st.step eN tbn af
    refine ⟨p, _, .ref f3, rfl, rfl, hp2, by show 2 < sizeLine; decide, ?_⟩
    clear hp2 af tbn eN
    generalize upd Hb p _ = G3 at st
    refine ⟨.ref p, rfl, .inl ⟨rfl, _, SqL.of st.st.at_⟩, st.st.tab, fun f4 Hb eN tbn _ af => ?_⟩
    obtain ⟨hp2, st⟩ := st.step eN tbn af
    refine ⟨p, _, .ref f4, rfl, rfl, hp2, by show 3 < sizeLine; decide, ?_⟩
    clear hp2 af tbn eN
    generalize upd Hb p _ = G4 at st
    refine ⟨.ref p, rfl, .inl ⟨rfl, _, SqL.of st.st.at_⟩, st.st.tab, fun f5 Hb eN tbn _ af => ?_⟩
    obtain ⟨hp2, st⟩ := st.step eN tbn af
    refine ⟨p, _, .ref f5, rfl, rfl, hp2, by show 4 < sizeLine; decide, ?_⟩
    clear hp2 af tbn eN
    generalize upd Hb p _ = G5 at st
    have hr8 := st.st.at_
    refine ⟨.ref p, rfl, p, rfl, ⟨_, SqL.of hr8⟩, fun DD hDD0 => ?_⟩
    have nDW := st.ws.ne hDD0
    have sD := same_new (o := .lst []) hDD0
    have st := st.same sD
    have hdd := upd_same (H := G5) (a := DD) (o := .lst [])
    refine lc_inv (i := 9) yields_list (fun j acc H' => acc = [] ∧ Kq W (upd G5 DD (.lst [])) H' ∧ (∃ c', Wl H' W c' ∧ c9 ≤ c' ∧ c' ≤ c9 + j) ∧ TabsL qfL [P1, P2, P3] H') (fun j acc H' I _ => SqL.of (I.2.1 _ _ st.nw (fun ps z => nomatch z) (sD _ _ hr8))) ⟨rfl, Kq.refl _ _, ⟨c9, st.ws, Int.le_refl _, by omega⟩, st.st.tab⟩ (fun j acc H' x I hDD hx hacc hj => ?_) (by show 5 ≤ 1000000; decide) (fun acc H' I hDD hacc => ?_)
    · obtain ⟨rfl, KJ, ⟨c', w', l', m'⟩, tb'⟩ := I
      have case1 := st.nth 0 rfl
      have case2 := st.nth 1 rfl
      have case3 := st.nth 2 rfl
      have case4 := st.nth 3 rfl
      have case5 := st.nth 4 rfl
      have hm7 : x = .ref f1' ∨ x = .ref f2 ∨ x = .ref f3 ∨ x = .ref f4 ∨ x = .ref f5 := by
        have h : x ∈ [V.ref f1', .ref f2, .ref f3, .ref f4, .ref f5] := List.mem_of_getElem? hx
        simpa only [List.mem_cons, List.not_mem_nil, or_false] using h
      rcases hm7 with rfl | rfl | rfl | rfl | rfl
      · refine ⟨.ref f1', rfl, f1', _, rfl, ask_kq case1 st.ws KJ, ?_⟩
        exact ⟨_, _, rfl, rfl, by decide, by decide, by decide +kernel, fun a7 dx7 ha7 hdx7 _ => mk_badB ha7 hdx7 (.str _ (by decide +kernel) (fun u hu => long_a u hu)) (by decide +kernel) fun dd y H5 s5 h5 => ⟨rfl, ⟨dd, _, rfl, h5⟩, _, rfl, iteF ⟨[], (s5) _ _ hDD, Nat.zero_le _, rfl, KJ.trans (Kq.same (s5)), ⟨c', w'.same (s5), l', by push_cast; omega⟩, tb'.same (s5)⟩⟩⟩
      · refine ⟨.ref f2, rfl, f2, _, rfl, ask_kq case2 st.ws KJ, ?_⟩
        refine ⟨.ref W, rfl, (by show 1 ≤ sizeLine; decide), fun tq ntq => ⟨(by show 3 ≤ sizeLine; decide), fun b7 hb7 => ?_⟩⟩
        have sq := same_new (o := .tup [V.str "a"]) ntq
        have hq := upd_same (H := H') (a := tq) (o := .tup [V.str "a"])
        have wq := w'.same sq
        have nq := w'.ne ntq
        have tbq := tb'.same sq
        generalize upd H' tq (.tup [V.str "a"]) = Hq at sq hq wq tbq hb7 ⊢
        refine do_pick (wq.new hb7) upd_same (wq.ne hb7) (by show 0 < 3; decide) (by show 3 < 1000000; decide) (by omega) fun v3 hv3 H8 c8 f8' w8 l8' m8' => ?_
        have KB : Kq W H' H8 := (Kq.same (sq.trans (same_new hb7))).trans (Kq.fr f8')
        have tb8 : TabsL qfL [P1, P2, P3] H8 := TabsL.fr (tbq.same (same_new hb7)) (wq.new hb7) f8'
        have hDD8 : H8 DD = some (.lst []) := KB DD _ nDW (fun ps z => nomatch z) hDD
        have hq8 := f8' _ _ nq ((same_new hb7) _ _ hq)
        have ba : Thing H8 v3 ∧ evalV isTextF v3 = false := by
          simp only [List.mem_cons, List.not_mem_nil, or_false] at hv3
          rcases hv3 with rfl | rfl | rfl
          · exact ⟨.non, rfl⟩
          · exact ⟨.int _, rfl⟩
          · exact ⟨.tup _ _ hq8, rfl⟩
        exact fun a7 dx7 ha7 hdx7 _ => mk_badB ha7 hdx7 ba.1 ba.2 fun dd y H5 s5 h5 => ⟨rfl, ⟨dd, _, rfl, h5⟩, _, rfl, iteF ⟨[], s5 _ _ hDD8, Nat.zero_le _, rfl, (KJ.trans KB).trans (Kq.same s5), ⟨c8, w8.same s5, by omega, by push_cast; omega⟩, tb8.same s5⟩⟩
      · refine ⟨.ref f3, rfl, f3, _, rfl, ask_kq case3 st.ws KJ, ?_⟩
        exact ⟨.str t, rfl, _, rfl, t, rfl, small_line (by omega), .str g, rfl, rfl, rfl, fun a7 dx7 ha7 hdx7 _ => mk_badG ha7 hdx7 ⟨th_cut oki _, (.str g (by have := seg_len og; omega) (ok_seg og)), th_nil _, .inl (short_id oki)⟩ fun dd y H5 s5 h5 => ⟨rfl, ⟨dd, _, rfl, h5⟩, _, rfl, iteF ⟨[], (s5) _ _ hDD, Nat.zero_le _, rfl, KJ.trans (Kq.same (s5)), ⟨c', w'.same (s5), l', by push_cast; omega⟩, tb'.same (s5)⟩⟩⟩
      · refine ⟨.ref f4, rfl, f4, _, rfl, ask_kq case4 st.ws KJ, ?_⟩
        exact ⟨.str t, rfl, rfl, rfl, fun a7 dx7 ha7 hdx7 _ => mk_badG ha7 hdx7 ⟨th_id oki _, .str _ (by decide) (ok_by (by decide +kernel)), th_nil _, .inr (.inl (by decide +kernel))⟩ fun dd y H5 s5 h5 => ⟨rfl, ⟨dd, _, rfl, h5⟩, _, rfl, iteF ⟨[], (s5) _ _ hDD, Nat.zero_le _, rfl, KJ.trans (Kq.same (s5)), ⟨c', w'.same (s5), l', by push_cast; omega⟩, tb'.same (s5)⟩⟩⟩
      · refine ⟨.ref f5, rfl, f5, _, rfl, ask_kq case5 st.ws KJ, ?_⟩
        exact ⟨.str t, rfl, .str g, rfl, _, _, rfl, rfl, by decide, by decide, by decide +kernel, rfl, rfl, fun a7 dx7 ha7 hdx7 _ => mk_badG ha7 hdx7 ⟨th_id oki _, (.str g (by have := seg_len og; omega) (ok_seg og)), .str _ (by decide +kernel) (fun u hu => long_b u hu), .inr (.inr (by decide +kernel))⟩ fun dd y H5 s5 h5 => ⟨rfl, ⟨dd, _, rfl, h5⟩, _, rfl, iteF ⟨[], (s5) _ _ hDD, Nat.zero_le _, rfl, KJ.trans (Kq.same (s5)), ⟨c', w'.same (s5), l', by push_cast; omega⟩, tb'.same (s5)⟩⟩⟩
    · obtain ⟨rfl, KJ, ⟨c', w', l', m'⟩, tb'⟩ := I
      refine ⟨(by show 0 ≤ sizeLine; decide), fun q3 n3 => ?_⟩
      have s5' := same_new (o := .lst []) n3
      have m8' : c' ≤ c9 + 5 := m'
      clear m'
      refine ⟨_, _, .lst (SqL.of (s5' _ _ hDD)) .nil, .lst (SqL.of upd_same) .nil, shaped_nil, shaped_nil, _, rfl, iteF ?_⟩
      have K40 : Kq W H24 (upd H' q3 (.lst [])) := st.kq.trans (KJ.trans (Kq.same s5'))
      have hL40 := K40 _ _ LW (by intro ps z; cases z) hL24
      have w40 := w'.same s5'
      have tb40 := tb'.same s5'
      clear st KJ hDD hDD0 hr8
      generalize upd H' q3 (.lst []) = H40 at K40 hL40 w40 tb40 ⊢
      refine ⟨.ref W, rfl, W, c', rfl, w40, by omega, tb40, fun H41 c41 w41 l41 m41 K41 tb41 => ⟨_, rfl, iteF ?_⟩⟩
      refine ⟨.ref W, rfl, W, c41, rfl, w41, by omega, tb41, fun H42 c42 w42 l42 m42 K42 tb42 => ⟨_, rfl, iteF ?_⟩⟩
      exact ⟨K42 _ _ LW (by intro ps z; cases z) (K41 _ _ LW (by intro ps z; cases z) hL40), tb42, _, _, _, _, _, _, _, _, _, rfl⟩
end

end Fk

set_option maxHeartbeats 4000000
namespace Fk
open PySem PySem.Spec PyProof.Rows L2
section
variable {P : Program} {w : World} {K : PySem.W.Frag} {mg : Str → Option Value} {base : Heap}
theorem ini_ForkError {f : Addr} {fd : FuncData} (F : C8.Fun K "__init__" "ForkError.__init__" s_ForkError_init f fd) : FnOk P w K mg base C8.CX0 1 f fd ["self", "why"] (spErr K "why") := by
  refine C8.fn0 F sc_ForkError_init (fun vs H Q E h => ?_) (fun cdv A outer s H vs Q E hr h => ?_)
  · obtain ⟨a, C, fI, y, rfl, _⟩ := h
    rfl
  · obtain ⟨a, C, fI, y, rfl, T, hno, ea, q⟩ := h
    refine ⟨_, pss_one (ps_osv (pv 0) (pv 1)), ?_⟩
    exact ⟨y, rfl, .ref a, rfl, a, C, fI, rfl, T, hno, ea, q⟩
end
theorem not_first {K : PySem.W.Frag} {C : Addr} {T : String} (h : PySem.W.kitOne K (.type T) (.ref C) = some false) : PySem.W.notFirst K C (.type T) = true := by
  have e : (Value.type T == Value.ref C) = false := rfl
  unfold PySem.W.kitOne at h
  rw [e, if_neg Bool.false_ne_true] at h
  have h : (if ((PySem.W.clsIn K C).isSome && PySem.W.typeIn K (.ref C) == some (.type "type")) = true then PySem.W.subIn K (.type T) (.ref C) else none) = some false := h
  unfold PySem.W.notFirst
  split at h
  · rw [h]
    simp
  · cases h
theorem notab_none {K : PySem.W.Frag} {h : Heap} {P : Addr} (X : K.In h) (n : PySem.W.noTabs K = true) (hP : h.get? P = some { cls := .none, data := .fields #[] }) : K.lookup P = none := by
  cases e : K.lookup P with
  | none => rfl
  | some o =>
    have e1 := X _ _ e
    rw [hP] at e1
    cases e1
    exact absurd (show false = true from List.all_eq_true.mp n (P, _) (PySem.W.mem_of_lookupK e)) Bool.false_ne_true
theorem all_mk {l : PySem.W.OpenLaw} {w : World} {K : PySem.W.Frag} {h : Heap} {mg : Str → Option Value} {fa : Addr} (X : K.In h) (G : h.Ns mainGlobals mg) (hfa : mg "law" = some (.ref fa))
    {f1 f2 f3 f4 f5 f6 f7 f8 f9 f10 f11 f12 f13 f14 f15 f16 f17 f18 f19 f20 f21 f22 f23 f24 f25 f26 f27 : Addr} {od1 an1 od2 an2 od3 an3 od4 an4 od5 an5 od6 an6 od7 an7 od8 an8 od9 an9 od10 an10 od11 an11 od12 an12 od13 an13 od14 an14 od15 an15 od16 an16 od17 an17 od18 an18 od19 an19 od20 an20 od21 an21 od22 an22 od23 an23 od24 an24 od25 an25 od26 an26 od27 an27 : Option Addr} {sl1 sl2 sl3 sl4 sl5 sl6 sl7 sl8 sl9 sl10 sl11 sl12 sl13 sl14 sl15 sl16 sl17 sl18 sl19 sl20 sl21 sl22 sl23 sl24 sl25 sl26 sl27 : Array (Option Value)} {oc1 kV1 dc1 pm1 cd1 ct1 oc2 kV2 dc2 pm2 cd2 ct2 oc3 kV3 dc3 pm3 cd3 ct3 oc4 kV4 dc4 pm4 cd4 ct4 oc5 kV5 dc5 pm5 cd5 ct5 oc6 kV6 dc6 pm6 cd6 ct6 oc7 kV7 dc7 pm7 cd7 ct7 oc8 kV8 dc8 pm8 cd8 ct8 oc9 kV9 dc9 pm9 cd9 ct9 oc10 kV10 dc10 pm10 cd10 ct10 oc11 kV11 dc11 pm11 cd11 ct11 oc12 kV12 dc12 pm12 cd12 ct12 oc13 kV13 dc13 pm13 cd13 ct13 oc14 kV14 dc14 pm14 cd14 ct14 oc15 kV15 dc15 pm15 cd15 ct15 oc16 kV16 dc16 pm16 cd16 ct16 oc17 kV17 dc17 pm17 cd17 ct17 oc18 kV18 dc18 pm18 cd18 ct18 oc19 kV19 dc19 pm19 cd19 ct19 oc20 kV20 dc20 pm20 cd20 ct20 oc21 kV21 dc21 pm21 cd21 ct21 oc22 kV22 dc22 pm22 cd22 ct22 oc23 kV23 dc23 pm23 cd23 ct23 oc24 kV24 dc24 pm24 cd24 ct24 oc25 kV25 dc25 pm25 cd25 ct25 oc26 kV26 dc26 pm26 cd26 ct26 oc27 kV27 dc27 pm27 cd27 ct27 : Value} {t_HEX_DIGITS : Tok} {t_LETTERS : Tok} {t_SEGMENT_SIGNS : Tok} {t_LONGEST_WORD : Tok} {t_LONGEST_TEXT : Tok} {t_LONGEST_MESSAGE : Tok} {t_LATEST : Tok} {t_MOST_ENTRIES : Tok} {t_MOST_PARENTS : Tok}
    (a1 : PySem.W.nsIn K mainGlobals "is_id" = some (some (.ref f1))) (l1 : K.lookup f1 = some ⟨oc1, od1, .func (PySem.W.fnOf "is_id" "is_id" (C8.fnArgs s_is_id) (C8.fnBody s_is_id) (C8.fnScope s_is_id) .none kV1 dc1 pm1 an1 cd1 ct1), sl1⟩) (c1 : PySem.W.codeIn K cd1 "is_id" = true) (k1 : PySem.W.keepIn K (.ref f1) = true)
    (a2 : PySem.W.nsIn K mainGlobals "is_segment" = some (some (.ref f2))) (l2 : K.lookup f2 = some ⟨oc2, od2, .func (PySem.W.fnOf "is_segment" "is_segment" (C8.fnArgs s_is_segment) (C8.fnBody s_is_segment) (C8.fnScope s_is_segment) .none kV2 dc2 pm2 an2 cd2 ct2), sl2⟩) (c2 : PySem.W.codeIn K cd2 "is_segment" = true) (k2 : PySem.W.keepIn K (.ref f2) = true)
    (a3 : PySem.W.nsIn K mainGlobals "is_author" = some (some (.ref f3))) (l3 : K.lookup f3 = some ⟨oc3, od3, .func (PySem.W.fnOf "is_author" "is_author" (C8.fnArgs s_is_author) (C8.fnBody s_is_author) (C8.fnScope s_is_author) .none kV3 dc3 pm3 an3 cd3 ct3), sl3⟩) (c3 : PySem.W.codeIn K cd3 "is_author" = true) (k3 : PySem.W.keepIn K (.ref f3) = true)
    (a4 : PySem.W.nsIn K mainGlobals "is_text" = some (some (.ref f4))) (l4 : K.lookup f4 = some ⟨oc4, od4, .func (PySem.W.fnOf "is_text" "is_text" (C8.fnArgs s_is_text) (C8.fnBody s_is_text) (C8.fnScope s_is_text) .none kV4 dc4 pm4 an4 cd4 ct4), sl4⟩) (c4 : PySem.W.codeIn K cd4 "is_text" = true) (k4 : PySem.W.keepIn K (.ref f4) = true)
    (a5 : PySem.W.nsIn K mainGlobals "is_message" = some (some (.ref f5))) (l5 : K.lookup f5 = some ⟨oc5, od5, .func (PySem.W.fnOf "is_message" "is_message" (C8.fnArgs s_is_message) (C8.fnBody s_is_message) (C8.fnScope s_is_message) .none kV5 dc5 pm5 an5 cd5 ct5), sl5⟩) (c5 : PySem.W.codeIn K cd5 "is_message" = true) (k5 : PySem.W.keepIn K (.ref f5) = true)
    (a6 : PySem.W.nsIn K mainGlobals "is_time" = some (some (.ref f6))) (l6 : K.lookup f6 = some ⟨oc6, od6, .func (PySem.W.fnOf "is_time" "is_time" (C8.fnArgs s_is_time) (C8.fnBody s_is_time) (C8.fnScope s_is_time) .none kV6 dc6 pm6 an6 cd6 ct6), sl6⟩) (c6 : PySem.W.codeIn K cd6 "is_time" = true) (k6 : PySem.W.keepIn K (.ref f6) = true)
    (a7 : PySem.W.nsIn K mainGlobals "is_count" = some (some (.ref f7))) (l7 : K.lookup f7 = some ⟨oc7, od7, .func (PySem.W.fnOf "is_count" "is_count" (C8.fnArgs s_is_count) (C8.fnBody s_is_count) (C8.fnScope s_is_count) .none kV7 dc7 pm7 an7 cd7 ct7), sl7⟩) (c7 : PySem.W.codeIn K cd7 "is_count" = true) (k7 : PySem.W.keepIn K (.ref f7) = true)
    (a8 : PySem.W.nsIn K mainGlobals "are_ids" = some (some (.ref f8))) (l8 : K.lookup f8 = some ⟨oc8, od8, .func (PySem.W.fnOf "are_ids" "are_ids" (C8.fnArgs s_are_ids) (C8.fnBody s_are_ids) (C8.fnScope s_are_ids) .none kV8 dc8 pm8 an8 cd8 ct8), sl8⟩) (c8 : PySem.W.codeIn K cd8 "are_ids" = true) (k8 : PySem.W.keepIn K (.ref f8) = true)
    (a9 : PySem.W.nsIn K mainGlobals "ascending" = some (some (.ref f9))) (l9 : K.lookup f9 = some ⟨oc9, od9, .func (PySem.W.fnOf "ascending" "ascending" (C8.fnArgs s_ascending) (C8.fnBody s_ascending) (C8.fnScope s_ascending) .none kV9 dc9 pm9 an9 cd9 ct9), sl9⟩) (c9 : PySem.W.codeIn K cd9 "ascending" = true) (k9 : PySem.W.keepIn K (.ref f9) = true)
    (a10 : PySem.W.nsIn K mainGlobals "_is_word" = some (some (.ref f10))) (l10 : K.lookup f10 = some ⟨oc10, od10, .func (PySem.W.fnOf "_is_word" "_is_word" (C8.fnArgs s__is_word) (C8.fnBody s__is_word) (C8.fnScope s__is_word) .none kV10 dc10 pm10 an10 cd10 ct10), sl10⟩) (c10 : PySem.W.codeIn K cd10 "_is_word" = true) (k10 : PySem.W.keepIn K (.ref f10) = true)
    (a11 : PySem.W.nsIn K mainGlobals "is_value" = some (some (.ref f11))) (l11 : K.lookup f11 = some ⟨oc11, od11, .func (PySem.W.fnOf "is_value" "is_value" (C8.fnArgs s_is_value) (C8.fnBody s_is_value) (C8.fnScope s_is_value) .none kV11 dc11 pm11 an11 cd11 ct11), sl11⟩) (c11 : PySem.W.codeIn K cd11 "is_value" = true) (k11 : PySem.W.keepIn K (.ref f11) = true)
    (a12 : PySem.W.nsIn K mainGlobals "_law_cell_at" = some (some (.ref f12))) (l12 : K.lookup f12 = some ⟨oc12, od12, .func (PySem.W.fnOf "_law_cell_at" "_law_cell_at" (C8.fnArgs s_l_cell_at) (C8.fnBody s_l_cell_at) (C8.fnScope s_l_cell_at) .none kV12 dc12 pm12 an12 cd12 ct12), sl12⟩) (c12 : PySem.W.codeIn K cd12 "_law_cell_at" = true) (k12 : PySem.W.keepIn K (.ref f12) = true)
    (a13 : PySem.W.nsIn K mainGlobals "_law_well" = some (some (.ref f13))) (l13 : K.lookup f13 = some ⟨oc13, od13, .func (PySem.W.fnOf "_law_well" "_law_well" (C8.fnArgs s_l_well) (C8.fnBody s_l_well) (C8.fnScope s_l_well) .none kV13 dc13 pm13 an13 cd13 ct13), sl13⟩) (c13 : PySem.W.codeIn K cd13 "_law_well" = true) (k13 : PySem.W.keepIn K (.ref f13) = true)
    (a14 : PySem.W.nsIn K mainGlobals "_law_draw" = some (some (.ref f14))) (l14 : K.lookup f14 = some ⟨oc14, od14, .func (PySem.W.fnOf "_law_draw" "_law_draw" (C8.fnArgs s_l_draw) (C8.fnBody s_l_draw) (C8.fnScope s_l_draw) .none kV14 dc14 pm14 an14 cd14 ct14), sl14⟩) (c14 : PySem.W.codeIn K cd14 "_law_draw" = true) (k14 : PySem.W.keepIn K (.ref f14) = true)
    (a15 : PySem.W.nsIn K mainGlobals "_law_pick" = some (some (.ref f15))) (l15 : K.lookup f15 = some ⟨oc15, od15, .func (PySem.W.fnOf "_law_pick" "_law_pick" (C8.fnArgs s_l_pick) (C8.fnBody s_l_pick) (C8.fnScope s_l_pick) .none kV15 dc15 pm15 an15 cd15 ct15), sl15⟩) (c15 : PySem.W.codeIn K cd15 "_law_pick" = true) (k15 : PySem.W.keepIn K (.ref f15) = true)
    (a16 : PySem.W.nsIn K mainGlobals "_law_signs" = some (some (.ref f16))) (l16 : K.lookup f16 = some ⟨oc16, od16, .func (PySem.W.fnOf "_law_signs" "_law_signs" (C8.fnArgs s_l_signs) (C8.fnBody s_l_signs) (C8.fnScope s_l_signs) .none kV16 dc16 pm16 an16 cd16 ct16), sl16⟩) (c16 : PySem.W.codeIn K cd16 "_law_signs" = true) (k16 : PySem.W.keepIn K (.ref f16) = true)
    (a17 : PySem.W.nsIn K mainGlobals "_law_all_signs" = some (some (.ref f17))) (l17 : K.lookup f17 = some ⟨oc17, od17, .func (PySem.W.fnOf "_law_all_signs" "_law_all_signs" (C8.fnArgs s_l_all_signs) (C8.fnBody s_l_all_signs) (C8.fnScope s_l_all_signs) .none kV17 dc17 pm17 an17 cd17 ct17), sl17⟩) (c17 : PySem.W.codeIn K cd17 "_law_all_signs" = true) (k17 : PySem.W.keepIn K (.ref f17) = true)
    (a18 : PySem.W.nsIn K mainGlobals "_law_segment" = some (some (.ref f18))) (l18 : K.lookup f18 = some ⟨oc18, od18, .func (PySem.W.fnOf "_law_segment" "_law_segment" (C8.fnArgs s_l_segment) (C8.fnBody s_l_segment) (C8.fnScope s_l_segment) .none kV18 dc18 pm18 an18 cd18 ct18), sl18⟩) (c18 : PySem.W.codeIn K cd18 "_law_segment" = true) (k18 : PySem.W.keepIn K (.ref f18) = true)
    (a19 : PySem.W.nsIn K mainGlobals "_law_text" = some (some (.ref f19))) (l19 : K.lookup f19 = some ⟨oc19, od19, .func (PySem.W.fnOf "_law_text" "_law_text" (C8.fnArgs s_l_text) (C8.fnBody s_l_text) (C8.fnScope s_l_text) .none kV19 dc19 pm19 an19 cd19 ct19), sl19⟩) (c19 : PySem.W.codeIn K cd19 "_law_text" = true) (k19 : PySem.W.keepIn K (.ref f19) = true)
    (a20 : PySem.W.nsIn K mainGlobals "_law_id" = some (some (.ref f20))) (l20 : K.lookup f20 = some ⟨oc20, od20, .func (PySem.W.fnOf "_law_id" "_law_id" (C8.fnArgs s_l_id) (C8.fnBody s_l_id) (C8.fnScope s_l_id) .none kV20 dc20 pm20 an20 cd20 ct20), sl20⟩) (c20 : PySem.W.codeIn K cd20 "_law_id" = true) (k20 : PySem.W.keepIn K (.ref f20) = true)
    (a21 : PySem.W.nsIn K mainGlobals "_law_odd" = some (some (.ref f21))) (l21 : K.lookup f21 = some ⟨oc21, od21, .func (PySem.W.fnOf "_law_odd" "_law_odd" (C8.fnArgs s_l_odd) (C8.fnBody s_l_odd) (C8.fnScope s_l_odd) .none kV21 dc21 pm21 an21 cd21 ct21), sl21⟩) (c21 : PySem.W.codeIn K cd21 "_law_odd" = true) (k21 : PySem.W.keepIn K (.ref f21) = true)
    (a22 : PySem.W.nsIn K mainGlobals "_law_refused" = some (some (.ref f22))) (l22 : K.lookup f22 = some ⟨oc22, od22, .func (PySem.W.fnOf "_law_refused" "_law_refused" (C8.fnArgs s_l_refused) (C8.fnBody s_l_refused) (C8.fnScope s_l_refused) .none kV22 dc22 pm22 an22 cd22 ct22), sl22⟩) (c22 : PySem.W.codeIn K cd22 "_law_refused" = true) (k22 : PySem.W.keepIn K (.ref f22) = true)
    (a23 : PySem.W.nsIn K mainGlobals "_law_entries" = some (some (.ref f23))) (l23 : K.lookup f23 = some ⟨oc23, od23, .func (PySem.W.fnOf "_law_entries" "_law_entries" (C8.fnArgs s_l_entries) (C8.fnBody s_l_entries) (C8.fnScope s_l_entries) .none kV23 dc23 pm23 an23 cd23 ct23), sl23⟩) (c23 : PySem.W.codeIn K cd23 "_law_entries" = true) (k23 : PySem.W.keepIn K (.ref f23) = true)
    (a24 : PySem.W.nsIn K mainGlobals "_law_parents" = some (some (.ref f24))) (l24 : K.lookup f24 = some ⟨oc24, od24, .func (PySem.W.fnOf "_law_parents" "_law_parents" (C8.fnArgs s_l_parents) (C8.fnBody s_l_parents) (C8.fnScope s_l_parents) .none kV24 dc24 pm24 an24 cd24 ct24), sl24⟩) (c24 : PySem.W.codeIn K cd24 "_law_parents" = true) (k24 : PySem.W.keepIn K (.ref f24) = true)
    (a25 : PySem.W.nsIn K mainGlobals "_law_tree_right" = some (some (.ref f25))) (l25 : K.lookup f25 = some ⟨oc25, od25, .func (PySem.W.fnOf "_law_tree_right" "_law_tree_right" (C8.fnArgs s_l_tree_right) (C8.fnBody s_l_tree_right) (C8.fnScope s_l_tree_right) .none kV25 dc25 pm25 an25 cd25 ct25), sl25⟩) (c25 : PySem.W.codeIn K cd25 "_law_tree_right" = true) (k25 : PySem.W.keepIn K (.ref f25) = true)
    (a26 : PySem.W.nsIn K mainGlobals "_law_commit_right" = some (some (.ref f26))) (l26 : K.lookup f26 = some ⟨oc26, od26, .func (PySem.W.fnOf "_law_commit_right" "_law_commit_right" (C8.fnArgs s_l_commit_right) (C8.fnBody s_l_commit_right) (C8.fnScope s_l_commit_right) .none kV26 dc26 pm26 an26 cd26 ct26), sl26⟩) (c26 : PySem.W.codeIn K cd26 "_law_commit_right" = true) (k26 : PySem.W.keepIn K (.ref f26) = true)
    (a27 : PySem.W.nsIn K mainGlobals "law" = some (some (.ref f27))) (l27 : K.lookup f27 = some ⟨oc27, od27, .func (PySem.W.fnOf "law" "law" (C8.fnArgs s_law) (C8.fnBody s_law) (C8.fnScope s_law) .none kV27 dc27 pm27 an27 cd27 ct27), sl27⟩) (c27 : PySem.W.codeIn K cd27 "law" = true) (k27 : PySem.W.keepIn K (.ref f27) = true)
    (z_ValueError : PySem.W.nsIn K mainGlobals "ValueError" = some none)
    (z_all : PySem.W.nsIn K mainGlobals "all" = some none)
    (z_bool : PySem.W.nsIn K mainGlobals "bool" = some none)
    (z_dict : PySem.W.nsIn K mainGlobals "dict" = some none)
    (z_int : PySem.W.nsIn K mainGlobals "int" = some none)
    (z_isinstance : PySem.W.nsIn K mainGlobals "isinstance" = some none)
    (z_len : PySem.W.nsIn K mainGlobals "len" = some none)
    (z_list : PySem.W.nsIn K mainGlobals "list" = some none)
    (z_min : PySem.W.nsIn K mainGlobals "min" = some none)
    (z_range : PySem.W.nsIn K mainGlobals "range" = some none)
    (z_set : PySem.W.nsIn K mainGlobals "set" = some none)
    (z_sorted : PySem.W.nsIn K mainGlobals "sorted" = some none)
    (z_str : PySem.W.nsIn K mainGlobals "str" = some none)
    (z_tuple : PySem.W.nsIn K mainGlobals "tuple" = some none)
    (g_HEX_DIGITS : PySem.W.nsIn K mainGlobals "HEX_DIGITS" = some (some (.str (Str.ofString "0123456789abcdef") t_HEX_DIGITS)))
    (g_LETTERS : PySem.W.nsIn K mainGlobals "LETTERS" = some (some (.str (Str.ofString "abcdefghijklmnopqrstuvwxyz") t_LETTERS)))
    (g_SEGMENT_SIGNS : PySem.W.nsIn K mainGlobals "SEGMENT_SIGNS" = some (some (.str (Str.ofString "abcdefghijklmnopqrstuvwxyz0123456789._-") t_SEGMENT_SIGNS)))
    (g_LONGEST_WORD : PySem.W.nsIn K mainGlobals "LONGEST_WORD" = some (some (.int 12 t_LONGEST_WORD)))
    (g_LONGEST_TEXT : PySem.W.nsIn K mainGlobals "LONGEST_TEXT" = some (some (.int 2000 t_LONGEST_TEXT)))
    (g_LONGEST_MESSAGE : PySem.W.nsIn K mainGlobals "LONGEST_MESSAGE" = some (some (.int 200 t_LONGEST_MESSAGE)))
    (g_LATEST : PySem.W.nsIn K mainGlobals "LATEST" = some (some (.int 1000000000000 t_LATEST)))
    (g_MOST_ENTRIES : PySem.W.nsIn K mainGlobals "MOST_ENTRIES" = some (some (.int 30 t_MOST_ENTRIES)))
    (g_MOST_PARENTS : PySem.W.nsIn K mainGlobals "MOST_PARENTS" = some (some (.int 6 t_MOST_PARENTS)))
    {CB CT CC CG cF cN iF ek pdA dC dT kdC kdG : Addr}
    {fmBlob_init : Addr}
    {odmBlob_init anmBlob_init : Option Addr} {slmBlob_init : Array (Option Value)} {ocmBlob_init kVmBlob_init dcmBlob_init pmmBlob_init cdmBlob_init ctmBlob_init : Value}
    {fmTree_init : Addr}
    {odmTree_init anmTree_init : Option Addr} {slmTree_init : Array (Option Value)} {ocmTree_init kVmTree_init dcmTree_init pmmTree_init cdmTree_init ctmTree_init : Value}
    {fmCommit_init : Addr}
    {odmCommit_init anmCommit_init : Option Addr} {slmCommit_init : Array (Option Value)} {ocmCommit_init dcmCommit_init pmmCommit_init cdmCommit_init ctmCommit_init : Value}
    {fmTag_init : Addr}
    {odmTag_init anmTag_init : Option Addr} {slmTag_init : Array (Option Value)} {ocmTag_init dcmTag_init pmmTag_init cdmTag_init ctmTag_init : Value}
    {fmBlob_eq : Addr}
    {odmBlob_eq anmBlob_eq : Option Addr} {slmBlob_eq : Array (Option Value)} {ocmBlob_eq kVmBlob_eq dcmBlob_eq pmmBlob_eq cdmBlob_eq ctmBlob_eq : Value}
    {fmTree_eq : Addr}
    {odmTree_eq anmTree_eq : Option Addr} {slmTree_eq : Array (Option Value)} {ocmTree_eq kVmTree_eq dcmTree_eq pmmTree_eq cdmTree_eq ctmTree_eq : Value}
    {fmCommit_eq : Addr}
    {odmCommit_eq anmCommit_eq : Option Addr} {slmCommit_eq : Array (Option Value)} {ocmCommit_eq kVmCommit_eq dcmCommit_eq pmmCommit_eq cdmCommit_eq ctmCommit_eq : Value}
    {fmTag_eq : Addr}
    {odmTag_eq anmTag_eq : Option Addr} {slmTag_eq : Array (Option Value)} {ocmTag_eq kVmTag_eq dcmTag_eq pmmTag_eq cdmTag_eq ctmTag_eq : Value}
    {fpBlob_text qpBlob_text : Addr} {rpBlob_text : List Value}
    {odpBlob_text anpBlob_text : Option Addr} {slpBlob_text : Array (Option Value)} {ocpBlob_text kVpBlob_text dcpBlob_text pmpBlob_text cdpBlob_text ctpBlob_text : Value}
    {fpTree_entries qpTree_entries : Addr} {rpTree_entries : List Value}
    {odpTree_entries anpTree_entries : Option Addr} {slpTree_entries : Array (Option Value)} {ocpTree_entries kVpTree_entries dcpTree_entries pmpTree_entries cdpTree_entries ctpTree_entries : Value}
    {fpCommit_tree qpCommit_tree : Addr} {rpCommit_tree : List Value}
    {odpCommit_tree anpCommit_tree : Option Addr} {slpCommit_tree : Array (Option Value)} {ocpCommit_tree kVpCommit_tree dcpCommit_tree pmpCommit_tree cdpCommit_tree ctpCommit_tree : Value}
    {fpCommit_parents qpCommit_parents : Addr} {rpCommit_parents : List Value}
    {odpCommit_parents anpCommit_parents : Option Addr} {slpCommit_parents : Array (Option Value)} {ocpCommit_parents kVpCommit_parents dcpCommit_parents pmpCommit_parents cdpCommit_parents ctpCommit_parents : Value}
    {fpCommit_author qpCommit_author : Addr} {rpCommit_author : List Value}
    {odpCommit_author anpCommit_author : Option Addr} {slpCommit_author : Array (Option Value)} {ocpCommit_author kVpCommit_author dcpCommit_author pmpCommit_author cdpCommit_author ctpCommit_author : Value}
    {fpCommit_time qpCommit_time : Addr} {rpCommit_time : List Value}
    {odpCommit_time anpCommit_time : Option Addr} {slpCommit_time : Array (Option Value)} {ocpCommit_time kVpCommit_time dcpCommit_time pmpCommit_time cdpCommit_time ctpCommit_time : Value}
    {fpCommit_message qpCommit_message : Addr} {rpCommit_message : List Value}
    {odpCommit_message anpCommit_message : Option Addr} {slpCommit_message : Array (Option Value)} {ocpCommit_message kVpCommit_message dcpCommit_message pmpCommit_message cdpCommit_message ctpCommit_message : Value}
    {fpTag_target qpTag_target : Addr} {rpTag_target : List Value}
    {odpTag_target anpTag_target : Option Addr} {slpTag_target : Array (Option Value)} {ocpTag_target kVpTag_target dcpTag_target pmpTag_target cdpTag_target ctpTag_target : Value}
    {fpTag_label qpTag_label : Addr} {rpTag_label : List Value}
    {odpTag_label anpTag_label : Option Addr} {slpTag_label : Array (Option Value)} {ocpTag_label kVpTag_label dcpTag_label pmpTag_label cdpTag_label ctpTag_label : Value}
    {fpTag_message qpTag_message : Addr} {rpTag_message : List Value}
    {odpTag_message anpTag_message : Option Addr} {slpTag_message : Array (Option Value)} {ocpTag_message kVpTag_message dcpTag_message pmpTag_message cdpTag_message ctpTag_message : Value}
    {tkC tkG : Tok}
    {tcd : Value} {tod pdo eko : Option Addr} {tn pdn ekn : Nat} {tsl pdl ekl : Array (Option Value)} {tk1 tk2 tk3 : Tok}
    {qF : Str} {NF : Addr} {bsF subF : List Value} {snF : List Str} {abF : Bool} {colF : Option Bool} {ddF : Option Addr} {mF_0 mF_1 mF_2 mF_3 mF_5 : Option Value}
    {qN : Str} {NN : Addr} {bsN subN : List Value} {snN : List Str} {abN : Bool} {colN : Option Bool} {ddN : Option Addr} {mN_0 mN_1 mN_2 mN_3 mN_5 : Option Value}
    {odiF aniF : Option Addr} {sliF : Array (Option Value)} {ociF kViF dciF pmiF cdiF ctiF : Value}
    {tkd : Tok} {tcw : Value} {tow : Option Addr} {tnw : Nat} {tsw : Array (Option Value)}
    (eB_mg : PySem.W.nsIn K mainGlobals "Blob" = some (some (.ref CB)))
    (eT_mg : PySem.W.nsIn K mainGlobals "Tree" = some (some (.ref CT)))
    (eC_mg : PySem.W.nsIn K mainGlobals "Commit" = some (some (.ref CC)))
    (eG_mg : PySem.W.nsIn K mainGlobals "Tag" = some (some (.ref CG)))
    (eF_mg : PySem.W.nsIn K mainGlobals "ForkError" = some (some (.ref cF)))
    (eN_mg : PySem.W.nsIn K mainGlobals "BadName" = some (some (.ref cN)))
    (CB_pg : PySem.W.plainGet K CB Str.empty = true)
    (CB_hd : PySem.W.hasDictIn K CB = true)
    (CB_po : PySem.W.plainOver K CB = true)
    (CB_sa : PySem.W.findIn K (.ref CB) "__setattr__" = some (some (.builtin "object.__setattr__")))
    (CB_mk : PySem.W.makesIn K CB = true)
    (CB_kc : PySem.W.keepIn K (.ref CB) = true)
    (CB_ha : PySem.W.findIn K (.ref CB) "__class__" = some (some (.builtin "object.__class__")))
    (CB_hm : PySem.W.mroIn K CB (.type "object") = some true)
    (CB_ne : PySem.W.findIn K (.ref CB) "__ne__" = some (some (.builtin "object.__ne__")))
    (CT_pg : PySem.W.plainGet K CT Str.empty = true)
    (CT_hd : PySem.W.hasDictIn K CT = true)
    (CT_po : PySem.W.plainOver K CT = true)
    (CT_sa : PySem.W.findIn K (.ref CT) "__setattr__" = some (some (.builtin "object.__setattr__")))
    (CT_mk : PySem.W.makesIn K CT = true)
    (CT_kc : PySem.W.keepIn K (.ref CT) = true)
    (CT_ha : PySem.W.findIn K (.ref CT) "__class__" = some (some (.builtin "object.__class__")))
    (CT_hm : PySem.W.mroIn K CT (.type "object") = some true)
    (CT_ne : PySem.W.findIn K (.ref CT) "__ne__" = some (some (.builtin "object.__ne__")))
    (CC_pg : PySem.W.plainGet K CC Str.empty = true)
    (CC_hd : PySem.W.hasDictIn K CC = true)
    (CC_po : PySem.W.plainOver K CC = true)
    (CC_sa : PySem.W.findIn K (.ref CC) "__setattr__" = some (some (.builtin "object.__setattr__")))
    (CC_mk : PySem.W.makesIn K CC = true)
    (CC_kc : PySem.W.keepIn K (.ref CC) = true)
    (CC_ha : PySem.W.findIn K (.ref CC) "__class__" = some (some (.builtin "object.__class__")))
    (CC_hm : PySem.W.mroIn K CC (.type "object") = some true)
    (CC_ne : PySem.W.findIn K (.ref CC) "__ne__" = some (some (.builtin "object.__ne__")))
    (CG_pg : PySem.W.plainGet K CG Str.empty = true)
    (CG_hd : PySem.W.hasDictIn K CG = true)
    (CG_po : PySem.W.plainOver K CG = true)
    (CG_sa : PySem.W.findIn K (.ref CG) "__setattr__" = some (some (.builtin "object.__setattr__")))
    (CG_mk : PySem.W.makesIn K CG = true)
    (CG_kc : PySem.W.keepIn K (.ref CG) = true)
    (CG_ha : PySem.W.findIn K (.ref CG) "__class__" = some (some (.builtin "object.__class__")))
    (CG_hm : PySem.W.mroIn K CG (.type "object") = some true)
    (CG_ne : PySem.W.findIn K (.ref CG) "__ne__" = some (some (.builtin "object.__ne__")))
    (kBT : PySem.W.kitOne K (.ref CB) (.ref CT) = some false)
    (kBC : PySem.W.kitOne K (.ref CB) (.ref CC) = some false)
    (kBG : PySem.W.kitOne K (.ref CB) (.ref CG) = some false)
    (kTB : PySem.W.kitOne K (.ref CT) (.ref CB) = some false)
    (kTC : PySem.W.kitOne K (.ref CT) (.ref CC) = some false)
    (kTG : PySem.W.kitOne K (.ref CT) (.ref CG) = some false)
    (kCB : PySem.W.kitOne K (.ref CC) (.ref CB) = some false)
    (kCT : PySem.W.kitOne K (.ref CC) (.ref CT) = some false)
    (kCG : PySem.W.kitOne K (.ref CC) (.ref CG) = some false)
    (kGB : PySem.W.kitOne K (.ref CG) (.ref CB) = some false)
    (kGT : PySem.W.kitOne K (.ref CG) (.ref CT) = some false)
    (kGC : PySem.W.kitOne K (.ref CG) (.ref CC) = some false)
    (e_hn : PySem.W.specialIn K (.builtin "object.__class__") "__get__" = some (some (.builtin "getset_descriptor.__get__")))
    (e_ht : PySem.W.takesIn K (.builtin "object.__class__") = some true)
    (amBlob_init : PySem.W.findIn K (.ref CB) "__init__" = some (some (.ref fmBlob_init)))
    (imBlob_init : PySem.W.isFn K (.ref fmBlob_init) = true)
    (lmBlob_init : K.lookup fmBlob_init = some ⟨ocmBlob_init, odmBlob_init, .func (PySem.W.fnOf "__init__" "Blob.__init__" (C8.fnArgs s_Blob_init) (C8.fnBody s_Blob_init) (C8.fnScope s_Blob_init) .none kVmBlob_init dcmBlob_init pmmBlob_init anmBlob_init cdmBlob_init ctmBlob_init), slmBlob_init⟩)
    (cmBlob_init : PySem.W.codeIn K cdmBlob_init "Blob.__init__" = true)
    (kmBlob_init : PySem.W.keepIn K (.ref fmBlob_init) = true)
    (amTree_init : PySem.W.findIn K (.ref CT) "__init__" = some (some (.ref fmTree_init)))
    (imTree_init : PySem.W.isFn K (.ref fmTree_init) = true)
    (lmTree_init : K.lookup fmTree_init = some ⟨ocmTree_init, odmTree_init, .func (PySem.W.fnOf "__init__" "Tree.__init__" (C8.fnArgs s_Tree_init) (C8.fnBody s_Tree_init) (C8.fnScope s_Tree_init) .none kVmTree_init dcmTree_init pmmTree_init anmTree_init cdmTree_init ctmTree_init), slmTree_init⟩)
    (cmTree_init : PySem.W.codeIn K cdmTree_init "Tree.__init__" = true)
    (kmTree_init : PySem.W.keepIn K (.ref fmTree_init) = true)
    (amCommit_init : PySem.W.findIn K (.ref CC) "__init__" = some (some (.ref fmCommit_init)))
    (imCommit_init : PySem.W.isFn K (.ref fmCommit_init) = true)
    (lmCommit_init : K.lookup fmCommit_init = some ⟨ocmCommit_init, odmCommit_init, .func (PySem.W.fnOf "__init__" "Commit.__init__" (C8.fnArgs s_Commit_init) (C8.fnBody s_Commit_init) (C8.fnScope s_Commit_init) (.ref dC) (.ref kdC) dcmCommit_init pmmCommit_init anmCommit_init cdmCommit_init ctmCommit_init), slmCommit_init⟩)
    (cmCommit_init : PySem.W.codeIn K cdmCommit_init "Commit.__init__" = true)
    (kmCommit_init : PySem.W.keepIn K (.ref fmCommit_init) = true)
    (amTag_init : PySem.W.findIn K (.ref CG) "__init__" = some (some (.ref fmTag_init)))
    (imTag_init : PySem.W.isFn K (.ref fmTag_init) = true)
    (lmTag_init : K.lookup fmTag_init = some ⟨ocmTag_init, odmTag_init, .func (PySem.W.fnOf "__init__" "Tag.__init__" (C8.fnArgs s_Tag_init) (C8.fnBody s_Tag_init) (C8.fnScope s_Tag_init) .none (.ref kdG) dcmTag_init pmmTag_init anmTag_init cdmTag_init ctmTag_init), slmTag_init⟩)
    (cmTag_init : PySem.W.codeIn K cdmTag_init "Tag.__init__" = true)
    (kmTag_init : PySem.W.keepIn K (.ref fmTag_init) = true)
    (amBlob_eq : PySem.W.findIn K (.ref CB) "__eq__" = some (some (.ref fmBlob_eq)))
    (imBlob_eq : PySem.W.isFn K (.ref fmBlob_eq) = true)
    (lmBlob_eq : K.lookup fmBlob_eq = some ⟨ocmBlob_eq, odmBlob_eq, .func (PySem.W.fnOf "__eq__" "Blob.__eq__" (C8.fnArgs s_Blob_eq) (C8.fnBody s_Blob_eq) (C8.fnScope s_Blob_eq) .none kVmBlob_eq dcmBlob_eq pmmBlob_eq anmBlob_eq cdmBlob_eq ctmBlob_eq), slmBlob_eq⟩)
    (cmBlob_eq : PySem.W.codeIn K cdmBlob_eq "Blob.__eq__" = true)
    (kmBlob_eq : PySem.W.keepIn K (.ref fmBlob_eq) = true)
    (amTree_eq : PySem.W.findIn K (.ref CT) "__eq__" = some (some (.ref fmTree_eq)))
    (imTree_eq : PySem.W.isFn K (.ref fmTree_eq) = true)
    (lmTree_eq : K.lookup fmTree_eq = some ⟨ocmTree_eq, odmTree_eq, .func (PySem.W.fnOf "__eq__" "Tree.__eq__" (C8.fnArgs s_Tree_eq) (C8.fnBody s_Tree_eq) (C8.fnScope s_Tree_eq) .none kVmTree_eq dcmTree_eq pmmTree_eq anmTree_eq cdmTree_eq ctmTree_eq), slmTree_eq⟩)
    (cmTree_eq : PySem.W.codeIn K cdmTree_eq "Tree.__eq__" = true)
    (kmTree_eq : PySem.W.keepIn K (.ref fmTree_eq) = true)
    (amCommit_eq : PySem.W.findIn K (.ref CC) "__eq__" = some (some (.ref fmCommit_eq)))
    (imCommit_eq : PySem.W.isFn K (.ref fmCommit_eq) = true)
    (lmCommit_eq : K.lookup fmCommit_eq = some ⟨ocmCommit_eq, odmCommit_eq, .func (PySem.W.fnOf "__eq__" "Commit.__eq__" (C8.fnArgs s_Commit_eq) (C8.fnBody s_Commit_eq) (C8.fnScope s_Commit_eq) .none kVmCommit_eq dcmCommit_eq pmmCommit_eq anmCommit_eq cdmCommit_eq ctmCommit_eq), slmCommit_eq⟩)
    (cmCommit_eq : PySem.W.codeIn K cdmCommit_eq "Commit.__eq__" = true)
    (kmCommit_eq : PySem.W.keepIn K (.ref fmCommit_eq) = true)
    (amTag_eq : PySem.W.findIn K (.ref CG) "__eq__" = some (some (.ref fmTag_eq)))
    (imTag_eq : PySem.W.isFn K (.ref fmTag_eq) = true)
    (lmTag_eq : K.lookup fmTag_eq = some ⟨ocmTag_eq, odmTag_eq, .func (PySem.W.fnOf "__eq__" "Tag.__eq__" (C8.fnArgs s_Tag_eq) (C8.fnBody s_Tag_eq) (C8.fnScope s_Tag_eq) .none kVmTag_eq dcmTag_eq pmmTag_eq anmTag_eq cdmTag_eq ctmTag_eq), slmTag_eq⟩)
    (cmTag_eq : PySem.W.codeIn K cdmTag_eq "Tag.__eq__" = true)
    (kmTag_eq : PySem.W.keepIn K (.ref fmTag_eq) = true)
    (apBlob_text : PySem.W.findIn K (.ref CB) "text" = some (some (.ref qpBlob_text)))
    (gpBlob_text : PySem.W.specialIn K (.ref qpBlob_text) "__get__" = some (some (.builtin "property.__get__")))
    (tpBlob_text : PySem.W.takesIn K (.ref qpBlob_text) = some true)
    (rpBlob_text_ : PySem.W.recIn K qpBlob_text "property" = some (.ref fpBlob_text :: rpBlob_text))
    (lpBlob_text : K.lookup fpBlob_text = some ⟨ocpBlob_text, odpBlob_text, .func (PySem.W.fnOf "text" "Blob.text" (C8.fnArgs s_Blob_text) (C8.fnBody s_Blob_text) (C8.fnScope s_Blob_text) .none kVpBlob_text dcpBlob_text pmpBlob_text anpBlob_text cdpBlob_text ctpBlob_text), slpBlob_text⟩)
    (cpBlob_text : PySem.W.codeIn K cdpBlob_text "Blob.text" = true)
    (nB_text : PySem.W.findIn K (.ref CB) "_text" = some none)
    (apTree_entries : PySem.W.findIn K (.ref CT) "entries" = some (some (.ref qpTree_entries)))
    (gpTree_entries : PySem.W.specialIn K (.ref qpTree_entries) "__get__" = some (some (.builtin "property.__get__")))
    (tpTree_entries : PySem.W.takesIn K (.ref qpTree_entries) = some true)
    (rpTree_entries_ : PySem.W.recIn K qpTree_entries "property" = some (.ref fpTree_entries :: rpTree_entries))
    (lpTree_entries : K.lookup fpTree_entries = some ⟨ocpTree_entries, odpTree_entries, .func (PySem.W.fnOf "entries" "Tree.entries" (C8.fnArgs s_Tree_entries) (C8.fnBody s_Tree_entries) (C8.fnScope s_Tree_entries) .none kVpTree_entries dcpTree_entries pmpTree_entries anpTree_entries cdpTree_entries ctpTree_entries), slpTree_entries⟩)
    (cpTree_entries : PySem.W.codeIn K cdpTree_entries "Tree.entries" = true)
    (nT_entries : PySem.W.findIn K (.ref CT) "_entries" = some none)
    (apCommit_tree : PySem.W.findIn K (.ref CC) "tree" = some (some (.ref qpCommit_tree)))
    (gpCommit_tree : PySem.W.specialIn K (.ref qpCommit_tree) "__get__" = some (some (.builtin "property.__get__")))
    (tpCommit_tree : PySem.W.takesIn K (.ref qpCommit_tree) = some true)
    (rpCommit_tree_ : PySem.W.recIn K qpCommit_tree "property" = some (.ref fpCommit_tree :: rpCommit_tree))
    (lpCommit_tree : K.lookup fpCommit_tree = some ⟨ocpCommit_tree, odpCommit_tree, .func (PySem.W.fnOf "tree" "Commit.tree" (C8.fnArgs s_Commit_tree) (C8.fnBody s_Commit_tree) (C8.fnScope s_Commit_tree) .none kVpCommit_tree dcpCommit_tree pmpCommit_tree anpCommit_tree cdpCommit_tree ctpCommit_tree), slpCommit_tree⟩)
    (cpCommit_tree : PySem.W.codeIn K cdpCommit_tree "Commit.tree" = true)
    (nC_tree : PySem.W.findIn K (.ref CC) "_tree" = some none)
    (apCommit_parents : PySem.W.findIn K (.ref CC) "parents" = some (some (.ref qpCommit_parents)))
    (gpCommit_parents : PySem.W.specialIn K (.ref qpCommit_parents) "__get__" = some (some (.builtin "property.__get__")))
    (tpCommit_parents : PySem.W.takesIn K (.ref qpCommit_parents) = some true)
    (rpCommit_parents_ : PySem.W.recIn K qpCommit_parents "property" = some (.ref fpCommit_parents :: rpCommit_parents))
    (lpCommit_parents : K.lookup fpCommit_parents = some ⟨ocpCommit_parents, odpCommit_parents, .func (PySem.W.fnOf "parents" "Commit.parents" (C8.fnArgs s_Commit_parents) (C8.fnBody s_Commit_parents) (C8.fnScope s_Commit_parents) .none kVpCommit_parents dcpCommit_parents pmpCommit_parents anpCommit_parents cdpCommit_parents ctpCommit_parents), slpCommit_parents⟩)
    (cpCommit_parents : PySem.W.codeIn K cdpCommit_parents "Commit.parents" = true)
    (nC_parents : PySem.W.findIn K (.ref CC) "_parents" = some none)
    (apCommit_author : PySem.W.findIn K (.ref CC) "author" = some (some (.ref qpCommit_author)))
    (gpCommit_author : PySem.W.specialIn K (.ref qpCommit_author) "__get__" = some (some (.builtin "property.__get__")))
    (tpCommit_author : PySem.W.takesIn K (.ref qpCommit_author) = some true)
    (rpCommit_author_ : PySem.W.recIn K qpCommit_author "property" = some (.ref fpCommit_author :: rpCommit_author))
    (lpCommit_author : K.lookup fpCommit_author = some ⟨ocpCommit_author, odpCommit_author, .func (PySem.W.fnOf "author" "Commit.author" (C8.fnArgs s_Commit_author) (C8.fnBody s_Commit_author) (C8.fnScope s_Commit_author) .none kVpCommit_author dcpCommit_author pmpCommit_author anpCommit_author cdpCommit_author ctpCommit_author), slpCommit_author⟩)
    (cpCommit_author : PySem.W.codeIn K cdpCommit_author "Commit.author" = true)
    (nC_author : PySem.W.findIn K (.ref CC) "_author" = some none)
    (apCommit_time : PySem.W.findIn K (.ref CC) "time" = some (some (.ref qpCommit_time)))
    (gpCommit_time : PySem.W.specialIn K (.ref qpCommit_time) "__get__" = some (some (.builtin "property.__get__")))
    (tpCommit_time : PySem.W.takesIn K (.ref qpCommit_time) = some true)
    (rpCommit_time_ : PySem.W.recIn K qpCommit_time "property" = some (.ref fpCommit_time :: rpCommit_time))
    (lpCommit_time : K.lookup fpCommit_time = some ⟨ocpCommit_time, odpCommit_time, .func (PySem.W.fnOf "time" "Commit.time" (C8.fnArgs s_Commit_time) (C8.fnBody s_Commit_time) (C8.fnScope s_Commit_time) .none kVpCommit_time dcpCommit_time pmpCommit_time anpCommit_time cdpCommit_time ctpCommit_time), slpCommit_time⟩)
    (cpCommit_time : PySem.W.codeIn K cdpCommit_time "Commit.time" = true)
    (nC_time : PySem.W.findIn K (.ref CC) "_time" = some none)
    (apCommit_message : PySem.W.findIn K (.ref CC) "message" = some (some (.ref qpCommit_message)))
    (gpCommit_message : PySem.W.specialIn K (.ref qpCommit_message) "__get__" = some (some (.builtin "property.__get__")))
    (tpCommit_message : PySem.W.takesIn K (.ref qpCommit_message) = some true)
    (rpCommit_message_ : PySem.W.recIn K qpCommit_message "property" = some (.ref fpCommit_message :: rpCommit_message))
    (lpCommit_message : K.lookup fpCommit_message = some ⟨ocpCommit_message, odpCommit_message, .func (PySem.W.fnOf "message" "Commit.message" (C8.fnArgs s_Commit_message) (C8.fnBody s_Commit_message) (C8.fnScope s_Commit_message) .none kVpCommit_message dcpCommit_message pmpCommit_message anpCommit_message cdpCommit_message ctpCommit_message), slpCommit_message⟩)
    (cpCommit_message : PySem.W.codeIn K cdpCommit_message "Commit.message" = true)
    (nC_message : PySem.W.findIn K (.ref CC) "_message" = some none)
    (apTag_target : PySem.W.findIn K (.ref CG) "target" = some (some (.ref qpTag_target)))
    (gpTag_target : PySem.W.specialIn K (.ref qpTag_target) "__get__" = some (some (.builtin "property.__get__")))
    (tpTag_target : PySem.W.takesIn K (.ref qpTag_target) = some true)
    (rpTag_target_ : PySem.W.recIn K qpTag_target "property" = some (.ref fpTag_target :: rpTag_target))
    (lpTag_target : K.lookup fpTag_target = some ⟨ocpTag_target, odpTag_target, .func (PySem.W.fnOf "target" "Tag.target" (C8.fnArgs s_Tag_target) (C8.fnBody s_Tag_target) (C8.fnScope s_Tag_target) .none kVpTag_target dcpTag_target pmpTag_target anpTag_target cdpTag_target ctpTag_target), slpTag_target⟩)
    (cpTag_target : PySem.W.codeIn K cdpTag_target "Tag.target" = true)
    (nG_target : PySem.W.findIn K (.ref CG) "_target" = some none)
    (apTag_label : PySem.W.findIn K (.ref CG) "label" = some (some (.ref qpTag_label)))
    (gpTag_label : PySem.W.specialIn K (.ref qpTag_label) "__get__" = some (some (.builtin "property.__get__")))
    (tpTag_label : PySem.W.takesIn K (.ref qpTag_label) = some true)
    (rpTag_label_ : PySem.W.recIn K qpTag_label "property" = some (.ref fpTag_label :: rpTag_label))
    (lpTag_label : K.lookup fpTag_label = some ⟨ocpTag_label, odpTag_label, .func (PySem.W.fnOf "label" "Tag.label" (C8.fnArgs s_Tag_label) (C8.fnBody s_Tag_label) (C8.fnScope s_Tag_label) .none kVpTag_label dcpTag_label pmpTag_label anpTag_label cdpTag_label ctpTag_label), slpTag_label⟩)
    (cpTag_label : PySem.W.codeIn K cdpTag_label "Tag.label" = true)
    (nG_label : PySem.W.findIn K (.ref CG) "_label" = some none)
    (apTag_message : PySem.W.findIn K (.ref CG) "message" = some (some (.ref qpTag_message)))
    (gpTag_message : PySem.W.specialIn K (.ref qpTag_message) "__get__" = some (some (.builtin "property.__get__")))
    (tpTag_message : PySem.W.takesIn K (.ref qpTag_message) = some true)
    (rpTag_message_ : PySem.W.recIn K qpTag_message "property" = some (.ref fpTag_message :: rpTag_message))
    (lpTag_message : K.lookup fpTag_message = some ⟨ocpTag_message, odpTag_message, .func (PySem.W.fnOf "message" "Tag.message" (C8.fnArgs s_Tag_message) (C8.fnBody s_Tag_message) (C8.fnScope s_Tag_message) .none kVpTag_message dcpTag_message pmpTag_message anpTag_message cdpTag_message ctpTag_message), slpTag_message⟩)
    (cpTag_message : PySem.W.codeIn K cdpTag_message "Tag.message" = true)
    (nG_message : PySem.W.findIn K (.ref CG) "_message" = some none)
    (e_kdC : PySem.W.nsIn K kdC "message" = some (some (.str (Str.ofString "") tkC)))
    (e_kdG : PySem.W.nsIn K kdG "message" = some (some (.str (Str.ofString "") tkG)))
    (e_dC : K.lookup dC = some ⟨tcd, tod, .seq #[.ref pdA] tn, tsl⟩)
    (t_pd : K.lookup pdA = some ⟨.type "tuple", pdo, .seq #[] pdn, pdl⟩)
    (g_EK : PySem.W.nsIn K mainGlobals "ENTRY_KINDS" = some (some (.ref ek)))
    (t_ek : K.lookup ek = some ⟨.type "tuple", eko, .seq #[.str (Str.ofString "file") tk1, .str (Str.ofString "exec") tk2, .str (Str.ofString "dir") tk3] ekn, ekl⟩)
    (xF : K.lookup cF = some (excClassObj "ForkError" qF cF NF bsF [.type "ValueError", .type "Exception", .type "BaseException", .type "object"] true snF subF abF colF ddF mF_0 mF_1 mF_2 mF_3 mF_5 "ValueError.__new__"))
    (xN : K.lookup cN = some (excClassObj "BadName" qN cN NN bsN [.ref cF, .type "ValueError", .type "Exception", .type "BaseException", .type "object"] true snN subN abN colN ddN mN_0 mN_1 mN_2 mN_3 mN_5 "ValueError.__new__"))
    (saN : PySem.W.findIn K (.ref cN) "__setattr__" = some (some (.builtin "object.__setattr__")))
    (kCN : PySem.W.keepIn K (.ref cN) = true)
    (iCN : PySem.W.findIn K (.ref cN) "__init__" = some (some (.ref iF)))
    (gaN : PySem.W.findIn K (.ref cN) "__getattribute__" = some (some (.builtin "BaseException.__getattribute__")))
    (ggN : PySem.W.findIn K (.ref cN) "__getattr__" = some none)
    (haN : PySem.W.findIn K (.ref cN) "__class__" = some (some (.builtin "object.__class__")))
    (nfN : PySem.W.findIn K (.ref cN) "why" = some none)
    (tiF : PySem.W.typeIn K (.ref iF) = some (.type "function"))
    (liF : K.lookup iF = some ⟨ociF, odiF, .func (PySem.W.fnOf "__init__" "ForkError.__init__" (C8.fnArgs s_ForkError_init) (C8.fnBody s_ForkError_init) (C8.fnScope s_ForkError_init) (.ref dT) kViF dciF pmiF aniF cdiF ctiF), sliF⟩)
    (ciF : PySem.W.codeIn K cdiF "ForkError.__init__" = true)
    (kiF : PySem.W.keepIn K (.ref iF) = true)
    (e_dT : K.lookup dT = some ⟨tcw, tow, .seq #[.str (Str.ofString "") tkd] tnw, tsw⟩)
    (odNoneTypeB : PySem.W.kitOne K (.type "NoneType") (.ref CB) = some false)
    (odNoneTypeT : PySem.W.kitOne K (.type "NoneType") (.ref CT) = some false)
    (odNoneTypeC : PySem.W.kitOne K (.type "NoneType") (.ref CC) = some false)
    (odNoneTypeG : PySem.W.kitOne K (.type "NoneType") (.ref CG) = some false)
    (odboolB : PySem.W.kitOne K (.type "bool") (.ref CB) = some false)
    (odboolT : PySem.W.kitOne K (.type "bool") (.ref CT) = some false)
    (odboolC : PySem.W.kitOne K (.type "bool") (.ref CC) = some false)
    (odboolG : PySem.W.kitOne K (.type "bool") (.ref CG) = some false)
    (odintB : PySem.W.kitOne K (.type "int") (.ref CB) = some false)
    (odintT : PySem.W.kitOne K (.type "int") (.ref CT) = some false)
    (odintC : PySem.W.kitOne K (.type "int") (.ref CC) = some false)
    (odintG : PySem.W.kitOne K (.type "int") (.ref CG) = some false)
    (odstrB : PySem.W.kitOne K (.type "str") (.ref CB) = some false)
    (odstrT : PySem.W.kitOne K (.type "str") (.ref CT) = some false)
    (odstrC : PySem.W.kitOne K (.type "str") (.ref CC) = some false)
    (odstrG : PySem.W.kitOne K (.type "str") (.ref CG) = some false)
    (odtupleB : PySem.W.kitOne K (.type "tuple") (.ref CB) = some false)
    (odtupleT : PySem.W.kitOne K (.type "tuple") (.ref CT) = some false)
    (odtupleC : PySem.W.kitOne K (.type "tuple") (.ref CC) = some false)
    (odtupleG : PySem.W.kitOne K (.type "tuple") (.ref CG) = some false)
    (odlistB : PySem.W.kitOne K (.type "list") (.ref CB) = some false)
    (odlistT : PySem.W.kitOne K (.type "list") (.ref CT) = some false)
    (odlistC : PySem.W.kitOne K (.type "list") (.ref CC) = some false)
    (odlistG : PySem.W.kitOne K (.type "list") (.ref CG) = some false)
    (oddictB : PySem.W.kitOne K (.type "dict") (.ref CB) = some false)
    (oddictT : PySem.W.kitOne K (.type "dict") (.ref CT) = some false)
    (oddictC : PySem.W.kitOne K (.type "dict") (.ref CC) = some false)
    (oddictG : PySem.W.kitOne K (.type "dict") (.ref CG) = some false)
    (nTabs : PySem.W.noTabs K = true) (hTb1 : ∃ cd Pt, TabD mg h "_law_tree_right" cd Pt) (hTb2 : ∃ cd Pt, TabD mg h "_law_commit_right" cd Pt) (hTb : ∃ cd Pt, TabD mg h "law" cd Pt)
    : LamX.LawAtS l w K C8.CX0 11 63 "_law_script" mg fa h := by
  have e := hfa.symm.trans (PySem.W.mg_of X G a27)
  cases e
  have T : Top K mg := {
    d_is_id := ⟨_, _, ⟨⟨⟨_, _, _, _, _, _, _, _, _, _, rfl, l1, c1⟩⟩, PySem.W.mg_of X G a1, k1⟩, rfl⟩
    d_is_segment := ⟨_, _, ⟨⟨⟨_, _, _, _, _, _, _, _, _, _, rfl, l2, c2⟩⟩, PySem.W.mg_of X G a2, k2⟩, rfl⟩
    d_is_author := ⟨_, _, ⟨⟨⟨_, _, _, _, _, _, _, _, _, _, rfl, l3, c3⟩⟩, PySem.W.mg_of X G a3, k3⟩, rfl⟩
    d_is_text := ⟨_, _, ⟨⟨⟨_, _, _, _, _, _, _, _, _, _, rfl, l4, c4⟩⟩, PySem.W.mg_of X G a4, k4⟩, rfl⟩
    d_is_message := ⟨_, _, ⟨⟨⟨_, _, _, _, _, _, _, _, _, _, rfl, l5, c5⟩⟩, PySem.W.mg_of X G a5, k5⟩, rfl⟩
    d_is_time := ⟨_, _, ⟨⟨⟨_, _, _, _, _, _, _, _, _, _, rfl, l6, c6⟩⟩, PySem.W.mg_of X G a6, k6⟩, rfl⟩
    d_is_count := ⟨_, _, ⟨⟨⟨_, _, _, _, _, _, _, _, _, _, rfl, l7, c7⟩⟩, PySem.W.mg_of X G a7, k7⟩, rfl⟩
    d_are_ids := ⟨_, _, ⟨⟨⟨_, _, _, _, _, _, _, _, _, _, rfl, l8, c8⟩⟩, PySem.W.mg_of X G a8, k8⟩, rfl⟩
    d_ascending := ⟨_, _, ⟨⟨⟨_, _, _, _, _, _, _, _, _, _, rfl, l9, c9⟩⟩, PySem.W.mg_of X G a9, k9⟩, rfl⟩
    d__is_word := ⟨_, _, ⟨⟨⟨_, _, _, _, _, _, _, _, _, _, rfl, l10, c10⟩⟩, PySem.W.mg_of X G a10, k10⟩, rfl⟩
    d_is_value := ⟨_, _, ⟨⟨⟨_, _, _, _, _, _, _, _, _, _, rfl, l11, c11⟩⟩, PySem.W.mg_of X G a11, k11⟩, rfl⟩
    d_l_cell_at := ⟨_, _, ⟨⟨⟨_, _, _, _, _, _, _, _, _, _, rfl, l12, c12⟩⟩, PySem.W.mg_of X G a12, k12⟩, rfl⟩
    d_l_well := ⟨_, _, ⟨⟨⟨_, _, _, _, _, _, _, _, _, _, rfl, l13, c13⟩⟩, PySem.W.mg_of X G a13, k13⟩, rfl⟩
    d_l_draw := ⟨_, _, ⟨⟨⟨_, _, _, _, _, _, _, _, _, _, rfl, l14, c14⟩⟩, PySem.W.mg_of X G a14, k14⟩, rfl⟩
    d_l_pick := ⟨_, _, ⟨⟨⟨_, _, _, _, _, _, _, _, _, _, rfl, l15, c15⟩⟩, PySem.W.mg_of X G a15, k15⟩, rfl⟩
    d_l_signs := ⟨_, _, ⟨⟨⟨_, _, _, _, _, _, _, _, _, _, rfl, l16, c16⟩⟩, PySem.W.mg_of X G a16, k16⟩, rfl⟩
    d_l_all_signs := ⟨_, _, ⟨⟨⟨_, _, _, _, _, _, _, _, _, _, rfl, l17, c17⟩⟩, PySem.W.mg_of X G a17, k17⟩, rfl⟩
    d_l_segment := ⟨_, _, ⟨⟨⟨_, _, _, _, _, _, _, _, _, _, rfl, l18, c18⟩⟩, PySem.W.mg_of X G a18, k18⟩, rfl⟩
    d_l_text := ⟨_, _, ⟨⟨⟨_, _, _, _, _, _, _, _, _, _, rfl, l19, c19⟩⟩, PySem.W.mg_of X G a19, k19⟩, rfl⟩
    d_l_id := ⟨_, _, ⟨⟨⟨_, _, _, _, _, _, _, _, _, _, rfl, l20, c20⟩⟩, PySem.W.mg_of X G a20, k20⟩, rfl⟩
    d_l_odd := ⟨_, _, ⟨⟨⟨_, _, _, _, _, _, _, _, _, _, rfl, l21, c21⟩⟩, PySem.W.mg_of X G a21, k21⟩, rfl⟩
    d_l_refused := ⟨_, _, ⟨⟨⟨_, _, _, _, _, _, _, _, _, _, rfl, l22, c22⟩⟩, PySem.W.mg_of X G a22, k22⟩, rfl⟩
    d_l_entries := ⟨_, _, ⟨⟨⟨_, _, _, _, _, _, _, _, _, _, rfl, l23, c23⟩⟩, PySem.W.mg_of X G a23, k23⟩, rfl⟩
    d_l_parents := ⟨_, _, ⟨⟨⟨_, _, _, _, _, _, _, _, _, _, rfl, l24, c24⟩⟩, PySem.W.mg_of X G a24, k24⟩, rfl⟩
    d_l_tree_right := ⟨_, _, ⟨⟨⟨_, _, _, _, _, _, _, _, _, _, rfl, l25, c25⟩⟩, PySem.W.mg_of X G a25, k25⟩, rfl⟩
    d_l_commit_right := ⟨_, _, ⟨⟨⟨_, _, _, _, _, _, _, _, _, _, rfl, l26, c26⟩⟩, PySem.W.mg_of X G a26, k26⟩, rfl⟩
    d_law := ⟨_, _, ⟨⟨⟨_, _, _, _, _, _, _, _, _, _, rfl, l27, c27⟩⟩, PySem.W.mg_of X G a27, k27⟩, rfl⟩
    z_ValueError := PySem.W.mg_none_of X G z_ValueError
    z_all := PySem.W.mg_none_of X G z_all
    z_bool := PySem.W.mg_none_of X G z_bool
    z_dict := PySem.W.mg_none_of X G z_dict
    z_int := PySem.W.mg_none_of X G z_int
    z_isinstance := PySem.W.mg_none_of X G z_isinstance
    z_len := PySem.W.mg_none_of X G z_len
    z_list := PySem.W.mg_none_of X G z_list
    z_min := PySem.W.mg_none_of X G z_min
    z_range := PySem.W.mg_none_of X G z_range
    z_set := PySem.W.mg_none_of X G z_set
    z_sorted := PySem.W.mg_none_of X G z_sorted
    z_str := PySem.W.mg_none_of X G z_str
    z_tuple := PySem.W.mg_none_of X G z_tuple
    g_HEX_DIGITS := ⟨_, PySem.W.mg_of X G g_HEX_DIGITS, ⟨_, rfl⟩⟩
    g_LETTERS := ⟨_, PySem.W.mg_of X G g_LETTERS, ⟨_, rfl⟩⟩
    g_SEGMENT_SIGNS := ⟨_, PySem.W.mg_of X G g_SEGMENT_SIGNS, ⟨_, rfl⟩⟩
    g_LONGEST_WORD := ⟨_, PySem.W.mg_of X G g_LONGEST_WORD, ⟨_, rfl⟩⟩
    g_LONGEST_TEXT := ⟨_, PySem.W.mg_of X G g_LONGEST_TEXT, ⟨_, rfl⟩⟩
    g_LONGEST_MESSAGE := ⟨_, PySem.W.mg_of X G g_LONGEST_MESSAGE, ⟨_, rfl⟩⟩
    g_LATEST := ⟨_, PySem.W.mg_of X G g_LATEST, ⟨_, rfl⟩⟩
    g_MOST_ENTRIES := ⟨_, PySem.W.mg_of X G g_MOST_ENTRIES, ⟨_, rfl⟩⟩
    g_MOST_PARENTS := ⟨_, PySem.W.mg_of X G g_MOST_PARENTS, ⟨_, rfl⟩⟩ }
  have cfF : CF K "ForkError" "ValueError.__new__" VE cF := ⟨_, _, _, _, _, _, _, _, _, _, _, _, _, xF⟩
  have cfN : CF K "BadName" "ValueError.__new__" (.ref cF :: VE) cN := ⟨_, _, _, _, _, _, _, _, _, _, _, _, _, xN⟩
  have hbE : ((Value.ref cF :: VE).contains (.type "BaseException")) = true := rfl
  have hbO : ((Value.ref cF :: VE).contains (.type "object")) = true := rfl
  have FD : FunD K "__init__" "ForkError.__init__" (C8.fnArgs s_ForkError_init) (C8.fnBody s_ForkError_init) (C8.fnScope s_ForkError_init) [V.str ""] [] iF (PySem.W.fnOf "__init__" "ForkError.__init__" (C8.fnArgs s_ForkError_init) (C8.fnBody s_ForkError_init) (C8.fnScope s_ForkError_init) (.ref dT) kViF dciF pmiF aniF cdiF ctiF) :=
    ⟨⟨_, _, _, _, _, _, _, _, _, _, rfl, liF, ciF, .inr ⟨(fun z => by cases z), dT, _, [.str (Str.ofString "") tkd], tnw, rfl, e_dT, rfl, .cons ⟨tkd, rfl⟩ .nil⟩, .inl rfl⟩, kiF⟩
  have hvE : PySem.HandSPX.refsVE (Value.ref cF :: VE) = true := by show PySem.HandSPX.refsVE VE = true; decide +kernel
  have bF : Binds K (PySem.W.fnOf "__init__" "ForkError.__init__" (C8.fnArgs s_ForkError_init) (C8.fnBody s_ForkError_init) (C8.fnScope s_ForkError_init) (.ref dT) kViF dciF pmiF aniF cdiF ctiF) ["self", "why"] [] := by
    obtain ⟨ds, v, b⟩ := FD.binds1 (ps := ["self", "why"]) 2 1 (fun z => by cases z) rfl (fun T kV doc pm an cdv ct us its h1 h2 => match us, its, h1, h2 with | [_, _], [_], _, _ => ⟨_, rfl, rfl⟩)
    cases v
    exact b
  have eN : ErrC K mg "BadName" "why" cN iF := ⟨PySem.W.mg_of X G eN_mg, ⟨(cfN.oex hvE saN kCN hbE).exC, cfN.typ⟩,
      cfN.xc PySem.F.excBase_ValueError (rve_ok _) (rve_pass _) hbO hbE saN kCN iCN tiF gaN ggN haN e_hn e_ht, nfN, _, fun P w base => ini_ForkError ⟨⟨_, _, _, _, _, _, _, _, _, _, rfl, liF, ciF⟩⟩, bF⟩
  have nFN : cF ≠ cN := fun z => by
    have h := cfN.name (z ▸ cfF)
    revert h
    decide
  have FC : FunD K "__init__" "Commit.__init__" (C8.fnArgs s_Commit_init) (C8.fnBody s_Commit_init) (C8.fnScope s_Commit_init) [V.ref pdA] [("message", V.str "")] fmCommit_init (PySem.W.fnOf "__init__" "Commit.__init__" (C8.fnArgs s_Commit_init) (C8.fnBody s_Commit_init) (C8.fnScope s_Commit_init) (.ref dC) (.ref kdC) dcmCommit_init pmmCommit_init anmCommit_init cdmCommit_init ctmCommit_init) :=
    ⟨⟨_, _, _, _, _, _, _, _, _, _, rfl, lmCommit_init, cmCommit_init, .inr ⟨(fun z => by cases z), dC, _, [.ref pdA], tn, rfl, e_dC, rfl, .cons rfl .nil⟩, .inr ⟨kdC, rfl, fun q hq => by rw [List.mem_singleton.mp hq]; exact ⟨_, e_kdC, ⟨_, rfl⟩⟩⟩⟩, kmCommit_init⟩
  have FG : FunD K "__init__" "Tag.__init__" (C8.fnArgs s_Tag_init) (C8.fnBody s_Tag_init) (C8.fnScope s_Tag_init) [] [("message", V.str "")] fmTag_init (PySem.W.fnOf "__init__" "Tag.__init__" (C8.fnArgs s_Tag_init) (C8.fnBody s_Tag_init) (C8.fnScope s_Tag_init) .none (.ref kdG) dcmTag_init pmmTag_init anmTag_init cdmTag_init ctmTag_init) :=
    ⟨⟨_, _, _, _, _, _, _, _, _, _, rfl, lmTag_init, cmTag_init, .inl ⟨rfl, rfl⟩, .inr ⟨kdG, rfl, fun q hq => by rw [List.mem_singleton.mp hq]; exact ⟨_, e_kdG, ⟨_, rfl⟩⟩⟩⟩, kmTag_init⟩
  have kC3f : IniK K CC "Commit.__init__" s_Commit_init ["self", "tree", "parents", "author", "time", "message"] 3 ["author", "time", "message"] (fun vs zs => vs ++ zs) := by
    obtain ⟨its, mv, b⟩ := FC.kbinds (ps := ["self", "tree", "parents", "author", "time", "message"]) 3 ["author", "time", "message"] [] (fun us its mv ws => us ++ ws) (fun z => by cases z) (fun z => by cases z) (fun q hq => by cases hq) (fun r1 r2 r3 r4 => r1.append r4)
      (fun T D doc pm an cdv ct us its mv ws h1 h2 h3 h4 => match us, its, mv, ws, h1, h2, h3, h4 with | [_, _, _], [_], [], [_, _, _], _, _, _, _ => ⟨_, rfl, rfl⟩)
    exact ⟨_, _, _, ⟨CC_mk, amCommit_init, imCommit_init, CC_kc⟩, ⟨⟨_, _, _, _, _, _, _, _, _, _, rfl, lmCommit_init, cmCommit_init⟩⟩, b⟩
  have kC3 : IniK K CC "Commit.__init__" s_Commit_init ["self", "tree", "parents", "author", "time", "message"] 3 ["author", "time"] (fun vs zs => vs ++ (zs ++ [.str ""])) := by
    obtain ⟨its, mv, b⟩ := FC.kbinds (ps := ["self", "tree", "parents", "author", "time", "message"]) 3 ["author", "time"] [("message", V.str "")] (fun us its mv ws => us ++ (ws ++ mv)) (fun z => by cases z) (fun z => by cases z) (fun q hq => hq) (fun r1 r2 r3 r4 => r1.append (r4.append r3))
      (fun T D doc pm an cdv ct us its mv ws h1 h2 h3 h4 => match us, its, mv, ws, h1, h2, h3, h4 with | [_, _, _], [_], [_], [_, _], _, _, _, _ => ⟨_, rfl, ⟨_, _, _, _, _, _, rfl, rfl, rfl⟩⟩)
    exact ⟨_, _, _, ⟨CC_mk, amCommit_init, imCommit_init, CC_kc⟩, ⟨⟨_, _, _, _, _, _, _, _, _, _, rfl, lmCommit_init, cmCommit_init⟩⟩, b⟩
  have kC2f : IniK K CC "Commit.__init__" s_Commit_init ["self", "tree", "parents", "author", "time", "message"] 2 ["author", "time", "message"] (fun vs zs => vs ++ (.ref pdA :: zs)) := by
    obtain ⟨its, mv, b⟩ := FC.kbinds (ps := ["self", "tree", "parents", "author", "time", "message"]) 2 ["author", "time", "message"] [] (fun us its mv ws => us ++ (its ++ ws)) (fun z => by cases z) (fun z => by cases z) (fun q hq => by cases hq) (fun r1 r2 r3 r4 => r1.append (r2.append r4))
      (fun T D doc pm an cdv ct us its mv ws h1 h2 h3 h4 => match us, its, mv, ws, h1, h2, h3, h4 with | [_, _], [_], [], [_, _, _], _, _, _, _ => ⟨_, rfl, rfl⟩)
    exact ⟨_, _, _, ⟨CC_mk, amCommit_init, imCommit_init, CC_kc⟩, ⟨⟨_, _, _, _, _, _, _, _, _, _, rfl, lmCommit_init, cmCommit_init⟩⟩, b⟩
  have kC2 : IniK K CC "Commit.__init__" s_Commit_init ["self", "tree", "parents", "author", "time", "message"] 2 ["author", "time"] (fun vs zs => vs ++ (.ref pdA :: (zs ++ [.str ""]))) := by
    obtain ⟨its, mv, b⟩ := FC.kbinds (ps := ["self", "tree", "parents", "author", "time", "message"]) 2 ["author", "time"] [("message", V.str "")] (fun us its mv ws => us ++ (its ++ (ws ++ mv))) (fun z => by cases z) (fun z => by cases z) (fun q hq => hq) (fun r1 r2 r3 r4 => r1.append (r2.append (r4.append r3)))
      (fun T D doc pm an cdv ct us its mv ws h1 h2 h3 h4 => match us, its, mv, ws, h1, h2, h3, h4 with | [_, _], [_], [_], [_, _], _, _, _, _ => ⟨_, rfl, ⟨_, _, _, _, _, _, rfl, rfl, rfl⟩⟩)
    exact ⟨_, _, _, ⟨CC_mk, amCommit_init, imCommit_init, CC_kc⟩, ⟨⟨_, _, _, _, _, _, _, _, _, _, rfl, lmCommit_init, cmCommit_init⟩⟩, b⟩
  have kG2 : IniK K CG "Tag.__init__" s_Tag_init ["self", "target", "label", "message"] 2 ["label", "message"] (fun vs zs => vs ++ zs) := by
    obtain ⟨mv, b⟩ := FG.kbinds0 (ps := ["self", "target", "label", "message"]) 2 ["label", "message"] [] (fun us mv ws => us ++ ws) (fun z => by cases z) (fun q hq => by cases hq) (fun r1 r3 r4 => r1.append r4)
      (fun D doc pm an cdv ct us mv ws h1 h3 h4 => match us, mv, ws, h1, h3, h4 with | [_, _], [], [_, _], _, _, _ => rfl)
    exact ⟨_, _, _, ⟨CG_mk, amTag_init, imTag_init, CG_kc⟩, ⟨⟨_, _, _, _, _, _, _, _, _, _, rfl, lmTag_init, cmTag_init⟩⟩, b⟩
  have kG1 : IniK K CG "Tag.__init__" s_Tag_init ["self", "target", "label", "message"] 2 ["label"] (fun vs zs => vs ++ (zs ++ [.str ""])) := by
    obtain ⟨mv, b⟩ := FG.kbinds0 (ps := ["self", "target", "label", "message"]) 2 ["label"] [("message", V.str "")] (fun us mv ws => us ++ (ws ++ mv)) (fun z => by cases z) (fun q hq => hq) (fun r1 r3 r4 => r1.append (r4.append r3))
      (fun D doc pm an cdv ct us mv ws h1 h3 h4 => match us, mv, ws, h1, h3, h4 with | [_, _], [_], [_], _, _, _ => ⟨_, _, _, _, _, _, rfl, rfl, rfl⟩)
    exact ⟨_, _, _, ⟨CG_mk, amTag_init, imTag_init, CG_kc⟩, ⟨⟨_, _, _, _, _, _, _, _, _, _, rfl, lmTag_init, cmTag_init⟩⟩, b⟩
  have kBB : PySem.W.kitOne K (.ref CB) (.ref CB) = some true := by unfold PySem.W.kitOne; rw [if_pos (beq_self_eq_true _)]
  have inB : C8.InsC K CB := ⟨⟨CB_pg, CB_hd, CB_po, CB_sa⟩, CB_ha, e_hn, e_ht, CB_hm, kBB⟩
  have kTT : PySem.W.kitOne K (.ref CT) (.ref CT) = some true := by unfold PySem.W.kitOne; rw [if_pos (beq_self_eq_true _)]
  have inT : C8.InsC K CT := ⟨⟨CT_pg, CT_hd, CT_po, CT_sa⟩, CT_ha, e_hn, e_ht, CT_hm, kTT⟩
  have kCC : PySem.W.kitOne K (.ref CC) (.ref CC) = some true := by unfold PySem.W.kitOne; rw [if_pos (beq_self_eq_true _)]
  have inC : C8.InsC K CC := ⟨⟨CC_pg, CC_hd, CC_po, CC_sa⟩, CC_ha, e_hn, e_ht, CC_hm, kCC⟩
  have kGG : PySem.W.kitOne K (.ref CG) (.ref CG) = some true := by unfold PySem.W.kitOne; rw [if_pos (beq_self_eq_true _)]
  have inG : C8.InsC K CG := ⟨⟨CG_pg, CG_hd, CG_po, CG_sa⟩, CG_ha, e_hn, e_ht, CG_hm, kGG⟩
  have TO : TopO K mg ⟨CB, CT, CC, CG⟩ cF cN iF ek pdA := { T with
    ins := fun i hi => match i, hi with
      | 0, _ => inB
      | 1, _ => inT
      | 2, _ => inC
      | 3, _ => inG
      | n + 4, h => absurd h (by omega)
    kk := fun i j hi hj => match i, j, hi, hj with
      | 0, 0, _, _ => kBB
      | 0, 1, _, _ => kBT
      | 0, 2, _, _ => kBC
      | 0, 3, _, _ => kBG
      | 0, n + 4, _, h => absurd h (by omega)
      | 1, 0, _, _ => kTB
      | 1, 1, _, _ => kTT
      | 1, 2, _, _ => kTC
      | 1, 3, _, _ => kTG
      | 1, n + 4, _, h => absurd h (by omega)
      | 2, 0, _, _ => kCB
      | 2, 1, _, _ => kCT
      | 2, 2, _, _ => kCC
      | 2, 3, _, _ => kCG
      | 2, n + 4, _, h => absurd h (by omega)
      | 3, 0, _, _ => kGB
      | 3, 1, _, _ => kGT
      | 3, 2, _, _ => kGC
      | 3, 3, _, _ => kGG
      | 3, n + 4, _, h => absurd h (by omega)
      | n + 4, _, h, _ => absurd h (by omega)
    ne := fun i hi => match i, hi with
      | 0, _ => CB_ne
      | 1, _ => CT_ne
      | 2, _ => CC_ne
      | 3, _ => CG_ne
      | n + 4, h => absurd h (by omega)
    mgB := PySem.W.mg_of X G eB_mg
    mgT := PySem.W.mg_of X G eT_mg
    mgC := PySem.W.mg_of X G eC_mg
    mgG := PySem.W.mg_of X G eG_mg
    g_ENTRY_KINDS := ⟨_, PySem.W.mg_of X G g_EK, rfl⟩
    kE := ⟨_, _, _, t_ek, rfl, rfl, (by show 3 ≤ sizeLine; decide), .cons ⟨_, rfl⟩ (.cons ⟨_, rfl⟩ (.cons ⟨_, rfl⟩ .nil))⟩
    kP := ⟨_, _, _, t_pd, rfl, rfl, (by show 0 ≤ sizeLine; decide), .nil⟩
    iniB := ⟨_, _, ⟨CB_mk, amBlob_init, imBlob_init, CB_kc⟩, ⟨⟨_, _, _, _, _, _, _, _, _, _, rfl, lmBlob_init, cmBlob_init⟩⟩, rfl⟩
    iniT := ⟨_, _, ⟨CT_mk, amTree_init, imTree_init, CT_kc⟩, ⟨⟨_, _, _, _, _, _, _, _, _, _, rfl, lmTree_init, cmTree_init⟩⟩, rfl⟩
    kC3f := kC3f
    kC3 := kC3
    kC2f := kC2f
    kC2 := kC2
    kG2 := kG2
    kG1 := kG1
    eqB := ⟨_, _, ⟨⟨_, _, _, _, _, _, _, _, _, _, rfl, lmBlob_eq, cmBlob_eq⟩⟩, ⟨amBlob_eq, imBlob_eq, kmBlob_eq⟩, rfl⟩
    eqT := ⟨_, _, ⟨⟨_, _, _, _, _, _, _, _, _, _, rfl, lmTree_eq, cmTree_eq⟩⟩, ⟨amTree_eq, imTree_eq, kmTree_eq⟩, rfl⟩
    eqC := ⟨_, _, ⟨⟨_, _, _, _, _, _, _, _, _, _, rfl, lmCommit_eq, cmCommit_eq⟩⟩, ⟨amCommit_eq, imCommit_eq, kmCommit_eq⟩, rfl⟩
    eqG := ⟨_, _, ⟨⟨_, _, _, _, _, _, _, _, _, _, rfl, lmTag_eq, cmTag_eq⟩⟩, ⟨amTag_eq, imTag_eq, kmTag_eq⟩, rfl⟩
    pBtext := ⟨_, _, _, ⟨apBlob_text, gpBlob_text, tpBlob_text, _, rpBlob_text_⟩, ⟨⟨_, _, _, _, _, _, _, _, _, _, rfl, lpBlob_text, cpBlob_text⟩⟩, rfl⟩
    nB_text := nB_text
    pTentries := ⟨_, _, _, ⟨apTree_entries, gpTree_entries, tpTree_entries, _, rpTree_entries_⟩, ⟨⟨_, _, _, _, _, _, _, _, _, _, rfl, lpTree_entries, cpTree_entries⟩⟩, rfl⟩
    nT_entries := nT_entries
    pCtree := ⟨_, _, _, ⟨apCommit_tree, gpCommit_tree, tpCommit_tree, _, rpCommit_tree_⟩, ⟨⟨_, _, _, _, _, _, _, _, _, _, rfl, lpCommit_tree, cpCommit_tree⟩⟩, rfl⟩
    nC_tree := nC_tree
    pCparents := ⟨_, _, _, ⟨apCommit_parents, gpCommit_parents, tpCommit_parents, _, rpCommit_parents_⟩, ⟨⟨_, _, _, _, _, _, _, _, _, _, rfl, lpCommit_parents, cpCommit_parents⟩⟩, rfl⟩
    nC_parents := nC_parents
    pCauthor := ⟨_, _, _, ⟨apCommit_author, gpCommit_author, tpCommit_author, _, rpCommit_author_⟩, ⟨⟨_, _, _, _, _, _, _, _, _, _, rfl, lpCommit_author, cpCommit_author⟩⟩, rfl⟩
    nC_author := nC_author
    pCtime := ⟨_, _, _, ⟨apCommit_time, gpCommit_time, tpCommit_time, _, rpCommit_time_⟩, ⟨⟨_, _, _, _, _, _, _, _, _, _, rfl, lpCommit_time, cpCommit_time⟩⟩, rfl⟩
    nC_time := nC_time
    pCmessage := ⟨_, _, _, ⟨apCommit_message, gpCommit_message, tpCommit_message, _, rpCommit_message_⟩, ⟨⟨_, _, _, _, _, _, _, _, _, _, rfl, lpCommit_message, cpCommit_message⟩⟩, rfl⟩
    nC_message := nC_message
    pGtarget := ⟨_, _, _, ⟨apTag_target, gpTag_target, tpTag_target, _, rpTag_target_⟩, ⟨⟨_, _, _, _, _, _, _, _, _, _, rfl, lpTag_target, cpTag_target⟩⟩, rfl⟩
    nG_target := nG_target
    pGlabel := ⟨_, _, _, ⟨apTag_label, gpTag_label, tpTag_label, _, rpTag_label_⟩, ⟨⟨_, _, _, _, _, _, _, _, _, _, rfl, lpTag_label, cpTag_label⟩⟩, rfl⟩
    nG_label := nG_label
    pGmessage := ⟨_, _, _, ⟨apTag_message, gpTag_message, tpTag_message, _, rpTag_message_⟩, ⟨⟨_, _, _, _, _, _, _, _, _, _, rfl, lpTag_message, cpTag_message⟩⟩, rfl⟩
    nG_message := nG_message
    eN := eN
    exF := cfN.exm cfF rfl (by rw [List.contains_cons, List.contains_cons, beq_self_eq_true]; simp)
    mgF := PySem.W.mg_of X G eF_mg
    kN := by unfold PySem.W.kitOne; rw [if_pos (beq_self_eq_true _)]
    odd := fun Ty hT i hi => by
      simp only [OTY, List.mem_cons, List.not_mem_nil, or_false] at hT
      rcases hT with rfl | rfl | rfl | rfl | rfl | rfl | rfl
      · match i, hi with
        | 0, _ => exact odNoneTypeB
        | 1, _ => exact odNoneTypeT
        | 2, _ => exact odNoneTypeC
        | 3, _ => exact odNoneTypeG
        | n + 4, h => exact absurd h (by omega)
      · match i, hi with
        | 0, _ => exact odboolB
        | 1, _ => exact odboolT
        | 2, _ => exact odboolC
        | 3, _ => exact odboolG
        | n + 4, h => exact absurd h (by omega)
      · match i, hi with
        | 0, _ => exact odintB
        | 1, _ => exact odintT
        | 2, _ => exact odintC
        | 3, _ => exact odintG
        | n + 4, h => exact absurd h (by omega)
      · match i, hi with
        | 0, _ => exact odstrB
        | 1, _ => exact odstrT
        | 2, _ => exact odstrC
        | 3, _ => exact odstrG
        | n + 4, h => exact absurd h (by omega)
      · match i, hi with
        | 0, _ => exact odtupleB
        | 1, _ => exact odtupleT
        | 2, _ => exact odtupleC
        | 3, _ => exact odtupleG
        | n + 4, h => exact absurd h (by omega)
      · match i, hi with
        | 0, _ => exact odlistB
        | 1, _ => exact odlistT
        | 2, _ => exact odlistC
        | 3, _ => exact odlistG
        | n + 4, h => exact absurd h (by omega)
      · match i, hi with
        | 0, _ => exact oddictB
        | 1, _ => exact oddictT
        | 2, _ => exact oddictC
        | 3, _ => exact oddictG
        | n + 4, h => exact absurd h (by omega)
    notF := fun Ty hT i hi => by
      simp only [OTY, List.mem_cons, List.not_mem_nil, or_false] at hT
      rcases hT with rfl | rfl | rfl | rfl | rfl | rfl | rfl
      · match i, hi with
        | 0, _ => exact not_first odNoneTypeB
        | 1, _ => exact not_first odNoneTypeT
        | 2, _ => exact not_first odNoneTypeC
        | 3, _ => exact not_first odNoneTypeG
        | n + 4, h => exact absurd h (by omega)
      · match i, hi with
        | 0, _ => exact not_first odboolB
        | 1, _ => exact not_first odboolT
        | 2, _ => exact not_first odboolC
        | 3, _ => exact not_first odboolG
        | n + 4, h => exact absurd h (by omega)
      · match i, hi with
        | 0, _ => exact not_first odintB
        | 1, _ => exact not_first odintT
        | 2, _ => exact not_first odintC
        | 3, _ => exact not_first odintG
        | n + 4, h => exact absurd h (by omega)
      · match i, hi with
        | 0, _ => exact not_first odstrB
        | 1, _ => exact not_first odstrT
        | 2, _ => exact not_first odstrC
        | 3, _ => exact not_first odstrG
        | n + 4, h => exact absurd h (by omega)
      · match i, hi with
        | 0, _ => exact not_first odtupleB
        | 1, _ => exact not_first odtupleT
        | 2, _ => exact not_first odtupleC
        | 3, _ => exact not_first odtupleG
        | n + 4, h => exact absurd h (by omega)
      · match i, hi with
        | 0, _ => exact not_first odlistB
        | 1, _ => exact not_first odlistT
        | 2, _ => exact not_first odlistC
        | 3, _ => exact not_first odlistG
        | n + 4, h => exact absurd h (by omega)
      · match i, hi with
        | 0, _ => exact not_first oddictB
        | 1, _ => exact not_first oddictT
        | 2, _ => exact not_first oddictC
        | 3, _ => exact not_first oddictG
        | n + 4, h => exact absurd h (by omega) }
  obtain ⟨cd1, P1, hTD1⟩ := hTb1
  have hcd1 := hTD1.code X (PySem.W.mg_of X G a25) l25
  obtain ⟨fa1, o1, fd1, u11, u12, u13, u14, uC1, uT1⟩ := hTD1
  have nT1 : K.lookup P1 = none := notab_none X nTabs uT1
  obtain ⟨cd2, P2, hTD2⟩ := hTb2
  have hcd2 := hTD2.code X (PySem.W.mg_of X G a26) l26
  obtain ⟨fa2, o2, fd2, u21, u22, u23, u24, uC2, uT2⟩ := hTD2
  have nT2 : K.lookup P2 = none := notab_none X nTabs uT2
  obtain ⟨cd3, P3, hTD3⟩ := hTb
  have hcd3 := hTD3.code X (PySem.W.mg_of X G a27) l27
  obtain ⟨fa3, o3, fd3, u31, u32, u33, u34, uC3, uT3⟩ := hTD3
  have nT3 : K.lookup P3 = none := notab_none X nTabs uT3
  have three : ∀ {Q : Addr × Addr → Prop}, Q (cd1, P1) → Q (cd2, P2) → Q (cd3, P3) → ∀ p ∈ [(cd1, P1), (cd2, P2), (cd3, P3)], Q p := fun q1 q2 q3 p hp => by
    simp only [List.mem_cons, List.not_mem_nil, or_false] at hp
    rcases hp with z | z | z
    · rw [z]; exact q1
    · rw [z]; exact q2
    · rw [z]; exact q3
  have m1 : (cd1, P1) ∈ [(cd1, P1), (cd2, P2), (cd3, P3)] := List.mem_cons_self
  have m2 : (cd2, P2) ∈ [(cd1, P1), (cd2, P2), (cd3, P3)] := List.mem_cons_of_mem _ List.mem_cons_self
  have m3 : (cd3, P3) ∈ [(cd1, P1), (cd2, P2), (cd3, P3)] := List.mem_cons_of_mem _ (List.mem_cons_of_mem _ List.mem_cons_self)
  refine ⟨PySem.W.fnOf "law" "law" (C8.fnArgs s_law) (C8.fnBody s_law) (C8.fnScope s_law) .none kV27 dc27 pm27 an27 cd27 ct27, [(cd1, P1), (cd2, P2), (cd3, P3)], spLawT K P1 P2 P3, three uT1 uT2 uT3, three nT1 nT2 nT3, three uC1 uC2 uC3, fun s v => .of_eq rfl, fun H a ns hl _ hT hS => ⟨a, ns, rfl, hS, hl, fun P hP => ?_, fun _ => rfl⟩, fun base _ _ hB => ok_law TO (hB (cd1, P1) m1) ⟨_, _, ⟨⟨⟨_, _, _, _, _, _, _, _, _, _, rfl, l25, c25⟩⟩, PySem.W.mg_of X G a25, k25⟩, rfl, hcd1⟩ (hB (cd2, P2) m2) ⟨_, _, ⟨⟨⟨_, _, _, _, _, _, _, _, _, _, rfl, l26, c26⟩⟩, PySem.W.mg_of X G a26, k26⟩, rfl, hcd2⟩ (hB (cd3, P3) m3) ⟨⟨_, _, _, _, _, _, _, _, _, _, rfl, l27, c27⟩⟩ hcd3⟩
  simp only [List.mem_cons, List.not_mem_nil, or_false] at hP
  rcases hP with z | z | z
  · rw [z]; exact TabL.nil (hT (cd1, P1) m1)
  · rw [z]; exact TabL.nil (hT (cd2, P2) m2)
  · rw [z]; exact TabL.nil (hT (cd3, P3) m3)
end Fk
open PySem PySem.W PyProof.Rows
set_option maxHeartbeats 0 in
theorem PySem.Challenge.cw_forkhaul_k03_objects_made_holds : PySem.Challenge.rw_forkhaul_k03_objects_made.Holds := by
  w_on; o_law; k_head; (case hw => w_witness2)
  k_fill
  refine Fk.walk_ofTabs (l := PySem.Challenge.rw_forkhaul_k03_objects_made) (n := 63) (k := 11) (x := "_law_script") (CX := fun _ => C8.CX0) (ys := ["_law_tree_right", "_law_commit_right", "law"]) rfl (by decide) rfl ⟨rfl, by decide, by decide⟩ ?R (fun w h Y => PySem.W.km_in_of Y) ?F (fun _ _ _ _ _ h => h)
  case R => intro y hy; simp only [List.mem_cons, List.not_mem_nil, or_false] at hy; rcases hy with hy | hy | hy <;> (rw [hy]; first | rfl | decide +kernel | k_is)
  case F =>
    intro w mg fa h Y KX G hmg tabs
    refine' Fk.all_mk KX G hmg ?a1 ?l1 ?c1 ?k1 ?a2 ?l2 ?c2 ?k2 ?a3 ?l3 ?c3 ?k3 ?a4 ?l4 ?c4 ?k4 ?a5 ?l5 ?c5 ?k5 ?a6 ?l6 ?c6 ?k6 ?a7 ?l7 ?c7 ?k7 ?a8 ?l8 ?c8 ?k8 ?a9 ?l9 ?c9 ?k9 ?a10 ?l10 ?c10 ?k10 ?a11 ?l11 ?c11 ?k11 ?a12 ?l12 ?c12 ?k12 ?a13 ?l13 ?c13 ?k13 ?a14 ?l14 ?c14 ?k14 ?a15 ?l15 ?c15 ?k15 ?a16 ?l16 ?c16 ?k16 ?a17 ?l17 ?c17 ?k17 ?a18 ?l18 ?c18 ?k18 ?a19 ?l19 ?c19 ?k19 ?a20 ?l20 ?c20 ?k20 ?a21 ?l21 ?c21 ?k21 ?a22 ?l22 ?c22 ?k22 ?a23 ?l23 ?c23 ?k23 ?a24 ?l24 ?c24 ?k24 ?a25 ?l25 ?c25 ?k25 ?a26 ?l26 ?c26 ?k26 ?a27 ?l27 ?c27 ?k27 ?z_ValueError ?z_all ?z_bool ?z_dict ?z_int ?z_isinstance ?z_len ?z_list ?z_min ?z_range ?z_set ?z_sorted ?z_str ?z_tuple ?g_HEX_DIGITS ?g_LETTERS ?g_SEGMENT_SIGNS ?g_LONGEST_WORD ?g_LONGEST_TEXT ?g_LONGEST_MESSAGE ?g_LATEST ?g_MOST_ENTRIES ?g_MOST_PARENTS ?eB_mg ?eT_mg ?eC_mg ?eG_mg ?eF_mg ?eN_mg ?CB_pg ?CB_hd ?CB_po ?CB_sa ?CB_mk ?CB_kc ?CB_ha ?CB_hm ?CB_ne ?CT_pg ?CT_hd ?CT_po ?CT_sa ?CT_mk ?CT_kc ?CT_ha ?CT_hm ?CT_ne ?CC_pg ?CC_hd ?CC_po ?CC_sa ?CC_mk ?CC_kc ?CC_ha ?CC_hm ?CC_ne ?CG_pg ?CG_hd ?CG_po ?CG_sa ?CG_mk ?CG_kc ?CG_ha ?CG_hm ?CG_ne ?kBT ?kBC ?kBG ?kTB ?kTC ?kTG ?kCB ?kCT ?kCG ?kGB ?kGT ?kGC ?e_hn ?e_ht ?amBlob_init ?imBlob_init ?lmBlob_init ?cmBlob_init ?kmBlob_init ?amTree_init ?imTree_init ?lmTree_init ?cmTree_init ?kmTree_init ?amCommit_init ?imCommit_init ?lmCommit_init ?cmCommit_init ?kmCommit_init ?amTag_init ?imTag_init ?lmTag_init ?cmTag_init ?kmTag_init ?amBlob_eq ?imBlob_eq ?lmBlob_eq ?cmBlob_eq ?kmBlob_eq ?amTree_eq ?imTree_eq ?lmTree_eq ?cmTree_eq ?kmTree_eq ?amCommit_eq ?imCommit_eq ?lmCommit_eq ?cmCommit_eq ?kmCommit_eq ?amTag_eq ?imTag_eq ?lmTag_eq ?cmTag_eq ?kmTag_eq ?apBlob_text ?gpBlob_text ?tpBlob_text ?rpBlob_text_ ?lpBlob_text ?cpBlob_text ?nB_text ?apTree_entries ?gpTree_entries ?tpTree_entries ?rpTree_entries_ ?lpTree_entries ?cpTree_entries ?nT_entries ?apCommit_tree ?gpCommit_tree ?tpCommit_tree ?rpCommit_tree_ ?lpCommit_tree ?cpCommit_tree ?nC_tree ?apCommit_parents ?gpCommit_parents ?tpCommit_parents ?rpCommit_parents_ ?lpCommit_parents ?cpCommit_parents ?nC_parents ?apCommit_author ?gpCommit_author ?tpCommit_author ?rpCommit_author_ ?lpCommit_author ?cpCommit_author ?nC_author ?apCommit_time ?gpCommit_time ?tpCommit_time ?rpCommit_time_ ?lpCommit_time ?cpCommit_time ?nC_time ?apCommit_message ?gpCommit_message ?tpCommit_message ?rpCommit_message_ ?lpCommit_message ?cpCommit_message ?nC_message ?apTag_target ?gpTag_target ?tpTag_target ?rpTag_target_ ?lpTag_target ?cpTag_target ?nG_target ?apTag_label ?gpTag_label ?tpTag_label ?rpTag_label_ ?lpTag_label ?cpTag_label ?nG_label ?apTag_message ?gpTag_message ?tpTag_message ?rpTag_message_ ?lpTag_message ?cpTag_message ?nG_message ?e_kdC ?e_kdG ?e_dC ?t_pd ?g_EK ?t_ek ?xF ?xN ?saN ?kCN ?iCN ?gaN ?ggN ?haN ?nfN ?tiF ?liF ?ciF ?kiF ?e_dT ?odNoneTypeB ?odNoneTypeT ?odNoneTypeC ?odNoneTypeG ?odboolB ?odboolT ?odboolC ?odboolG ?odintB ?odintT ?odintC ?odintG ?odstrB ?odstrT ?odstrC ?odstrG ?odtupleB ?odtupleT ?odtupleC ?odtupleG ?odlistB ?odlistT ?odlistC ?odlistG ?oddictB ?oddictT ?oddictC ?oddictG ?nTabs (tabs _ List.mem_cons_self) (tabs _ (List.mem_cons_of_mem _ List.mem_cons_self)) (tabs _ (List.mem_cons_of_mem _ (List.mem_cons_of_mem _ List.mem_cons_self)))
    (case a1 => k_is); (case l1 => k_is); (case c1 => k_is); (case k1 => k_is); (case a2 => k_is); (case l2 => k_is); (case c2 => k_is); (case k2 => k_is); (case a3 => k_is); (case l3 => k_is); (case c3 => k_is); (case k3 => k_is); (case a4 => k_is); (case l4 => k_is); (case c4 => k_is); (case k4 => k_is); (case a5 => k_is); (case l5 => k_is); (case c5 => k_is); (case k5 => k_is); (case a6 => k_is); (case l6 => k_is); (case c6 => k_is); (case k6 => k_is); (case a7 => k_is); (case l7 => k_is); (case c7 => k_is); (case k7 => k_is); (case a8 => k_is); (case l8 => k_is); (case c8 => k_is); (case k8 => k_is); (case a9 => k_is); (case l9 => k_is); (case c9 => k_is); (case k9 => k_is); (case a10 => k_is); (case l10 => k_is); (case c10 => k_is); (case k10 => k_is); (case a11 => k_is); (case l11 => k_is); (case c11 => k_is); (case k11 => k_is); (case a12 => k_is); (case l12 => k_is); (case c12 => k_is); (case k12 => k_is); (case a13 => k_is); (case l13 => k_is); (case c13 => k_is); (case k13 => k_is); (case a14 => k_is); (case l14 => k_is); (case c14 => k_is); (case k14 => k_is); (case a15 => k_is); (case l15 => k_is); (case c15 => k_is); (case k15 => k_is); (case a16 => k_is); (case l16 => k_is); (case c16 => k_is); (case k16 => k_is); (case a17 => k_is); (case l17 => k_is); (case c17 => k_is); (case k17 => k_is); (case a18 => k_is); (case l18 => k_is); (case c18 => k_is); (case k18 => k_is); (case a19 => k_is); (case l19 => k_is); (case c19 => k_is); (case k19 => k_is); (case a20 => k_is); (case l20 => k_is); (case c20 => k_is); (case k20 => k_is); (case a21 => k_is); (case l21 => k_is); (case c21 => k_is); (case k21 => k_is); (case a22 => k_is); (case l22 => k_is); (case c22 => k_is); (case k22 => k_is); (case a23 => k_is); (case l23 => k_is); (case c23 => k_is); (case k23 => k_is); (case a24 => k_is); (case l24 => k_is); (case c24 => k_is); (case k24 => k_is); (case a25 => k_is); (case l25 => k_is); (case c25 => k_is); (case k25 => k_is); (case a26 => k_is); (case l26 => k_is); (case c26 => k_is); (case k26 => k_is); (case a27 => k_is); (case l27 => k_is); (case c27 => k_is); (case k27 => k_is); (case z_ValueError => k_is); (case z_all => k_is); (case z_bool => k_is); (case z_dict => k_is); (case z_int => k_is); (case z_isinstance => k_is); (case z_len => k_is); (case z_list => k_is); (case z_min => k_is); (case z_range => k_is); (case z_set => k_is); (case z_sorted => k_is); (case z_str => k_is); (case z_tuple => k_is); (case g_HEX_DIGITS => k_is); (case g_LETTERS => k_is); (case g_SEGMENT_SIGNS => k_is); (case g_LONGEST_WORD => k_is); (case g_LONGEST_TEXT => k_is); (case g_LONGEST_MESSAGE => k_is); (case g_LATEST => k_is); (case g_MOST_ENTRIES => k_is); (case g_MOST_PARENTS => k_is); (case eB_mg => k_is); (case eT_mg => k_is); (case eC_mg => k_is); (case eG_mg => k_is); (case eF_mg => k_is); (case eN_mg => k_is); (case CB_pg => k_is); (case CB_hd => k_is); (case CB_po => k_is); (case CB_sa => k_is); (case CB_mk => k_is); (case CB_kc => k_is); (case CB_ha => k_is); (case CB_hm => k_is); (case CB_ne => k_is); (case CT_pg => k_is); (case CT_hd => k_is); (case CT_po => k_is); (case CT_sa => k_is); (case CT_mk => k_is); (case CT_kc => k_is); (case CT_ha => k_is); (case CT_hm => k_is); (case CT_ne => k_is); (case CC_pg => k_is); (case CC_hd => k_is); (case CC_po => k_is); (case CC_sa => k_is); (case CC_mk => k_is); (case CC_kc => k_is); (case CC_ha => k_is); (case CC_hm => k_is); (case CC_ne => k_is); (case CG_pg => k_is); (case CG_hd => k_is); (case CG_po => k_is); (case CG_sa => k_is); (case CG_mk => k_is); (case CG_kc => k_is); (case CG_ha => k_is); (case CG_hm => k_is); (case CG_ne => k_is); (case kBT => kit_is); (case kBC => kit_is); (case kBG => kit_is); (case kTB => kit_is); (case kTC => kit_is); (case kTG => kit_is); (case kCB => kit_is); (case kCT => kit_is); (case kCG => kit_is); (case kGB => kit_is); (case kGT => kit_is); (case kGC => kit_is); (case e_hn => k_is); (case e_ht => k_is); (case amBlob_init => k_is); (case imBlob_init => k_is); (case lmBlob_init => k_is); (case cmBlob_init => k_is); (case kmBlob_init => k_is); (case amTree_init => k_is); (case imTree_init => k_is); (case lmTree_init => k_is); (case cmTree_init => k_is); (case kmTree_init => k_is); (case amCommit_init => k_is); (case imCommit_init => k_is); (case lmCommit_init => k_is); (case cmCommit_init => k_is); (case kmCommit_init => k_is); (case amTag_init => k_is); (case imTag_init => k_is); (case lmTag_init => k_is); (case cmTag_init => k_is); (case kmTag_init => k_is); (case amBlob_eq => k_is); (case imBlob_eq => k_is); (case lmBlob_eq => k_is); (case cmBlob_eq => k_is); (case kmBlob_eq => k_is); (case amTree_eq => k_is); (case imTree_eq => k_is); (case lmTree_eq => k_is); (case cmTree_eq => k_is); (case kmTree_eq => k_is); (case amCommit_eq => k_is); (case imCommit_eq => k_is); (case lmCommit_eq => k_is); (case cmCommit_eq => k_is); (case kmCommit_eq => k_is); (case amTag_eq => k_is); (case imTag_eq => k_is); (case lmTag_eq => k_is); (case cmTag_eq => k_is); (case kmTag_eq => k_is); (case apBlob_text => k_is); (case gpBlob_text => k_is); (case tpBlob_text => k_is); (case rpBlob_text_ => k_is); (case lpBlob_text => k_is); (case cpBlob_text => k_is); (case nB_text => k_is); (case apTree_entries => k_is); (case gpTree_entries => k_is); (case tpTree_entries => k_is); (case rpTree_entries_ => k_is); (case lpTree_entries => k_is); (case cpTree_entries => k_is); (case nT_entries => k_is); (case apCommit_tree => k_is); (case gpCommit_tree => k_is); (case tpCommit_tree => k_is); (case rpCommit_tree_ => k_is); (case lpCommit_tree => k_is); (case cpCommit_tree => k_is); (case nC_tree => k_is); (case apCommit_parents => k_is); (case gpCommit_parents => k_is); (case tpCommit_parents => k_is); (case rpCommit_parents_ => k_is); (case lpCommit_parents => k_is); (case cpCommit_parents => k_is); (case nC_parents => k_is); (case apCommit_author => k_is); (case gpCommit_author => k_is); (case tpCommit_author => k_is); (case rpCommit_author_ => k_is); (case lpCommit_author => k_is); (case cpCommit_author => k_is); (case nC_author => k_is); (case apCommit_time => k_is); (case gpCommit_time => k_is); (case tpCommit_time => k_is); (case rpCommit_time_ => k_is); (case lpCommit_time => k_is); (case cpCommit_time => k_is); (case nC_time => k_is); (case apCommit_message => k_is); (case gpCommit_message => k_is); (case tpCommit_message => k_is); (case rpCommit_message_ => k_is); (case lpCommit_message => k_is); (case cpCommit_message => k_is); (case nC_message => k_is); (case apTag_target => k_is); (case gpTag_target => k_is); (case tpTag_target => k_is); (case rpTag_target_ => k_is); (case lpTag_target => k_is); (case cpTag_target => k_is); (case nG_target => k_is); (case apTag_label => k_is); (case gpTag_label => k_is); (case tpTag_label => k_is); (case rpTag_label_ => k_is); (case lpTag_label => k_is); (case cpTag_label => k_is); (case nG_label => k_is); (case apTag_message => k_is); (case gpTag_message => k_is); (case tpTag_message => k_is); (case rpTag_message_ => k_is); (case lpTag_message => k_is); (case cpTag_message => k_is); (case nG_message => k_is); (case e_kdC => k_is); (case e_kdG => k_is); (case e_dC => k_is); (case t_pd => k_is); (case g_EK => k_is); (case t_ek => k_is); (case xF => k_is); (case xN => k_is); (case saN => k_is); (case kCN => k_is); (case iCN => k_is); (case gaN => k_is); (case ggN => k_is); (case haN => k_is); (case nfN => k_is); (case tiF => k_is); (case liF => k_is); (case ciF => k_is); (case kiF => k_is); (case e_dT => k_is); (case odNoneTypeB => kit_is); (case odNoneTypeT => kit_is); (case odNoneTypeC => kit_is); (case odNoneTypeG => kit_is); (case odboolB => kit_is); (case odboolT => kit_is); (case odboolC => kit_is); (case odboolG => kit_is); (case odintB => kit_is); (case odintT => kit_is); (case odintC => kit_is); (case odintG => kit_is); (case odstrB => kit_is); (case odstrT => kit_is); (case odstrC => kit_is); (case odstrG => kit_is); (case odtupleB => kit_is); (case odtupleT => kit_is); (case odtupleC => kit_is); (case odtupleG => kit_is); (case odlistB => kit_is); (case odlistT => kit_is); (case odlistC => kit_is); (case odlistG => kit_is); (case oddictB => kit_is); (case oddictT => kit_is); (case oddictC => kit_is); (case oddictG => kit_is); (case nTabs => first | k_is | exact rfl | kernel_rfl | decide +kernel)


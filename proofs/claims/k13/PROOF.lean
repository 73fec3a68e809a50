import PyProof.Rows.All
import Wide.All
import OpenK.AllK
import Wide.FinOn
import HandS.ForMost
import HandS.Codes
import HandS.IsInst
import HandS.Wide
import HandS.CallLocal
import HandS.StrMore
import HandS.Replace
import HandS.ReplaceDef
import HandS.ReplaceLit
import HandS.ReplaceList
import Wide.Txt
import HandS.Exc
import HandS.ExcInit
import HandS.Defaults
import HandS.MakeKw
import HandS.TryOnly
import HandS.ExcField
import KE.KExcIs
import KE.KExcInit
import PyProof.P3Eq
import HandS.ExcIs
import HandS.OwnEq
import HandS.Property
import HandS.ExcOwn
import HandS.NamedTupSort
import KE.KOpsOwn
import PyProof.InstNe
import HandS.MakeKwOnly
import PyProof.InstEq
import PyProof.DictUpdate
import PyProof.DictDisplay
import HandS.DictComp
import KE.KEqDict
import HandS.More
import HandS.TryMany
import HandS.WordsDict
import PyProof.Rows.StrMeet
import HandS.RaiseMore
import HandS.TupAny
import KE.KRevSl
import PyProof.SliceList
import HandS.Bytes
import KE.KStrBytes
import HandS.FStr
import KE.KxField
import PyProof.FString3
import HandS.Zip
import KE.KBytesWalk
import HandS.IterVal
import PyProof.ZipIter
import HandS.Iter
import HandS.List
import HandS.Conv
import PyProof.ListStr
import HandS.SetTxt0
import HandS.SetFor
import HandS.TupSets
import HandS.Strs
import KE.KBytesFind
import KE.KxDecode
import KE.KBytesDec
import HandS.Text
import HandS.BytesMake
import HandS.Lambda
import HandS.EndTab
import HandS.EndOwn
import HandS.Comp
import PySem.Challenge.RW_forkhaul_k13_whole_disks
import PyProof.NeKinds
import HandS.HotCalls
import HandS.SuiteRaise
import HandS.ExcInitHot
import HandS.Words
set_option Elab.async false
set_option linter.all false
set_option maxRecDepth 100000
set_option maxHeartbeats 4000000
/-! The base of the proofs: repetition of texts, defs by their names, comprehensions by an invariant, frames. -/
namespace Fk
open PySem PySem.Spec PyProof.Rows L2

/-! ### a text repeated -/
theorem fold_cps (x : Array Nat) : ∀ (n : Nat) (acc : Array Nat), ((List.replicate n x).foldl (· ++ ·) acc).toList = acc.toList ++ (List.replicate n x.toList).flatten
  | 0, acc => by simp
  | n + 1, acc => by
    rw [List.replicate_succ, List.foldl_cons, fold_cps x n (acc ++ x), List.replicate_succ, List.flatten_cons, Array.toList_append, List.append_assoc]
def repS (x : Str) (n : Nat) : Str := ⟨(List.replicate n x.cps.toList).flatten.toArray⟩
theorem tl_rep (x : Str) (n : Nat) : TL.tl (repS x n) = (List.replicate n (TL.tl x)).flatten := rfl
theorem rep_len (x : Str) (n : Nat) : (repS x n).length = n * x.length := by
  rw [TL.len_tl, tl_rep, TL.len_tl]
  induction n with
  | zero => simp
  | succ n ih => rw [List.replicate_succ, List.flatten_cons, List.length_append, ih, Nat.succ_mul, Nat.add_comm]
theorem tooLong_no {n : Nat} (h : n ≤ 16777216) : Builtin.Str.tooLong n = false := by
  unfold Builtin.Str.tooLong
  have e : (16777216 : Nat) = sizeLine ∨ 16777216 ≤ sizeLine := by right; decide
  have h2 : 16777216 ≤ sizeLine := by rcases e with e | e <;> omega
  simp
  omega
def rMulSI : R2 := fun x y H Q => ∃ (z : Str) (k : Int), x = .str z ∧ y = .int k ∧ 0 ≤ k ∧ k ≤ 10000 ∧ z.length * k.toNat ≤ 1000000 ∧ Q (.str (repS z k.toNat)) H
theorem op_mul_si {X : Cx} : OpR X (binaryOp .Mult) rMulSI := by
  intro pins s σ H x y v u Q I rx ry h
  obtain ⟨z, k, rfl, rfl, h0, h1, h2, q⟩ := h
  obtain ⟨t, rfl⟩ := rx
  obtain ⟨t', rfl⟩ := ry
  refine PySem.P.mul_str ?_ (fun h3 h4 => ?_) (fun h3 h4 => ?_) ?_
  · have e1 : ¬ k < -(2 ^ 63 : Int) := by omega
    have e2 : ¬ k ≥ 2 ^ 63 := by omega
    rw [decide_eq_false e1, decide_eq_false e2]
    rfl
  · have hk : 1 ≤ k := by omega
    have hz : z.length ≤ 1000000 := by
      have h5 : z.length * 1 ≤ z.length * k.toNat := Nat.mul_le_mul_left _ (by omega)
      omega
    have h6 : (10 ^ 14 : Int) ≤ (2 ^ 63 - 1) / k := by
      refine Int.le_ediv_of_mul_le (by omega) ?_
      have h7 : (10 ^ 14 : Int) * k ≤ 10 ^ 14 * 10000 := Int.mul_le_mul_of_nonneg_left h1 (by decide)
      have h8 : ((10 ^ 14 : Int) * 10000) ≤ 2 ^ 63 - 1 := by decide
      omega
    have h9 : ((z.length : Nat) : Int) ≤ 1000000 := by omega
    have h10 : (1000000 : Int) < 10 ^ 14 := by decide
    omega
  · exact tooLong_no (by omega)
  · by_cases h3 : k < 1
    · rw [if_pos h3]
      have e : k.toNat = 0 := by omega
      rw [e] at q
      have ez : repS z 0 = Str.empty := TL.ext_tl rfl
      rw [ez] at q
      exact ⟨by decide, V.str Str.empty, H, I.tok _, ⟨_, rfl⟩, q⟩
    · rw [if_neg h3]
      by_cases h4 : (k == 1 || z.length == 0) = true
      · rw [if_pos h4]
        have ez : repS z k.toNat = z := by
          apply TL.ext_tl
          rw [tl_rep]
          rcases Bool.or_eq_true_iff.mp h4 with h5 | h5
          · have e : k.toNat = 1 := by
              have := eq_of_beq h5
              omega
            rw [e]
            simp
          · have e : TL.tl z = [] := by
              have := eq_of_beq h5
              rw [TL.len_tl] at this
              exact List.length_eq_zero_iff.mp this
            rw [e]
            simp
        rw [ez] at q
        exact ⟨V.str z, H, I, ⟨_, rfl⟩, q⟩
      · rw [if_neg h4]
        have ez : (⟨(List.replicate k.toNat z.cps).foldl (· ++ ·) #[]⟩ : Str) = repS z k.toNat := by
          apply TL.ext_tl
          show ((List.replicate k.toNat z.cps).foldl (· ++ ·) #[]).toList = _
          rw [fold_cps]
          rfl
        have hl : (repS z k.toNat).length ≤ sizeLine := by
          rw [rep_len, Nat.mul_comm]
          exact Nat.le_trans h2 (by decide)
        rw [← ez] at q hl
        exact ⟨hl, V.str _, H, I.tok _, ⟨_, rfl⟩, q⟩

section
variable {P : Program} {w : World} {K : PySem.W.Frag} {mg : Str → Option Value} {base : Heap}
/-! ### defs by their names -/
/-- a def of the module whose parameters have no defaults -/
def IsDef (K : PySem.W.Frag) (mg : Str → Option Value) (x : Str) (st : Stmt) : Prop := ∃ f fd, C8.Def K mg x st f fd ∧ fd.defaults = .none
theorem cal_of {x : Str} {st : Stmt} {N ps : List Str} {k : Nat} {sp : Sp} (D : IsDef K mg x st) (S : FnScope N ps (C8.fnScope st))
    (hb : ∀ (kV doc pm : Value) (an : Option Addr) (cdv ct : Value) (us : List Value), us.length = ps.length → bindArgs (PySem.W.fnOf x x (C8.fnArgs st) (C8.fnBody st) (C8.fnScope st) .none kV doc pm an cdv ct) ⟨us, []⟩ = pure (ps.zip us))
    (len : ∀ vs H Q E, sp vs H Q E → vs.length = ps.length)
    (hbody : ∀ (f : Addr) (cdv : Value) (A : Around) (outer : List Env) (s : Shared) (H : Hp) (vs : List V) (Q : VK) (E : XK), Room k (A.deeper (envOfC x (C8.fnScope st) s.heap.objs.size f cdv)) → sp vs H Q E →
      ∃ t, PSs (cxOf C8.CX0 P w K mg base N x (C8.fnScope st) f cdv A outer s H E).nox (C8.fnBody st) t ∧ t { nx := fun _ H' => Q .non H', rt := Q } (start N vs) H) : C8.Cal P w K mg base (k + 1) x sp [] := by
  obtain ⟨f, fd, D, df⟩ := D
  exact C8.cal0 D (D.fn.binds df hb) .nil S len (hbody f)
theorem pe_c0 {X : Cx} {k j : Nat} {x : Str} {sp : Sp} {dvs : List V} {p pos : Pos} (c : C8.Cal X.prog X.w X.K X.mg X.base k x sp dvs) (hr : Room j X.A) (hk : k ≤ j) (hg : Gl X x)
    (hdb : (x == ("__debug__" : Str)) = false := by decide) : PE X (.Call (.Name x p) [] [] pos) (tCall sp dvs C8.E0 tNil) := by
  obtain ⟨f, fd, ps, ds, F, hm, kp, b, d⟩ := c.ex
  exact pe_call0 F (hr.mono hk) hg hm kp b d C8.pass0 hdb
/-- a def's address as a value, with its promise -/
theorem held_of {k : Nat} {x : Str} {sp : Sp} {f : Addr} (c : C8.Cal P w K mg base k x sp []) (h : mg x = some (.ref f)) : Held P w K mg base k f sp := by
  obtain ⟨f', fd, ps, ds, F, hm, kp, b, d⟩ := c.ex
  rw [h] at hm
  cases hm
  cases d
  exact ⟨fd, ps, F, kp, b⟩
end

/-! ### heaps -/
/-- all that was tracked is as it was, but what stands at a -/
def Fr (a : Addr) (H H' : Hp) : Prop := ∀ b o, b ≠ a → H b = some o → H' b = some o
theorem Fr.refl (a : Addr) (H : Hp) : Fr a H H := fun _ _ _ h => h
theorem Fr.trans {a : Addr} {H H1 H2 : Hp} (x : Fr a H H1) (y : Fr a H1 H2) : Fr a H H2 := fun b o n h => y b o n (x b o n h)
theorem Fr.at {a : Addr} {H : Hp} {o : HO} : Fr a H (upd H a o) := fun b u n h => by
  rw [upd_ne n]
  exact h
theorem Fr.new {a p : Addr} {H : Hp} {o : HO} (h : H p = none) : Fr a H (upd H p o) := fun b u _ e => by
  rw [upd_ne (ne_of_none e h)]
  exact e
/-- what came later may change -/
theorem Fr.mut {a p : Addr} {H H' : Hp} {o : HO} (x : Fr a H H') (h : H p = none) : Fr a H (upd H' p o) := fun b u n e => by
  rw [upd_ne (ne_of_none e h)]
  exact x b u n e
theorem Fr.same {a : Addr} {H H' : Hp} (h : Same H H') : Fr a H H' := fun b o _ e => h b o e
theorem Fr.free {a p : Addr} {H H' : Hp} (x : Fr a H H') (n : p ≠ a) (h : H' p = none) : H p = none := by
  cases q : H p with
  | none => rfl
  | some o =>
    rw [x p o n q] at h
    cases h
theorem same_new {H : Hp} {p : Addr} {o : HO} (h : H p = none) : Same H (upd H p o) := fun b u e => by
  rw [upd_ne (ne_of_none e h)]
  exact e
theorem same_mut {H H' : Hp} {p : Addr} {o : HO} (x : Same H H') (h : H p = none) : Same H (upd H' p o) := fun b u e => by
  rw [upd_ne (ne_of_none e h)]
  exact x b u e
theorem small_line {n : Nat} (h : n ≤ 1000000) : n ≤ sizeLine := Nat.le_trans h (by decide)
theorem small_lt {n : Nat} (h : n ≤ 1000000) : n < sizeLine := Nat.lt_of_le_of_lt h (by decide)

/-! ### comprehensions -/
theorem set_set {σ : L2.St} {i : Nat} {x y : Option V} : (σ.set i x).set i y = σ.set i y := by
  rw [List.set_set]
/-- what an iterator yields while the list at D grows: the items of a list -/
structure Yields (J : It) (items : List V) (G : Hp → Prop) : Prop where
  go : ∀ k H, G H → k < items.length → J.go k H
  stop : ∀ H, G H → J.stop items.length H
  yld : ∀ k H x H', k < items.length → G H → J.yld k H x H' → H' = H ∧ items[k]? = some x
theorem yields_str (x : Str) : Yields (Its x) (x.cps.toList.map fun c => V.str ⟨#[c]⟩) (fun _ => True) where
  go := fun k H _ h => by
    rw [List.length_map] at h
    exact (by simpa using h : k < x.cps.size)
  stop := fun H _ => by
    show x.cps.size ≤ _
    simp
  yld := fun k H v H' _ _ h => by
    obtain ⟨e, c, hc, hv⟩ := h
    refine ⟨e, ?_⟩
    rw [List.getElem?_map, Array.getElem?_toList, hc, hv]
    rfl
theorem yields_list {K : PySem.W.Frag} {a : Addr} {xs : List V} : Yields (Itl K a) xs (fun H => SqL K H a xs) where
  go := fun k H g h => ⟨xs, xs[k], g, List.getElem?_eq_getElem h⟩
  stop := fun H g => ⟨xs, g, Nat.le_refl _⟩
  yld := fun k H x H' _ g h => ⟨h.1, h.2 xs g⟩
theorem yields_range {lo : Int} {n : Nat} : Yields (Itr lo n) ((List.range n).map fun (i : Nat) => V.int (lo + (i : Int))) (fun _ => True) where
  go := fun k H _ h => by
    rw [List.length_map, List.length_range] at h
    exact h
  stop := fun H _ => by
    show n ≤ _
    rw [List.length_map, List.length_range]
    exact Nat.le_refl _
  yld := fun k H x H' hk _ h => by
    obtain ⟨e, hx⟩ := h
    rw [List.length_map, List.length_range] at hk
    refine ⟨e, ?_⟩
    rw [List.getElem?_map, List.getElem?_range hk, hx]
    rfl
/-- behind k turns of a comprehension: the list at D holds acc, of which I speaks -/
def LcN (I : Nat → List V → Hp → Prop) (D : Addr) (k : Nat) (H : Hp) : Prop := ∃ acc, H D = some (.lst acc) ∧ acc.length ≤ k ∧ I k acc H
theorem lc_take {I : Nat → List V → Hp → Prop} {D : Addr} {k : Nat} {H4 : Hp} {y : V} {acc : List V} (h : H4 D = some (.lst acc)) (l : acc.length ≤ k) (hk : k < 1000000) (q : I (k + 1) (acc ++ [y]) (upd H4 D (.lst (acc ++ [y])))) :
    ∃ acc, H4 D = some (.lst acc) ∧ acc.length < sizeLine ∧ LcN I D (k + 1) (upd H4 D (.lst (acc ++ [y]))) :=
  ⟨acc, h, small_lt (by omega), acc ++ [y], upd_same, by rw [List.length_append, List.length_singleton]; omega, q⟩
theorem lc_skip {I : Nat → List V → Hp → Prop} {D : Addr} {k : Nat} {H4 : Hp} {acc : List V} (h : H4 D = some (.lst acc)) (l : acc.length ≤ k) (q : I (k + 1) acc H4) : LcN I D (k + 1) H4 := ⟨acc, h, by omega, q⟩
/-- a comprehension by an invariant I over (turns, what the new list holds, the heap) -/
theorem lc_inv {J : It} {items : List V} {G : Hp → Prop} {H1 : Hp} {D : Addr} {σ : L2.St} {i : Nat} {tt : TT} {te : TE} {Q : Hp → Prop} (Y : Yields J items G) (I : Nat → List V → Hp → Prop)
    (hG : ∀ k acc H, I k acc H → H D = some (.lst acc) → G H) (h0 : I 0 [] (upd H1 D (.lst [])))
    (hs : ∀ k acc H x, I k acc H → H D = some (.lst acc) → items[k]? = some x → acc.length ≤ k → k < 1000000 → tt (σ.set i (some x)) H fun b H3 =>
      if b = true then te (σ.set i (some x)) H3 fun y H4 => ∃ acc, H4 D = some (.lst acc) ∧ acc.length < sizeLine ∧ LcN I D (k + 1) (upd H4 D (.lst (acc ++ [y]))) else LcN I D (k + 1) H3)
    (hl : items.length ≤ 1000000) (hd : ∀ acc H, I items.length acc H → H D = some (.lst acc) → acc.length ≤ items.length → Q H) :
    ∃ W : Nat → Nat → Hp → Prop, (∃ m, W 0 m (upd H1 D (.lst []))) ∧ ∀ k m H, W k m H →
      (J.stop k H ∧ Q H) ∨ (J.go k H ∧ ∃ Nx : Hp → Prop, (∀ H', Nx H' → ∃ m', m' < m ∧ W (k + 1) m' H') ∧ ∀ x H', J.yld k H x H' → gName i x (wipe σ [i]) H' fun σ2 H2 => wipe σ2 [i] = wipe σ [i] ∧ tt σ2 H2 fun b H3 =>
        if b = true then te σ2 H3 fun y H4 => ∃ acc, H4 D = some (.lst acc) ∧ acc.length < sizeLine ∧ Nx (upd H4 D (.lst (acc ++ [y]))) else Nx H3) := by
  refine ⟨fun k m H => m = items.length - k ∧ k ≤ items.length ∧ LcN I D k H, ⟨items.length, by omega, Nat.zero_le _, [], upd_same, Nat.zero_le _, h0⟩, ?_⟩
  rintro k m H ⟨rfl, hk, acc, hD, hacc, hI⟩
  by_cases hlt : k < items.length
  · refine .inr ⟨Y.go k H (hG _ _ _ hI hD) hlt, LcN I D (k + 1), fun H' q => ⟨items.length - (k + 1), by omega, rfl, hlt, q⟩, fun x H' y => ?_⟩
    obtain ⟨rfl, hx⟩ := Y.yld k H x H' hlt (hG _ _ _ hI hD) y
    show wipe ((wipe σ [i]).set i (some x)) [i] = wipe σ [i] ∧ tt ((wipe σ [i]).set i (some x)) _ _
    have e1 : (wipe σ [i]).set i (some x) = σ.set i (some x) := set_set
    have e2 : wipe (σ.set i (some x)) [i] = wipe σ [i] := set_set
    rw [e1]
    exact ⟨e2, hs k acc _ x hI hD hx hacc (by omega)⟩
  · have e : k = items.length := by omega
    subst e
    exact .inl ⟨Y.stop H (hG _ _ _ hI hD), hd acc H hI hD hacc⟩
/-- a comprehension whose element and test change nothing that is tracked -/
theorem lc_pure {α : Type} {J : It} {us : List α} {g : α → V} {G : Hp → Prop} {H1 : Hp} {D : Addr} {σ : L2.St} {i : Nat} {tt : TT} {te : TE} {Q : Hp → Prop} (Y : Yields J (us.map g) G) (f : α → V) (p : α → Bool) (hD1 : H1 D = none)
    (hG : ∀ H, Same H1 H → G H)
    (hs : ∀ H u, Same H1 H → u ∈ us → ∀ (R : Bool → Hp → Prop), (∀ H3, Same H H3 → R (p u) H3) → tt (σ.set i (some (g u))) H R)
    (he : ∀ H u, Same H1 H → u ∈ us → p u = true → ∀ (R : VK), (∀ H3, Same H H3 → R (f u) H3) → te (σ.set i (some (g u))) H R)
    (hl : us.length ≤ 1000000) (hd : ∀ H, Same H1 H → H D = some (.lst ((us.filter p).map f)) → Q H) :
    ∃ W : Nat → Nat → Hp → Prop, (∃ m, W 0 m (upd H1 D (.lst []))) ∧ ∀ k m H, W k m H →
      (J.stop k H ∧ Q H) ∨ (J.go k H ∧ ∃ Nx : Hp → Prop, (∀ H', Nx H' → ∃ m', m' < m ∧ W (k + 1) m' H') ∧ ∀ x H', J.yld k H x H' → gName i x (wipe σ [i]) H' fun σ2 H2 => wipe σ2 [i] = wipe σ [i] ∧ tt σ2 H2 fun b H3 =>
        if b = true then te σ2 H3 fun y H4 => ∃ acc, H4 D = some (.lst acc) ∧ acc.length < sizeLine ∧ Nx (upd H4 D (.lst (acc ++ [y]))) else Nx H3) := by
  refine lc_inv Y (fun k acc H => Same H1 H ∧ acc = ((us.take k).filter p).map f) (fun k acc H h _ => hG H h.1) ⟨same_new hD1, rfl⟩ (fun k acc H x hI hD hx hacc hk => ?_) (by rw [List.length_map]; exact hl) (fun acc H hI hD _ => ?_)
  · obtain ⟨sm, ea⟩ := hI
    rw [List.getElem?_map] at hx
    cases hu : us[k]? with
    | none => rw [hu] at hx; cases hx
    | some u =>
      rw [hu] at hx
      cases hx
      have hm : u ∈ us := List.mem_of_getElem? hu
      have et : us.take (k + 1) = us.take k ++ [u] := by
        rw [List.take_add_one, hu]
        rfl
      refine hs H u sm hm _ (fun H3 s3 => ?_)
      by_cases hp : p u = true
      · rw [if_pos hp]
        refine he H3 u (sm.trans s3) hm hp _ (fun H4 s4 => ?_)
        refine lc_take (s4 _ _ (s3 _ _ hD)) hacc hk ⟨same_mut ((sm.trans s3).trans s4) hD1, ?_⟩
        rw [et, List.filter_append, List.map_append, ← ea, List.filter_cons, hp]
        rfl
      · rw [if_neg hp]
        refine lc_skip (s3 _ _ hD) hacc ⟨sm.trans s3, ?_⟩
        rw [et, List.filter_append, List.map_append, ← ea, List.filter_cons, if_neg hp]
        simp
  · obtain ⟨sm, ea⟩ := hI
    rw [List.length_map, List.take_length] at ea
    rw [ea] at hD
    exact hd H sm hD

/-! ### what may be asked -/
def evalV (f : Str → Bool) : V → Bool
  | .str x => f x
  | _ => false
/-- its signs are signs -/
def OkS (x : Str) : Prop := ∀ u ∈ TL.tl x, u < 1114112
/-- a text, not too long, or a thing that is no text -/
inductive Thing (H : Hp) : V → Prop where
  | str (x : Str) (h : x.length ≤ 100000) (o : OkS x) : Thing H (.str x)
  | non : Thing H .non
  | bl (b : Bool) : Thing H (.bl b)
  | int (i : Int) : Thing H (.int i)
  | lst (a : Addr) (xs : List V) (h : H a = some (.lst xs)) : Thing H (.ref a)
  | tup (a : Addr) (xs : List V) (h : H a = some (.tup xs)) : Thing H (.ref a)
  | dK (a : Addr) (kvs : List (Key × V)) (h : H a = some (.dK kvs)) : Thing H (.ref a)
theorem Thing.fr {a : Addr} {H H' : Hp} {v : V} (t : Thing H v) (n : v ≠ .ref a) (f : Fr a H H') : Thing H' v := by
  cases t with
  | str x h o => exact .str x h o
  | non => exact .non
  | bl b => exact .bl b
  | int i => exact .int i
  | lst b xs h => exact .lst b xs (f b _ (fun e => n (by rw [e])) h)
  | tup b xs h => exact .tup b xs (f b _ (fun e => n (by rw [e])) h)
  | dK b xs h => exact .dK b xs (f b _ (fun e => n (by rw [e])) h)
theorem Thing.same {H H' : Hp} {v : V} (t : Thing H v) (f : Same H H') : Thing H' v := by
  cases t with
  | str x h o => exact .str x h o
  | non => exact .non
  | bl b => exact .bl b
  | int i => exact .int i
  | lst b xs h => exact .lst b xs (f b _ h)
  | tup b xs h => exact .tup b xs (f b _ h)
  | dK b xs h => exact .dK b xs (f b _ h)
/-- isinstance(thing, str) -/
theorem Thing.isi {K : PySem.W.Frag} {H : Hp} {v : V} {Q : VK} (t : Thing H v) (h : Q (.bl (evalV (fun _ => true) v)) H) : rIsi K [v, .ty "str"] H Q := by
  cases t with
  | str x _ _ => exact ⟨_, _, .type "str", .type "str", true, rfl, .ty "str", .base (.str x), kit_ty (by decide +kernel), h⟩
  | non => exact ⟨_, _, .type "NoneType", .type "str", false, rfl, .ty "str", .base .non, kit_ty (by decide +kernel), h⟩
  | bl b => exact ⟨_, _, .type "bool", .type "str", false, rfl, .ty "str", .base (.bl b), kit_ty (by decide +kernel), h⟩
  | int i => exact ⟨_, _, .type "int", .type "str", false, rfl, .ty "str", .base (.int i), kit_ty (by decide +kernel), h⟩
  | lst a xs e => exact ⟨_, _, .type "list", .type "str", false, rfl, .ty "str", .base (.lst e), kit_ty (by decide +kernel), h⟩
  | tup a xs e => exact ⟨_, _, .type "tuple", .type "str", false, rfl, .ty "str", .base (.tup e), kit_ty (by decide +kernel), h⟩
  | dK a xs e => exact ⟨_, _, .type "dict", .type "str", false, rfl, .ty "str", .base (.dK e), kit_ty (by decide +kernel), h⟩
theorem Thing.cases {H : Hp} {v : V} (t : Thing H v) : (∃ x, v = .str x ∧ x.length ≤ 100000 ∧ OkS x) ∨ ∀ f, evalV f v = false := by
  cases t with
  | str x h o => exact .inl ⟨x, rfl, h, o⟩
  | _ => exact .inr fun _ => rfl
/-- the promise of a def that tells whether its argument is such a text -/
def spWord (f : Str → Bool) : Sp := fun vs H Q _ => ∃ v, vs = [v] ∧ Thing H v ∧ ∀ H', Same H H' → Q (.bl (evalV f v)) H'

/-! ### the words, as functions of a text -/
def HEX : Str := "0123456789abcdef"
def LET : Str := "abcdefghijklmnopqrstuvwxyz"
def RSG : Str := "abcdefghijklmnopqrstuvwxyz0123456789-"
def SSG : Str := "abcdefghijklmnopqrstuvwxyz0123456789._-"
def sgn (c : Nat) : V := .str ⟨#[c]⟩
def hasOnly (x y : Str) : Bool := (TL.tl x).all fun c => decide (c ∈ TL.tl y)
def dots (x : Str) : Bool := !(Builtin.Str.occurrences x (".." : Str) 0 x.length 1).isEmpty
def isWordF (y x : Str) : Bool := decide (1 ≤ x.length) && (decide (x.length ≤ 12) && hasOnly x y)
def isSegF (x : Str) : Bool := isWordF SSG x && (!decide (x = ".") && !dots x)
def segs (x : Str) : List Str := Txt.split x "/"
def isIdF (x : Str) : Bool := decide (x.length = 16) && hasOnly x HEX
def isPathF (x : Str) : Bool := decide ((segs x).length ≤ 6) && (segs x).all isSegF
def mostF (x : Str) : Nat := if (segs x)[0]? = some ("far" : Str) then 7 else 5
def isRefF (x : Str) : Bool := decide ((segs x).length ≤ mostF x) && (segs x).all (isWordF RSG)
def plainC (c : Nat) : Bool := !decide ([c] < [32]) && !decide ([126] < [c])
def isTextF (x : Str) : Bool := decide (x.length ≤ 2000) && (TL.tl x).all fun c => decide (c = 10) || plainC c
end Fk
namespace Fk
open PySem PySem.Spec PyProof.Rows L2
theorem sql_fr {K : PySem.W.Frag} {a b : Addr} {H H' : Hp} {xs : List V} (h : SqL K H b xs) (n : b ≠ a) (f : Fr a H H') : SqL K H' b xs := by
  rcases h with (h | ⟨o, h⟩) | h
  · exact .inl (.inl (f _ _ n h))
  · exact .inl (.inr ⟨o, f _ _ n h⟩)
  · exact .inr h
/-- a well of numbers at a, from which c were drawn -/
def Wl (H : Hp) (a : Addr) (c : Int) : Prop := 0 ≤ c ∧ ∃ x y : Int, H a = some (.lst [.int x, .int y, .int c])
theorem Wl.same {H H' : Hp} {a : Addr} {c : Int} (h : Wl H a c) (f : Same H H') : Wl H' a c := by
  obtain ⟨h0, x, y, e⟩ := h
  exact ⟨h0, x, y, f _ _ e⟩
/-- behind at most d draws from the well at a -/
def Aft (a : Addr) (c d : Int) (H : Hp) (R : Hp → Prop) : Prop := ∀ H' c', Fr a H H' → Wl H' a c' → c ≤ c' → c' ≤ c + d → R H'
theorem join_signs : ∀ cs : List Nat, TL.tl (Txt.join ("" : Str) (cs.map fun c => (⟨#[c]⟩ : Str))) = cs := by
  intro cs
  rw [TL.join_eq, TL.tl_join]
  have e : TL.tl ("" : Str) = [] := by decide +kernel
  rw [e]
  induction cs with
  | nil => rfl
  | cons c r ih =>
    cases r with
    | nil => rfl
    | cons d r =>
      show [c] ++ [] ++ TL.joinL [] (((d :: r).map fun c => (⟨#[c]⟩ : Str)).map TL.tl) = _
      rw [ih]
      rfl
theorem signs_sum : ∀ cs : List Nat, ((cs.map fun c => (⟨#[c]⟩ : Str)).map (·.length)).sum = cs.length
  | [] => rfl
  | c :: r => by
    rw [List.map_cons, List.map_cons, List.sum_cons, signs_sum r, List.length_cons]
    show 1 + _ = _
    omega
theorem atI_int {α : Type} {xs : List α} {r : Int} (h0 : 0 ≤ r) (h1 : r < xs.length) : ∃ v, v ∈ xs ∧ xs[r.toNat]? = some v ∧ atI xs r = some v := by
  have h2 : r.toNat < xs.length := by omega
  have e : r = ((r.toNat : Nat) : Int) := by omega
  refine ⟨xs[r.toNat], List.getElem_mem h2, List.getElem?_eq_getElem h2, ?_⟩
  have q := atI_nat (List.getElem?_eq_getElem h2)
  rw [← e] at q
  exact q
theorem Wl.upd {H : Hp} {a : Addr} {x y c : Int} (h : 0 ≤ c) : Wl (upd H a (.lst [.int x, .int y, .int c])) a c := ⟨h, x, y, upd_same⟩
theorem Fr.fr_new {a p : Addr} {H H' : Hp} {o : HO} (x : Fr a H H') (h : H' p = none) : Fr a H (L2.upd H' p o) := x.trans (Fr.new h)
theorem Wl.new {H : Hp} {a p : Addr} {c : Int} {o : HO} (h : Wl H a c) (n : H p = none) : Wl (L2.upd H p o) a c := h.same (same_new n)
theorem Wl.mut {H : Hp} {a p : Addr} {c : Int} {o : HO} (h : Wl H a c) (n : p ≠ a) : Wl (L2.upd H p o) a c := by
  obtain ⟨h0, x, y, e⟩ := h
  exact ⟨h0, x, y, by rw [upd_ne n.symm]; exact e⟩
theorem Wl.ne {H : Hp} {a p : Addr} {c : Int} (h : Wl H a c) (n : H p = none) : p ≠ a := by
  obtain ⟨h0, x, y, e⟩ := h
  exact (ne_of_none e n).symm
theorem Aft.start {a : Addr} {c d : Int} {H : Hp} {R : Hp → Prop} (h : Aft a c d H R) (w : Wl H a c) (hd : 0 ≤ d) : R H := h H c (Fr.refl a H) w (Int.le_refl _) (by omega)
theorem Aft.more {a : Addr} {c c1 d d1 : Int} {H H1 : Hp} {R : Hp → Prop} (h : Aft a c d H R) (f : Fr a H H1) (h1 : c ≤ c1) (h2 : c1 + d1 ≤ c + d) : Aft a c1 d1 H1 R := fun H' c' f' w h3 h4 => h H' c' (f.trans f') w (by omega) (by omega)
theorem yes_ {σ : L2.St} {H : Hp} {A B : Hp → Prop} (h : A H) : tYes σ H (fun b H3 => if b = true then A H3 else B H3) := by
  show (if true = true then A H else B H)
  rw [if_pos rfl]
  exact h
end Fk

set_option maxHeartbeats 4000000
namespace Fk
open PySem PySem.Spec PyProof.Rows L2
/-! ### texts that are drawn: what holds of them -/
theorem tl_cut (z : Str) (lo hi : Option Int) : TL.tl (cutS z lo hi) = ((TL.tl z).drop (HT.sIx z.length 0 lo)).take (HT.sIx z.length z.length hi - HT.sIx z.length 0 lo) := rfl
theorem cut_to (z : Str) (n : Nat) : TL.tl (cutS z none (some (n : Int))) = (TL.tl z).take n := by
  rw [tl_cut, HT.sIx_none, HT.sIx_nat, List.drop_zero, Nat.sub_zero, TL.len_tl]
  rcases Nat.le_total n (TL.tl z).length with h | h
  · rw [Nat.min_eq_left h]
  · rw [Nat.min_eq_right h, List.take_length, List.take_of_length_le h]
theorem cut_from (z : Str) (n : Nat) : TL.tl (cutS z (some (n : Int)) none) = (TL.tl z).drop n := by
  rw [tl_cut, HT.sIx_none, HT.sIx_nat, TL.len_tl]
  rcases Nat.le_total n (TL.tl z).length with h | h
  · rw [Nat.min_eq_left h, List.take_of_length_le (by rw [List.length_drop]; omega)]
  · rw [Nat.min_eq_right h, List.drop_length, List.take_nil, List.drop_of_length_le h]
theorem cutS_le (z : Str) (lo hi : Option Int) : (cutS z lo hi).length ≤ z.length := cutS_length z lo hi
def LTS : Str := "abcdefghijklmnopqrstuvwxyz0123456789_-"
theorem dots_count {x : Str} (h : dots x = true) : 2 ≤ (TL.tl x).count 46 := by
  obtain ⟨i, _, h2⟩ := (StrLaws.found_iff x (".." : Str)).mp h
  rw [StrLaws.subAt_eq] at h2
  have e : ((TL.tl x).drop i).take 2 = [46, 46] := by
    have e1 := eq_of_beq h2
    have e2 : (".." : Str).length = 2 := by decide +kernel
    have e3 : (".." : Str).cps.toList = [46, 46] := by decide +kernel
    rw [e2, e3] at e1
    exact e1
  have s : List.Sublist [46, 46] (TL.tl x) := by
    rw [← e]
    exact (List.take_sublist _ _).trans (List.drop_sublist _ _)
  exact s.count_le 46
theorem has_only {x y : Str} (h : ∀ u ∈ TL.tl x, u ∈ TL.tl y) : hasOnly x y = true := by
  unfold hasOnly
  rw [List.all_eq_true]
  exact fun u hu => decide_eq_true (h u hu)
theorem dot_tl : TL.tl ("." : Str) = [46] := by decide +kernel
theorem seg_of {x : Str} (h : ∀ u ∈ TL.tl x, u ∈ TL.tl SSG) (h1 : 1 ≤ x.length) (h2 : x.length ≤ 12) (h3 : (TL.tl x).count 46 ≤ 1) (h4 : (TL.tl x).count 46 = 0 ∨ 2 ≤ x.length) : isSegF x = true := by
  unfold isSegF isWordF
  have d : dots x = false := Bool.eq_false_iff.mpr fun z => by
    have := dots_count z
    omega
  have n : ¬ x = "." := fun e => by
    have e1 : TL.tl x = [46] := by rw [e]; exact dot_tl
    rw [TL.len_tl, e1] at h4
    rcases h4 with h4 | h4
    · exact absurd h4 (by decide)
    · exact absurd h4 (by decide)
  rw [decide_eq_true h1, decide_eq_true h2, has_only h, decide_eq_false n, d]
  rfl
theorem lts_ssg : ∀ u ∈ TL.tl LTS, u ∈ TL.tl SSG := by decide +kernel
theorem lts_dot : 46 ∉ TL.tl LTS := by decide +kernel
theorem seg_plain {x : Str} (h : ∀ u ∈ TL.tl x, u ∈ TL.tl LTS) (h1 : 1 ≤ x.length) (h2 : x.length ≤ 12) : isSegF x = true := by
  have c0 : (TL.tl x).count 46 = 0 := List.count_eq_zero.mpr fun z => lts_dot (h _ z)
  exact seg_of (fun u hu => lts_ssg u (h u hu)) h1 h2 (by omega) (.inl c0)
theorem seg_dotted {x : Str} (n : Nat) (h : ∀ u ∈ TL.tl x, u ∈ TL.tl LTS) (h1 : 1 ≤ x.length) (h2 : x.length < 12) :
    isSegF ((cutS x none (some (n : Int)) ++ ("." : Str)) ++ cutS x (some (n : Int)) none) = true ∧ ((cutS x none (some (n : Int)) ++ ("." : Str)) ++ cutS x (some (n : Int)) none).length ≤ 12 := by
  have e : TL.tl ((cutS x none (some (n : Int)) ++ ("." : Str)) ++ cutS x (some (n : Int)) none) = ((TL.tl x).take n ++ [46]) ++ (TL.tl x).drop n := by
    rw [TL.tl_append, TL.tl_append, cut_to, cut_from, dot_tl]
  have c0 : (TL.tl x).count 46 = 0 := List.count_eq_zero.mpr fun z => lts_dot (h _ z)
  have len : (((TL.tl x).take n ++ [46]) ++ (TL.tl x).drop n).length = x.length + 1 := by
    have := congrArg List.length (List.take_append_drop n (TL.tl x))
    rw [List.length_append] at this
    rw [List.length_append, List.length_append, List.length_singleton, TL.len_tl]
    omega
  have cnt : (((TL.tl x).take n ++ [46]) ++ (TL.tl x).drop n).count 46 = 1 := by
    have := congrArg (List.count 46) (List.take_append_drop n (TL.tl x))
    rw [List.count_append, c0] at this
    rw [List.count_append, List.count_append]
    have : [46].count 46 = 1 := rfl
    omega
  refine ⟨seg_of (fun u hu => ?_) (by rw [TL.len_tl, e, len]; omega) (by rw [TL.len_tl, e, len]; omega) (by rw [e, cnt]; exact Nat.le_refl _) (.inr (by rw [TL.len_tl, e, len]; omega)), by rw [TL.len_tl, e, len]; omega⟩
  rw [e] at hu
  rcases List.mem_append.mp hu with hu | hu
  · rcases List.mem_append.mp hu with hu | hu
    · exact lts_ssg u (h u (List.mem_of_mem_take hu))
    · rw [List.mem_singleton.mp hu]
      decide +kernel
  · exact lts_ssg u (h u (List.mem_of_mem_drop hu))
theorem slash_tl : TL.tl ("/" : Str) = [47] := by decide +kernel
theorem seg_slash {x : Str} (h : isSegF x = true) : 47 ∉ TL.tl x := by
  unfold isSegF isWordF hasOnly at h
  simp only [Bool.and_eq_true] at h
  have h1 := h.1.2.2
  rw [List.all_eq_true] at h1
  intro z
  have h2 := of_decide_eq_true (h1 47 z)
  exact absurd h2 (by decide +kernel)
theorem seg_len {x : Str} (h : isSegF x = true) : x.length ≤ 12 := by
  unfold isSegF isWordF at h
  simp only [Bool.and_eq_true] at h
  exact of_decide_eq_true h.1.2.1
theorem path_of {ps : List Str} (h0 : ps ≠ []) (h1 : ps.length ≤ 6) (h : ∀ p ∈ ps, isSegF p = true) : isPathF (Txt.join "/" ps) = true := by
  unfold isPathF segs
  rw [TL.split_join (S := []) slash_tl (by decide +kernel) h0 fun p hp => seg_slash (h p hp), decide_eq_true h1, List.all_eq_true.mpr h]
  rfl
theorem join_len (y : Str) : ∀ ps : List Str, (∀ p ∈ ps, p.length ≤ 12) → (Txt.join y ps).length ≤ ps.length * (12 + y.length) := by
  intro ps h
  rw [TL.join_eq]
  refine Nat.le_trans (StrLaws.join_length_le y ps) ?_
  rw [Nat.mul_add]
  refine Nat.add_le_add_right ?_ _
  induction ps with
  | nil => exact Nat.le_refl _
  | cons p r ih =>
    rw [List.map_cons, List.sum_cons, List.length_cons, Nat.succ_mul]
    have := ih fun q hq => h q (List.mem_cons_of_mem _ hq)
    have := h p List.mem_cons_self
    omega
theorem sum_len : ∀ ps : List Str, (∀ p ∈ ps, p.length ≤ 12) → (ps.map (·.length)).sum ≤ ps.length * 12 := by
  intro ps h
  induction ps with
  | nil => exact Nat.le_refl _
  | cons p r ih =>
    rw [List.map_cons, List.sum_cons, List.length_cons, Nat.succ_mul]
    have := ih fun q hq => h q (List.mem_cons_of_mem _ hq)
    have := h p List.mem_cons_self
    omega
def ALL : Str := (" !\"#$&'()*+,-./0123456789:;<=>?@ABCDEFGHIJKLMNOPQRSTUVWXYZ[]^_`abcdefghijklmnopqrstuvwxyz{|}~" : Str) ++ ("\\" : Str) ++ ("\n" : Str)
theorem all_plain : ∀ u ∈ TL.tl ALL, (decide (u = 10) || plainC u) = true := by decide +kernel
theorem text_of {x : Str} (h : ∀ u ∈ TL.tl x, u ∈ TL.tl ALL) (h1 : x.length ≤ 2000) : isTextF x = true := by
  unfold isTextF
  rw [decide_eq_true h1, List.all_eq_true.mpr fun u hu => all_plain u (h u hu)]
  rfl
theorem id_of {x : Str} (h : ∀ u ∈ TL.tl x, u ∈ TL.tl HEX) (h1 : x.length = 16) : isIdF x = true := by
  unfold isIdF
  rw [decide_eq_true h1, has_only h]
  rfl
theorem filt_all {α : Type} (l : List α) : l.filter (fun _ => true) = l := List.filter_eq_self.mpr fun _ _ => rfl
theorem of_ev {f : Str → Bool} {x : Str} {b : Bool} {Q : VK} {H : Hp} (q : Q (.bl (evalV f (.str x))) H) (e : f x = b) : Q (.bl b) H := by
  rw [← e]
  exact q
theorem of_ev0 {f : Str → Bool} {v : V} {Q : VK} {H : Hp} (hn : ∀ f, evalV f v = false) (q : Q (.bl (evalV f v)) H) : Q (.bl false) H := by
  rw [← hn f]
  exact q
theorem segs_ne (x : Str) : segs x ≠ [] := by
  intro h
  have e := TL.split_spl x "/" (by decide +kernel) (TL.kind_ok (by decide +kernel))
  have h' : Txt.split x "/" = [] := h
  rw [h'] at e
  have e2 : ∀ l k acc, TL.spl (TL.tl "/") k acc l ≠ [] := by
    intro l
    induction l with
    | nil => intro k acc h; rw [TL.spl_nil] at h; cases h
    | cons c r ih =>
      intro k acc h
      cases k with
      | zero =>
        unfold TL.spl at h
        split at h
        · cases h
        · exact ih _ _ h
      | succ k => exact ih _ _ h
  exact e2 _ _ _ e.symm
theorem segs_len (x : Str) (h : x.length ≤ 100000) : (segs x).length ≤ 100001 ∧ ∀ y ∈ segs x, y.length ≤ 100000 := by
  have e := TL.split_spl x "/" (by decide +kernel) (TL.kind_ok (by decide +kernel))
  have e2 : ∀ l k acc, (TL.spl (TL.tl "/") k acc l).length ≤ l.length + 1 ∧ ∀ y ∈ TL.spl (TL.tl "/") k acc l, y.length ≤ acc.length + l.length := by
    intro l
    induction l with
    | nil => intro k acc; rw [TL.spl_nil]; exact ⟨Nat.le_refl _, fun y hy => by rw [List.mem_singleton.mp hy]; simp⟩
    | cons c r ih =>
      intro k acc
      cases k with
      | zero =>
        unfold TL.spl
        split
        · obtain ⟨i1, i2⟩ := ih ((TL.tl "/").length - 1) []
          refine ⟨by simp only [List.length_cons]; omega, fun y hy => ?_⟩
          rcases List.mem_cons.mp hy with rfl | hy
          · simp only [List.length_cons]; omega
          · have := i2 y hy
            simp only [List.length_cons, List.length_nil] at this ⊢
            omega
        · obtain ⟨i1, i2⟩ := ih 0 (acc ++ [c])
          refine ⟨by simp only [List.length_cons]; omega, fun y hy => ?_⟩
          have := i2 y hy
          simp only [List.length_cons, List.length_append, List.length_nil] at this ⊢
          omega
      | succ k =>
        obtain ⟨i1, i2⟩ := ih k acc
        unfold TL.spl
        refine ⟨by simp only [List.length_cons]; omega, fun y hy => ?_⟩
        have := i2 y hy
        simp only [List.length_cons] at this ⊢
        omega
  obtain ⟨i1, i2⟩ := e2 (TL.tl x) 0 []
  rw [← e] at i1 i2
  rw [List.length_map, ← TL.len_tl] at i1
  refine ⟨?_, fun y hy => ?_⟩
  · show (Txt.split x "/").length ≤ _
    omega
  · have := i2 (TL.tl y) (List.mem_map_of_mem hy)
    rw [← TL.len_tl, ← TL.len_tl] at this
    simp at this
    omega
theorem segs_ok (x : Str) (h : OkS x) : ∀ y ∈ segs x, OkS y := by
  have e := TL.split_spl x "/" (by decide +kernel) (TL.kind_ok (by decide +kernel))
  have e2 : ∀ l k acc, (∀ u ∈ l, u < 1114112) → (∀ u ∈ acc, u < 1114112) → ∀ y ∈ TL.spl (TL.tl "/") k acc l, ∀ u ∈ y, u < 1114112 := by
    intro l
    induction l with
    | nil =>
      intro k acc h1 h2 y hy
      rw [TL.spl_nil] at hy
      rw [List.mem_singleton.mp hy]
      exact h2
    | cons c r ih =>
      intro k acc h1 h2 y hy
      have h3 : ∀ u ∈ r, u < 1114112 := fun u hu => h1 u (List.mem_cons_of_mem _ hu)
      cases k with
      | zero =>
        unfold TL.spl at hy
        split at hy
        · rcases List.mem_cons.mp hy with rfl | hy
          · exact h2
          · exact ih _ _ h3 (fun u hu => (List.not_mem_nil hu).elim) y hy
        · refine ih _ _ h3 (fun u hu => ?_) y hy
          rcases List.mem_append.mp hu with hu | hu
          · exact h2 u hu
          · rw [List.mem_singleton.mp hu]
            exact h1 c List.mem_cons_self
      | succ k => exact ih _ _ h3 h2 y hy
  intro y hy
  have i2 := e2 (TL.tl x) 0 [] h (fun u hu => (List.not_mem_nil hu).elim) (TL.tl y)
  rw [← e] at i2
  exact i2 (List.mem_map_of_mem hy)
theorem dp_nil {K : PySem.W.Frag} {H : Hp} {p : Addr} (h : H p = some (.lst [])) : Dp K H (.ref p) (.list []) := .lst (SqL.of h) .nil
theorem dp_strs {K : PySem.W.Frag} {H : Hp} : ∀ ys : List Str, DpAll K H (ys.map V.str) (ys.map PyData.str)
  | [] => .nil
  | y :: r => .cons (.str y) (dp_strs r)
theorem strOk_of {x : Str} (h : OkS x) : PyData.strOk x = true := by
  unfold PyData.strOk
  rw [← Array.all_toList, List.all_eq_true]
  exact fun u hu => decide_eq_true (h u hu)
theorem lay_strs : ∀ ys : List Str, (∀ y ∈ ys, OkS y) → PyData.canLayAll0 (ys.map PyData.str) = true
  | [], _ => rfl
  | y :: r, h => by simp [PyData.canLayAll0, PyData.canLay0, lay_strs r fun z hz => h z (List.mem_cons_of_mem _ hz), strOk_of (h y List.mem_cons_self)]
theorem depth_strs : ∀ ys : List Str, PyData.depthAll (ys.map PyData.str) = 0
  | [] => rfl
  | _ :: r => by simp [PyData.depthAll, PyData.depth, depth_strs r]
theorem shaped_strs (ys : List Str) (h : ∀ y ∈ ys, OkS y) : SeqAt.shaped (.list (ys.map PyData.str)) = true := by
  simp [SeqAt.shaped, PyData.canLay0, PyData.depth, lay_strs ys h, depth_strs]
theorem shaped_nil : SeqAt.shaped (.list []) = true := shaped_strs [] fun _ h => (List.not_mem_nil h).elim
theorem eqv_nil (ys : List Str) : PyData.eqv (.list (ys.map PyData.str)) (.list []) = ys.isEmpty := by
  cases ys with
  | nil => simp [PyData.eqv, PyData.eqvAll]
  | cons y r => simp [PyData.eqv, PyData.eqvAll]
theorem ifF {c A B : Prop} [Decidable c] (h : ¬ c) (b : B) : if c then A else B := by
  rw [if_neg h]
  exact b
theorem ifT {c A B : Prop} [Decidable c] (h : c) (b : A) : if c then A else B := by
  rw [if_pos h]
  exact b
/-- a list of texts is asked for being empty -/
theorem ask_nil {K : PySem.W.Frag} {H' : Hp} {p q : Addr} {ys : List Str} {Q : VK} (ho : ∀ y ∈ ys, OkS y) (h : H' p = some (.lst (ys.map V.str))) (hq : H' q = some (.lst [])) (k : Q (.bl ys.isEmpty) H') : rEqD K (.ref p) (.ref q) H' Q :=
  ⟨_, _, .lst (SqL.of h) (dp_strs ys), dp_nil hq, shaped_strs ys ho, shaped_nil, by rw [eqv_nil]; exact k⟩
theorem filt_empty {α : Type} (l : List α) (p : α → Bool) : (l.filter fun u => !p u).isEmpty = l.all p := by
  induction l with
  | nil => rfl
  | cons a r ih =>
    rw [List.filter_cons, List.all_cons]
    cases h : p a with
    | true => simpa [h] using ih
    | false => simp [h]
theorem map_sgn (cs : List Nat) : cs.map sgn = (cs.map fun c => (⟨#[c]⟩ : Str)).map V.str := by
  rw [List.map_map]
  rfl
theorem ok_sgn {c : Nat} (h : c < 1114112) : OkS ⟨#[c]⟩ := fun u hu => by
  have e : u = c := List.mem_singleton.mp hu
  rw [e]
  exact h
theorem ok_sgns {x : Str} (h : OkS x) (p : Nat → Bool) : ∀ y ∈ ((TL.tl x).filter p).map fun c => (⟨#[c]⟩ : Str), OkS y := fun y hy => by
  obtain ⟨c, hc, rfl⟩ := List.mem_map.mp hy
  exact ok_sgn (h c ((List.mem_filter.mp hc).1))
end Fk
namespace Fk
open PySem PySem.Spec PyProof.Rows L2
theorem ok_app {x y : Str} (hx : OkS x) (hy : OkS y) : OkS (x ++ y) := fun u hu => by
  rw [TL.tl_append] at hu
  rcases List.mem_append.mp hu with hu | hu
  · exact hx u hu
  · exact hy u hu
theorem ok_cut {x : Str} (hx : OkS x) (lo hi : Option Int) : OkS (cutS x lo hi) := fun u hu => by
  rw [tl_cut] at hu
  exact hx u (List.mem_of_mem_drop (List.mem_of_mem_take hu))
theorem ok_rep {x : Str} (hx : OkS x) (n : Nat) : OkS (repS x n) := fun u hu => by
  rw [tl_rep] at hu
  obtain ⟨l, hl, hu⟩ := List.mem_flatten.mp hu
  rw [(List.mem_replicate.mp hl).2] at hu
  exact hx u hu
theorem ok_join {y : Str} (hy : OkS y) {ps : List Str} (h : ∀ p ∈ ps, OkS p) : OkS (Txt.join y ps) := fun u hu => by
  rw [TL.join_eq, TL.tl_join] at hu
  have e : ∀ ls : List (List Nat), (∀ l ∈ ls, ∀ u ∈ l, u < 1114112) → ∀ u ∈ TL.joinL (TL.tl y) ls, u < 1114112 := by
    intro ls
    induction ls with
    | nil => intro _ u hu; exact (List.not_mem_nil hu).elim
    | cons l r ih =>
      intro h u hu
      cases r with
      | nil => exact h l List.mem_cons_self u hu
      | cons m r =>
        have hu : u ∈ l ++ (TL.tl y ++ TL.joinL (TL.tl y) (m :: r)) := hu
        rcases List.mem_append.mp hu with hu | hu
        · exact h l List.mem_cons_self u hu
        · rcases List.mem_append.mp hu with hu | hu
          · exact hy u hu
          · exact ih (fun l hl => h l (List.mem_cons_of_mem _ hl)) u hu
  refine e _ (fun l hl => ?_) u hu
  obtain ⟨p, hp, rfl⟩ := List.mem_map.mp hl
  exact h p hp
theorem ok_by {x : Str} (h : (TL.tl x).all (fun u => decide (u < 1114112)) = true) : OkS x := fun u hu => of_decide_eq_true (List.all_eq_true.mp h u hu)
theorem ok_sub {x y : Str} (h : ∀ u ∈ TL.tl x, u ∈ TL.tl y) (hy : OkS y) : OkS x := fun u hu => hy u (h u hu)
theorem ok_hex : OkS HEX := ok_by (by decide +kernel)
theorem ok_ssg : OkS SSG := ok_by (by decide +kernel)
theorem ok_rsg : OkS RSG := ok_by (by decide +kernel)
theorem ok_let : OkS LET := ok_by (by decide +kernel)
theorem ok_all : OkS ALL := ok_by (by decide +kernel)
theorem ok_slash : OkS "/" := ok_by (by decide +kernel)
theorem only_sub {x y : Str} (h : hasOnly x y = true) : ∀ u ∈ TL.tl x, u ∈ TL.tl y := fun u hu => of_decide_eq_true (List.all_eq_true.mp h u hu)
theorem ok_seg {x : Str} (h : isSegF x = true) : OkS x := by
  unfold isSegF isWordF at h
  simp only [Bool.and_eq_true] at h
  exact ok_sub (only_sub h.1.2.2) ok_ssg
theorem word_of {x y : Str} (h : ∀ u ∈ TL.tl x, u ∈ TL.tl y) (h1 : 1 ≤ x.length) (h2 : x.length ≤ 12) : isWordF y x = true := by
  unfold isWordF
  rw [decide_eq_true h1, decide_eq_true h2, has_only h]
  rfl
theorem Same.of_fr {a : Addr} {H H1 H2 : Hp} (h : H a = none) (s : Same H H1) (f : Fr a H1 H2) : Same H H2 := fun b o e => f b o (ne_of_none e h) (s b o e)
theorem def_ne {K : PySem.W.Frag} {mg : Str → Option Value} {x y : Str} {st st' : Stmt} {f f' : Addr} {fd fd' : FuncData} (D : C8.Def K mg x st f fd) (D' : C8.Def K mg y st' f' fd') (h : x ≠ y) : f ≠ f' := by
  intro e
  subst e
  obtain ⟨oc, od, dV, kV, doc, pm, an, cdv, ct, osl, rfl, lk, _⟩ := D.fn.ex
  obtain ⟨oc', od', dV', kV', doc', pm', an', cdv', ct', osl', rfl, lk', _⟩ := D'.fn.ex
  rw [lk] at lk'
  have e1 := Option.some.inj lk'
  injection e1 with e1 e2 e3 e4
  injection e3 with e3
  exact h (congrArg FuncData.name e3)
end Fk
namespace Fk
open PySem PySem.Spec PyProof.Rows L2
theorem plain_lt {c : Nat} (h : (decide (c = 10) || plainC c) = true) : c < 1114112 := by
  rcases Bool.or_eq_true_iff.mp h with h | h
  · have := of_decide_eq_true h
    omega
  · unfold plainC at h
    have h2 := (Bool.and_eq_true_iff.mp h).2
    have h3 : ¬ ([126] < [c]) := fun z => by
      rw [decide_eq_true z] at h2
      exact absurd h2 (by decide)
    have h4 : ¬ 126 < c := fun z => h3 (List.Lex.rel z)
    omega
theorem ok_text {x : Str} (h : isTextF x = true) : OkS x := fun u hu => plain_lt (List.all_eq_true.mp (Bool.and_eq_true_iff.mp h).2 u hu)
end Fk

set_option maxHeartbeats 4000000
/-! strip(signs), isascii, replace, isprintable: what they say of the words; a def that begins with a token out. -/
namespace Fk
open PySem PySem.Spec PyProof.Rows L2
section
variable {X : Cx} {a b o : Expr} {rest : List Expr} {ta tb t to : TE} {pos : Pos}
theorem pet_one {op} (h : PET X a t) : PET X (.BoolOp op [a] pos) t := fun pins s σ H Q h0 I hw => BoolOp_one (h pins s σ H Q h0 I hw)
theorem pet_and (ha : PE X a ta) (hb : PET X (.BoolOp .And (b :: rest) pos) tb) : PET X (.BoolOp .And (a :: b :: rest) pos) (tAndV ta tb) := by
  intro pins s σ H Q h0 I h
  refine BoolOp_and (wpAny_mono (PySem.wpAny_toks (ha.run pins s σ H _ I h)) (fun v s1 q => ?_) fun _ _ z => z.2)
  obtain ⟨hk, x, H1, I1, r1, q1⟩ := q
  obtain ⟨c, rfl, q1⟩ := q1
  cases r1
  refine wpAny_truthy_bool ?_
  cases c with
  | true => exact hb pins s1 σ H1 Q (by omega) I1 q1
  | false => exact ⟨.bl false, H1, I1, rfl, q1⟩
theorem pet_bm0 {T id name : String} {apos cpos : Pos} {r : V → List V → Hp → VK → Prop} (pa : PlainAttrs T) (slot : Slot T name id) (hty : typeOf (.builtin id) = pure (.type "method_descriptor")) (hm : MtR X id r) (ho : PET X o to)
    (hbase : attributeBase o name X.env (eval o X.env) = eval o X.env := by rfl) (hline : (apos.endLine == cpos.line) = true := by rfl) : PET X (.Call (.Attribute o name apos) [] [] cpos) (tBM0 X.K T r to) := by
  intro pins s σ H Q h0 I h
  refine wpAny_Call_method0_late hbase hline (thn (ho pins s σ H _ h0 I h) fun v s1 ⟨x, H1, I1, r1, ty, q1⟩ => ?_)
  obtain ⟨h1, h2⟩ := tyV_is I1 r1 ty
  exact ⟨T, id, pa, slot, hty, h1, h2, Calls.callWith_builtin rfl (PySem.evalArgs_none (hm pins s1 σ H1 x [] v [] Q I1 r1 .nil q1))⟩
end
section
variable {P : Program} {w : World} {K : PySem.W.Frag} {mg : Str → Option Value} {base : Heap}
/-- a def whose parameters are no cells: a token is out when its body begins -/
theorem cal_ofT {x : Str} {st : Stmt} {N ps : List Str} {k : Nat} {sp : Sp} (D : IsDef K mg x st) (S : FnScope N ps (C8.fnScope st))
    (hnc : ∀ y ∈ (C8.fnScope st).names, y.2 ≠ .cell) (hps : 1 ≤ ps.length)
    (hb : ∀ (kV doc pm : Value) (an : Option Addr) (cdv ct : Value) (us : List Value), us.length = ps.length → bindArgs (PySem.W.fnOf x x (C8.fnArgs st) (C8.fnBody st) (C8.fnScope st) .none kV doc pm an cdv ct) ⟨us, []⟩ = pure (ps.zip us))
    (len : ∀ vs H Q E, sp vs H Q E → vs.length = ps.length)
    (hbody : ∀ (f : Addr) (cdv : Value) (A : Around) (outer : List Env) (s : Shared) (H : Hp) (vs : List V) (Q : VK) (E : XK), Room k (A.deeper (envOfC x (C8.fnScope st) s.heap.objs.size f cdv)) → sp vs H Q E →
      ∃ t, PSsT (cxOf C8.CX0 P w K mg base N x (C8.fnScope st) f cdv A outer s H E) (C8.fnBody st) t ∧ t { nx := fun _ H' => Q .non H', rt := Q } (start N vs) H) : C8.Cal P w K mg base (k + 1) x sp [] := by
  obtain ⟨f, fd, D, df⟩ := D
  obtain ⟨oc, od, dV, kV, doc, pm, an, cdv, ct, osl, rfl, lk, hcd⟩ := D.fn.ex
  have e : dV = .none := df
  subst e
  exact ⟨f, _, ps, [], fn_ofT lk hcd S hnc hps len (hbody f cdv), D.mgf, D.kp, .all (hb kV doc pm an cdv ct), .nil⟩
end

/-! ### what strip leaves -/
theorem tw_all {p : Nat → Bool} {l : List Nat} (h : ∀ c ∈ l, p c = true) : l.takeWhile p = l := by
  induction l with
  | nil => rfl
  | cons c r ih =>
    rw [List.takeWhile_cons, h c List.mem_cons_self, if_pos rfl, ih fun d hd => h d (List.mem_cons_of_mem _ hd)]
theorem tw_short {p : Nat → Bool} {l : List Nat} {c : Nat} (h : p c = false) : ((l ++ [c]).takeWhile p).length ≤ l.length := by
  induction l with
  | nil => simp [List.takeWhile_cons, h]
  | cons d r ih =>
    rw [List.cons_append, List.takeWhile_cons]
    cases hd : p d with
    | true => simpa using ih
    | false => simp
theorem dw_head {p : Nat → Bool} : ∀ {l : List Nat}, (∃ c ∈ l, p c = false) → ∃ c r, l.drop (l.takeWhile p).length = c :: r ∧ p c = false ∧ (l.takeWhile p).length + r.length + 1 = l.length
  | [], h => by
    obtain ⟨c, hc, _⟩ := h
    exact (List.not_mem_nil hc).elim
  | d :: r, h => by
    cases hd : p d with
    | false => exact ⟨d, r, by simp [List.takeWhile_cons, hd], hd, by simp [List.takeWhile_cons, hd]⟩
    | true =>
      have h' : ∃ c ∈ r, p c = false := by
        obtain ⟨c, hc, q⟩ := h
        rcases List.mem_cons.mp hc with rfl | hc
        · rw [hd] at q
          cases q
        · exact ⟨c, hc, q⟩
      obtain ⟨c, r', e1, e2, e3⟩ := dw_head h'
      refine ⟨c, r', ?_, e2, ?_⟩
      · rw [List.takeWhile_cons, hd, if_pos rfl, List.length_cons, List.drop_succ_cons, e1]
      · rw [List.takeWhile_cons, hd, if_pos rfl, List.length_cons, List.length_cons]
        omega
theorem strip_tl (g : Nat → Bool) (x : Str) : TL.tl (Txt.stripBy g true true x) = ((TL.tl x).drop ((TL.tl x).takeWhile g).length).take (x.length - (((TL.tl x).drop ((TL.tl x).takeWhile g).length).reverse.takeWhile g).length - ((TL.tl x).takeWhile g).length) := by
  rw [PySem.W.stripBy_eq]
  exact StrLaws.strSub_toList x _ _
theorem strip_none (x y : Str) : decide (V.str (Txt.stripChars x y) = V.str "") = hasOnly x y := by
  have e0 : TL.tl ("" : Str) = [] := by decide +kernel
  have hg : ∀ c, y.cps.contains c = decide (c ∈ TL.tl y) := fun c => by
    rw [Bool.eq_iff_iff]
    simp [TL.tl]
  have key : (Txt.stripChars x y = ("" : Str)) ↔ hasOnly x y = true := by
    have et := strip_tl (fun c => y.cps.contains c) x
    constructor
    · intro h
      refine Bool.not_eq_false _ ▸ fun hf => ?_
      have hx : ∃ c ∈ TL.tl x, y.cps.contains c = false := by
        refine Classical.byContradiction fun z => ?_
        have : hasOnly x y = true := by
          unfold hasOnly
          refine List.all_eq_true.mpr fun c hc => ?_
          rw [← hg]
          cases q : y.cps.contains c with
          | true => rfl
          | false => exact absurd ⟨c, hc, q⟩ z
        rw [this] at hf
        cases hf
      obtain ⟨c, r, e1, e2, e3⟩ := dw_head (p := fun c => y.cps.contains c) hx
      have h' : Txt.stripBy (fun c => y.cps.contains c) true true x = ("" : Str) := h
      rw [h', e0, e1] at et
      have hs := tw_short (p := fun c => y.cps.contains c) (l := r.reverse) e2
      rw [List.length_reverse, ← List.reverse_cons] at hs
      rw [← TL.len_tl] at e3
      have hp : ∃ m, x.length - (((c :: r).reverse.takeWhile fun c => y.cps.contains c)).length - ((TL.tl x).takeWhile fun c => y.cps.contains c).length = m + 1 := ⟨x.length - (((c :: r).reverse.takeWhile fun c => y.cps.contains c)).length - ((TL.tl x).takeWhile fun c => y.cps.contains c).length - 1, by omega⟩
      obtain ⟨m, hm⟩ := hp
      rw [hm, List.take_succ_cons] at et
      cases et
    · intro h
      have hx : ∀ c ∈ TL.tl x, y.cps.contains c = true := fun c hc => by
        rw [hg]
        unfold hasOnly at h
        exact List.all_eq_true.mp h c hc
      apply TL.ext_tl
      rw [e0]
      refine Eq.trans et ?_
      rw [tw_all hx, List.drop_length, List.take_nil]
  rw [Bool.eq_iff_iff, decide_eq_true_iff, ← key]
  exact ⟨fun h => V.str.inj h, fun h => by rw [h]⟩

/-! ### texts of plain signs -/
theorem plain_of {c : Nat} (h : c < 128) : plainC c = Unicode.isPrintable c := by
  have : ∀ c < 128, plainC c = Unicode.isPrintable c := by decide +kernel
  exact this c h
theorem plain_far {c : Nat} (h : ¬ c < 128) : plainC c = false := by
  have h2 : [126] < [c] := List.Lex.rel (by omega)
  unfold plainC
  rw [decide_eq_true h2]
  simp
theorem repl_one (k : Nat) : ∀ l : List Nat, StrLaws.replL [k] [] l = l.filter fun c => !decide (c = k)
  | [] => by rw [StrLaws.replL_nil]; rfl
  | c :: r => by
    by_cases h : c = k
    · rw [StrLaws.replL_hit (by simp) (by simp [h])]
      rw [List.filter_cons, h]
      simp [repl_one k r]
    · rw [StrLaws.replL_miss (by simp [h]), repl_one k r, List.filter_cons]
      simp [h]
def plainT (x : Str) : Bool := Txt.isascii x && Txt.isprintable (Txt.replace x "\n" "")
theorem plain_text (x : Str) : plainT x = (TL.tl x).all fun c => decide (c = 10) || plainC c := by
  have e10 : ("\n" : Str).cps.toList = [10] := by decide +kernel
  have e00 : ("" : Str).cps.toList = [] := by decide +kernel
  have hr : (Txt.replace x "\n" "").cps.toList = (TL.tl x).filter fun c => !decide (c = 10) := by
    rw [StrLaws.replace_list (by decide +kernel), e10, e00, repl_one]
  unfold plainT Txt.isascii Txt.isprintable
  rw [← Array.all_toList, ← Array.all_toList, hr]
  show ((TL.tl x).all _ && _) = _
  induction TL.tl x with
  | nil => rfl
  | cons c r ih =>
    rw [List.all_cons, List.all_cons, ← ih, List.filter_cons]
    by_cases h1 : c < 128
    · rw [plain_of h1]
      by_cases h2 : c = 10
      · simp [h1, h2]
      · simp [h1, h2]
        cases Unicode.isPrintable c <;> simp
    · rw [plain_far h1]
      have h2 : ¬ c = 10 := by omega
      simp [h1, h2]
end Fk

set_option maxHeartbeats 4000000
/-! An error of an own class as a value: made with keywords or without, its base any whose making is the plain one. -/
namespace Fk
open PySem PySem.Spec L2
open Builtin
section
variable {prog : Program} {w : World} {A : Around} {R : Result → Shared → Prop} {h : Heap} {g : Array GenState} {d : Drawn} {t : Nat} {os : OsState}
variable {nm q : Str} {C N : Addr} {bs bm bmB : List Value} {hdct : Bool} {sn : List Str} {sub : List Value} {ab : Bool} {col : Option Bool} {dd : Option Addr} {k0 k1 k2 k3 k5 : Option Value} {B newId initId : String} {kws : List (Str × Value)}
/-- what the class's own list of bases must say -/
structure BmOk (B : String) (bm : List Value) : Prop where
  b : bm.contains (.type B) = true
  a : bm.contains (.type "AttributeError") = false
  n : bm.contains (.type "NameError") = false
theorem BmOk.b' (o : BmOk B bm) : (Value.ref C :: bm).contains (.type B) = true := by
  have := o.b
  simp only [List.contains_cons, this, Bool.or_true]
theorem BmOk.a' (o : BmOk B bm) : (Value.ref C :: bm).contains (.type "AttributeError") = false := by
  have := o.a
  rw [List.contains_cons, this] <;> rfl
theorem BmOk.n' (o : BmOk B bm) : (Value.ref C :: bm).contains (.type "NameError") = false := by
  have := o.n
  rw [List.contains_cons, this] <;> rfl
theorem xcheck_new (F : ExcBaseFacts B newId initId bmB) (o : BmOk B bm) {rest : List Value} {M : Model} {E : Value → Shared → Prop} {Q : Unit → Shared → Prop} (hC : h.get? C = some (excClassObj nm q C N bs bm hdct sn sub ab col dd k0 k1 k2 k3 k5 newId))
    (hq : Q () ⟨h, g, d, t, os⟩) : wpAny M A (checkBuiltinCall newId ⟨.ref C :: rest, kws⟩) Q E ⟨h, g, d, t, os⟩ := by
  have z1 := o.b' (C := C)
  have z2 := F.noStar
  simp only [checkBuiltinCall, F.newKind, F.newSplit, F.newRow]
  repeat (first
    | refine wpAny_loadPart_at hC ?_
    | (refine wpAny_isSubtype_exc hC ?_; rw [z1])
    | refine wpAny_staticBase_exc hC ?_
    | refine wpAny_madeBy_exc hC ?_
    | simp only [bne_self_eq_false, Bool.false_eq_true, if_false]
    | wp_step)
  exact hq
theorem xnew (F : ExcBaseFacts B newId initId bmB) (o : BmOk B bm) {rest : List Value} (hC : h.get? C = some (excClassObj nm q C N bs bm hdct sn sub ab col dd k0 k1 k2 k3 k5 newId)) (hrest : rest.length ≤ sizeLine)
    (hq : R (.ok (.ret (.ref (h.objs.size + 1)))) ⟨(h.push (W.kdv_tup rest)).push (PySem.HandSPX.excO C h.objs.size), g, d, t, os⟩) :
    codeAny (model prog w) A (.builtin newId ⟨.ref C :: rest, kws⟩) R ⟨h, g, d, t, os⟩ := by
  have z0 := F.ends
  have z1 := o.b' (C := C)
  have z2 := o.a' (C := C)
  have z3 := o.n' (C := C)
  refine codeAny_builtinAt F.entry ?_
  unfold Builtin.«BaseException.__new__»
  refine wpAt_bind ?_
  show wpAt _ _ _ (stack >>= _) _ _ _
  refine wpAt_bind (wpAt_stack fun p below => wpAt_of_wpAny ?_)
  wp_walk
  refine wpAt_of_wpAny ?_
  rw [F.owner]
  repeat (first
    | with_reducible refine wpAny_madeHere_exc F.canon hC ?_
    | with_reducible refine wpAny_loadPart_at hC ?_
    | (with_reducible refine wpAny_isSubtype_exc hC ?_; first | rw [z1] | rw [z2] | rw [z3])
    | wp_step)
  show R _ _
  rw [Heap.size_push]
  exact hq
theorem xtype_call (F : ExcBaseFacts B newId initId bmB) (o : BmOk B bm) {rest : List Value} {fI : Addr} {Q : Fin → Shared → Prop} {E : Value → Shared → Prop} (hC : h.get? C = some (excClassObj nm q C N bs bm hdct sn sub ab col dd k0 k1 k2 k3 k5 newId))
    (hi : W.Looks (model prog w) h (typeLookup (.ref C) "__init__") (some (.ref fI))) (hb : ∀ self, W.Looks (model prog w) h (bindSpecial (.ref fI) self) (.ref fI, [self])) (hrest : rest.length ≤ sizeLine)
    (hq : codeAny (model prog w) A (.call (.ref fI) ⟨.ref (h.objs.size + 1) :: rest, kws⟩) (fun r s' => match r with | .ok (.ret v) => v = .none ∧ Q (.done (.ret (.ref (h.objs.size + 1)))) s' | .ok _ => False | .error e => E e s')
      ⟨(h.push (W.kdv_tup rest)).push (PySem.HandSPX.excO C h.objs.size), g, d, t, os⟩) :
    wpAny (model prog w) A (Builtin.«type.__call__» ⟨.ref C :: rest, kws⟩) Q E ⟨h, g, d, t, os⟩ := by
  repeat (first
    | with_reducible refine wpAny_loadPart_at hC ?_
    | with_reducible refine wpAny_madeBy_exc hC ?_
    | wp_step)
  refine codeAny_call_builtin_code (Code.quiet_builtin _ F.quiet) (xcheck_new F o hC ?_)
  refine xnew F o hC hrest ?_
  show wpAny _ _ _ _ _ _
  have kk : ∀ b u, h.get? b = some u → ((h.push (W.kdv_tup rest)).push (PySem.HandSPX.excO C h.objs.size)).get? b = some u := fun b u e => Heap.get?_push_of_some _ (Heap.get?_push_of_some _ e)
  have c1 := kk _ _ hC
  have gt : ((h.push (W.kdv_tup rest)).push (PySem.HandSPX.excO C h.objs.size)).get? (h.objs.size + 1) = some (PySem.HandSPX.excO C h.objs.size) := by heap_get
  have zC : (Value.ref C :: bm).contains (.ref C) = true := by
    rw [List.contains_cons, beq_self_eq_true, Bool.true_or]
  have j1 := hi.keeps kk
  have j2 := (hb (.ref (h.objs.size + 1))).keeps kk
  unfold isInstance
  repeat (first
    | with_reducible refine wpAny_loadPart_at gt ?_
    | (with_reducible refine wpAny_isSubtype_exc c1 ?_; rw [zC])
    | wp_step)
  show wpAny _ _ (typeLookup (.ref C) _) _ _ _
  refine j1.at (wpAny_holding (wpAny_bind (j2.at (wpAny_bind (wpAny_call (codeAny_mono hq fun r s' z => ?_))))))
  rcases r with e | (v | _ | _ | _) <;> first | exact z | exact z.elim | skip
  obtain ⟨rfl, z⟩ := z
  first
    | exact wpAny_pure (wpAny_pure z)
    | (wp_walk; exact z)

theorem xcall (F : ExcBaseFacts B newId initId bmB) (o : BmOk B bm) {rest : List Value} {fI : Addr} (hC : h.get? C = some (excClassObj nm q C N bs bm hdct sn sub ab col dd k0 k1 k2 k3 k5 newId))
    (hi : W.Looks (model prog w) h (typeLookup (.ref C) "__init__") (some (.ref fI))) (hb : ∀ self, W.Looks (model prog w) h (bindSpecial (.ref fI) self) (.ref fI, [self])) (hrest : rest.length ≤ sizeLine)
    (hq : codeAny (model prog w) (A.under (.builtin "type.__call__" ⟨.ref C :: rest, kws⟩)) (.call (.ref fI) ⟨.ref (h.objs.size + 1) :: rest, kws⟩) (W.InitBack (h.objs.size + 1) R) ⟨(h.push (W.kdv_tup rest)).push (PySem.HandSPX.excO C h.objs.size), g, d, t, os⟩) :
    codeAny (model prog w) A (.call (.ref C) ⟨rest, kws⟩) R ⟨h, g, d, t, os⟩ := by
  have z1 := tc_lookup
  have z2 := tc_bind (.ref C)
  have zT : (⟨h, g, d, t, os⟩ : Shared).TypeIs (.ref C) "type" := ⟨_, hC, rfl⟩
  refine codeAny_of_tree ?_
  show wpAny _ _ (callAny (.ref C) _) _ _ _
  repeat (any_goals (first
    | assumption
    | with_reducible refine wpAny_loadPart_at hC ?_
    | wp_step))
  refine ⟨rfl, codeAny_call_builtin_at (Code.quiet_builtin _ (by decide +kernel)) entry_typeCall (wpAny_check_type_call_sub hC (xtype_call F o hC hi hb hrest (codeAny_mono hq fun r s' z => ?_)))⟩
  rcases r with e | (v | _ | _ | _) <;> exact z

open Builtin.ObjectAttr in
theorem xosa {K : W.Frag} {name : Str} {tk : Tok} {v : Value} {x C : Addr} {fv : Array Value} {cd : ClassData} (XK : K.In h) (hx : h.get? x = some { cls := .ref C, data := .fields fv }) (hcd : W.clsIn K C = some cd) (hne : cd.mro.isEmpty = false)
    (hob : cd.mro.contains (.type "object") = true) (hps : refuseLoop (.ref x) "__setattr__" cd.mro = pure ()) (hh : cd.hasDict = true) (ha : W.findIn K (.ref C) name = some none)
    (hq : ∀ h' tk' dx, (∀ b u, b ≠ x → h.get? b = some u → h'.get? b = some u) → h.objs.size ≤ dx → dx ≠ x → h'.get? x = some { cls := .ref C, dict := some dx, data := .fields fv } → h'.Ns1 dx (fun y => if y = name then some v else none) → R (.ok (.ret .none)) ⟨h', g, d, tk', os⟩) :
    codeAny (model prog w) A (.call (.builtin "object.__setattr__") ⟨[.ref x, .str name tk, v], []⟩) R ⟨h, g, d, t, os⟩ := by
  have iT : W.InstAt h x { cls := .ref C, data := .fields fv } C none := ⟨hx, rfl, rfl, trivial⟩
  have sF := PySem.F.store_object
  have nx : x ≠ h.objs.size := Nat.ne_of_lt (Heap.lt_size hx)
  have isO : W.Looks (model prog w) h (isInstance (.ref x) (.type "object")) true := by
    refine iT.type.andThen (W.looks_mroIn XK ?_)
    unfold W.mroIn
    rw [hcd, Option.bind_some, if_neg (by rw [hne]; decide), hob]
  refine codeAny_call_builtin sF.slot.plain sF.entry (@W.check_slot (model prog w) _ _ ⟨h, g, d, t, os⟩ "object.__setattr__" "object" "__setattr__" (.ref x)
    [.str name tk, v] [] _ sF.kind sF.split isO (sF.args (.ref x) (.str name tk) v) ?_)
  have y1 : W.Looks (model prog w) h (mroOf (.ref C)) cd.mro := (W.looks_clsIn XK hcd).andThen .now
  have y2 : W.Looks (model prog w) h (storeTaker? none) none := .now
  have y3 : W.Looks (model prog w) h (classData C) cd := W.looks_clsIn XK hcd
  rw [W.osa_eq, refuse_eq]
  refine wpAny_bind (wpAny_bind (iT.type.at (wpAny_bind (y1.at ?_))))
  rw [hps]
  refine wpAny_pure (wpAny_bind (iT.type.at (wpAny_bind ((W.looks_findIn XK ha).at (wpAny_bind (y2.at ?_))))))
  show wpAny _ _ (storeInOwnDict (.ref x) (.ref C) (.str name tk) name v false) _ _ _
  obtain ⟨z1, z2, z3, z4, z5, hd, z6, z7, z8, z9, z10⟩ := cd
  dsimp only at hh
  subst hh
  unfold storeInOwnDict ownDictForStores
  repeat (first
    | with_reducible refine PySem.HandSPX.store_in_new ?_ ?_
    | with_reducible refine wpAny_loadPart_at hx ?_
    | with_reducible refine y3.at ?_
    | wp_step)
  · exact ⟨_, #[], _, (Heap.get?_update_ne _ _ _ _ nx.symm).trans (Heap.get?_push_at rfl rfl), rfl, fun e he => absurd he (by simp), fun _ => rfl⟩
  · intro h' tk' hn' hs
    have hx' : (h.push { cls := .type "dict", data := .dict #[] }).get? x = some { cls := .ref C, data := .fields fv } := Heap.get?_push_of_some _ hx
    refine hq h' tk' h.objs.size (fun b u hb hu => ?_) (Nat.le_refl _) nx.symm ?_ hn'
    · exact (hs.2 b (Nat.ne_of_lt (Heap.lt_size hu))).trans ((Heap.get?_update_ne _ _ _ _ hb).trans (Heap.get?_push_of_some _ hu))
    · exact (hs.2 x nx).trans (Heap.get?_update_self _ hx' rfl)
end
end Fk

set_option maxHeartbeats 4000000
namespace Fk
open PySem PySem.Spec L2
/-- what the written part says of an error's class, whose __init__ stands at fI -/
structure XC (K : PySem.W.Frag) (C fI : Addr) : Prop where
  cls : ∃ (B newId initId : String) (bmB : List Value) (nm q : Str) (N : Addr) (bs bm : List Value) (sn : List Str) (sub : List Value) (ab : Bool) (col : Option Bool) (dd : Option Addr) (k0 k1 k2 k3 k5 : Option Value),
    ExcBaseFacts B newId initId bmB ∧ BmOk B bm ∧ (∀ self, refuseLoop self "__setattr__" bm = pure ()) ∧ bm.contains (.type "object") = true ∧ K.lookup C = some (excClassObj nm q C N bs bm true sn sub ab col dd k0 k1 k2 k3 k5 newId)
  sa : PySem.W.findIn K (.ref C) "__setattr__" = some (some (.builtin "object.__setattr__"))
  kC : PySem.W.keepIn K (.ref C) = true
  iC : PySem.W.findIn K (.ref C) "__init__" = some (some (.ref fI))
  tI : PySem.W.typeIn K (.ref fI) = some (.type "function")
  ga : PySem.W.findIn K (.ref C) "__getattribute__" = some (some (.builtin "BaseException.__getattribute__"))
  gg : PySem.W.findIn K (.ref C) "__getattr__" = some none
  su : PySem.W.subIn K (.ref C) (.type "BaseException") = some true
  hd : PySem.W.hasDictIn K C = true
  ha : PySem.W.findIn K (.ref C) "__class__" = some (some (.builtin "object.__class__"))
  hn : PySem.W.specialIn K (.builtin "object.__class__") "__get__" = some (some (.builtin "getset_descriptor.__get__"))
  ht : PySem.W.takesIn K (.builtin "object.__class__") = some true
  hm : PySem.W.mroIn K C (.type "object") = some true
section
variable {X : Cx} {CX : CXT} {k : Nat} {fI C : Addr} {fd : FuncData} {ps : List Str} {sp : Sp}
theorem run_mkv {pins : List (Addr × Obj)} {σ : L2.St} {H : Hp} {s : Shared} {Q : VK} {us vals : List Value} {kz : List (Str × Value)} {vvs : List V} (T : XC X.K C fI) (F1 : FnOk X.prog X.w X.K X.mg X.base CX k fI fd ps sp) (hr : Room (k + 1) X.A)
    (hx : Passes CX X (fun _ _ _ => False)) (I : Inv X pins σ H s) (rv : Vals vvs vals) (hus : us.length ≤ 1000) (hbind : ∀ (s' : Shared) (self : Value), X.K.In s'.heap → BindsTo s' fd ⟨self :: us, kz⟩ (ps.zip (self :: vals)))
    (h : ∀ a, H a = none → sp (.ref a :: vvs) (upd H a (exo a C none)) (fun v H2 => v = .non ∧ Q (.ref a) H2) (fun _ _ _ => False)) :
    wpAny (model X.prog X.w) X.A (call (.ref C) us kz) (EP X pins σ Q) X.xe s := by
  obtain ⟨B, newId, initId, bmB, nm, q, N, bs, bm, sn, sub, ab, col, dd, k0, k1, k2, k3, k5, FB, ok, _, _, hC⟩ := T.cls
  obtain ⟨hp, g, dr, tk, os⟩ := s
  have hsz : hp.objs.size ≤ hp.objs.size + 1 := Nat.le_succ _
  have hq := h (hp.objs.size + 1) (I.hok.fresh hsz)
  have gt : ((hp.push (PySem.W.kdv_tup us)).push (PySem.HandSPX.excO C hp.objs.size)).get? (hp.objs.size + 1) = some (PySem.HandSPX.excO C hp.objs.size) := by heap_get
  have I2 : Inv X pins σ (upd H (hp.objs.size + 1) (exo (hp.objs.size + 1) C none)) ⟨(hp.push (PySem.W.kdv_tup us)).push (PySem.HandSPX.excO C hp.objs.size), g, dr, tk, os⟩ :=
    I.laid (t' := tk) (a := hp.objs.size + 1) (o := exo (hp.objs.size + 1) C none) (fun b u e => Heap.get?_push_of_some _ (Heap.get?_push_of_some _ e)) hsz (exo_ok gt)
  have r2 : Vals (V.ref (hp.objs.size + 1) :: vvs) (Value.ref (hp.objs.size + 1) :: vals) := .cons rfl rv
  have hz : us.length ≤ sizeLine := Nat.le_trans hus (by decide)
  refine wpAny_call (xcall FB ok (I.kIn _ _ hC) (PySem.W.looks_findIn I.kIn T.iC) (fun self => PySem.W.bind_fn I.kIn self T.tI) hz
    (codeAny_mono (F1.run _ X.stack _ _ ⟨Value.ref (hp.objs.size + 1) :: us, kz⟩ _ _ _ (fun _ _ _ => False) (hr.make C us kz) (I2.env0.make C us kz) (hbind _ _ I2.kIn) r2 hq) fun r s' z => ?_))
  cases r with
  | error e => exact hx pins σ _ _ e s' I2 z
  | ok fl =>
    cases fl with
    | ret u =>
      obtain ⟨v, H', I3, rv', ev, q3⟩ := I2.after z
      subst ev
      exact ⟨rv', ⟨V.ref (hp.objs.size + 1), H', I3, rfl, q3⟩⟩
    | next => exact z.elim
    | brk => exact z.elim
    | cont => exact z.elim
variable {x : Str} {p p' pos : Pos} {e o : Expr} {es : List Expr} {kws : List Keyword} {t tk : TA} {ds : List Value} {dvs : List V} {ks : List Str} {te to : TE} {f : Str}
/-- C(e, ..) as a value: an error's object stands at a, then __init__ -/
def tMkV (C : Addr) (sp : Sp) (dvs : List V) (t : TA) : TE := fun σ H Q => t σ H fun vs H1 => vs.length ≤ 1000 ∧ ∀ a, H1 a = none → sp (.ref a :: (vs ++ dvs)) (upd H1 a (exo a C none)) (fun v H2 => v = .non ∧ Q (.ref a) H2) (fun _ _ _ => False)
theorem pe_mkv (T : XC X.K C fI) (F1 : FnOk X.prog X.w X.K X.mg X.base CX k fI fd ps sp) (hr : Room (k + 1) X.A) (hb : Binds X.K fd ps ds) (hd : Vals dvs ds) (hx : Passes CX X (fun _ _ _ => False)) (hg : Gl X x) (hm : X.mg x = some (.ref C)) (ha : PA X (e :: es) t)
    (hdb : (x == ("__debug__" : Str)) = false := by decide) (he : starEach (e :: es) X.env = (false, eval e X.env) :: starEach es X.env := by rfl) (hpl : (backTo pos (starEach es X.env)).any (·.1) = false := by rfl) :
    PE X (.Call (.Name x p) (e :: es) [] pos) (tMkV C sp dvs t) := by
  refine ⟨fun pins s σ H Q I h => ?_⟩
  refine wpAny_Call_Name_kw (ld_glob I hg hm ?_ hdb)
  refine PySem.W.callWith_K (h₀ := X.base) I.ok.mod.kin T.kC (thn (ha.run pos pins s σ H _ I h) fun us s1 ⟨vs, H1, I1, r1, hz, q1⟩ => ⟨I1.kIn, ?_⟩) he hpl
  have q0 := q1 _ (I1.hok.fresh (Nat.le_refl _))
  have l0 := F1.len _ _ _ _ q0
  have l1 := (r1.append hd).length
  rw [List.length_cons] at l0
  exact run_mkv (us := us) (kz := []) T F1 hr hx I1 (r1.append hd) (by rw [← r1.length]; exact hz) (fun s' self X1 => hb s' (self :: us) X1 (by rw [List.cons_append, List.length_cons, ← l1]; exact l0)) q1
theorem pe_mkv0 (T : XC X.K C fI) (F1 : FnOk X.prog X.w X.K X.mg X.base CX k fI fd ps sp) (hr : Room (k + 1) X.A) (hb : Binds X.K fd ps ds) (hd : Vals dvs ds) (hx : Passes CX X (fun _ _ _ => False)) (hg : Gl X x) (hm : X.mg x = some (.ref C))
    (hdb : (x == ("__debug__" : Str)) = false := by decide) : PE X (.Call (.Name x p) [] [] pos) (tMkV C sp dvs tNil) := by
  refine ⟨fun pins s σ H Q I h => ?_⟩
  obtain ⟨_, q1⟩ := h
  refine wpAny_Call_Name_kw (ld_glob I hg hm ?_ hdb)
  refine PySem.W.callWith_K0 I.kIn T.kC ?_
  have q0 := q1 _ (I.hok.fresh (Nat.le_refl _))
  have l0 := F1.len _ _ _ _ q0
  rw [List.length_cons] at l0
  exact run_mkv (us := []) (kz := []) T F1 hr hx I hd (Nat.zero_le _) (fun s' self X1 => hb s' [self] X1 (by rw [List.singleton_append, List.length_cons, ← hd.length]; exact l0)) q1
/-- C(k = e, ..) as a value -/
def tMkVK (C : Addr) (n : Nat) (sp : Sp) (t : TA) : TE := fun σ H Q => t σ H fun zs H1 => zs.length = n ∧ ∀ a, H1 a = none → sp (.ref a :: zs) (upd H1 a (exo a C none)) (fun v H2 => v = .non ∧ Q (.ref a) H2) (fun _ _ _ => False)
theorem pe_mkvK (T : XC X.K C fI) (F1 : FnOk X.prog X.w X.K X.mg X.base CX k fI fd ps sp) (hr : Room (k + 1) X.A) (hb : ∀ (s : Shared) (self : Value) (ws : List Value), X.K.In s.heap → ws.length = ks.length → BindsTo s fd ⟨[self], ks.zip ws⟩ (ps.zip (self :: ws))) (hx : Passes CX X (fun _ _ _ => False))
    (hg : Gl X x) (hm : X.mg x = some (.ref C)) (hkw : PK X kws tk) (hall : (backToKw pos (keywordEach kws X.env)).all (·.1.isSome) = true := by rfl) (hks : (backToKw pos (keywordEach kws X.env)).filterMap (·.1) = ks := by rfl) (hdb : (x == ("__debug__" : Str)) = false := by decide)
    (hpl : ((backTo pos (starEach [] X.env)).any (·.1) || (backToKw pos (keywordEach kws X.env)).any (·.1.isNone)) = false := by rfl) : PE X (.Call (.Name x p) [] kws pos) (tMkVK C ks.length sp tk) := by
  refine ⟨fun pins s σ H Q I h => ?_⟩
  refine wpAny_Call_Name_kw (ld_glob I hg hm ?_ hdb)
  refine PySem.W.callWith_KW0 (h₀ := X.base) I.ok.mod.kin T.kC hall ?_ hpl
  refine thn (hkw.run pos pins s σ H _ I h) fun ws s2 ⟨zs, H2, I2, rz, l2, q2⟩ => ⟨I2.kIn, ?_⟩
  rw [hks]
  exact run_mkv (us := []) T F1 hr hx I2 rz (Nat.zero_le _) (fun s' self X1 => hb s' self ws X1 (by rw [← rz.length]; exact l2)) q2

theorem inst_v {H : Hp} {h : Heap} {P : Program} {w : World} {a d : Addr} {fs : List (Str × V)} (hok : HOk P w H h) (ea : H a = some (exo a C (some d))) (ed : H d = some (exd d fs)) :
    ∃ (ox od : Obj) (mA : Str → Option Value), PySem.W.InstAt h a ox C (some od) ∧ h.get? d = some od ∧ h.Ns1 d mA ∧ ∀ g, RelO (fs.lookup g) (mA g) := by
  obtain ⟨t1, ho⟩ := exo_at hok ea
  obtain ⟨mA, hns, rel⟩ := exd_at hok ed
  obtain ⟨od, es', ep, h1, h2, h3⟩ := id hns
  exact ⟨_, od, mA, ⟨ho, rfl, rfl, h1⟩, h1, hns, rel⟩
/-- e.f, e an error's value -/
def tFv (K : PySem.W.Frag) (f : Str) (te : TE) : TE := fun σ H Q => te σ H fun x H1 => ∃ (a C fI d : Addr) (fs : List (Str × V)) (v : V), x = .ref a ∧ XC K C fI ∧ PySem.W.findIn K (.ref C) f = some none ∧ H1 a = some (exo a C (some d)) ∧ H1 d = some (exd d fs) ∧ fs.lookup f = some v ∧ Q v H1
theorem pe_fv (he : PE X e te) (hb : attributeBase e f X.env (eval e X.env) = eval e X.env := by rfl) : PE X (.Attribute e f pos) (tFv X.K f te) := by
  refine ⟨fun pins s σ H Q I h => ?_⟩
  refine attr_of hb (thn (he.run pins s σ H _ I h) fun u s1 hh => ?_)
  obtain ⟨x, H1, I1, rx, a, C, fI, d, fs, v, ex, T, hno, ea, ed, l, q⟩ := hh
  subst ex
  obtain rfl : u = Value.ref a := rx
  obtain ⟨ox, od, mA, J, hod, hns, rel⟩ := inst_v I1.hok ea ed
  obtain ⟨od', ho', hl'⟩ := lookIn_ns hns
  rw [hod] at ho'
  cases ho'
  obtain ⟨u, hu, ru⟩ := RelO.some_of (v := v) (o := mA f) (by rw [← l]; exact rel f)
  exact PySem.HandSPX.exc_get I1.kIn J T.ga T.gg T.su (PySem.W.findObj_own T.hd hno rfl (by rw [hl', hu])) (handed_of ru) ⟨v, H1, I1.tok _, ru, q⟩
theorem kit_v {K : PySem.W.Frag} {a : Addr} {od : Option Obj} {ox : Obj} (T : XC K C fI) : PySem.W.KitX K (.ref a) (.ref C) (fun h => PySem.W.InstAt h a ox C od) := by
  refine PySem.W.kitx_exc ?_ T.ga T.gg T.su T.ha T.hn T.ht T.hm
  obtain ⟨B, newId, initId, bmB, nm, q, N, bs, bm, sn, sub, ab, col, dd, k0, k1, k2, k3, k5, FB, ok, _, _, hC⟩ := T.cls
  unfold PySem.W.clsIn
  rw [hC]
  rfl
/-- isinstance(e, c), e an error's value -/
def rIsV (K : PySem.W.Frag) : List V → Hp → VK → Prop := fun xs H Q => ∃ (a C fI d : Addr) (fs : List (Str × V)) (c : V) (u : Value) (b : Bool), xs = [.ref a, c] ∧ ClsV c u ∧ XC K C fI ∧ H a = some (exo a C (some d)) ∧ H d = some (exd d fs) ∧ PySem.W.kitOne K (.ref C) u = some b ∧ Q (.bl b) H
theorem call_isv : CallR X (.builtin "isinstance") (rIsV X.K) := by
  intro pins s σ H xs us Q I r h
  obtain ⟨a, C, fI, d, fs, c, u, b, rfl, kc, T, ea, ed, e, q⟩ := h
  obtain ⟨u1, u2, rfl, r1, r2⟩ := vals2 r
  have e2 := kc.eq r2
  subst e2
  obtain rfl : u1 = Value.ref a := r1
  obtain ⟨ox, od, mA, J, hod, hns, rel⟩ := inst_v I.hok ea ed
  exact PySem.W.kia_one (kit_v T) I.kIn J e (fun z => nomatch z) fun tk => ⟨.bl b, H, I.tok tk, rfl, q⟩
/-- isinstance(e, (c, ..)), e the error that the suite holds -/
def rIsS (K : PySem.W.Frag) (a : Addr) (cls : Value) (d : Option Addr) : List V → Hp → VK → Prop := fun xs H Q => ∃ (C fI tp dd : Addr) (fs : List (Str × V)) (cs : List V) (us : List Value) (b : Bool), xs = [.ref a, .ref tp] ∧ cls = .ref C ∧ d = some dd ∧ XC K C fI ∧ H dd = some (.xd fs) ∧
  H tp = some (.tup cs) ∧ Paired ClsV cs us ∧ PySem.W.kitAny K (.ref C) us = some b ∧ Q (.bl b) H
theorem call_isS {a : Addr} {oe : Obj} {cls : Value} {d : Option Addr} {pn : List (Addr × Obj)} (hz : Zc cls d oe) (hf : ∃ vs, oe.data = .fields vs) : CallR (X.suite a ((a, oe) :: pn)) (.builtin "isinstance") (rIsS X.K a cls d) := by
  intro pins s σ H xs us Q I r h
  obtain ⟨C, fI, tp, dd, fs, cs, ws, b, rfl, rfl, rfl, T, ed, hT, kc, e, q⟩ := h
  obtain ⟨u1, u2, rfl, r1, r2⟩ := vals2 r
  obtain rfl : u1 = Value.ref a := r1
  cases (show u2 = Value.ref tp from r2)
  obtain ⟨hget, _⟩ := I.pin (a, oe) (List.mem_append_left _ List.mem_cons_self)
  obtain ⟨vs, hv⟩ := hf
  obtain ⟨mA, hns, rel⟩ := (show ObjOk X.prog X.w H s.heap dd (.xd fs) from I.hok dd _ ed)
  obtain ⟨od, ho, hl⟩ := lookIn_ns hns
  have J : PySem.W.InstAt s.heap a oe C (some od) := ⟨hget, hz.1, by unfold PySem.W.notCls; rw [hv] <;> rfl, by rw [hz.2]; exact ho⟩
  obtain ⟨_, its, rv, o, h1, h2, n, h3⟩ := (show ObjOk X.prog X.w H s.heap tp (.tup cs) from I.hok tp _ hT)
  have e3 := ClsV.all kc rv
  subst e3
  obtain ⟨oc, od', dt, sl⟩ := o
  simp only at h2 h3
  subst h2 h3
  exact PySem.W.kia_tup (kit_v T) I.kIn J h1 e (fun z => nomatch z) fun tk => ⟨.bl b, H, I.tok tk, rfl, q⟩
theorem xost {pins : List (Addr × Obj)} {σ : L2.St} {H : Hp} {s : Shared} {a : Addr} {y : V} {u : Value} {Q : Unit → Shared → Prop} {E : Value → Shared → Prop} {A : Around} (T : XC X.K C fI) (I : Inv X pins σ H s) (ea : H a = some (exo a C none))
    (hno : PySem.W.findIn X.K (.ref C) f = some none) (ry : RelV y u)
    (h : ∀ dx s', H dx = none → dx ≠ a → Inv X pins σ (upd (upd H dx (exd dx [(f, y)])) a (exo a C (some dx))) s' → Q () s') : wpAny (model X.prog X.w) A (setAttr (.ref a) f u) Q E s := by
  obtain ⟨B, newId, initId, bmB, nm, q, N, bs, bm, sn, sub, ab, col, dd, k0, k1, k2, k3, k5, FB, ok, hps, hob, hC⟩ := T.cls
  have hcl : PySem.W.clsIn X.K C = some { name := nm, bases := bs, mro := .ref C :: bm, ns := N, qualname := q, hasDict := true, slotNames := sn, subclasses := sub, abstract := ab, collection := col, hasDel := false } := by
    unfold PySem.W.clsIn
    rw [hC]
  obtain ⟨t1, ho⟩ := exo_at I.hok ea
  obtain ⟨hp, g, d, t, os⟩ := s
  refine PySem.W.set_plain I.kIn (ox := { cls := .ref C, dict := none, data := .fields #[.ref t1, .none, .none, .none, .bool false, .none] }) (od := none) ⟨ho, rfl, rfl, trivial⟩ T.sa ?_
  refine xosa I.kIn ho hcl rfl (by rw [List.contains_cons, hob, Bool.or_true]) (by rw [refuseLoop_ref]; exact hps _) rfl hno (fun h' tk' dx kp dn dne hx hn => ?_)
  have zd : H dx = none := I.hok.fresh dn
  have nd : ∀ {b : Addr} {o : Obj}, hp.get? b = some o → b ≠ dx := fun {b o} w => Nat.ne_of_lt (Nat.lt_of_lt_of_le (Heap.lt_size w) dn)
  have na : ∀ {b : Addr}, H b = none → b ≠ a := fun {b} n z => by
    rw [z, ea] at n
    cases n
  have U : Un X.fs [] H (upd (upd H dx (exd dx [(f, y)])) a (exo a C (some dx))) hp h' := by
    refine ⟨fun b o w n _ _ => kp b o (na n) w, fun b o w n _ _ => ⟨o.slots, kp b o (na n) w⟩, fun b o w n _ => ?_, fun b o w _ => ?_, fun b xs w => ?_, fun b o v w => ?_, fun b ps w => ⟨#[], ?_⟩⟩
    · rw [upd_ne (na n), upd_ne (nd w)]
      exact n
    · by_cases hb : b = a
      · rw [hb]
        exact ⟨_, hx⟩
      · exact ⟨o, kp b o hb w⟩
    · rw [upd_ne (at_ne ea w exo_tup), upd_ne (ne_of_none w zd)]
      exact w
    · rw [upd_ne (at_ne ea w exo_frz), upd_ne (ne_of_none w zd)]
      exact w
    · rw [upd_ne (at_ne ea w exo_tbl), upd_ne (ne_of_none w zd), w]
      simp
  refine h dx _ zd dne (I.un (t' := tk') U fun b o w => ?_)
  by_cases hb : b = a
  · rw [hb, upd_same] at w
    cases w
    rw [hb]
    exact exo_ok hx
  rw [upd_ne hb] at w
  by_cases hd : b = dx
  · rw [hd, upd_same] at w
    cases w
    rw [hd]
    exact exd_ok hn (relO_put (fs := []) ry fun g => True.intro)
  rw [upd_ne hd] at w
  refine (I.hok b o w).stay (fun c v hc z => kp c v ?_ z) (fun c hc => ?_) (fun c xs hc => ?_)
  · rcases hc with hc | hc
    · rw [hc]
      exact hb
    · exact at_ne ea hc exo_own
  · rw [upd_ne (at_ne ea hc exo_own), upd_ne (ne_of_none hc zd)]
    exact hc
  · rw [upd_ne (at_ne ea hc exo_tup), upd_ne (ne_of_none hc zd)]
    exact hc
/-- self.f = e, self an error that has no field yet -/
def tOsv (K : PySem.W.Frag) (f : Str) (to te : TE) : TS := fun D σ H => te σ H fun y H1 => to σ H1 fun x H2 => ∃ a C fI : Addr, x = .ref a ∧ XC K C fI ∧ PySem.W.findIn K (.ref C) f = some none ∧ H2 a = some (exo a C none) ∧
  ∀ dx, H2 dx = none → dx ≠ a → D.nx σ (upd (upd H2 dx (exd dx [(f, y)])) a (exo a C (some dx)))
theorem ps_osv (ho : PE X o to) (he : PE X e te) (hs : swapsWith e (some (.Attribute o f p')) pos.line X.env = pure false := by rfl) : PS X (.Assign [.Attribute o f p'] e pos) (tOsv X.K f to te) := by
  refine ⟨fun pins s σ H D I h => ?_⟩
  refine plainObj_wpAny_Assign_Attribute (thn (he.run pins s σ H _ I h) fun v s1 ⟨y, H1, I1, r1, q1⟩ => thn (ho.run pins s1 σ H1 _ I1 q1) fun u s2 ⟨x, H2, I2, r2, a, C, fI, ex, T, hno, ea, q⟩ => ?_) hs
  subst ex
  obtain rfl : u = Value.ref a := r2
  exact xost T I2 ea hno r1 fun dx s' n ne J => ⟨σ, _, J, q dx n ne⟩
end
end Fk

set_option maxHeartbeats 4000000
/-! What is known of an error's class by its entry in the written part. -/
namespace Fk
open PySem PySem.Spec L2
def VE : List Value := [.type "ValueError", .type "Exception", .type "BaseException", .type "object"]
def KE : List Value := [.type "KeyError", .type "LookupError", .type "Exception", .type "BaseException", .type "object"]
structure CF (K : PySem.W.Frag) (nm : Str) (newId : String) (bm : List Value) (C : Addr) : Prop where
  x : ∃ (q : Str) (N : Addr) (bs : List Value) (sn : List Str) (sub : List Value) (ab : Bool) (col : Option Bool) (dd : Option Addr) (k0 k1 k2 k3 k5 : Option Value), K.lookup C = some (excClassObj nm q C N bs bm true sn sub ab col dd k0 k1 k2 k3 k5 newId)
section
variable {K : PySem.W.Frag} {nm nm' : Str} {newId newId' : String} {bm bm' : List Value} {C C' : Addr}
theorem CF.sub (c : CF K nm newId bm C) (u : Value) : PySem.W.subIn K (.ref C) u = some ((Value.ref C :: bm).contains u) := by
  obtain ⟨q, N, bs, sn, sub, ab, col, dd, k0, k1, k2, k3, k5, e⟩ := c.x
  show PySem.W.mroIn K C u = _
  unfold PySem.W.mroIn PySem.W.clsIn
  rw [e]
  rfl
theorem CF.mro (c : CF K nm newId bm C) (u : Value) : PySem.W.mroIn K C u = some ((Value.ref C :: bm).contains u) := c.sub u
theorem CF.typ (c : CF K nm newId bm C) : PySem.W.typeIn K (.ref C) = some (.type "type") := by
  obtain ⟨q, N, bs, sn, sub, ab, col, dd, k0, k1, k2, k3, k5, e⟩ := c.x
  show (K.lookup C).map (·.cls) = _
  rw [e]
  rfl
theorem CF.hd (c : CF K nm newId bm C) : PySem.W.hasDictIn K C = true := by
  obtain ⟨q, N, bs, sn, sub, ab, col, dd, k0, k1, k2, k3, k5, e⟩ := c.x
  unfold PySem.W.hasDictIn PySem.W.clsIn
  rw [e]
  rfl
theorem CF.isc (c : CF K nm newId bm C) : (PySem.W.clsIn K C).isSome = true := by
  obtain ⟨q, N, bs, sn, sub, ab, col, dd, k0, k1, k2, k3, k5, e⟩ := c.x
  unfold PySem.W.clsIn
  rw [e]
  rfl
theorem CF.kit (c : CF K nm newId bm C) (c' : CF K nm' newId' bm' C') : PySem.W.kitOne K (.ref C) (.ref C') = some ((Value.ref C :: bm).contains (.ref C')) := by
  unfold PySem.W.kitOne
  by_cases h : C = C'
  · subst h
    have e : (Value.ref C == .ref C) = true := beq_self_eq_true _
    rw [if_pos e, List.contains_cons, e, Bool.true_or]
  · have e : ¬ (Value.ref C == .ref C') = true := fun z => by
      have := eq_of_beq z
      cases this
      exact h rfl
    have t : ((PySem.W.clsIn K C').isSome && PySem.W.typeIn K (.ref C') == some (.type "type")) = true := by
      rw [c'.isc, c'.typ] <;> rfl
    rw [if_neg e]
    show (if ((PySem.W.clsIn K C').isSome && PySem.W.typeIn K (.ref C') == some (.type "type")) = true then PySem.W.subIn K (.ref C) (.ref C') else none) = _
    rw [if_pos t]
    exact c.sub _
theorem CF.kitT (c : CF K nm newId bm C) {n : String} (h : PySem.W.kitMeta n = true) : PySem.W.kitOne K (.ref C) (.type n) = some ((Value.ref C :: bm).contains (.type n)) := by
  unfold PySem.W.kitOne
  have e : ¬ (Value.ref C == .type n) = true := fun z => by
    have := eq_of_beq z
    cases this
  rw [if_neg e]
  show (if PySem.W.kitMeta n = true then PySem.W.subIn K (.ref C) (.type n) else none) = _
  rw [if_pos h]
  exact c.sub _
theorem CF.name (c : CF K nm newId bm C) (c' : CF K nm' newId' bm' C) : nm = nm' := by
  obtain ⟨q, N, bs, sn, sub, ab, col, dd, k0, k1, k2, k3, k5, e⟩ := c.x
  obtain ⟨q', N', bs', sn', sub', ab', col', dd', k0', k1', k2', k3', k5', e'⟩ := c'.x
  rw [e] at e'
  have z := Option.some.inj e'
  injection z with z1 z2 z3 z4
  injection z3 with z5
  injection z5
theorem CF.oex (c : CF K nm "ValueError.__new__" bm C) (h : PySem.HandSPX.refsVE bm = true) (sa : PySem.W.findIn K (.ref C) "__setattr__" = some (some (.builtin "object.__setattr__"))) (kC : PySem.W.keepIn K (.ref C) = true) (hb : bm.contains (.type "BaseException") = true) : OexC K C := by
  obtain ⟨q, N, bs, sn, sub, ab, col, dd, k0, k1, k2, k3, k5, e⟩ := id c.x
  refine { cls := ⟨nm, q, N, bs, bm, sn, sub, ab, col, dd, k0, k1, k2, k3, k5, e, h⟩, sa := sa, exC := ?_, tyC := c.typ, kC := kC }
  rw [c.sub, List.contains_cons, hb, Bool.or_true]
theorem CF.exm (c : CF K nm newId bm C) (c' : CF K nm' newId' bm' C') (hb : bm'.contains (.type "BaseException") = true) {b : Bool} (e : (Value.ref C :: bm).contains (.ref C') = b) : PySem.W.exmOne K (.ref C) (.ref C') = some b := by
  refine PySem.W.exm_ref ?_ c'.hd c'.typ ((c.sub _).trans (congrArg some e))
  rw [c'.sub, List.contains_cons, hb, Bool.or_true]
theorem CF.xc (c : CF K nm newId bm C) {B initId : String} {bmB : List Value} {fI : Addr} (FB : ExcBaseFacts B newId initId bmB) (ok : BmOk B bm) (ps : ∀ self, refuseLoop self "__setattr__" bm = pure ()) (ob : bm.contains (.type "object") = true) (hb : bm.contains (.type "BaseException") = true)
    (sa : PySem.W.findIn K (.ref C) "__setattr__" = some (some (.builtin "object.__setattr__"))) (kC : PySem.W.keepIn K (.ref C) = true) (iC : PySem.W.findIn K (.ref C) "__init__" = some (some (.ref fI))) (tI : PySem.W.typeIn K (.ref fI) = some (.type "function"))
    (ga : PySem.W.findIn K (.ref C) "__getattribute__" = some (some (.builtin "BaseException.__getattribute__"))) (gg : PySem.W.findIn K (.ref C) "__getattr__" = some none) (ha : PySem.W.findIn K (.ref C) "__class__" = some (some (.builtin "object.__class__")))
    (hn : PySem.W.specialIn K (.builtin "object.__class__") "__get__" = some (some (.builtin "getset_descriptor.__get__"))) (ht : PySem.W.takesIn K (.builtin "object.__class__") = some true) : XC K C fI := by
  obtain ⟨q, N, bs, sn, sub, ab, col, dd, k0, k1, k2, k3, k5, e⟩ := id c.x
  refine { cls := ⟨B, newId, initId, bmB, nm, q, N, bs, bm, sn, sub, ab, col, dd, k0, k1, k2, k3, k5, FB, ok, ps, ob, e⟩, sa := sa, kC := kC, iC := iC, tI := tI, ga := ga, gg := gg, su := ?_, hd := c.hd, ha := ha, hn := hn, ht := ht, hm := ?_ }
  · rw [c.sub, List.contains_cons, hb, Bool.or_true]
  · rw [c.mro, List.contains_cons, ob, Bool.or_true]
end
theorem ve_ok : BmOk "ValueError" VE := ⟨by decide +kernel, by decide +kernel, by decide +kernel⟩
theorem ke_ok : BmOk "LookupError" KE := ⟨by decide +kernel, by decide +kernel, by decide +kernel⟩
theorem rve_ok (c : Addr) : BmOk "ValueError" (.ref c :: VE) := ⟨ve_ok.b', ve_ok.a', ve_ok.n'⟩
theorem ve_pass (self : Value) : refuseLoop self "__setattr__" VE = pure () := PySem.F.store_ValueError.passes self
theorem rve_pass (c : Addr) (self : Value) : refuseLoop self "__setattr__" (.ref c :: VE) = pure () := by
  rw [refuseLoop_ref]
  exact ve_pass self
theorem ke_pass (self : Value) : refuseLoop self "__setattr__" KE = pure () := by
  kernel_rfl
end Fk

set_option maxHeartbeats 4000000
/-! Operators of an own class: ==, !=, +, unary -. -/
namespace Fk
open PySem PySem.Spec PyProof.Rows L2
/-- nothing is let out where E0 is asked -/
def NoEx (CX : CXT) : Prop := ∀ outer H s u s', CX outer H s C8.E0 u s' → False
theorem noEx0 : NoEx C8.CX0 := fun _ _ _ _ _ h => h
theorem noExL {P : Program} {w : World} : NoEx (L2.CX P w) := fun outer H s u s' h => by
  obtain ⟨_, _, _, _, _, _, _, _, _, _, _, _, e⟩ := h
  exact e
/-- a method of an own class -/
structure OwnM (P : Program) (w : World) (K : PySem.W.Frag) (mg : Str → Option Value) (base : Heap) (CX : CXT) (k : Nat) (C : Addr) (m : Str) (sp : Sp) : Prop where
  ex : ∃ (f : Addr) (fd : FuncData) (ps : List Str), PySem.W.findIn K (.ref C) m = some (some (.ref f)) ∧ PySem.W.isFn K (.ref f) = true ∧ FnOk P w K mg base CX k f fd ps sp ∧ Binds K fd ps []
section
variable {X : Cx} {CX : CXT} {k : Nat} {C a dx : Addr} {sp : Sp} {fs : List (Str × V)} {y : V} {u tb : Value} {pins : List (Addr × Obj)} {σ : L2.St} {H : Hp} {s : Shared} {Q : VK}
/-- a def runs, somewhere below the body; it lets nothing out -/
theorem run_in {f : Addr} {fd : FuncData} {ps : List Str} {us : List Value} {vs : List V} {E' : Value → Shared → Prop} {A : Around} (F : FnOk X.prog X.w X.K X.mg X.base CX k f fd ps sp) (hr : Room k A) (hA : Env0 X.prog X.w X.K X.mg X.base A X.stack s H) (hb : Binds X.K fd ps []) (hx : NoEx CX)
    (I : Inv X pins σ H s) (r : Vals vs us) (h : sp vs H Q C8.E0) : wpAny (model X.prog X.w) A (call (.ref f) us) (EP X pins σ Q) E' s := by
  have hl : us.length = ps.length := by
    rw [← r.length]
    exact F.len _ _ _ _ h
  have b := hb s us I.kIn (by rw [List.append_nil]; exact hl)
  rw [List.append_nil] at b
  refine wpAny_call (codeAny_mono (F.run A X.stack s H ⟨us, []⟩ us vs Q C8.E0 hr hA b r h) fun r s' hq => ?_)
  cases r with
  | error e => exact (hx _ _ _ _ _ hq).elim
  | ok fl =>
    cases fl with
    | ret u => exact I.after hq
    | next => exact hq.elim
    | brk => exact hq.elim
    | cont => exact hq.elim
/-- x == y, x an own object -/
def rOwnEq (K : PySem.W.Frag) (C : Addr) (sp : Sp) : R2 := fun x y H Q => ∃ (a dx : Addr) (fs : List (Str × V)) (tb : Value), x = .ref a ∧ H a = some (.ins C dx fs) ∧ TyX K H y tb ∧ PySem.W.notFirst K C tb = true ∧ sp [x, y] H (fun v H' => ∃ b, v = .bl b ∧ Q (.bl b) H') C8.E0
theorem op_ownEq (M : OwnM X.prog X.w X.K X.mg X.base CX k C "__eq__" sp) (hr : Room k X.A) (hx : NoEx CX) : OpR X (compareOp .Eq) (rOwnEq X.K C sp) := by
  intro pins s σ H x y v u Q I rx ry h
  obtain ⟨a, dx, fs, tb, rfl, ha, ty, hn, q⟩ := h
  obtain ⟨f, fd, ps, hs, hf, F, hb⟩ := M.ex
  cases (show v = Value.ref a from rx)
  obtain ⟨mA, J, _⟩ := ins_get I.hok ha
  obtain ⟨od, J, _⟩ := J.look
  obtain ⟨m, hF⟩ := I.fr
  obtain ⟨P', Z, p, _⟩ := kit_of I ry ty
  show wpAny (model X.prog X.w) X.A (richCompare .Eq (.ref a) u) (EP X pins σ Q) X.xe s
  refine PySem.W.cmp_K (op := .Eq) hr.units0 hF I.ok.mod.kin J (Z.ty _ _ I.kIn p) hn hs hf (wpAny_mono (run_in F hr I.env0 hb hx I (show Vals [V.ref a, y] [Value.ref a, u] from .cons rfl (.cons ry .nil)) q) (fun v s' z => ?_) fun _ _ x => x)
  obtain ⟨x, H', I', rv, b, rfl, q'⟩ := z
  cases (show v = Value.bool b from rv)
  exact ⟨.bl b, H', I', rfl, q'⟩
/-- x != y by object.__ne__, which asks x's own == -/
def rOwnNe (K : PySem.W.Frag) (C : Addr) (sp : Sp) : R2 := fun x y H Q => ∃ (a dx : Addr) (fs : List (Str × V)) (tb : Value), x = .ref a ∧ H a = some (.ins C dx fs) ∧ TyX K H y tb ∧ PySem.W.notFirst K C tb = true ∧ sp [x, y] H (fun v H' => ∃ b, v = .bl b ∧ Q (.bl (!b)) H') C8.E0
theorem op_ownNe (M : OwnM X.prog X.w X.K X.mg X.base CX k C "__eq__" sp) (hr : Room (k + 1) X.A) (hx : NoEx CX) (hne : PySem.W.findIn X.K (.ref C) "__ne__" = some (some (.builtin "object.__ne__"))) (hob : PySem.W.mroIn X.K C (.type "object") = some true) :
    OpR X (compareOp .NotEq) (rOwnNe X.K C sp) := by
  intro pins s σ H x y v u Q I rx ry h
  obtain ⟨a, dx, fs, tb, rfl, ha, ty, hn, q⟩ := h
  obtain ⟨f, fd, ps, hs, hf, F, hb⟩ := M.ex
  cases (show v = Value.ref a from rx)
  obtain ⟨mA, J, _⟩ := ins_get I.hok ha
  obtain ⟨od, J, _⟩ := J.look
  obtain ⟨P', Z, p, _⟩ := kit_of I ry ty
  have hbT := Z.ty (model X.prog X.w) s.heap I.kIn p
  have X0 := I.kIn
  have one : wpAny (model X.prog X.w) X.A (tryCompare (.ref a) "__ne__" u) (fun r s' => ∃ v, r = some v ∧ EP X pins σ Q v s') X.xe s := by
    unfold tryCompare
    have sp : PySem.W.Looks (model X.prog X.w) s.heap (specialOf (.ref a) "__ne__") (some (.builtin "object.__ne__")) := J.type.andThen (PySem.W.looks_findIn X0 hne)
    have iv : PySem.W.Looks (model X.prog X.w) s.heap (isInstance (.ref a) (.type "object")) true := J.type.andThen (PySem.W.looks_mroIn X0 hob)
    refine wpAny_bind (NtL.csib (E := X.xe) sp (PySem.F.cmp_object.ne.bind _) ?_)
    refine wpAny_call (codeAny_call_builtin PySem.F.cmp_object.ne.plain PySem.F.cmpEntry_ne (PySem.W.check_slot PySem.F.cmpKind_ne PySem.F.cmpSplit_ne iv (PySem.F.cmpArgs_ne _ _) ?_))
    have hu : X.A.in1.units < cLine := hr.in1.units0
    unfold Builtin.«object.__ne__»
    repeat (first
      | with_reducible refine wpAny_cRoomFor hu ?_
      | (refine wpAny_bind (m := callSpecialIfBound? (.ref a) (Str.ofString "__eq__") [u]) (PySem.W.ifBound_K X0 J hs hf (wpAny_mono (run_in (E' := fun _ _ => False) F hr.in1 I.env0.in1 hb hx I (show Vals [V.ref a, y] [Value.ref a, u] from .cons rfl (.cons ry .nil)) q) (fun v s' z => ?_) fun _ _ x => x.elim)))
      | wp_step)
    obtain ⟨x, H', I', rv, b, rfl, q'⟩ := z
    cases (show v = Value.bool b from rv)
    show wpAny _ _ (truthy (.bool b) >>= _) _ _ _
    refine wpAny_bind (wpAny_truthy_bool ?_)
    exact wpAny_pure (wpAny_pure ⟨_, rfl, .bl (!b), H', I', rfl, q'⟩)
  show wpAny (model X.prog X.w) X.A (richCompare .NotEq (.ref a) u) (EP X pins σ Q) X.xe s
  unfold richCompare
  simp only [oneThing_ref]
  refine wpAny_holding (wpAny_bind (wpAny_cRoomFor hr.units0 ?_))
  refine wpAny_bind (J.type.here (wpAny_bind (hbT.here ?_)))
  split
  · rename_i z
    have e : PySem.W.subIn X.K tb (.ref C) = some false := by
      rcases Bool.or_eq_true_iff.mp hn with e | e
      · rw [beq_iff_eq.mp e] at z
        simp at z
      · exact beq_iff_eq.mp e
    refine wpAny_bind ((PySem.W.looks_subIn X0 e).here ?_)
    simp only [Bool.false_eq_true, if_false]
    refine wpAny_bind (wpAny_mono one (fun r s' z => ?_) fun _ _ e => e)
    obtain ⟨v, rfl, hq⟩ := z
    exact wpAny_pure hq
  · refine wpAny_bind (wpAny_pure ?_)
    simp only [Bool.false_eq_true, if_false]
    refine wpAny_bind (wpAny_mono one (fun r s' z => ?_) fun _ _ e => e)
    obtain ⟨v, rfl, hq⟩ := z
    exact wpAny_pure hq
/-- -x -/
def rOwnNeg (C : Addr) (sp : Sp) : V → Hp → VK → Prop := fun x H Q => ∃ (a dx : Addr) (fs : List (Str × V)), x = .ref a ∧ H a = some (.ins C dx fs) ∧ sp [x] H Q C8.E0
theorem un_ownNeg (M : OwnM X.prog X.w X.K X.mg X.base CX k C "__neg__" sp) (hr : Room k X.A) (hx : NoEx CX) : UnR X (unaryOp .USub) (rOwnNeg C sp) := by
  intro pins s σ H x v Q I rx h
  obtain ⟨a, dx, fs, rfl, ha, q⟩ := h
  obtain ⟨f, fd, ps, hs, hf, F, hb⟩ := M.ex
  cases (show v = Value.ref a from rx)
  obtain ⟨mA, J, _⟩ := ins_get I.hok ha
  obtain ⟨od, J, _⟩ := J.look
  obtain ⟨m, hF⟩ := I.fr
  exact PySem.W.ksp_neg hF I.ok.mod.kin J hs hf (run_in F hr I.env0 hb hx I (show Vals [V.ref a] [Value.ref a] from .cons rfl .nil) q)
end
end Fk
namespace PySem.W
open PySem PySem.Spec PyProof.Rows
section
variable {prog : Program} {w : World} {A : Around} {E : Value → Shared → Prop} {s : Shared} {K : Frag} {x C L f : Addr} {h₀ : Heap} {m : Str → Option Value} {ox : Obj} {od : Option Obj} {nm T : String}
theorem fk_binT {op : Operator} {b : Value} {fo ro rc : Option Value} {Q : Value → Shared → Prop} (F : Fr h₀ L s.heap m) (X₀ : K.In h₀) (I : InstAt s.heap x ox C od) (hb : Looks (model prog w) s.heap (typeOf b) (.type T)) (hc : selfFirst K C = true)
    (hs : findIn K (.ref C) (PySem.dunder op.info.2) = some (some (.ref f))) (hf : isFn K (.ref f) = true) (hr : findIn K (.ref C) (dunderR op.info.2) = some rc) (hp : rc = none ∨ ∃ g : Addr, rc = some (.ref g))
    (h1 : findIn K (.type T) (PySem.dunder op.info.2) = some fo) (h2 : findIn K (.type T) (dunderR op.info.2) = some ro) (hsub : subIn K (.type T) (.ref C) = some false)
    (h : wpAny (model prog w) A (call (.ref f) [.ref x, b]) (CmpBack Q) E s) : wpAny (model prog w) A (binaryOp op (.ref x) b) Q E s := by
  have X := X₀.keeps F.keep
  obtain ⟨cd, rest, hcd, hm⟩ := ksp_first hc
  rcases hi : op.info with ⟨sym, nm'⟩
  rw [hi] at hs hr h1 h2
  dsimp only at hs hr h1 h2
  have one := ksp_try X I hs hf h
  obtain ⟨hh, g, d, tt, os⟩ := s
  have L1 : Looks (model prog w) hh (typeOf (.ref x)) (.ref C) := I.type
  have L2 : Looks (model prog w) hh (typeOf b) (.type T) := hb
  have L3 : Looks (model prog w) hh (fillsNumberSlot (.ref C) nm') true := fills_K X hcd hm hs
  have L4 : Looks (model prog w) hh (fillsNumberSlot (.type T) nm') ((fo.isSome && !isSeqSlot fo) || (ro.isSome && !isSeqSlot ro)) := ksp_fillsT X h1 h2
  have L5 : Looks (model prog w) hh (isSubtype (.type T) (.ref C)) false := looks_subIn X hsub
  have L6 : Looks (model prog w) hh (numberSlotInPython (.ref C) nm') true := ksp_inPy X hs hr hp
  have L7 : Looks (model prog w) hh (numberSlotInPython (.type T) nm') false := Looks.of_pure rfl
  have L8 : Looks (model prog w) hh (typeLookup (.type T) (dunderR nm')) ro := looks_findIn X h2
  generalize ((fo.isSome && !isSeqSlot fo) || (ro.isSome && !isSeqSlot ro)) = right at L4
  have hne : (Value.ref C == Value.type T) = false := Bool.eq_false_iff.mpr fun q => by cases beq_iff_eq.mp q
  simp only [binaryOp, hi]
  refine wpAny_holding (wpAny_bind ?_)
  unfold binaryOp1
  refine wpAny_bind (L1.at (wpAny_bind (L2.at (wpAny_bind (L3.at ?_)))))
  simp only [hne, Bool.false_eq_true, if_false]
  cases right with
  | false =>
    ksp_lk
    refine wpAny_mono one (fun r s' hr' => ?_) fun _ _ e => e
    obtain ⟨v, rfl, hq⟩ := hr'
    ksp_lk
    exact hq
  | true =>
    ksp_lk
    refine wpAny_mono one (fun r s' hr' => ?_) fun _ _ e => e
    obtain ⟨v, rfl, hq⟩ := hr'
    ksp_lk
    exact hq
end
end PySem.W
namespace Fk
open PySem PySem.Spec PyProof.Rows L2
/-- what is asked of a class for its + -/
structure AddF (K : PySem.W.Frag) (C : Addr) : Prop where
  first : PySem.W.selfFirst K C = true
  noR : PySem.W.findIn K (.ref C) "__radd__" = some none
/-- what may stand on the right of an own + -/
inductive RightOf (K : PySem.W.Frag) (H : Hp) (C : Addr) : V → Prop where
  | ins {b dy : Addr} {gs : List (Str × V)} (h : H b = some (.ins C dy gs)) : RightOf K H C (.ref b)
  | ty {y : V} {T : String} {fo ro : Option Value} (h : TyX K H y (.type T)) (h1 : PySem.W.findIn K (.type T) "__add__" = some fo) (h2 : PySem.W.findIn K (.type T) "__radd__" = some ro) (hs : PySem.W.subIn K (.type T) (.ref C) = some false) : RightOf K H C y
/-- x + y by x's own +: what may be let out is E, at the slots; the answer is an object -/
def tOwnAdd (K : PySem.W.Frag) (C : Addr) (sp : Sp) (E : L2.St → XK) (ta tb : TE) : TE := fun σ H Q => ta σ H fun x H1 => tb σ H1 fun y H2 => ∃ (a dx : Addr) (fs : List (Str × V)), x = .ref a ∧ H2 a = some (.ins C dx fs) ∧ RightOf K H2 C y ∧
  sp [x, y] H2 (fun v H' => ∃ b, v = .ref b ∧ Q v H') (E σ)
theorem pe_ownAdd {X : Cx} {CX : CXT} {k : Nat} {C : Addr} {sp : Sp} {E : L2.St → XK} {a b : Expr} {ta tb : TE} {pos : Pos} (M : OwnM X.prog X.w X.K X.mg X.base CX k C "__add__" sp) (T : AddF X.K C) (hr : Room k X.A) (hx : ∀ σ, PassesAt CX X σ (E σ)) (ha : PE X a ta) (hb : PE X b tb) :
    PE X (.BinOp a .Add b pos) (tOwnAdd X.K C sp E ta tb) := by
  refine ⟨fun pins s σ H Q I h => ?_⟩
  refine wpAny_BinOp (binT ha hb I h fun v u s2 x y H2 I2 rx ry q => ?_)
  obtain ⟨a, dx, fs, rfl, ea, ri, q⟩ := q
  obtain ⟨f, fd, ps, hs, hf, F, hb⟩ := M.ex
  cases (show v = Value.ref a from rx)
  obtain ⟨mA, J, _⟩ := ins_get I2.hok ea
  obtain ⟨od, J, _⟩ := J.look
  obtain ⟨m, hF⟩ := I2.fr
  have go : wpAny (model X.prog X.w) X.A (call (.ref f) [.ref a, u]) (PySem.W.CmpBack (EP X pins σ Q)) X.xe s2 := by
    refine wpAny_mono (run_fnS F hr hb (hx σ) I2 (show Vals [V.ref a, y] [Value.ref a, u] from .cons rfl (.cons ry .nil)) q) (fun v s' z => ?_) fun _ _ e => e
    obtain ⟨x, H', I', rv, b, rfl, q'⟩ := z
    cases (show v = Value.ref b from rv)
    exact ⟨.ref b, H', I', rfl, q'⟩
  cases ri with
  | @ins b dy gs eb =>
    cases (show u = Value.ref b from ry)
    obtain ⟨mB, J', _⟩ := ins_get I2.hok eb
    obtain ⟨od', J', _⟩ := J'.look
    exact PySem.W.binop_K (op := .Add) hF I2.ok.mod.kin J J'.type T.first hs hf go
  | @ty _ T' fo ro ty h1 h2 hsb =>
    obtain ⟨P', Z, p, _⟩ := kit_of I2 ry ty
    exact PySem.W.fk_binT (op := .Add) hF I2.ok.mod.kin J (Z.ty _ _ I2.kIn p) T.first hs hf T.noR (.inl rfl) h1 h2 hsb go
end Fk

set_option maxHeartbeats 4000000
/-! len, in, [] of an own class; methods that may raise, in a try and out of it; classes made. -/
namespace Fk
open PySem PySem.Spec PyProof.Rows L2
section
variable {X : Cx} {CX : CXT} {k : Nat} {C : Addr} {sp : Sp}
/-- len(x) -/
theorem call_ownLen (M : OwnM X.prog X.w X.K X.mg X.base CX k C "__len__" sp) (hr : Room (k + 1) X.A) (hx : NoEx CX) :
    CallR X (.builtin "len") (fun xs H Q => ∃ (a dx : Addr) (fs : List (Str × V)), xs = [.ref a] ∧ H a = some (.ins C dx fs) ∧ sp xs H (fun v H' => ∃ n : Nat, v = .int n ∧ n ≤ 1000000 ∧ Q v H') C8.E0) := by
  intro pins s σ H xs us Q I r h
  obtain ⟨a, dx, fs, rfl, ha, q⟩ := h
  obtain ⟨u, rfl, ru⟩ := vals1 r
  cases (show u = Value.ref a from ru)
  obtain ⟨f, fd, ps, hs, hf, F, hb⟩ := M.ex
  obtain ⟨mA, J, _⟩ := ins_get I.hok ha
  obtain ⟨od, J, _⟩ := J.look
  obtain ⟨m, hF⟩ := I.fr
  refine PySem.W.len_K hF I.ok.mod.kin J hs hf (wpAny_mono (run_in F hr.in1 I.env0.in1 hb hx I (show Vals [V.ref a] [Value.ref a] from .cons rfl .nil) q) (fun v s' z => ?_) fun _ _ x => x)
  obtain ⟨x, H', I', rv, n, rfl, hn, q'⟩ := z
  obtain ⟨t, rfl⟩ := (show ∃ t, v = Value.int n t from rv)
  exact ⟨⟨by omega, by omega⟩, .int n, H', I'.tok _, ⟨_, rfl⟩, q'⟩
/-- y in x, y not in x -/
def rOwnIn (C : Addr) (sp : Sp) : R2 := fun y x H Q => ∃ (a dx : Addr) (fs : List (Str × V)), x = .ref a ∧ H a = some (.ins C dx fs) ∧ sp [x, y] H (fun v H' => ∃ b, v = .bl b ∧ Q (.bl b) H') C8.E0
def rOwnNotIn (C : Addr) (sp : Sp) : R2 := fun y x H Q => ∃ (a dx : Addr) (fs : List (Str × V)), x = .ref a ∧ H a = some (.ins C dx fs) ∧ sp [x, y] H (fun v H' => ∃ b, v = .bl b ∧ Q (.bl (!b)) H') C8.E0
theorem op_ownIn (M : OwnM X.prog X.w X.K X.mg X.base CX k C "__contains__" sp) (hr : Room k X.A) (hx : NoEx CX) : OpR X (compareOp .In) (rOwnIn C sp) := by
  intro pins s σ H y x u v Q I ry rx h
  obtain ⟨a, dx, fs, rfl, ha, q⟩ := h
  cases (show v = Value.ref a from rx)
  obtain ⟨f, fd, ps, hs, hf, F, hb⟩ := M.ex
  obtain ⟨mA, J, _⟩ := ins_get I.hok ha
  obtain ⟨od, J, _⟩ := J.look
  obtain ⟨m, hF⟩ := I.fr
  refine PySem.W.in_K hF I.ok.mod.kin J hs hf (wpAny_mono (run_in F hr I.env0 hb hx I (show Vals [V.ref a, y] [Value.ref a, u] from .cons rfl (.cons ry .nil)) q) (fun v s' z => ?_) fun _ _ x => x)
  obtain ⟨x, H', I', rv, b, rfl, q'⟩ := z
  cases (show v = Value.bool b from rv)
  exact wpAny_truthy_bool ⟨.bl b, H', I', rfl, q'⟩
theorem op_ownNotIn (M : OwnM X.prog X.w X.K X.mg X.base CX k C "__contains__" sp) (hr : Room k X.A) (hx : NoEx CX) : OpR X (compareOp .NotIn) (rOwnNotIn C sp) := by
  intro pins s σ H y x u v Q I ry rx h
  obtain ⟨a, dx, fs, rfl, ha, q⟩ := h
  cases (show v = Value.ref a from rx)
  obtain ⟨f, fd, ps, hs, hf, F, hb⟩ := M.ex
  obtain ⟨mA, J, _⟩ := ins_get I.hok ha
  obtain ⟨od, J, _⟩ := J.look
  obtain ⟨m, hF⟩ := I.fr
  refine PySem.W.notIn_K hF I.ok.mod.kin J hs hf (wpAny_mono (run_in F hr I.env0 hb hx I (show Vals [V.ref a, y] [Value.ref a, u] from .cons rfl (.cons ry .nil)) q) (fun v s' z => ?_) fun _ _ x => x)
  obtain ⟨x, H', I', rv, b, rfl, q'⟩ := z
  cases (show v = Value.bool b from rv)
  exact wpAny_truthy_bool ⟨.bl (!b), H', I', rfl, q'⟩
end
/-- a method of an own class with its defaults -/
structure MetX (P : Program) (w : World) (K : PySem.W.Frag) (mg : Str → Option Value) (base : Heap) (CX : CXT) (k : Nat) (C : Addr) (m : Str) (sp : Sp) (dvs : List V) : Prop where
  ex : ∃ (f : Addr) (fd : FuncData) (ps : List Str) (ds : List Value), Cls K C ∧ Meth K C m f ∧ FnOk P w K mg base CX k f fd ps sp ∧ Binds K fd ps ds ∧ Vals dvs ds
/-- a class that may be made -/
structure MakX (P : Program) (w : World) (K : PySem.W.Frag) (mg : Str → Option Value) (base : Heap) (CX : CXT) (k : Nat) (x : Str) (C : Addr) (sp : Sp) (dvs : List V) : Prop where
  ex : ∃ (f : Addr) (fd : FuncData) (ps : List Str) (ds : List Value), Mk K C f ∧ FnOk P w K mg base CX k f fd ps sp ∧ mg x = some (.ref C) ∧ Binds K fd ps ds ∧ Vals dvs ds
/-- a def that may raise -/
structure CalX (P : Program) (w : World) (K : PySem.W.Frag) (mg : Str → Option Value) (base : Heap) (CX : CXT) (k : Nat) (x : Str) (sp : Sp) (dvs : List V) : Prop where
  ex : ∃ (f : Addr) (fd : FuncData) (ps : List Str) (ds : List Value), FnOk P w K mg base CX k f fd ps sp ∧ mg x = some (.ref f) ∧ PySem.W.keepIn K (.ref f) = true ∧ Binds K fd ps ds ∧ Vals dvs ds
section
variable {X : Cx} {CX : CXT} {k j : Nat} {C : Addr} {sp : Sp} {dvs : List V} {m x : Str} {E : L2.St → XK} {o e : Expr} {es : List Expr} {ta : TE} {t : TA} {p pos apos : Pos}
theorem run_at {pins : List (Addr × Obj)} {σ : L2.St} {H : Hp} {s : Shared} {Q : VK} {f : Addr} {fd : FuncData} {ps : List Str} {us ds : List Value} {vs : List V} (F : FnOk X.prog X.w X.K X.mg X.base CX k f fd ps sp) (hr : Room k X.A) (hb : Binds X.K fd ps ds) (hd : Vals dvs ds) (hx : PassesAt CX X σ (E σ))
    (I : Inv X pins σ H s) (r : Vals vs us) (h : sp (vs ++ dvs) H Q (E σ)) : wpAny (model X.prog X.w) X.A (call (.ref f) us) (EP X pins σ Q) X.xe s := by
  have r2 : Vals (vs ++ dvs) (us ++ ds) := r.append hd
  have hl : (us ++ ds).length = ps.length := by
    rw [← r2.length]
    exact F.len _ _ _ _ h
  refine wpAny_call (codeAny_mono (F.run X.A X.stack s H ⟨us, []⟩ (us ++ ds) (vs ++ dvs) Q (E σ) hr I.env0 (hb s us I.kIn hl) r2 h) fun r s' hq => ?_)
  cases r with
  | error e => exact hx pins H s e s' I hq
  | ok fl =>
    cases fl with
    | ret u => exact I.after hq
    | next => exact hq.elim
    | brk => exact hq.elim
    | cont => exact hq.elim
/-- o.m(e, ..) -/
def tMx (C : Addr) (m : Str) (sp : Sp) (dvs : List V) (E : L2.St → XK) (ta : TE) (t : TA) : TE := fun σ H Q => ta σ H fun x H1 => ∃ (a dx : Addr) (fs : List (Str × V)), x = .ref a ∧ H1 a = some (.ins C dx fs) ∧ fs.lookup m = none ∧ t σ H1 fun vs H2 => sp (.ref a :: (vs ++ dvs)) H2 Q (E σ)
theorem pe_mx {pl : Sem Bool} (c : MetX X.prog X.w X.K X.mg X.base CX k C m sp dvs) (hr : Room j X.A) (hk : k ≤ j) (hx : ∀ σ, PassesAt CX X σ (E σ)) (he : PE X o ta) (ha : PA X (e :: es) t)
    (hst : starEach (e :: es) X.env = (false, eval e X.env) :: starEach es X.env := by rfl) (hpl : (backTo pos (starEach es X.env)).any (·.1) = false := by rfl)
    (ht : eval (.Call (.Attribute o m apos) (e :: es) [] pos) X.env = (do
      let ov ← eval o X.env
      standAt apos.atName
      let (f, first) ← holding [ov] (getMethod ov m pl)
      callWith pos f first (backTo pos (starEach (e :: es) X.env)) (backToKw pos (keywordEach [] X.env))) := by rfl) :
    PE X (.Call (.Attribute o m apos) (e :: es) [] pos) (tMx C m sp dvs E ta t) := by
  obtain ⟨f, fd, ps, ds, cl, hm, F, b, d⟩ := c.ex
  refine ⟨fun pins s σ H Q I h => ?_⟩
  refine PySem.W.methodCall_KW (pl := pl) (thn (he.run pins s σ H _ I h) fun u s1 ⟨x, H1, I1, rx, a, dx, fs, ex, ea, l, q⟩ => ?_) ht
  subst ex
  obtain rfl : u = Value.ref a := rx
  refine getmeth_ok I1 ea cl hm l ?_
  refine PySem.W.callWith_K (first := [.ref a]) (h₀ := X.base) I.ok.mod.kin hm.kp (thn (ha.run pos pins s1 σ H1 _ I1 q) fun us s2 ⟨vs, H2, I2, r, q2⟩ => ⟨I2.kIn, ?_⟩) hst hpl
  exact run_at (us := .ref a :: us) (vs := .ref a :: vs) F (hr.mono hk) b d (hx σ) I2 (.cons rfl r) q2
theorem pe_mx0 {pl : Sem Bool} (c : MetX X.prog X.w X.K X.mg X.base CX k C m sp dvs) (hr : Room j X.A) (hk : k ≤ j) (hx : ∀ σ, PassesAt CX X σ (E σ)) (he : PE X o ta)
    (ht : eval (.Call (.Attribute o m apos) [] [] pos) X.env = (do
      let ov ← eval o X.env
      standAt apos.atName
      let (f, first) ← holding [ov] (getMethod ov m pl)
      callWith pos f first (backTo pos (starEach [] X.env)) (backToKw pos (keywordEach [] X.env))) := by rfl) :
    PE X (.Call (.Attribute o m apos) [] [] pos) (tMx C m sp dvs E ta tNil) := by
  obtain ⟨f, fd, ps, ds, cl, hm, F, b, d⟩ := c.ex
  refine ⟨fun pins s σ H Q I h => ?_⟩
  refine PySem.W.methodCall_KW (pl := pl) (thn (he.run pins s σ H _ I h) fun u s1 ⟨x, H1, I1, rx, a, dx, fs, ex, ea, l, q⟩ => ?_) ht
  subst ex
  obtain rfl : u = Value.ref a := rx
  refine getmeth_ok I1 ea cl hm l ?_
  exact PySem.W.callWith_K0 (first := [.ref a]) I1.kIn hm.kp (run_at (us := [.ref a]) (vs := [.ref a]) F (hr.mono hk) b d (hx σ) I1 (.cons rfl .nil) q)
/-- a def by its name -/
def tCx (sp : Sp) (dvs : List V) (E : L2.St → XK) (t : TA) : TE := fun σ H Q => t σ H fun vs H1 => sp (vs ++ dvs) H1 Q (E σ)
theorem pe_cx (c : CalX X.prog X.w X.K X.mg X.base CX k x sp dvs) (hr : Room j X.A) (hk : k ≤ j) (hx : ∀ σ, PassesAt CX X σ (E σ)) (hg : Gl X x) (ha : PA X (e :: es) t)
    (hdb : (x == ("__debug__" : Str)) = false := by decide) (he : starEach (e :: es) X.env = (false, eval e X.env) :: starEach es X.env := by rfl) (hpl : (backTo pos (starEach es X.env)).any (·.1) = false := by rfl) :
    PE X (.Call (.Name x p) (e :: es) [] pos) (tCx sp dvs E t) := by
  obtain ⟨f, fd, ps, ds, F, hm, kp, b, d⟩ := c.ex
  refine ⟨fun pins s σ H Q I h => ?_⟩
  refine wpAny_Call_Name_kw (ld_glob I hg hm ?_ hdb)
  refine PySem.W.callWith_K (h₀ := X.base) I.ok.mod.kin kp (thn (ha.run pos pins s σ H _ I h) fun us s1 ⟨vs, H1, I1, r, q⟩ => ⟨I1.kIn, ?_⟩) he hpl
  exact run_at F (hr.mono hk) b d (hx σ) I1 r q
end
end Fk

set_option maxHeartbeats 4000000
/-! x != y of objects of one class without an own ==: whether they are two. -/
namespace Fk
open PySem PySem.Spec PyProof.Rows L2
structure PlainEq (K : PySem.W.Frag) (C : Addr) : Prop where
  ne : PySem.W.findIn K (.ref C) "__ne__" = some (some (.builtin "object.__ne__"))
  eq : PySem.W.findIn K (.ref C) "__eq__" = some (some (.builtin "object.__eq__"))
  ob : PySem.W.mroIn K C (.type "object") = some true
def rIdNe (C : Addr) : R2 := fun x y H Q => ∃ (a b dx dy : Addr) (fs gs : List (Str × V)), x = .ref a ∧ y = .ref b ∧ H a = some (.ins C dx fs) ∧ H b = some (.ins C dy gs) ∧ Q (.bl (!decide (a = b))) H
section
variable {X : Cx} {C : Addr}
theorem idEq {pins : List (Addr × Obj)} {σ : L2.St} {H : Hp} {s : Shared} {A : Around} {E : Value → Shared → Prop} {a b dx dy : Addr} {fs gs : List (Str × V)} {Q : Option Value → Shared → Prop} (T : PlainEq X.K C) (I : Inv X pins σ H s) (ha : H a = some (.ins C dx fs)) (hb : H b = some (.ins C dy gs))
    (h : Q (some (if a = b then .bool true else .notImplemented)) s) : wpAny (model X.prog X.w) A (callSpecialIfBound? (.ref a) "__eq__" [.ref b]) Q E s := by
  obtain ⟨mA, J, _⟩ := ins_get I.hok ha
  obtain ⟨od, J, _⟩ := J.look
  obtain ⟨mB, J', _⟩ := ins_get I.hok hb
  obtain ⟨od', J', _⟩ := J'.look
  have sp : PySem.W.Looks (model X.prog X.w) s.heap (specialOf (.ref a) "__eq__") (some (.builtin "object.__eq__")) := J.type.andThen (PySem.W.looks_findIn I.kIn T.eq)
  have iv : PySem.W.Looks (model X.prog X.w) s.heap (isInstance (.ref a) (.type "object")) true := J.type.andThen (PySem.W.looks_mroIn I.kIn T.ob)
  refine NtL.csib (E := E) sp (PySem.F.cmp_object.eq.bind _) ?_
  refine wpAny_call (codeAny_call_builtin PySem.F.cmp_object.eq.plain PySem.F.cmpEntry_eq (PySem.W.check_slot PySem.F.cmpKind_eq PySem.F.cmpSplit_eq iv (PySem.F.cmpArgs_eq _ _) ?_))
  by_cases e : a = b
  · subst e
    rw [if_pos rfl] at h
    exact objEq_entry_same h
  · rw [if_neg e] at h
    exact objEq_entry_other e J.at_ J'.at_ (by rw [J.cls]; intro z; cases z) h
theorem idNe {pins : List (Addr × Obj)} {σ : L2.St} {H : Hp} {s : Shared} {A : Around} {E : Value → Shared → Prop} {a b dx dy : Addr} {fs gs : List (Str × V)} {Q : Option Value → Shared → Prop} (T : PlainEq X.K C) (hu : A.units + 1 < cLine) (I : Inv X pins σ H s) (ha : H a = some (.ins C dx fs)) (hb : H b = some (.ins C dy gs))
    (h : Q (if a = b then some (.bool false) else none) s) : wpAny (model X.prog X.w) A (tryCompare (.ref a) "__ne__" (.ref b)) Q E s := by
  obtain ⟨mA, J, _⟩ := ins_get I.hok ha
  obtain ⟨od, J, _⟩ := J.look
  have sp : PySem.W.Looks (model X.prog X.w) s.heap (specialOf (.ref a) "__ne__") (some (.builtin "object.__ne__")) := J.type.andThen (PySem.W.looks_findIn I.kIn T.ne)
  have iv : PySem.W.Looks (model X.prog X.w) s.heap (isInstance (.ref a) (.type "object")) true := J.type.andThen (PySem.W.looks_mroIn I.kIn T.ob)
  have hu' : A.in1.units < cLine := hu
  unfold tryCompare
  refine wpAny_bind (NtL.csib (E := E) sp (PySem.F.cmp_object.ne.bind _) ?_)
  refine wpAny_call (codeAny_call_builtin PySem.F.cmp_object.ne.plain PySem.F.cmpEntry_ne (PySem.W.check_slot PySem.F.cmpKind_ne PySem.F.cmpSplit_ne iv (PySem.F.cmpArgs_ne _ _) ?_))
  unfold Builtin.«object.__ne__»
  repeat (first
    | with_reducible refine wpAny_cRoomFor hu' ?_
    | (refine wpAny_bind (m := callSpecialIfBound? (.ref a) (Str.ofString "__eq__") [.ref b]) (idEq T I ha hb ?_))
    | wp_step)
  by_cases e : a = b
  · rw [if_pos e] at h ⊢
    show wpAny _ _ (truthy (.bool true) >>= _) _ _ _
    refine wpAny_bind (wpAny_truthy_bool ?_)
    exact wpAny_pure (wpAny_pure h)
  · rw [if_neg e] at h ⊢
    exact wpAny_pure (wpAny_pure h)
theorem op_idNe (T : PlainEq X.K C) (hu : X.A.units + 1 < cLine) : OpR X (compareOp .NotEq) (rIdNe C) := by
  intro pins s σ H x y v u Q I rx ry h
  obtain ⟨a, b, dx, dy, fs, gs, rfl, rfl, ha, hb, q⟩ := h
  cases (show v = Value.ref a from rx)
  cases (show u = Value.ref b from ry)
  obtain ⟨mA, J, _⟩ := ins_get I.hok ha
  obtain ⟨od, J, _⟩ := J.look
  obtain ⟨mB, J', _⟩ := ins_get I.hok hb
  obtain ⟨od', J', _⟩ := J'.look
  show wpAny (model X.prog X.w) X.A (richCompare .NotEq (.ref a) (.ref b)) (EP X pins σ Q) X.xe s
  unfold richCompare
  simp only [oneThing_ref]
  refine wpAny_holding (wpAny_bind (wpAny_cRoomFor (by omega) ?_))
  refine wpAny_bind (J.type.here (wpAny_bind (J'.type.here ?_)))
  simp only [bne_self_eq_false, Bool.false_eq_true, if_false]
  refine wpAny_bind (wpAny_pure ?_)
  simp only [Bool.false_eq_true, if_false]
  refine wpAny_bind (idNe (E := X.xe) T hu I ha hb ?_)
  by_cases e : a = b
  · rw [if_pos e]
    exact wpAny_pure ⟨.bl false, H, I, rfl, by simpa [e] using q⟩
  · rw [if_neg e]
    simp only [Bool.not_false, if_true]
    refine wpAny_bind (idNe (E := X.xe) T hu I hb ha ?_)
    rw [if_neg (fun z => e z.symm)]
    refine wpAny_bind (m := isSame (.ref a) (.ref b)) (wpAny_isSame_ref_other e J.at_ J'.at_ (by rw [J.cls]; intro z; cases z) ?_)
    exact wpAny_pure ⟨.bl true, H, I, rfl, by simpa [e] using q⟩
end
end Fk

set_option maxHeartbeats 4000000
/-! dict(d); a displayed dict of ** alone. -/
namespace Fk
open PySem PySem.Spec PyProof.Rows L2
theorem call_dictC {X : Cx} : CallR X (.type "dict") (fun xs H Q => ∃ a kvs, xs = [.ref a] ∧ Rd H a (.dK kvs) ∧ ∀ p, H p = none → Q (.ref p) (upd H p (.dK kvs))) := by
  intro pins s σ H xs us Q I r h
  obtain ⟨a, kvs, rfl, e, q⟩ := h
  obtain ⟨u, rfl, ru⟩ := vals1 r
  cases (show u = Value.ref a from ru)
  exact d_copyOf I e fun p s' hp I' => ⟨.ref p, _, I', rfl, q p hp⟩
section
variable {prog : Program} {w : World} {K : Type} [DecidableEq K] {knd : KeyKind prog w K} {A : Around} {E : Value → Shared → Prop} {s : Shared}
theorem wpAny_dictPut {d : Addr} {kvs : List (K × Value)} {k : K} {key v : Value} {Q : Unit → Shared → Prop} (hkey : knd.is k key = true) (hm : s.heap.DictOf knd d kvs)
    (hQ : ∀ h', h'.DictOf knd d (stored kvs k v) → Heap.SameBut d s.heap h' → Q () { s with heap := h' }) (hsz : kvs.length ≤ sizeLine) :
    wpAny (model prog w) A (dictPut d (knd.hash k) key v) Q E s := by
  obtain ⟨o, es, ep, ho, hc, hd, hk, hp, hn⟩ := hm
  have hes : es.size ≤ sizeLine := by
    have e1 := hp.length
    have e2 : es.toList.length = es.size := by simp
    omega
  unfold dictPut
  try with_reducible refine wpAny_holding ?_
  refine wpAny_bind (wpAny_dictFind_of hkey ho hd hk ?_)
  have hidx : (es.findIdx? fun e => knd.is k e.key) = kvs.findIdx? fun kv => decide (kv.1 = k) := by
    rw [← hp.findIdx k]; obtain ⟨l⟩ := es; simp
  cases hi : es.findIdx? fun e => knd.is k e.key with
  | some i =>
    refine (wpAny_updateDict ho hd (hQ _ ⟨_, _, ep, Heap.get?_update_self _ ho (Obj.isFreed_of_dict (Obj.data_mapDict hd _)),
      hc.mapDict _, Obj.data_mapDict hd _, hk.modify _ _, ?_, ?_⟩ (Heap.SameBut.update ..)))
    · rw [stored, if_pos (any_of_findIdx_some (hidx ▸ hi))]
      have hl : (es.toList.findIdx? fun e => knd.is k e.key) = some i := by rw [← hi]; obtain ⟨l⟩ := es; simp
      have := hp.modify hn hl v
      obtain ⟨l⟩ := es
      simpa using this
    · rw [stored, if_pos (any_of_findIdx_some (hidx ▸ hi)), keys_map_store]; exact hn
  | none =>
    have hnot : k ∉ kvs.map (·.1) := not_mem_of_findIdx_none (hidx ▸ hi)
    have hany : ¬ (kvs.any fun kv => decide (kv.1 = k)) = true := by
      rw [List.any_eq_true]; rintro ⟨kv, hkv, he⟩
      exact hnot (List.mem_map.mpr ⟨kv, hkv, of_decide_eq_true he⟩)
    refine (wpAny_updateDictKeys (hz := hes) ho hd (hQ _ ⟨_, _, ep + 1, Heap.get?_update_self _ ho (Obj.isFreed_of_dict (Obj.data_mapDictKeys hd _)),
      hc.mapDictKeys _, Obj.data_mapDictKeys hd _, hk.push hkey _, ?_, ?_⟩ (Heap.SameBut.update ..)))
    · rw [stored, if_neg hany]
      have := hp.append hkey (knd.hash k) v
      obtain ⟨l⟩ := es
      simpa using this
    · rw [stored, if_neg hany, List.map_append, List.nodup_append]
      refine ⟨hn, by simp, ?_⟩
      intro a ha b hb
      simp only [List.map_cons, List.map_nil, List.mem_singleton] at hb
      subst hb
      exact fun e => hnot (e ▸ ha)
theorem dict_iter : typeLookup (.type "dict") "__iter__" = pure (some (.builtin "dict.__iter__")) := by rw [typeLookup_type, builtinLookup_eq_fast]; kernel_rfl
theorem wpAny_mergeMapping {d o : Addr} {kvs more : List (K × Value)} {Q : Unit → Shared → Prop} (hkr : ∀ (k : K) (a : Addr), knd.is k (.ref a) = false) (hdo : d ≠ o) (hoS : (o == sysModules) = false)
    (hd : s.heap.DictOf knd d kvs) (ho : s.heap.DictOf knd o more)
    (hQ : ∀ h', h'.DictOf knd d (merged kvs more) → h'.DictOf knd o more → Heap.SameBut d s.heap h' → Q () { s with heap := h' })
    (hsz : kvs.length + more.length ≤ sizeLine) :
    wpAny (model prog w) A (mergeMapping d (.ref o) false) Q E s := by
  obtain ⟨od, esd, epd, hod, hcd, hdd, hkd, hpd, hnd⟩ := id hd
  obtain ⟨oo, eso, epo, hoo, hco, hdo', hko, hpo, hno⟩ := id ho
  have hlen : more.length = eso.size := by rw [← hpo.length]; simp
  have loop : wpAny (model prog w) A (do
      let epoch ← dictEpoch o
      forIn (List.range eso.size) PUnit.unit fun i (_ : PUnit) => (do
          let l' ← dictEntries o
          match l'[i]? with
            | some e => do
              holding [e.key, e.val] (dictPut d e.hash e.key e.val)
              let ep' ← dictEpoch o
              if (ep' != epoch) = true then do
                  (unsupported "dict.changed-during-merge" : Sem PUnit)
                  pure (ForInStep.yield PUnit.unit)
                else pure (ForInStep.yield PUnit.unit)
            | _ => do
              (unsupported "dict.changed-during-merge" : Sem PUnit)
              pure (ForInStep.yield PUnit.unit) : Sem (ForInStep PUnit))
      pure ()) Q E s := by
    refine wpAny_bind (wpAny_dictEpoch hoo hdo' ?_)
    refine wpAny_bind ?_
    refine wpAny_forIn_list _
      (fun rest _ s' => ∃ h' i, s' = { s with heap := h' } ∧ rest = (List.range eso.size).drop i ∧ i ≤ eso.size ∧ h'.DictOf knd d (merged kvs (more.take i)) ∧ h'.get? o = some oo ∧ Heap.SameBut d s.heap h')
      _ ?_ ?_ _ _ ⟨s.heap, 0, rfl, rfl, Nat.zero_le _, by simpa [merged] using hd, hoo, Heap.SameBut.refl _ _⟩
    · rintro x rest b s' ⟨h', i, rfl, hr, hi, hd', hoo', hs'⟩
      have hlt : i < eso.size := by
        rcases Nat.lt_or_ge i eso.size with h | h
        · exact h
        · rw [List.drop_of_length_le (by rw [List.length_range]; exact h)] at hr; cases hr
      have hlt' : i < (List.range eso.size).length := by rw [List.length_range]; exact hlt
      rw [List.drop_eq_getElem_cons hlt', List.getElem_range] at hr
      injection hr with h1 hrest
      subst h1
      refine wpAny_bind (wpAny_dictEntries hoo' hdo' ?_)
      rw [Array.getElem?_eq_getElem hlt]
      obtain ⟨kv, hkv⟩ : ∃ kv, more[x]? = some kv := ⟨more[x]'(by rw [hlen]; exact hlt), List.getElem?_eq_getElem _⟩
      obtain ⟨k, v⟩ := kv
      obtain ⟨hkey, hval⟩ := hpo.get? (e := eso[x]) (by simp [hlt]) hkv
      obtain ⟨k', hkey', hhash⟩ := hko eso[x] (Array.getElem_mem hlt)
      obtain rfl : k' = k := knd.inj _ _ _ hkey' hkey
      show wpAny _ _ (holding [eso[x].key, eso[x].val] (dictPut d eso[x].hash eso[x].key eso[x].val) >>= _) _ _ _
      rw [hhash, hval]
      have hmx : (merged kvs (more.take x)).length ≤ sizeLine := by
        have e1 := merged_length_le kvs (more.take x)
        have e2 : (more.take x).length ≤ more.length := by rw [List.length_take]; omega
        omega
      refine wpAny_bind (wpAny_holding (wpAny_dictPut (hsz := hmx) hkey hd' fun h'' hd'' hs'' => ?_))
      have hoo'' : h''.get? o = some oo := (hs''.2 o (Ne.symm hdo)).trans hoo'
      refine wpAny_bind (wpAny_dictEpoch hoo'' hdo' ?_)
      rw [if_neg (by simp)]
      exact wpAny_pure ⟨h'', x + 1, rfl, hrest, hlt, by rw [merged_take_succ kvs more x (k', v) hkv]; exact hd'', hoo'', hs'.trans hs''⟩
    · rintro b s' ⟨h', i, rfl, hr, hi, hd', hoo', hs'⟩
      have hin : i = eso.size := by
        rcases Nat.lt_or_ge i eso.size with h | h
        · have hlt' : i < (List.range eso.size).length := by rw [List.length_range]; exact h
          rw [List.drop_eq_getElem_cons hlt'] at hr; exact nomatch hr
        · exact Nat.le_antisymm hi h
      refine wpAny_pure (hQ h' ?_ ⟨oo, eso, epo, hoo', hco, hdo', hko, hpo, hno⟩ hs')
      rw [hin, ← hlen, List.take_length] at hd'; exact hd'
  have loop2 : wpAny (model prog w) A (dictEntries o >>= fun l => (do
      let epoch ← dictEpoch o
      forIn (List.range l.size) PUnit.unit fun i (_ : PUnit) => (do
          let l' ← dictEntries o
          match l'[i]? with
            | some e => do
              holding [e.key, e.val] (dictPut d e.hash e.key e.val)
              let ep' ← dictEpoch o
              if (ep' != epoch) = true then do
                  (unsupported "dict.changed-during-merge" : Sem PUnit)
                  pure (ForInStep.yield PUnit.unit)
                else pure (ForInStep.yield PUnit.unit)
            | _ => do
              (unsupported "dict.changed-during-merge" : Sem PUnit)
              pure (ForInStep.yield PUnit.unit) : Sem (ForInStep PUnit))
      pure ())) Q E s := wpAny_bind (wpAny_dictEntries hoo hdo' loop)
  unfold mergeMapping
  refine wpAny_bind (m := isInstance (.ref o) (.type "dict")) (wpAny_isInstance ho.typeIs isSubtype_dict_dict ?_)
  simp only [if_true]
  refine wpAny_bind (m := specialOf (.ref o) "__iter__") (wpAny_specialOf ho.typeIs dict_iter ?_)
  rw [show ((some (Value.builtin "dict.__iter__") == some (Value.builtin "dict.__iter__")) = true) from beq_self_eq_true _]
  first | rw [if_neg (by rw [hoS]; exact Bool.false_ne_true)] | (refine wpAny_ite ?_; rw [if_neg (by rw [hoS]; exact Bool.false_ne_true)]) | (refine wpAny_pure ?_; rw [if_neg (by rw [hoS]; exact Bool.false_ne_true)])
  refine wpAny_bind (wpAny_dictEntries hod hdd ?_)
  split
  · refine wpAny_bind (wpAny_dictEntries hoo hdo' ?_)
    refine wpAny_bind ?_
    rw [← Array.forIn_toList]
    refine wpAny_forIn_list _ (fun rest _ s' => s' = s ∧ ∀ e ∈ rest, e ∈ eso.toList) _ ?_ ?_ _ _ ⟨rfl, fun e he => he⟩
    · rintro e rest b s' ⟨rfl, hr⟩
      obtain ⟨k, hk, _⟩ := hko e (Array.mem_toList_iff.mp (hr e List.mem_cons_self))
      have hrest : ∀ e' ∈ rest, e' ∈ eso.toList := fun e' he' => hr e' (List.mem_cons_of_mem _ he')
      cases hkey : e.key with
      | ref a =>
        rw [hkey, hkr] at hk
        cases hk
      | _ => exact wpAny_pure ⟨rfl, hrest⟩
    · rintro b s' ⟨rfl, _⟩
      exact loop2
  · exact loop2
end
end Fk

set_option maxHeartbeats 4000000
namespace Fk
open PySem PySem.Spec PyProof.Rows L2
section
variable {prog : Program} {w : World} {K : Type} [DecidableEq K] {knd : KeyKind prog w K} {A : Around} {E : Value → Shared → Prop} {s : Shared} {Q : Value → Shared → Prop}
theorem wp_stars {items : List (Option (Sem Value) × Sem Value)} (hkr : ∀ (k : K) (a : Addr), knd.is k (.ref a) = false) (hn : ∀ x ∈ items, x.1 = none) (hne : items ≠ []) (R : List (Option (Sem Value) × Sem Value) → Addr → Shared → Prop)
    (h0 : R items s.heap.objs.size { s with heap := s.heap.push { cls := .type "dict", data := .dict #[] } })
    (hs : ∀ x rest p s1, R (x :: rest) p s1 → wpAny (model prog w) A x.2 (fun m s2 => ∃ (a : Addr) (kvs more : List (K × Value)), m = .ref a ∧ p ≠ a ∧ (a == sysModules) = false ∧ s2.heap.DictOf knd p kvs ∧ s2.heap.DictOf knd a more ∧ kvs.length + more.length ≤ sizeLine ∧
      ∀ h', h'.DictOf knd p (merged kvs more) → h'.DictOf knd a more → Heap.SameBut p s2.heap h' → R rest p { s2 with heap := h' }) E s1)
    (hd : ∀ p s1, R [] p s1 → Q (.ref p) s1) : wpAny (model prog w) A (dictDisplay items) Q E s := by
  unfold dictDisplay
  dsimp only
  have turn : ∀ (x : Option (Sem Value) × Sem Value) (rest : List (Option (Sem Value) × Sem Value)) (p : Addr) (s1 : Shared) {Q' : ForInStep (Option Addr × List (Sem Value × Sem Value)) → Shared → Prop}, R (x :: rest) p s1 → (∀ s2, R rest p s2 → Q' (.yield (some p, [])) s2) →
      wpAny (model prog w) A (do
        let m ← holding [Value.ref p] x.2
        (((holding [Value.ref p, m] (mergeMapping p m false)).onRaise fun y => do
                    let _ ← holding [Value.ref p, m, y] (runValue (Code.builtin "proto.let_go" { }))
                    pure ()).tryCatch
                fun e => do
                let b ← isInstance e (Value.type "AttributeError")
                if b = true then do
                    rule "dict.display.not-a-mapping"
                    let n ← typeNameOf m
                    raiseErrorMade "TypeError"
                        (toString "'" ++ toString n ++ toString "' object is not a mapping")
                    throw e
                  else throw e).onRaise
            fun y => do
            let _ ← holding [Value.ref p, y] (runValue (Code.builtin "proto.let_go" { }))
            pure ()
        pure (ForInStep.yield (some p, ([] : List (Sem Value × Sem Value))))) Q' E s1 := by
    intro x rest p s1 Q' hr hq
    refine wpAny_bind (wpAny_holding (wpAny_mono (hs x rest p s1 hr) (fun m s2 q => ?_) fun _ _ e => e))
    obtain ⟨a, kvs, more, rfl, hpa, hoS, dp, da, hz, k⟩ := q
    refine wpAny_bind (wpAny_onRaise (wpAny_tryCatch (wpAny_onRaise (wpAny_holding (wpAny_mergeMapping hkr hpa hoS dp da (fun h' d1 d2 sb => ?_) hz)))))
    exact wpAny_pure (hq _ (k h' d1 d2 sb))
  refine wpAny_bind ?_
  refine wpAny_forIn_list _ (fun rest b s' => b.2 = [] ∧ (∀ x ∈ rest, x.1 = none) ∧ ((b.1 = none ∧ s' = s ∧ rest = items) ∨ ∃ p, b.1 = some p ∧ R rest p s')) _ ?_ ?_ _ _ ⟨rfl, hn, .inl ⟨rfl, rfl, rfl⟩⟩
  · rintro ⟨k, v⟩ rest ⟨main, run⟩ s' ⟨hb, hk, h⟩
    have hk0 : k = none := hk (k, v) List.mem_cons_self
    have hkr' : ∀ x ∈ rest, x.1 = none := fun x hx => hk x (List.mem_cons_of_mem _ hx)
    subst hk0
    dsimp only at hb h
    subst hb
    rcases h with ⟨rfl, rfl, rfl⟩ | ⟨p, rfl, hr⟩
    · refine wpAny_bind (wpAny_pure ?_)
      dsimp only
      refine wpAny_bind (wpAny_alloc ?_)
      exact turn (none, v) rest _ _ h0 fun s2 q => ⟨rfl, hkr', .inr ⟨_, rfl, q⟩⟩
    · refine wpAny_bind (wpAny_pure ?_)
      dsimp only
      refine wpAny_bind (wpAny_pure ?_)
      exact turn (none, v) rest p s' hr fun s2 q => ⟨rfl, hkr', .inr ⟨_, rfl, q⟩⟩
  · rintro ⟨main, run⟩ s' ⟨hb, _, h⟩
    dsimp only at hb h
    subst hb
    rcases h with ⟨_, _, e⟩ | ⟨p, rfl, hr⟩
    · exact (hne e.symm).elim
    · refine wpAny_bind (wpAny_pure ?_)
      exact wpAny_pure (hd p s' hr)
end
/-- the dict at p takes the dicts in turn -/
def goStars : List TE → Addr → TE
  | [], p => fun _ H Q => Q (.ref p) H
  | t :: ts, p => fun σ H Q => t σ H fun x H1 => ∃ (a : Addr) (kvs more : List (Key × V)), x = .ref a ∧ p ≠ a ∧ H1 p = some (.dK kvs) ∧ H1 a = some (.dK more) ∧ kvs.length + more.length ≤ sizeLine ∧ goStars ts p σ (upd H1 p (.dK (mergeK kvs more))) Q
def tStars (ts : List TE) : TE := fun σ H Q => ∀ p, H p = none → goStars ts p σ (upd H p (.dK [])) Q
theorem mix_noref {P : Program} {w : World} (k : Key) (a : Addr) : (mixKind P w).is k (.ref a) = false := by
  cases k <;> rfl
/-- {**e1, **e2, ..} -/
inductive StE (X : Cx) : List Expr → List TE → Prop where
  | nil : StE X [] []
  | cons {e : Expr} {es : List Expr} {t : TE} {ts : List TE} (h : PE X e t) (hs : StE X es ts) : StE X (e :: es) (t :: ts)
theorem pe_stars {X : Cx} {keys : List (Option Expr)} {values : List Expr} {pos : Pos} {ts : List TE} (h : StE X values ts) (hv : values ≠ []) (hk : keys = values.map fun _ => none) : PE X (.Dict keys values pos) (tStars ts) := by
  refine ⟨fun pins s σ H Q I q => ?_⟩
  have hn := I.hok.fresh (Nat.le_refl s.heap.objs.size)
  have I1 := I.laid (a := s.heap.objs.size) (o := .dK []) (h' := s.heap.push { cls := .type "dict", data := .dict #[] }) (t' := s.toks) (fun _ _ q => Heap.get?_push_of_some _ q) (Nat.le_refl _) (dk_empty s.heap I.big)
  rw [arm_eval_Dict]
  subst hk
  refine wpAny_bind (wpAny_standAt ?_)
  have hz : ∀ vs : List Expr, (evalEachOpt (vs.map fun _ => (none : Option Expr)) X.env).zip ((evalEach vs X.env).map fun v => do let x ← v; standAt pos; pure x) = vs.map fun e => ((none : Option (Sem Value)), (do let x ← eval e X.env; standAt pos; pure x : Sem Value)) := by
    intro vs
    induction vs with
    | nil => rfl
    | cons e r ih =>
      show ((none : Option (Sem Value)), (do let x ← eval e X.env; standAt pos; pure x : Sem Value)) :: _ = _
      rw [List.map_cons]
      congr 1
  rw [hz]
  refine wp_stars (knd := mixKind X.prog X.w) mix_noref (fun x hx => ?_) ?_ (fun rest p s' => ∃ es us H', rest = es.map (fun e => ((none : Option (Sem Value)), (do let x ← eval e X.env; standAt pos; pure x : Sem Value))) ∧ StE X es us ∧ Inv X pins σ H' s' ∧ goStars us p σ H' Q) ⟨values, ts, _, rfl, h, I1, q _ hn⟩ ?_ ?_
  · obtain ⟨e, _, rfl⟩ := List.mem_map.mp hx
    rfl
  · intro z
    exact hv (List.map_eq_nil_iff.mp z)
  · rintro x rest p s1 ⟨es, us, H', er, hs, I', g⟩
    cases hs with
    | nil => cases er
    | @cons e es t us he hs =>
      rw [List.map_cons] at er
      injection er with e1 e2
      subst e1
      subst e2
      refine wpAny_bind (wpAny_mono (he.run pins s1 σ H' _ I' g) (fun v s2 z => ?_) fun _ _ x => x)
      obtain ⟨y, H2, I2, ry, a, kvs, more, rfl, hpa, hp, ha, hz2, g2⟩ := z
      cases (show v = Value.ref a from ry)
      refine wpAny_bind (wpAny_standAt (wpAny_pure ?_))
      obtain ⟨z1, hd1, vs1, r1, d1⟩ := dk_of I2.hok hp
      obtain ⟨z2, hd2, vs2, r2, d2⟩ := dk_of I2.hok ha
      refine ⟨a, vs1, vs2, rfl, hpa, hd2, d1, d2, by rw [← r1.length, ← r2.length]; exact hz2, fun h' e1 e2 sb => ⟨es, us, _, rfl, hs, ?_, g2⟩⟩
      have he : ∃ q, h'.get? p = some q := let ⟨q, _, _, hq, _⟩ := e1; ⟨q, hq⟩
      refine d_write I2 (by rw [hp]; exact True.intro) sb he (dk_new ?_ hd1 (r2.merge r1) e1)
      have := length_mergeK more kvs
      omega
  · rintro p s1 ⟨es, us, H', er, hs, I', g⟩
    cases hs with
    | nil => exact ⟨.ref p, H', I', rfl, g⟩
    | cons => cases er
end Fk

set_option maxHeartbeats 4000000
/-! dicts of data: what they hold, == and != of them; repr. -/
namespace Fk
open PySem PySem.Spec PyProof.Rows L2
/-- a dict's entries are these data -/
def DD (K : PySem.W.Frag) (H : Hp) (kvs : List (Key × V)) (ds : List (Key × PyData)) : Prop := Paired (fun p q => p.1 = q.1 ∧ Dp K H p.2 q.2) kvs ds
def DatAt (K : PySem.W.Frag) (H : Hp) (a : Addr) (ds : List (Key × PyData)) : Prop := ∃ kvs, H a = some (.dK kvs) ∧ DD K H kvs ds
def valD (ds : List (Key × PyData)) (k : Key) : Option PyData := (ds.find? fun p => decide (p.1 = k)).map (·.2)
theorem valD_pos {p : Key × PyData} {r : List (Key × PyData)} {k : Key} (e : p.1 = k) : valD (p :: r) k = some p.2 := by simp [valD, List.find?_cons, e]
theorem valD_neg {p : Key × PyData} {r : List (Key × PyData)} {k : Key} (e : ¬ p.1 = k) : valD (p :: r) k = valD r k := by simp [valD, List.find?_cons, e]
def hitD (es : List (Key × PyData)) (p : Key × PyData) : Bool := match valD es p.1 with
  | none => false
  | some e => PyData.eqv p.2 e
def eqvDict (ds es : List (Key × PyData)) : Bool := decide (ds.length = es.length) && ds.all (hitD es)
def shapedAll (ds : List (Key × PyData)) : Prop := ∀ p ∈ ds, SeqAt.shaped p.2 = true
theorem DD.val {K : PySem.W.Frag} {H : Hp} {kvs : List (Key × V)} {ds : List (Key × PyData)} (h : DD K H kvs ds) (k : Key) : (valV kvs k = none ∧ valD ds k = none) ∨ ∃ v d, valV kvs k = some v ∧ valD ds k = some d ∧ Dp K H v d := by
  unfold DD at h
  induction h with
  | nil => exact .inl ⟨rfl, rfl⟩
  | @cons p q ps qs h t ih =>
    obtain ⟨h1, h2⟩ := h
    by_cases e : p.1 = k
    · exact .inr ⟨p.2, q.2, valV_pos e, valD_pos (h1 ▸ e), h2⟩
    · rw [valV_neg e, valD_neg (h1 ▸ e)]
      exact ih
theorem DD.len {K : PySem.W.Frag} {H : Hp} {kvs : List (Key × V)} {ds : List (Key × PyData)} (h : DD K H kvs ds) : kvs.length = ds.length := Paired.length h
mutual
theorem dp_same {K : PySem.W.Frag} {H H' : Hp} (f : Same H H') : ∀ {v : V} {d : PyData}, Dp K H v d → Dp K H' v d
  | _, _, .non => .non
  | _, _, .bl b => .bl b
  | _, _, .int i => .int i
  | _, _, .str x => .str x
  | _, _, .lst hs ha => .lst (by
      rcases hs with (h | ⟨o, h⟩) | h
      · exact .inl (.inl (f _ _ h))
      · exact .inl (.inr ⟨o, f _ _ h⟩)
      · exact .inr h) (dpAll_same f ha)
  | _, _, .tup hs ha => .tup (by
      rcases hs with (h | ⟨o, h⟩) | h
      · exact .inl (.inl (f _ _ h))
      · exact .inl (.inr ⟨o, f _ _ h⟩)
      · exact .inr h) (dpAll_same f ha)
theorem dpAll_same {K : PySem.W.Frag} {H H' : Hp} (f : Same H H') : ∀ {vs : List V} {ds : List PyData}, DpAll K H vs ds → DpAll K H' vs ds
  | _, _, .nil => .nil
  | _, _, .cons h t => .cons (dp_same f h) (dpAll_same f t)
end
theorem DD.same {K : PySem.W.Frag} {H H' : Hp} {kvs : List (Key × V)} {ds : List (Key × PyData)} (h : DD K H kvs ds) (f : Same H H') : DD K H' kvs ds := by
  unfold DD at h ⊢
  induction h with
  | nil => exact .nil
  | cons h t ih => exact .cons ⟨h.1, dp_same f h.2⟩ ih
theorem DatAt.same {K : PySem.W.Frag} {H H' : Hp} {a : Addr} {ds : List (Key × PyData)} (h : DatAt K H a ds) (f : Same H H') : DatAt K H' a ds := by
  obtain ⟨kvs, e, d⟩ := h
  exact ⟨kvs, f _ _ e, d.same f⟩
theorem room66 {k : Nat} {A : Around} (r : Room k A) : A.units + 66 < cLine := by
  have := r.un
  omega
section
variable {X : Cx}
theorem hits_data {pins : List (Addr × Obj)} {σ : L2.St} {H : Hp} {s : Shared} {A : Around} (I : Inv X pins σ H s) (hu : A.units + 64 < cLine) {ls : List (Key × V)} {es : List (Key × PyData)} {vb : List (Key × Value)} (rb : KV ls vb) (hb : DD X.K H ls es) (se : shapedAll es) {ks : List (Key × V)} {ds : List (Key × PyData)} {va : List (Key × Value)}
    (ra : KV ks va) (hd : DD X.K H ks ds) (sd : shapedAll ds) : PySem.W.KeqHits A s vb va (ds.all (hitD es)) := by
  unfold KV at ra
  unfold DD at hd
  induction ra generalizing ds with
  | nil =>
    cases hd
    exact .nil
  | @cons p q ps qs h t ih =>
    cases hd with
    | @cons _ d _ ds hd1 hds =>
      obtain ⟨h1, h2⟩ := h
      obtain ⟨e1, e2⟩ := hd1
      obtain ⟨key, v⟩ := q
      have h1' : p.1 = key := h1
      have tl := ih hds (fun x hx => sd x (List.mem_cons_of_mem _ hx))
      rw [List.all_cons]
      rcases hb.val key with ⟨n1, n2⟩ | ⟨y, e, v1, v2, dy⟩
      · have : hitD es d = false := by
          unfold hitD
          rw [← e1, h1', n2]
        rw [this, Bool.false_and]
        refine .miss ?_
        have rr : RelO none (valueAt vb key) := by rw [← n1]; exact rb.val key
        cases z : valueAt vb key with
        | none => rfl
        | some u =>
          rw [z] at rr
          cases rr
      · have : hitD es d = PyData.eqv d.2 e := by
          unfold hitD
          rw [← e1, h1', v2]
        rw [this]
        have rr : RelO (some y) (valueAt vb key) := by rw [← v1]; exact rb.val key
        obtain ⟨u, hy, ry⟩ := rr.some_of
        obtain ⟨as, r1⟩ := Dp.reads I d.2 p.2 v e2 h2
        obtain ⟨bs, r2⟩ := Dp.reads I e y u dy ry
        have s1 := sd d List.mem_cons_self
        have s2 : SeqAt.shaped e = true := by
          unfold valD at v2
          cases z : es.find? (fun p => decide (p.1 = key)) with
          | none => rw [z] at v2; cases v2
          | some w =>
            rw [z] at v2
            cases v2
            exact se _ (List.mem_of_find?_eq_some z)
        exact .hit hy (SeqAt.eqAt_reads d.2 e A s v u as bs r1 r2 (SeqAt.canLay_of_shaped s1) (SeqAt.canLay_of_shaped s2) (SeqAt.room_of_shaped s1 hu)) tl
/-- d == e of dicts of data -/
def rEqDD (K : PySem.W.Frag) : R2 := fun x y H Q => ∃ a b ds es, x = .ref a ∧ y = .ref b ∧ DatAt K H a ds ∧ DatAt K H b es ∧ shapedAll ds ∧ shapedAll es ∧ Q (.bl (eqvDict ds es)) H
def rNeDD (K : PySem.W.Frag) : R2 := fun x y H Q => ∃ a b ds es, x = .ref a ∧ y = .ref b ∧ DatAt K H a ds ∧ DatAt K H b es ∧ shapedAll ds ∧ shapedAll es ∧ Q (.bl (!eqvDict ds es)) H
theorem op_eqDD (hu : X.A.units + 66 < cLine) : OpR X (compareOp .Eq) (rEqDD X.K) := by
  intro pins s σ H x y v u Q I rx ry h
  obtain ⟨a, b, ds, es, rfl, rfl, ⟨ks, ea, da⟩, ⟨ls, eb, db⟩, sd, se, q⟩ := h
  obtain rfl : v = Value.ref a := rx
  obtain rfl : u = Value.ref b := ry
  obtain ⟨_, ya, va, ra, dda⟩ := (show ObjOk X.prog X.w H s.heap a (.dK ks) from I.hok a _ ea)
  obtain ⟨_, yb, vb, rb, ddb⟩ := (show ObjOk X.prog X.w H s.heap b (.dK ls) from I.hok b _ eb)
  have e : (va.length == vb.length && ds.all (hitD es)) = eqvDict ds es := by
    unfold eqvDict
    rw [← ra.length, ← rb.length, da.len, db.len]
    rfl
  refine PySem.W.keq_eq (knd := mixKind X.prog X.w) (r := ds.all (hitD es)) ya yb dda ddb (by omega) (fun _ => hits_data I ?_ rb db se ra da sd) ?_
  · show X.A.units + 1 + 64 < cLine
    omega
  · rw [e]
    exact ⟨.bl _, H, I, rfl, q⟩
theorem op_neDD (hu : X.A.units + 66 < cLine) : OpR X (compareOp .NotEq) (rNeDD X.K) := by
  intro pins s σ H x y v u Q I rx ry h
  obtain ⟨a, b, ds, es, rfl, rfl, ⟨ks, ea, da⟩, ⟨ls, eb, db⟩, sd, se, q⟩ := h
  obtain rfl : v = Value.ref a := rx
  obtain rfl : u = Value.ref b := ry
  obtain ⟨_, ya, va, ra, dda⟩ := (show ObjOk X.prog X.w H s.heap a (.dK ks) from I.hok a _ ea)
  obtain ⟨_, yb, vb, rb, ddb⟩ := (show ObjOk X.prog X.w H s.heap b (.dK ls) from I.hok b _ eb)
  have e : (va.length == vb.length && ds.all (hitD es)) = eqvDict ds es := by
    unfold eqvDict
    rw [← ra.length, ← rb.length, da.len, db.len]
    rfl
  refine PySem.W.keq_ne (knd := mixKind X.prog X.w) (r := ds.all (hitD es)) ya yb dda ddb (by omega) (fun _ => hits_data I ?_ rb db se ra da sd) ?_
  · show X.A.units + 1 + 64 < cLine
    omega
  · rw [e]
    exact ⟨.bl _, H, I, rfl, q⟩
end
end Fk

set_option maxHeartbeats 4000000
/-! Walks and comprehensions by an invariant, over lists, tuples, dicts; a raise within a locked walk; frames. -/
namespace Fk
open PySem PySem.Spec PyProof.Rows L2
/-! ### frames -/
/-- all that was tracked is as it was, but what stands at L -/
def FrL (L : List Addr) (H H' : Hp) : Prop := ∀ b o, b ∉ L → H b = some o → H' b = some o
theorem FrL.refl (L : List Addr) (H : Hp) : FrL L H H := fun _ _ _ h => h
theorem FrL.trans {L : List Addr} {H H1 H2 : Hp} (x : FrL L H H1) (y : FrL L H1 H2) : FrL L H H2 := fun b o n h => y b o n (x b o n h)
theorem FrL.mono {L M : List Addr} {H H' : Hp} (x : FrL L H H') (h : ∀ a ∈ L, a ∈ M) : FrL M H H' := fun b o n e => x b o (fun z => n (h b z)) e
theorem FrL.at {L : List Addr} {a : Addr} {H : Hp} {o : HO} (h : a ∈ L) : FrL L H (upd H a o) := fun b u n e => by
  have z : b ≠ a := fun z => n (by rw [z]; exact h)
  rw [upd_ne z]
  exact e
theorem FrL.same {L : List Addr} {H H' : Hp} (h : Same H H') : FrL L H H' := fun b o _ e => h b o e
theorem FrL.to {H H' : Hp} (h : FrL [] H H') : Same H H' := fun b o e => h b o (fun z => nomatch z) e
theorem FrL.of {a : Addr} {H H' : Hp} (h : Fr a H H') : FrL [a] H H' := fun b o n e => h b o (fun z => n (z ▸ List.mem_singleton_self a)) e
theorem FrL.new {L : List Addr} {p : Addr} {H : Hp} {o : HO} (h : H p = none) : FrL L H (upd H p o) := FrL.same (same_new h)
/-! ### what is yielded -/
theorem yields_keys {d : Addr} {o : Obj} {kvs : List (Key × V)} : Yields (Itk d o kvs) (kvs.map fun p => kV p.1) (fun H => H d = some (.frz o (.dK kvs))) where
  go := fun k H g h => ⟨g, by rw [List.length_map] at h; exact h⟩
  stop := fun H g => ⟨g, by rw [List.length_map]; exact Nat.le_refl _⟩
  yld := fun k H x H' _ g h => by
    obtain ⟨e, key, v, hk, hx⟩ := h
    refine ⟨e, ?_⟩
    rw [List.getElem?_map, hk, hx]
    rfl
theorem yields_tup {K : PySem.W.Frag} {a : Addr} {xs : List V} : Yields (Itt K a) xs (fun H => SqT K H a xs) where
  go := fun k H g h => ⟨xs, xs[k], g, List.getElem?_eq_getElem h⟩
  stop := fun H g => ⟨xs, g, Nat.le_refl _⟩
  yld := fun k H x H' _ g h => ⟨h.1, h.2 xs g⟩
/-! ### comprehensions -/
theorem lcG {J : It} {items : List V} {G : Hp → Prop} {H1 : Hp} {D : Addr} {σ : L2.St} {vs : List Nat} {g : TG} {tt : TT} {te : TE} {Q : Hp → Prop} (Y : Yields J items G) (I : Nat → List V → Hp → Prop)
    (hG : ∀ k acc H, I k acc H → H D = some (.lst acc) → G H) (h0 : I 0 [] (upd H1 D (.lst [])))
    (hs : ∀ k acc H x, I k acc H → H D = some (.lst acc) → items[k]? = some x → acc.length ≤ k → k < 1000000 → g x (wipe σ vs) H fun σ2 H2 => wipe σ2 vs = wipe σ vs ∧ tt σ2 H2 fun b H3 =>
      if b = true then te σ2 H3 fun y H4 => ∃ acc, H4 D = some (.lst acc) ∧ acc.length < sizeLine ∧ LcN I D (k + 1) (upd H4 D (.lst (acc ++ [y]))) else LcN I D (k + 1) H3)
    (hl : items.length ≤ 1000000) (hd : ∀ acc H, I items.length acc H → H D = some (.lst acc) → acc.length ≤ items.length → Q H) :
    ∃ W : Nat → Nat → Hp → Prop, (∃ m, W 0 m (upd H1 D (.lst []))) ∧ ∀ k m H, W k m H →
      (J.stop k H ∧ Q H) ∨ (J.go k H ∧ ∃ Nx : Hp → Prop, (∀ H', Nx H' → ∃ m', m' < m ∧ W (k + 1) m' H') ∧ ∀ x H', J.yld k H x H' → g x (wipe σ vs) H' fun σ2 H2 => wipe σ2 vs = wipe σ vs ∧ tt σ2 H2 fun b H3 =>
        if b = true then te σ2 H3 fun y H4 => ∃ acc, H4 D = some (.lst acc) ∧ acc.length < sizeLine ∧ Nx (upd H4 D (.lst (acc ++ [y]))) else Nx H3) := by
  refine ⟨fun k m H => m = items.length - k ∧ k ≤ items.length ∧ LcN I D k H, ⟨items.length, by omega, Nat.zero_le _, [], upd_same, Nat.zero_le _, h0⟩, ?_⟩
  rintro k m H ⟨rfl, hk, acc, hD, hacc, hI⟩
  by_cases hlt : k < items.length
  · refine .inr ⟨Y.go k H (hG _ _ _ hI hD) hlt, LcN I D (k + 1), fun H' q => ⟨items.length - (k + 1), by omega, rfl, hlt, q⟩, fun x H' y => ?_⟩
    obtain ⟨rfl, hx⟩ := Y.yld k H x H' hlt (hG _ _ _ hI hD) y
    exact hs k acc _ x hI hD hx hacc (by omega)
  · have e : k = items.length := by omega
    subst e
    exact .inl ⟨Y.stop H (hG _ _ _ hI hD), hd acc H hI hD hacc⟩
/-- behind k turns of a dict's comprehension -/
def DcN (I : Nat → List (Key × V) → Hp → Prop) (D : Addr) (k : Nat) (H : Hp) : Prop := ∃ kvs, H D = some (.dK kvs) ∧ kvs.length ≤ k ∧ I k kvs H
theorem dc_take {I : Nat → List (Key × V) → Hp → Prop} {D : Addr} {k : Nat} {H5 : Hp} {key : Key} {z : V} {kvs : List (Key × V)} (h : H5 D = some (.dK kvs)) (l : kvs.length ≤ k) (hk : k < 1000000) (q : I (k + 1) (putK kvs key z) (upd H5 D (.dK (putK kvs key z)))) :
    ∃ kvs k', (kV key) = kV k' ∧ H5 D = some (.dK kvs) ∧ kvs.length < sizeLine ∧ DcN I D (k + 1) (upd H5 D (.dK (putK kvs k' z))) :=
  ⟨kvs, key, rfl, h, small_lt (by omega), _, upd_same, by have := length_putK kvs key z; omega, q⟩
theorem dc_skip {I : Nat → List (Key × V) → Hp → Prop} {D : Addr} {k : Nat} {H5 : Hp} {kvs : List (Key × V)} (h : H5 D = some (.dK kvs)) (l : kvs.length ≤ k) (q : I (k + 1) kvs H5) : DcN I D (k + 1) H5 := ⟨kvs, h, by omega, q⟩
theorem dcG {J : It} {items : List V} {G : Hp → Prop} {H1 : Hp} {D : Addr} {σ : L2.St} {vs : List Nat} {g : TG} {tt : TT} {tk tv : TE} {Q : Hp → Prop} (Y : Yields J items G) (I : Nat → List (Key × V) → Hp → Prop)
    (hG : ∀ k kvs H, I k kvs H → H D = some (.dK kvs) → G H) (h0 : I 0 [] (upd H1 D (.dK [])))
    (hs : ∀ k kvs H x, I k kvs H → H D = some (.dK kvs) → items[k]? = some x → kvs.length ≤ k → k < 1000000 → g x (wipe σ vs) H fun σ2 H2 => wipe σ2 vs = wipe σ vs ∧ tt σ2 H2 fun b H3 =>
      if b = true then tk σ2 H3 fun y H4 => tv σ2 H4 fun z H5 => ∃ kvs key, y = kV key ∧ H5 D = some (.dK kvs) ∧ kvs.length < sizeLine ∧ DcN I D (k + 1) (upd H5 D (.dK (putK kvs key z))) else DcN I D (k + 1) H3)
    (hl : items.length ≤ 1000000) (hd : ∀ kvs H, I items.length kvs H → H D = some (.dK kvs) → kvs.length ≤ items.length → Q H) :
    ∃ W : Nat → Nat → Hp → Prop, (∃ m, W 0 m (upd H1 D (.dK []))) ∧ ∀ k m H, W k m H →
      (J.stop k H ∧ Q H) ∨ (J.go k H ∧ ∃ Nx : Hp → Prop, (∀ H', Nx H' → ∃ m', m' < m ∧ W (k + 1) m' H') ∧ ∀ x H', J.yld k H x H' → g x (wipe σ vs) H' fun σ2 H2 => wipe σ2 vs = wipe σ vs ∧ tt σ2 H2 fun b H3 =>
        if b = true then tk σ2 H3 fun y H4 => tv σ2 H4 fun z H5 => ∃ kvs key, y = kV key ∧ H5 D = some (.dK kvs) ∧ kvs.length < sizeLine ∧ Nx (upd H5 D (.dK (putK kvs key z))) else Nx H3) := by
  refine ⟨fun k m H => m = items.length - k ∧ k ≤ items.length ∧ DcN I D k H, ⟨items.length, by omega, Nat.zero_le _, [], upd_same, Nat.zero_le _, h0⟩, ?_⟩
  rintro k m H ⟨rfl, hk, kvs, hD, hacc, hI⟩
  by_cases hlt : k < items.length
  · refine .inr ⟨Y.go k H (hG _ _ _ hI hD) hlt, DcN I D (k + 1), fun H' q => ⟨items.length - (k + 1), by omega, rfl, hlt, q⟩, fun x H' y => ?_⟩
    obtain ⟨rfl, hx⟩ := Y.yld k H x H' hlt (hG _ _ _ hI hD) y
    exact hs k kvs _ x hI hD hx hacc (by omega)
  · have e : k = items.length := by omega
    subst e
    exact .inl ⟨Y.stop H (hG _ _ _ hI hD), hd kvs H hI hD hacc⟩
/-! ### walks -/
theorem forG {J : It} {items : List V} {G : Hp → Prop} {g : TG} {tb : TS} {D : Ends} {σ : L2.St} {H : Hp} (Y : Yields J items G) (Pv : Nat → L2.St → Hp → Prop) (h0 : Pv 0 σ H) (hG : ∀ i σ H, Pv i σ H → G H)
    (hs : ∀ i x σ H, items[i]? = some x → Pv i σ H → g x σ H fun σ2 H2 => tb { D with nx := Pv (i + 1), ct := Pv (i + 1), bk := D.nx } σ2 H2) (hd : ∀ σ H, Pv items.length σ H → D.nx σ H) :
    ∃ W : Nat → Nat → L2.St → Hp → Prop, (∃ m, W 0 m σ H) ∧ ∀ i m σ H, W i m σ H →
      (J.stop i H ∧ D.nx σ H) ∨ (J.go i H ∧ ∃ N : L2.St → Hp → Prop, (∀ σ' H', N σ' H' → ∃ m', m' < m ∧ W (i + 1) m' σ' H') ∧ ∀ x H', J.yld i H x H' → g x σ H' fun σ2 H2 => tb { D with nx := N, ct := N, bk := D.nx } σ2 H2) := by
  refine ⟨fun i m σ H => m = items.length - i ∧ i ≤ items.length ∧ Pv i σ H, ⟨items.length, by omega, Nat.zero_le _, h0⟩, ?_⟩
  rintro i m σ H ⟨rfl, hi, p⟩
  by_cases hlt : i < items.length
  · refine .inr ⟨Y.go i H (hG _ _ _ p) hlt, Pv (i + 1), fun σ' H' p' => ⟨items.length - (i + 1), by omega, rfl, hlt, p'⟩, fun x H' y => ?_⟩
    obtain ⟨rfl, hx⟩ := Y.yld i H x H' hlt (hG _ _ _ p) y
    exact hs i x σ _ hx p
  · have e : i = items.length := by omega
    subst e
    exact .inl ⟨Y.stop H (hG _ _ _ p), hd σ H p⟩
/-! ### a raise within a locked walk -/
/-- what is let out of a locked walk, told of the heap with the lock off -/
def wLock (X : Cx) (W : WX) : WX := fun cls dd σ H => ∃ (d : Addr) (od : Obj) (u : HO), H d = some (.frz od u) ∧ (∀ o' u', X.H_0 d ≠ some (.frz o' u')) ∧ W cls dd σ (upd H d u)
theorem takes_lock {X : Cx} {W : WX} (tk : Takes X W) : Takes X (wLock X W) := by
  rintro v s' ⟨a, B, sI, pins, σ, H, cls, dd, e, I, nb, up, sky, na, os, ag, d, od, u, hd, hn, w⟩
  refine tk v s' ⟨a, B, sI, pins, σ, upd H d u, cls, dd, e, I.unlock hd hn, nb, up, sky, ?_, os, ag, w⟩
  rw [upd_ne (fun z => by rw [z, hd] at na; cases na)]
  exact na
end Fk

set_option maxHeartbeats 4000000
/-! A dict's comprehension that is given a name; tables with texts as keys; texts in order. -/
namespace Fk
open PySem PySem.Spec PyProof.Rows L2
section
variable {X : Cx}
theorem sw_trueD {kx vx : Expr} {gs : List Comprehension} {scope : Scope} {pos py : Pos} {y : Str} {l : Nat} {env : Env} (hk : env.scope.kind = .function) (hy : env.scope.names.lookup y = some .local) (hl : (py.line == pos.line) = true)
    (ha : (scope.names.any fun (n, k) => n == y && (k == .local || k == .cell)) = false) : swapsWith (.DictComp kx vx gs scope pos) (some (.Name y py)) l env = pure true := by
  have ky : env.kindOf y = some .local := hy
  have hb : env.blockKind = .function := by unfold Env.blockKind; rw [hk]; rfl
  unfold swapsWith
  simp only [hb, ky, ha, Expr.pos, hl]
  rfl
/-- name = {k: v for ..} on one line, the name a local -/
theorem ps_setDc {i : Nat} {y : Str} {py : Pos} {kx vx tg iter : Expr} {ifs : List Expr} {scope : Scope} {own : List (Str × Nat)} {pos spos : Pos} {wi : TI} {g : TG} {tt : TT} {tk tv : TE} (hc : X.calm = true) (hN : X.N.Nodup) (hy : X.N[i]? = some y) (hyl : X.env.scope.names.lookup y = some .local)
    (hsw : swapsWith (.DictComp kx vx [⟨tg, iter, ifs, 0⟩] scope pos) (some (.Name y py)) spos.line X.env = pure true) (hi : PI X tg iter wi) (ok : BlkOk X.N X.env.scope scope own)
    (hg : ∀ (s : Shared) (H : Hp) (C : Addr) (cl : List (Str × Addr)) (fp : List Addr), PG (X.blk s H scope (compEnvC scope cl C X.env) fp) tg g) (ht : ∀ (s : Shared) (H : Hp) (C : Addr) (cl : List (Str × Addr)) (fp : List Addr), PTs (X.blk s H scope (compEnvC scope cl C X.env) fp) ifs tt)
    (hk : ∀ (s : Shared) (H : Hp) (C : Addr) (cl : List (Str × Addr)) (fp : List Addr), PE (X.blk s H scope (compEnvC scope cl C X.env) fp) kx tk)
    (he : ∀ (s : Shared) (H : Hp) (C : Addr) (cl : List (Str × Addr)) (fp : List Addr), PE (X.blk s H scope (compEnvC scope cl C X.env) fp) vx tv) (hs : ∀ x, foldedSetIterable iter X.env x = pure x := by intro _; rfl) :
    PS X (.Assign [.Name y py] (.DictComp kx vx [⟨tg, iter, ifs, 0⟩] scope pos) spos) (tAsg (tDc wi g tt tk tv (own.map (·.2))) (gName i)) := by
  refine ⟨fun pins s σ H D I h => ?_⟩
  rw [exec_Assign_Name_used _ _ _ _ hsw]
  refine wpAny_bind (wpAny_standAt (wpAny_bind ?_))
  show wpAny _ X.A (do let _ ← comprehension (.DictComp kx vx [⟨tg, iter, ifs, 0⟩] scope pos) scope X.env (firstIterPos [⟨tg, iter, ifs, 0⟩] pos) newDict false (eval iter X.env) (some (assign (.Name y py) X.env))) _ _ s
  have h : tDc wi g tt tk tv (own.map (·.2)) σ H (fun x H1 => gName i x σ H1 D.nx) := h
  refine wpAny_bind (thn (dc_core (Qf := fun _ s' => SP X pins D .next s') hc hN I hi ok hg ht hk he hs h fun L C s' m H' I' q hn f => ?_) fun _ s' hq => wpAny_pure (wpAny_pure hq))
  show wpAny _ _ (assign (.Name y py) X.env (.ref L)) _ _ _
  refine wpAny_assign_Name (store_ok2 (v := V.ref L) I' hN hy (.inl hyl) rfl (fun s2 I2 ⟨a, sb, ha⟩ => ?_) (.inr hyl))
  obtain ⟨f0, f1, f2, f3, f4, f5⟩ := f
  have haC : C ≠ a := by
    rcases ha with z | z
    · rw [z]; exact f1
    · exact fun e => f4 y a z e.symm
  refine ⟨m, hn.sameBut sb haC, fun h3 sb3 => ?_⟩
  exact ⟨_, H', I2.turned (t' := s2.toks) (fun b o hb e => (sb3.2 b hb).trans e) f0 f1 f3 f4 f5, q⟩
end
/-! ### tables with texts as keys -/
abbrev Tab := List (Str × V)
def kT (t : Tab) : List (Key × V) := t.map fun p => (.inr p.1, p.2)
theorem valV_kT (t : Tab) (x : Str) : valV (kT t) (.inr x) = valV t x := by
  induction t with
  | nil => rfl
  | cons p r ih =>
    show valV ((.inr p.1, p.2) :: kT r) (.inr x) = _
    by_cases h : p.1 = x
    · rw [valV_pos (show (Sum.inr p.1 : Key) = .inr x by rw [h]), valV_pos h]
    · rw [valV_neg (fun e => h (Sum.inr.inj e)), valV_neg h, ih]
theorem any_kT (t : Tab) (x : Str) : ((kT t).any fun kv => decide (kv.1 = .inr x)) = t.any fun kv => decide (kv.1 = x) := by
  rw [valV_any, valV_any, valV_kT]
theorem putK_kT (t : Tab) (x : Str) (v : V) : putK (kT t) (.inr x) v = kT (putK t x v) := by
  unfold putK
  rw [any_kT]
  split
  · unfold kT
    rw [List.map_map, List.map_map]
    refine List.map_congr_left fun p _ => ?_
    show (if (Sum.inr p.1 : Key) = .inr x then _ else _) = _
    by_cases h : p.1 = x
    · rw [if_pos (by rw [h])]
      show _ = ((Sum.inr (if p.1 = x then (p.1, v) else p).1, (if p.1 = x then (p.1, v) else p).2) : Key × V)
      rw [if_pos h]
    · rw [if_neg (fun e => h (Sum.inr.inj e))]
      show _ = ((Sum.inr (if p.1 = x then (p.1, v) else p).1, (if p.1 = x then (p.1, v) else p).2) : Key × V)
      rw [if_neg h]
  · unfold kT
    rw [List.map_append]
    rfl
theorem dropK_kT (t : Tab) (x : Str) : dropK (kT t) (.inr x) = kT (dropK t x) := by
  unfold dropK kT
  rw [List.filter_map]
  congr 1
  refine List.filter_congr fun p _ => ?_
  show decide ((Sum.inr p.1 : Key) ≠ .inr x) = decide (p.1 ≠ x)
  exact decide_eq_decide.mpr ⟨fun n e => n (by rw [e]), fun n e => n (Sum.inr.inj e)⟩
theorem keys_kT (t : Tab) : (kT t).map (·.1) = (t.map (·.1)).map Sum.inr := by
  unfold kT
  rw [List.map_map, List.map_map]
  rfl
theorem kV_kT (t : Tab) : ((kT t).map fun p => kV p.1) = (t.map (·.1)).map V.str := by
  unfold kT
  rw [List.map_map, List.map_map]
  rfl
theorem len_kT (t : Tab) : (kT t).length = t.length := List.length_map ..
/-- what a[x] is -/
theorem dget_kT {H : Hp} {a : Addr} {t : Tab} (h : Rd H a (.dK (kT t))) (x : Str) : DGet H a (.str x) (valV t x) := .inl ⟨kT t, .inr x, h, rfl, (valV_kT t x).symm⟩
theorem valV_drop {κ : Type} [DecidableEq κ] (t : List (κ × V)) (x y : κ) : valV (dropK t x) y = if y = x then none else valV t y := by
  induction t with
  | nil => split <;> rfl
  | cons p r ih =>
    by_cases h : p.1 = x
    · rw [dropK_pos h, ih]
      by_cases e : y = x
      · rw [if_pos e, if_pos e]
      · rw [if_neg e, if_neg e, valV_neg (fun z => e (by rw [← z, h]))]
    · rw [dropK_neg h]
      by_cases e : p.1 = y
      · rw [valV_pos e, valV_pos e, if_neg (fun z => h (by rw [e, z]))]
      · rw [valV_neg e, valV_neg e, ih]
/-- no key twice -/
def Nd (t : Tab) : Prop := (t.map (·.1)).Nodup
theorem nd_put {t : Tab} (h : Nd t) (x : Str) (v : V) : Nd (putK t x v) := by
  cases e : valV t x with
  | none => exact nd_putK v h e
  | some u =>
    unfold Nd putK
    rw [if_pos (by rw [valV_any, e]; rfl), List.map_map]
    have : ((fun p : Str × V => p.1) ∘ fun kv : Str × V => if kv.1 = x then (kv.1, v) else kv) = fun p => p.1 := by
      funext p
      show (if p.1 = x then (p.1, v) else p).1 = p.1
      split <;> rfl
    rw [this]
    exact h
theorem nd_drop {t : Tab} (h : Nd t) (x : Str) : Nd (dropK t x) := nd_dropK h
theorem mem_val {t : Tab} {x : Str} : x ∈ t.map (·.1) ↔ (valV t x).isSome = true := by
  rw [← valV_any, List.any_eq_true]
  constructor
  · intro m
    obtain ⟨p, hp, e⟩ := List.mem_map.mp m
    exact ⟨p, hp, decide_eq_true e⟩
  · rintro ⟨p, hp, e⟩
    exact List.mem_map.mpr ⟨p, hp, of_decide_eq_true e⟩
/-- tables with the same keys -/
theorem keys_perm {t u : Tab} (ht : Nd t) (hu : Nd u) (h : ∀ x, (valV t x).isSome = (valV u x).isSome) : (t.map (·.1)).Perm (u.map (·.1)) :=
  (List.perm_ext_iff_of_nodup ht hu).mpr fun x => by rw [mem_val, mem_val, h]
/-! ### texts in order -/
def leS (a b : Str) : Prop := ¬ b.cps.toList < a.cps.toList
theorem leS_trans {a b c : Str} (h : leS a b) (k : leS b c) : leS a c := by
  unfold leS at *
  intro z
  exact h (List.lt_of_le_of_lt (List.not_lt.mp k) z)
theorem str_ext {a b : Str} (h : a.cps.toList = b.cps.toList) : a = b := by
  cases a; cases b
  congr 1
  exact Array.toList_inj.mp h
theorem leS_anti {a b : Str} (h : leS a b) (k : leS b a) : a = b := str_ext (List.le_antisymm (List.not_lt.mp h) (List.not_lt.mp k))
theorem rising_pw : ∀ (l : List Str) (p : Str), risingS p l = true → (p :: l).Pairwise leS
  | [], p, _ => List.pairwise_singleton _ _
  | x :: r, p, h => by
    have h : (!ltCps x.cps.toList p.cps.toList && risingS x r) = true := h
    obtain ⟨h1, h2⟩ := Bool.and_eq_true_iff.mp h
    have ih := rising_pw r x h2
    have px : leS p x := fun z => by
      rw [ltCps_eq, decide_eq_true z] at h1
      exact absurd h1 (by decide)
    refine List.pairwise_cons.mpr ⟨fun y hy => ?_, ih⟩
    rcases List.mem_cons.mp hy with e | hy
    · rw [e]
      exact px
    · exact leS_trans px ((List.pairwise_cons.mp ih).1 y hy)
theorem sorted_pw {l : List Str} (h : sortedS l = true) : l.Pairwise leS := by
  cases l with
  | nil => exact List.Pairwise.nil
  | cons x r => exact rising_pw r x h
theorem pw_uniq : ∀ {l m : List Str}, l.Pairwise leS → m.Pairwise leS → l.Perm m → l = m
  | [], m, _, _, p => (List.nil_perm.mp p).symm ▸ rfl
  | a :: r, [], _, _, p => absurd (List.perm_nil.mp p) (by simp)
  | a :: r, b :: s, h, k, p => by
    obtain ⟨h1, h2⟩ := List.pairwise_cons.mp h
    obtain ⟨k1, k2⟩ := List.pairwise_cons.mp k
    have e : a = b := by
      rcases List.mem_cons.mp (p.mem_iff.mp List.mem_cons_self) with z | z
      · exact z
      · rcases List.mem_cons.mp (p.mem_iff.mpr (List.mem_cons_self (a := b))) with y | y
        · exact y.symm
        · exact leS_anti (h1 b y) (k1 a z)
    subst e
    rw [pw_uniq h2 k2 ((List.perm_cons a).mp p)]
theorem sort_uniq {l m : List Str} (h : sortedS l = true) (k : sortedS m = true) (p : l.Perm m) : l = m := pw_uniq (sorted_pw h) (sorted_pw k) p
end Fk

set_option maxHeartbeats 4000000
/-! Statements that are never come to; methods with a keyword; methods that may raise. -/
namespace Fk
open PySem PySem.Spec PyProof.Rows L2
section
variable {X : Cx}
/-- what is never come to -/
theorem ps_never {st : Stmt} : PS X st (fun _ _ _ => False) := ⟨fun _ _ _ _ _ _ h => h.elim⟩
theorem pe_never {e : Expr} : PE X e (fun _ _ _ => False) := ⟨fun _ _ _ _ _ _ h => h.elim⟩
variable {k j : Nat} {C : Addr} {m : Str} {sp : Sp} {E : L2.St → XK} {o e : Expr} {es : List Expr} {kws : List Keyword} {ta : TE} {t tk : TA} {pos apos : Pos} {ks : List Str} {gV : List V → List V → List V}
/-- a method with these keywords -/
structure MetK (P : Program) (w : World) (K : PySem.W.Frag) (mg : Str → Option Value) (base : Heap) (k : Nat) (C : Addr) (m : Str) (sp : Sp) (ks : List Str) (gV : List V → List V → List V) : Prop where
  ex : ∃ (f : Addr) (fd : FuncData) (ps : List Str) (g : List Value → List Value → List Value), Cls K C ∧ Meth K C m f ∧ FnOk P w K mg base C8.CX0 k f fd ps sp ∧ KBinds K fd ps ks g gV
def tMeK (C : Addr) (m : Str) (sp : Sp) (gV : List V → List V → List V) (ta : TE) (t tk : TA) : TE := fun σ H Q => ta σ H fun x H1 => ∃ (a dx : Addr) (fs : List (Str × V)), x = .ref a ∧ H1 a = some (.ins C dx fs) ∧ fs.lookup m = none ∧
  t σ H1 fun vs H2 => tk σ H2 fun zs H3 => sp (gV (x :: vs) zs) H3 Q C8.E0
/-- o.m(e, .., k = v, ..) -/
theorem pe_mtK {pl : Sem Bool} (c : MetK X.prog X.w X.K X.mg X.base k C m sp ks gV) (hr : Room j X.A) (hk : k ≤ j) (he : PE X o ta) (ha : PA X (e :: es) t) (hkw : PK X kws tk)
    (hall : (backToKw pos (keywordEach kws X.env)).all (·.1.isSome) = true := by rfl) (hks : (backToKw pos (keywordEach kws X.env)).filterMap (·.1) = ks := by rfl)
    (hst : starEach (e :: es) X.env = (false, eval e X.env) :: starEach es X.env := by rfl) (hpl : ((backTo pos (starEach (e :: es) X.env)).any (·.1) || (backToKw pos (keywordEach kws X.env)).any (·.1.isNone)) = false := by rfl)
    (ht : eval (.Call (.Attribute o m apos) (e :: es) kws pos) X.env = (do
      let ov ← eval o X.env
      standAt apos.atName
      let (f, first) ← holding [ov] (getMethod ov m pl)
      callWith pos f first (backTo pos (starEach (e :: es) X.env)) (backToKw pos (keywordEach kws X.env))) := by rfl) :
    PE X (.Call (.Attribute o m apos) (e :: es) kws pos) (tMeK C m sp gV ta t tk) := by
  obtain ⟨f, fd, ps, g, cl, hm, F, b⟩ := c.ex
  refine ⟨fun pins s σ H Q I h => ?_⟩
  refine PySem.W.methodCall_KW (pl := pl) (thn (he.run pins s σ H _ I h) fun u s1 ⟨x, H1, I1, rx, a, dx, fs, ex, ea, l, q⟩ => ?_) ht
  subst ex
  obtain rfl : u = Value.ref a := rx
  refine getmeth_ok I1 ea cl hm l ?_
  refine PySem.W.callWith_KW (first := [.ref a]) (h₀ := X.base) I.ok.mod.kin hm.kp hall (thn (ha.run pos pins s1 σ H1 _ I1 q) fun us s2 ⟨vs, H2, I2, r, q2⟩ => ?_) hpl hst
  refine thn (hkw.run pos pins s2 σ H2 _ I2 q2) fun ws s3 ⟨zs, H3, I3, rz, q3⟩ => ⟨I3.kIn, ?_⟩
  rw [hks]
  exact run_fnk F (hr.mono hk) b C8.pass0 I3 (show Vals (.ref a :: vs) (.ref a :: us) from .cons rfl r) rz q3
end
section
variable {P : Program} {w : World} {K : PySem.W.Frag} {mg : Str → Option Value} {base : Heap}
/-- a method of the text as it stands behind the top, with no defaults -/
structure MDef (K : PySem.W.Frag) (C : Addr) (m qual : Str) (st : Stmt) : Prop where
  ex : ∃ (f : Addr) (fd : FuncData), C8.Fun K m qual st f fd ∧ Meth K C m f ∧ fd.defaults = .none
theorem met_of {m qual : Str} {C : Addr} {st : Stmt} {N ps : List Str} {k : Nat} {sp : Sp} (c : Cls K C) (D : MDef K C m qual st) (S : FnScope N ps (C8.fnScope st))
    (hb : ∀ (kV doc pm : Value) (an : Option Addr) (cdv ct : Value) (us : List Value), us.length = ps.length → bindArgs (PySem.W.fnOf m qual (C8.fnArgs st) (C8.fnBody st) (C8.fnScope st) .none kV doc pm an cdv ct) ⟨us, []⟩ = pure (ps.zip us))
    (len : ∀ vs H Q E, sp vs H Q E → vs.length = ps.length)
    (hbody : ∀ (f : Addr) (cdv : Value) (A : Around) (outer : List Env) (s : Shared) (H : Hp) (vs : List V) (Q : VK) (E : XK), Room k (A.deeper (envOfC qual (C8.fnScope st) s.heap.objs.size f cdv)) → sp vs H Q E →
      ∃ t, PSs (cxOf C8.CX0 P w K mg base N qual (C8.fnScope st) f cdv A outer s H E).nox (C8.fnBody st) t ∧ t { nx := fun _ H' => Q .non H', rt := Q } (start N vs) H) : C8.Met P w K mg base (k + 1) C m sp [] := by
  obtain ⟨f, fd, F, M, df⟩ := D.ex
  exact C8.met0 c M F (F.binds df hb) S len (hbody f)
/-- a method that may let errors out -/
theorem metX_of {m qual : Str} {C : Addr} {st : Stmt} {N ps : List Str} {k : Nat} {sp : Sp} (c : Cls K C) (D : MDef K C m qual st) (S : FnScope N ps (C8.fnScope st))
    (hb : ∀ (kV doc pm : Value) (an : Option Addr) (cdv ct : Value) (us : List Value), us.length = ps.length → bindArgs (PySem.W.fnOf m qual (C8.fnArgs st) (C8.fnBody st) (C8.fnScope st) .none kV doc pm an cdv ct) ⟨us, []⟩ = pure (ps.zip us))
    (len : ∀ vs H Q E, sp vs H Q E → vs.length = ps.length)
    (hbody : ∀ (f : Addr) (cdv : Value) (A : Around) (outer : List Env) (s : Shared) (H : Hp) (vs : List V) (Q : VK) (E : XK), Room k (A.deeper (envOfC qual (C8.fnScope st) s.heap.objs.size f cdv)) → sp vs H Q E →
      ∃ t, PSs (cxOf (L2.CX P w) P w K mg base N qual (C8.fnScope st) f cdv A outer s H E) (C8.fnBody st) t ∧ t { nx := fun _ H' => Q .non H', rt := Q } (start N vs) H) : MetX P w K mg base (L2.CX P w) (k + 1) C m sp [] := by
  obtain ⟨f, fd, F, M, df⟩ := D.ex
  obtain ⟨oc, od, dV, kV, doc, pm, an, cdv, ct, osl, rfl, lk, hcd⟩ := F.ex
  exact ⟨f, _, ps, [], c, M, fn_of lk hcd S len fun A outer s H vs Q E hr hsp => hbody f cdv A outer s H vs Q E hr hsp, F.binds df hb, .nil⟩
end
end Fk

set_option maxHeartbeats 4000000
/-! A comprehension with two fors that changes nothing; the prefixes of paths. -/
namespace Fk
open PySem PySem.Spec PyProof.Rows L2
theorem same_frl {D : Addr} {H1 H H' : Hp} (h : H1 D = none) (s : Same H1 H) (f : FrL [D] H H') : Same H1 H' := fun b o e => f b o (fun z => by
  rw [List.mem_singleton.mp z, h] at e
  cases e) (s b o e)
theorem lc2_pure {α β : Type} {J : It} {us : List α} {g : α → V} {h : β → V} {G : Hp → Prop} {H1 : Hp} {D : Addr} {σ : L2.St} {vs : List Nat} {i j : Nat} {wi1 : TI} {te : TE} {Q : Hp → Prop} (Y : Yields J (us.map g) G) (fs : α → List β) (f : α → β → V) (hD1 : H1 D = none) (hG : ∀ H, Same H1 H → G H)
    (e1 : ∀ x, wipe ((wipe σ vs).set i (some x)) vs = wipe σ vs)
    (e2 : ∀ x y, wipe ((wipe ((wipe σ vs).set i (some x)) [j]).set j (some y)) [j] = wipe ((wipe σ vs).set i (some x)) [j])
    (hw : ∀ H u, Same H1 H → H D ≠ none → u ∈ us → ∀ (R : It → Hp → Prop), (∀ J1 G1 H3, Yields J1 ((fs u).map h) G1 → Same H H3 → (∀ H', FrL [D] H3 H' → G1 H') → R J1 H3) → wi1 ((wipe σ vs).set i (some (g u))) H R)
    (he : ∀ H u w, Same H1 H → u ∈ us → w ∈ fs u → ∀ (R : VK), (∀ H3, Same H H3 → R (f u w) H3) → te ((wipe ((wipe σ vs).set i (some (g u))) [j]).set j (some (h w))) H R)
    (hl : (us.flatMap fs).length ≤ 1000000) (hd : ∀ H, Same H1 H → H D = some (.lst (us.flatMap fun u => (fs u).map (f u))) → Q H) :
    ∃ W : Nat → Nat → Hp → Prop, (∃ m, W 0 m (upd H1 D (.lst []))) ∧ ∀ k m H, W k m H →
      (J.stop k H ∧ Q H) ∨ (J.go k H ∧ ∃ Nx : Hp → Prop, (∀ H', Nx H' → ∃ m', m' < m ∧ W (k + 1) m' H') ∧ ∀ x H', J.yld k H x H' → gName i x (wipe σ vs) H' fun σ2 H2 => wipe σ2 vs = wipe σ vs ∧ tYes σ2 H2 fun b H3 =>
        if b = true then wi1 σ2 H3 fun J1 H4 => ∃ W1 : Nat → Nat → Hp → Prop, (∃ m, W1 0 m H4) ∧ ∀ k2 m2 H, W1 k2 m2 H →
          (J1.stop k2 H ∧ Nx H) ∨ (J1.go k2 H ∧ ∃ Nx1 : Hp → Prop, (∀ H', Nx1 H' → ∃ k', k' < m2 ∧ W1 (k2 + 1) k' H') ∧ ∀ x H', J1.yld k2 H x H' → gName j x (wipe σ2 [j]) H' fun σ3 H5 => wipe σ3 [j] = wipe σ2 [j] ∧ tYes σ3 H5 fun b H6 =>
            if b = true then te σ3 H6 fun y H7 => ∃ acc, H7 D = some (.lst acc) ∧ acc.length < sizeLine ∧ Nx1 (upd H7 D (.lst (acc ++ [y]))) else Nx1 H6)
        else Nx H3) := by
  refine ⟨fun k m H => m = us.length - k ∧ k ≤ us.length ∧ Same H1 H ∧ H D = some (.lst ((us.take k).flatMap fun u => (fs u).map (f u))), ⟨us.length, by omega, Nat.zero_le _, same_new hD1, upd_same⟩, ?_⟩
  rintro k m H ⟨rfl, hk, sm, hD⟩
  by_cases hlt : k < us.length
  · refine .inr ⟨Y.go k H (hG _ sm) (by rw [List.length_map]; exact hlt), fun H' => Same H1 H' ∧ H' D = some (.lst ((us.take (k + 1)).flatMap fun u => (fs u).map (f u))), fun H' q => ⟨us.length - (k + 1), by omega, rfl, hlt, q⟩, fun x H' y => ?_⟩
    obtain ⟨rfl, hx⟩ := Y.yld k H x H' (by rw [List.length_map]; exact hlt) (hG _ sm) y
    rw [List.getElem?_map, List.getElem?_eq_getElem hlt] at hx
    obtain rfl := Option.some.inj hx
    have hu : us[k] ∈ us := List.getElem_mem hlt
    refine ⟨e1 _, ?_⟩
    dsimp only [tYes]
    first | rw [if_pos (rfl : true = true)] | skip
    refine hw _ us[k] sm (by rw [hD]; exact fun z => nomatch z) hu _ fun J1 G1 H3 Y1 s3 hG1 => ?_
    have et : us.take (k + 1) = us.take k ++ [us[k]] := by rw [List.take_add_one, List.getElem?_eq_getElem hlt]; rfl
    have total : ((us.take k).flatMap fun u => (fs u).map (f u)).length + (fs us[k]).length ≤ 1000000 := by
      have e : us.flatMap fs = ((us.take (k + 1)) ++ us.drop (k + 1)).flatMap fs := by rw [List.take_append_drop]
      rw [e, List.flatMap_append, et, List.flatMap_append, List.length_append, List.length_append] at hl
      have e2 : ∀ l : List α, (l.flatMap fun u => (fs u).map (f u)).length = (l.flatMap fs).length := fun l => by
        induction l with
        | nil => rfl
        | cons a r ih => rw [List.flatMap_cons, List.flatMap_cons, List.length_append, List.length_append, ih, List.length_map]
      rw [e2]
      have : ([us[k]].flatMap fs).length = (fs us[k]).length := by simp
      omega
    refine ⟨fun k2 m2 H => m2 = (fs us[k]).length - k2 ∧ k2 ≤ (fs us[k]).length ∧ FrL [D] H3 H ∧ H D = some (.lst (((us.take k).flatMap fun u => (fs u).map (f u)) ++ ((fs us[k]).take k2).map (f us[k]))),
      ⟨(fs us[k]).length, by omega, Nat.zero_le _, FrL.refl _ _, by rw [List.take_zero, List.map_nil, List.append_nil]; exact s3 _ _ hD⟩, ?_⟩
    rintro k2 m2 H5 ⟨rfl, hk2, f5, hD5⟩
    by_cases hlt2 : k2 < (fs us[k]).length
    · refine .inr ⟨Y1.go k2 H5 (hG1 _ f5) (by rw [List.length_map]; exact hlt2), _, fun H' q => ⟨(fs us[k]).length - (k2 + 1), by omega, rfl, hlt2, q⟩, fun x H' y => ?_⟩
      obtain ⟨rfl, hx⟩ := Y1.yld k2 H5 x H' (by rw [List.length_map]; exact hlt2) (hG1 _ f5) y
      rw [List.getElem?_map, List.getElem?_eq_getElem hlt2] at hx
      obtain rfl := Option.some.inj hx
      refine ⟨e2 _ _, ?_⟩
      first | rw [if_pos (rfl : true = true)] | skip
      have s5 : Same H1 _ := same_frl hD1 (sm.trans s3) f5
      refine he _ us[k] (fs us[k])[k2] s5 hu (List.getElem_mem hlt2) _ fun H6 s6 => ?_
      refine ⟨_, s6 _ _ hD5, small_lt (by rw [List.length_append, List.length_map, List.length_take]; omega), FrL.trans (f5.trans (FrL.same s6)) (FrL.at (List.mem_singleton_self D)), ?_⟩
      rw [upd_same, List.take_add_one, List.getElem?_eq_getElem hlt2, List.append_assoc, List.map_append]
      rfl
    · have e : k2 = (fs us[k]).length := by omega
      subst e
      refine .inl ⟨by have := Y1.stop H5 (hG1 _ f5); rw [List.length_map] at this; exact this, same_frl hD1 (sm.trans s3) f5, ?_⟩
      rw [hD5, et, List.flatMap_append, List.take_length]
      simp
  · have e : k = us.length := by omega
    subst e
    refine .inl ⟨by have := Y.stop H (hG _ sm); rw [List.length_map] at this; exact this, hd _ sm ?_⟩
    rw [hD, List.take_length]
/-! ### prefixes -/
def prefixesF (x : Str) : List Str := (List.range ((segs x).length - 1)).map fun k => Txt.join "/" ((segs x).take (k + 1))
def haveF (ks : List Str) : Bool := ks.any fun x => (prefixesF x).any fun y => decide (y ∈ ks)
theorem have_perm {ks ls : List Str} (h : ks.Perm ls) : haveF ks = haveF ls := by
  have e : ∀ a b : List Str, a.Perm b → haveF a = true → haveF b = true := fun a b p z => by
    obtain ⟨x, hx, z⟩ := List.any_eq_true.mp z
    obtain ⟨y, hy, z⟩ := List.any_eq_true.mp z
    exact List.any_eq_true.mpr ⟨x, p.mem_iff.mp hx, List.any_eq_true.mpr ⟨y, hy, decide_eq_true (p.mem_iff.mp (of_decide_eq_true z))⟩⟩
  cases c : haveF ls with
  | true => exact e ls ks h.symm c
  | false => exact Bool.eq_false_iff.mpr fun z => by rw [e ks ls h z] at c; cases c
theorem pre_len (x : Str) (h : x.length ≤ 100000) : (prefixesF x).length ≤ 100000 := by
  unfold prefixesF
  rw [List.length_map, List.length_range]
  have := (segs_len x h).1
  omega
theorem any_flat {α β : Type} (us : List α) (fs : α → List β) (f : α → β → Bool) : (us.flatMap fun u => (fs u).map (f u)).any id = us.any fun u => (fs u).any (f u) := by
  induction us with
  | nil => rfl
  | cons a r ih => rw [List.flatMap_cons, List.any_append, ih, List.any_cons, List.any_map]; rfl
end Fk
namespace Fk
open PySem PySem.Spec PyProof.Rows L2
theorem segs_lens (x : Str) : (segs x).length ≤ x.length + 1 ∧ ∀ y ∈ segs x, y.length ≤ x.length := by
  have e := TL.split_spl x "/" (by decide +kernel) (TL.kind_ok (by decide +kernel))
  have e2 : ∀ l k acc, (TL.spl (TL.tl "/") k acc l).length ≤ l.length + 1 ∧ ∀ y ∈ TL.spl (TL.tl "/") k acc l, y.length ≤ acc.length + l.length := by
    intro l
    induction l with
    | nil => intro k acc; rw [TL.spl_nil]; exact ⟨Nat.le_refl _, fun y hy => by rw [List.mem_singleton.mp hy]; simp⟩
    | cons c r ih =>
      intro k acc
      cases k with
      | zero =>
        unfold TL.spl
        split
        · obtain ⟨i1, i2⟩ := ih ((TL.tl "/").length - 1) []
          refine ⟨by simp only [List.length_cons]; omega, fun y hy => ?_⟩
          rcases List.mem_cons.mp hy with rfl | hy
          · simp only [List.length_cons]; omega
          · have := i2 y hy
            simp only [List.length_cons, List.length_nil] at this ⊢
            omega
        · obtain ⟨i1, i2⟩ := ih 0 (acc ++ [c])
          refine ⟨by simp only [List.length_cons]; omega, fun y hy => ?_⟩
          have := i2 y hy
          simp only [List.length_cons, List.length_append, List.length_nil] at this ⊢
          omega
      | succ k =>
        obtain ⟨i1, i2⟩ := ih k acc
        unfold TL.spl
        refine ⟨by simp only [List.length_cons]; omega, fun y hy => ?_⟩
        have := i2 y hy
        simp only [List.length_cons] at this ⊢
        omega
  obtain ⟨i1, i2⟩ := e2 (TL.tl x) 0 []
  rw [← e] at i1 i2
  rw [List.length_map, ← TL.len_tl] at i1
  refine ⟨?_, fun y hy => ?_⟩
  · show (Txt.split x "/").length ≤ _
    omega
  · have := i2 (TL.tl y) (List.mem_map_of_mem hy)
    rw [← TL.len_tl, ← TL.len_tl] at this
    simp at this
    omega
theorem sum_most (n : Nat) : ∀ ps : List Str, (∀ p ∈ ps, p.length ≤ n) → (ps.map (·.length)).sum ≤ ps.length * n := by
  intro ps h
  induction ps with
  | nil => exact Nat.zero_le _
  | cons p r ih =>
    rw [List.map_cons, List.sum_cons, List.length_cons, Nat.succ_mul]
    have := ih fun q hq => h q (List.mem_cons_of_mem _ hq)
    have := h p List.mem_cons_self
    omega
theorem cut_front {α : Type} (l : List α) (g : α → V) (k : Nat) : cutV (l.map g) none (some (1 + (k : Int))) = (l.take (k + 1)).map g := by
  have e : (1 + (k : Int)) = ((k + 1 : Nat) : Int) := by omega
  unfold cutV
  rw [e, HT.sIx_none, HT.sIx_nat, List.drop_zero, Nat.sub_zero, List.map_take]
  rcases Nat.le_total (k + 1) (l.map g).length with h | h
  · rw [Nat.min_eq_left h]
  · rw [Nat.min_eq_right h, List.take_length, List.take_of_length_le h]
/-! ### rules whose reading names the written part, within a comprehension -/
section
variable {X : Cx} {K : PySem.W.Frag} {o e : Expr} {to te : TE} {f : Str}
theorem slK_list (h : X.K = K) : SlR X (rSlL K) := h ▸ sl_list
theorem ixK_list (h : X.K = K) : IxR X (rIxL K) := h ▸ ix_list
theorem ixK_tup (h : X.K = K) : IxR X (rIxT K) := h ▸ ix_tup
theorem pi_listK {tg : Expr} (h : X.K = K) (he : PE X e te) : PI X tg e (iList K te) := h ▸ pi_list he
theorem pi_tupK {tg : Expr} (h : X.K = K) (he : PE X e te) : PI X tg e (iTup K te) := h ▸ pi_tup he
theorem pg_tupK {es : List Expr} {k : Nat} {t : TGs} {n : Nat} {pos : Pos} (h : X.K = K) (hc : X.calm = true) (hp : PGs X es t)
    (hn : (assignEach es X.env).length = n := by rfl) (hst : (assignEach es X.env).findIdx? (·.1) = none := by rfl) : PG X (.Tuple es k pos) (gTup K n t) := h ▸ pg_tup hc hp hn hst
theorem pe_fldK {pos : Pos} (h : X.K = K) (he : PE X e te) (hb : attributeBase e f X.env (eval e X.env) = eval e X.env) : PE X (.Attribute e f pos) (tFld K te f) := h ▸ pe_fld he hb
def rJoin (K : PySem.W.Frag) : V → List V → Hp → VK → Prop := fun x xs H Q => ∃ a p, ∃ ys : List Str, x = .str a ∧ xs = [.ref p] ∧ (SqL K H p (ys.map V.str) ∨ SqT K H p (ys.map V.str)) ∧
  (ys.map (·.length)).sum + ys.length * a.length ≤ 16777216 ∧ Q (.str (Txt.join a ys)) H
theorem pe_joinK {apos pos : Pos} (h : X.K = K) (ho : PE X o to) (he : PE X e te) (hs : starEach [e] X.env = [(false, eval e X.env)] := by rfl) (hbase : attributeBase o "join" X.env (eval o X.env) = eval o X.env := by rfl) (hline : (apos.endLine == pos.line) = true := by rfl) :
    PE X (.Call (.Attribute o "join" apos) [e] [] pos) (tM1 (rJoin K) to te) := by
  subst h
  exact pe_join ho he hs hbase hline
end
end Fk

set_option maxHeartbeats 4000000
/-! Lists and dicts that comprehensions make of tuples; tuples of tuples. -/
namespace Fk
open PySem PySem.Spec PyProof.Rows L2
/-- at these addresses stand tuples of these things -/
def Tups (H : Hp) (as : List Addr) (ls : List (List V)) : Prop := as.length = ls.length ∧ ∀ (i : Nat) (a : Addr) (l : List V), as[i]? = some a → ls[i]? = some l → H a = some (.tup l)
def TupsAt (H : Hp) (p : Addr) (ls : List (List V)) : Prop := ∃ as : List Addr, H p = some (.tup (as.map V.ref)) ∧ Tups H as ls
/-- tuples stay -/
def TupKeep (H H' : Hp) : Prop := ∀ b xs, H b = some (.tup xs) → H' b = some (.tup xs)
theorem TupKeep.of {H H' : Hp} (s : Same H H') : TupKeep H H' := fun b xs e => s b _ e
theorem TupKeep.refl (H : Hp) : TupKeep H H := fun _ _ e => e
theorem TupKeep.trans {H H1 H2 : Hp} (a : TupKeep H H1) (b : TupKeep H1 H2) : TupKeep H H2 := fun c xs e => b c xs (a c xs e)
theorem TupKeep.at {a : Addr} {H : Hp} {o : HO} (n : ∀ xs, H a ≠ some (.tup xs)) : TupKeep H (upd H a o) := fun b xs e => by
  have z : b ≠ a := fun z => n xs (by rw [← z]; exact e)
  rw [upd_ne z]
  exact e
theorem Tups.keep {H H' : Hp} {as : List Addr} {ls : List (List V)} (t : Tups H as ls) (k : TupKeep H H') : Tups H' as ls := ⟨t.1, fun i a l h1 h2 => k _ _ (t.2 i a l h1 h2)⟩
theorem TupsAt.keep {H H' : Hp} {p : Addr} {ls : List (List V)} (t : TupsAt H p ls) (k : TupKeep H H') : TupsAt H' p ls := by
  obtain ⟨as, h, t⟩ := t
  exact ⟨as, k _ _ h, t.keep k⟩
theorem Tups.nil {H : Hp} : Tups H [] [] := ⟨rfl, fun i a l h => by simp at h⟩
theorem Tups.snoc {H : Hp} {as : List Addr} {ls : List (List V)} {a : Addr} {l : List V} (t : Tups H as ls) (h : H a = some (.tup l)) : Tups H (as ++ [a]) (ls ++ [l]) := by
  obtain ⟨e, t⟩ := t
  refine ⟨by rw [List.length_append, List.length_append, e]; rfl, fun i b m h1 h2 => ?_⟩
  by_cases hi : i < as.length
  · rw [List.getElem?_append_left hi] at h1
    rw [List.getElem?_append_left (by omega)] at h2
    exact t i b m h1 h2
  · rw [List.getElem?_append_right (by omega)] at h1
    rw [List.getElem?_append_right (by omega)] at h2
    have i1 := (List.getElem?_eq_some_iff.mp h1).1
    have e0 : i - as.length = 0 := by
      rw [List.length_singleton] at i1
      omega
    rw [e0] at h1
    rw [← e, e0] at h2
    rw [← Option.some.inj h1, ← Option.some.inj h2]
    exact h
theorem Tups.get {H : Hp} {as : List Addr} {ls : List (List V)} (t : Tups H as ls) {u : Addr × List V} (h : u ∈ as.zip ls) : H u.1 = some (.tup u.2) := by
  obtain ⟨i, hi⟩ := List.mem_iff_getElem?.mp h
  rw [List.getElem?_zip_eq_some] at hi
  exact t.2 i _ _ hi.1 hi.2
theorem zip_fst {as : List Addr} {ls : List (List V)} (e : as.length = ls.length) : (as.zip ls).map (fun u => V.ref u.1) = as.map V.ref := by
  have : (fun u : Addr × List V => V.ref u.1) = V.ref ∘ Prod.fst := rfl
  rw [this, ← List.map_map, List.map_fst_zip (by omega)]
theorem zip_snd {as : List Addr} {ls : List (List V)} (e : as.length = ls.length) : (as.zip ls).map (·.2) = ls := List.map_snd_zip (by omega)
/-- a tuple of the written part -/
def KTup (K : PySem.W.Frag) (a : Addr) (xs : List V) : Prop := ∃ (o : Obj) (its : Array Value) (n : Nat), K.lookup a = some o ∧ o.cls = .type "tuple" ∧ o.data = .seq its n ∧ its.size ≤ sizeLine ∧ Vals xs its.toList
/-- a tuple, tracked or of the written part -/
def TupK (K : PySem.W.Frag) (H : Hp) (a : Addr) (xs : List V) : Prop := H a = some (.tup xs) ∨
  ∃ (o : Obj) (its : Array Value) (n : Nat), K.lookup a = some o ∧ o.cls = .type "tuple" ∧ o.data = .seq its n ∧ its.size ≤ sizeLine ∧ Vals xs its.toList
theorem TupK.sq {K : PySem.W.Frag} {H : Hp} {a : Addr} {xs : List V} (h : TupK K H a xs) : SqT K H a xs := h.imp (fun e => .inl e) id
theorem TupK.keep {K : PySem.W.Frag} {H H' : Hp} {a : Addr} {xs : List V} (h : TupK K H a xs) (k : TupKeep H H') : TupK K H' a xs := h.imp (fun e => k _ _ e) id
def TupsK (K : PySem.W.Frag) (H : Hp) (p : Addr) (ls : List (List V)) : Prop := ∃ as : List Addr, TupK K H p (as.map V.ref) ∧ Tups H as ls
theorem TupsK.of {K : PySem.W.Frag} {H : Hp} {p : Addr} {ls : List (List V)} (h : TupsAt H p ls) : TupsK K H p ls := let ⟨as, a, b⟩ := h; ⟨as, .inl a, b⟩
theorem TupsK.keep {K : PySem.W.Frag} {H H' : Hp} {p : Addr} {ls : List (List V)} (h : TupsK K H p ls) (k : TupKeep H H') : TupsK K H' p ls := let ⟨as, a, b⟩ := h; ⟨as, a.keep k, b.keep k⟩
section
variable {α : Type} {J : It} {us : List α} {val : α → V} {G : Hp → Prop} {H1 : Hp} {D : Addr} {σ : L2.St} {vs : List Nat} {g : TG} {tt : TT} {te tk tv : TE} {Q : Hp → Prop}
/-- a list of new tuples -/
theorem lc_new (Y : Yields J (us.map val) G) (f : α → List V) (p : α → Bool) (σf : α → L2.St) (hD1 : H1 D = none) (hG : ∀ H, Same H1 H → G H) (hw : ∀ u ∈ us, wipe (σf u) vs = wipe σ vs)
    (hg : ∀ H u, Same H1 H → u ∈ us → ∀ (R : L2.St → Hp → Prop), R (σf u) H → g (val u) (wipe σ vs) H R)
    (ht : ∀ H u, Same H1 H → u ∈ us → ∀ (R : Bool → Hp → Prop), (∀ H3, Same H H3 → R (p u) H3) → tt (σf u) H R)
    (he : ∀ H u, Same H1 H → u ∈ us → p u = true → ∀ (R : VK), (∀ a H3, Same H H3 → H3 a = some (.tup (f u)) → R (.ref a) H3) → te (σf u) H R)
    (hl : us.length ≤ 1000000) (hd : ∀ as H, Same H1 H → H D = some (.lst (as.map V.ref)) → Tups H as ((us.filter p).map f) → Q H) :
    ∃ W : Nat → Nat → Hp → Prop, (∃ m, W 0 m (upd H1 D (.lst []))) ∧ ∀ k m H, W k m H →
      (J.stop k H ∧ Q H) ∨ (J.go k H ∧ ∃ Nx : Hp → Prop, (∀ H', Nx H' → ∃ m', m' < m ∧ W (k + 1) m' H') ∧ ∀ x H', J.yld k H x H' → g x (wipe σ vs) H' fun σ2 H2 => wipe σ2 vs = wipe σ vs ∧ tt σ2 H2 fun b H3 =>
        if b = true then te σ2 H3 fun y H4 => ∃ acc, H4 D = some (.lst acc) ∧ acc.length < sizeLine ∧ Nx (upd H4 D (.lst (acc ++ [y]))) else Nx H3) := by
  refine lcG Y (fun k acc H => Same H1 H ∧ ∃ as : List Addr, acc = as.map V.ref ∧ Tups H as (((us.take k).filter p).map f)) (fun k acc H h _ => hG H h.1) ⟨same_new hD1, [], rfl, by simpa using Tups.nil⟩ (fun k acc H x hI hD hx hacc hk => ?_) (by rw [List.length_map]; exact hl) (fun acc H hI hD _ => ?_)
  · obtain ⟨sm, as, ea, tp⟩ := hI
    rw [List.getElem?_map] at hx
    cases hu : us[k]? with
    | none => rw [hu] at hx; cases hx
    | some u =>
      rw [hu] at hx
      cases hx
      have hm : u ∈ us := List.mem_of_getElem? hu
      have et : us.take (k + 1) = us.take k ++ [u] := by
        rw [List.take_add_one, hu]
        rfl
      refine hg H u sm hm _ ⟨hw u hm, ?_⟩
      refine ht H u sm hm _ (fun H3 s3 => ?_)
      by_cases hp : p u = true
      · rw [if_pos hp]
        refine he H3 u (sm.trans s3) hm hp _ (fun a H4 s4 h4 => ?_)
        have hD4 := s4 _ _ (s3 _ _ hD)
        have kp : TupKeep H4 (upd H4 D (.lst (acc ++ [V.ref a]))) := TupKeep.at fun xs z => by rw [hD4] at z; cases z
        refine lc_take hD4 hacc hk ⟨same_mut ((sm.trans s3).trans s4) hD1, as ++ [a], by rw [ea, List.map_append]; rfl, ?_⟩
        rw [et, List.filter_append, List.map_append, List.filter_cons, hp]
        exact ((tp.keep (TupKeep.of (s3.trans s4))).snoc h4).keep kp
      · rw [if_neg hp]
        refine lc_skip (s3 _ _ hD) hacc ⟨sm.trans s3, as, ea, ?_⟩
        rw [et, List.filter_append, List.map_append, List.filter_cons, if_neg hp]
        simpa using tp.keep (TupKeep.of s3)
  · obtain ⟨sm, as, ea, tp⟩ := hI
    rw [List.length_map, List.take_length] at tp
    rw [ea] at hD
    exact hd as H sm hD tp
/-- a dict with texts as its keys -/
theorem dc_tab (Y : Yields J (us.map val) G) (kf : α → Str) (vf : α → V) (p : α → Bool) (σf : α → L2.St) (hD1 : H1 D = none) (hG : ∀ H, Same H1 H → G H) (hw : ∀ u ∈ us, wipe (σf u) vs = wipe σ vs)
    (hg : ∀ H u, Same H1 H → u ∈ us → ∀ (R : L2.St → Hp → Prop), R (σf u) H → g (val u) (wipe σ vs) H R)
    (ht : ∀ H u, Same H1 H → u ∈ us → ∀ (R : Bool → Hp → Prop), (∀ H3, Same H H3 → R (p u) H3) → tt (σf u) H R)
    (hk : ∀ H u, Same H1 H → u ∈ us → p u = true → ∀ (R : VK), (∀ H3, Same H H3 → R (.str (kf u)) H3) → tk (σf u) H R)
    (hv : ∀ H u, Same H1 H → u ∈ us → p u = true → ∀ (R : VK), (∀ H3, Same H H3 → R (vf u) H3) → tv (σf u) H R)
    (hl : us.length ≤ 1000000) (nd : ((us.filter p).map kf).Nodup) (hd : ∀ H, Same H1 H → H D = some (.dK (kT ((us.filter p).map fun u => (kf u, vf u)))) → Q H) :
    ∃ W : Nat → Nat → Hp → Prop, (∃ m, W 0 m (upd H1 D (.dK []))) ∧ ∀ k m H, W k m H →
      (J.stop k H ∧ Q H) ∨ (J.go k H ∧ ∃ Nx : Hp → Prop, (∀ H', Nx H' → ∃ m', m' < m ∧ W (k + 1) m' H') ∧ ∀ x H', J.yld k H x H' → g x (wipe σ vs) H' fun σ2 H2 => wipe σ2 vs = wipe σ vs ∧ tt σ2 H2 fun b H3 =>
        if b = true then tk σ2 H3 fun y H4 => tv σ2 H4 fun z H5 => ∃ kvs key, y = kV key ∧ H5 D = some (.dK kvs) ∧ kvs.length < sizeLine ∧ Nx (upd H5 D (.dK (putK kvs key z))) else Nx H3) := by
  refine dcG Y (fun k kvs H => Same H1 H ∧ kvs = kT (((us.take k).filter p).map fun u => (kf u, vf u))) (fun k acc H h _ => hG H h.1) ⟨same_new hD1, rfl⟩ (fun k kvs H x hI hD hx hacc hk' => ?_) (by rw [List.length_map]; exact hl) (fun acc H hI hD _ => ?_)
  · obtain ⟨sm, ea⟩ := hI
    rw [List.getElem?_map] at hx
    cases hu : us[k]? with
    | none => rw [hu] at hx; cases hx
    | some u =>
      rw [hu] at hx
      cases hx
      have hm : u ∈ us := List.mem_of_getElem? hu
      have et : us.take (k + 1) = us.take k ++ [u] := by
        rw [List.take_add_one, hu]
        rfl
      refine hg H u sm hm _ ⟨hw u hm, ?_⟩
      refine ht H u sm hm _ (fun H3 s3 => ?_)
      by_cases hp : p u = true
      · rw [if_pos hp]
        refine hk H3 u (sm.trans s3) hm hp _ (fun H4 s4 => ?_)
        refine hv H4 u ((sm.trans s3).trans s4) hm hp _ (fun H5 s5 => ?_)
        have new : valV (((us.take k).filter p).map fun u => (kf u, vf u)) (kf u) = none := by
          cases c : valV (((us.take k).filter p).map fun u => (kf u, vf u)) (kf u) with
          | none => rfl
          | some z =>
            have m := valV_in c
            rw [List.map_map] at m
            have e : us.filter p = (us.take k).filter p ++ (u :: (us.drop (k + 1)).filter p) := by
              conv => lhs; rw [← List.take_append_drop (k + 1) us, et, List.filter_append, List.filter_append, List.filter_cons, hp]
              simp
            rw [e, List.map_append] at nd
            have := (List.nodup_append.mp nd).2.2 (kf u) m (kf u) List.mem_cons_self
            exact absurd rfl this
        refine dc_take (key := .inr (kf u)) (s5 _ _ (s4 _ _ (s3 _ _ hD))) hacc hk' ⟨same_mut (((sm.trans s3).trans s4).trans s5) hD1, ?_⟩
        rw [ea, putK_kT, putK_new _ new, et, List.filter_append, List.map_append, List.filter_cons, hp]
        rfl
      · rw [if_neg hp]
        refine dc_skip (s3 _ _ hD) hacc ⟨sm.trans s3, ?_⟩
        rw [et, List.filter_append, List.map_append, List.filter_cons, if_neg hp]
        simp [ea]
  · obtain ⟨sm, ea⟩ := hI
    rw [List.length_map, List.take_length] at ea
    rw [ea] at hD
    exact hd H sm hD
end
theorem val_keys (f : Str → V) (z : Str) : ∀ ys : List Str, valV (ys.map fun x => (x, f x)) z = if z ∈ ys then some (f z) else none
  | [] => rfl
  | y :: r => by
    show valV ((y, f y) :: r.map fun x => (x, f x)) z = _
    by_cases h : y = z
    · rw [valV_pos h, if_pos (by rw [h]; exact List.mem_cons_self), h]
    · rw [valV_neg h, val_keys f z r]
      by_cases m : z ∈ r
      · rw [if_pos m, if_pos (List.mem_cons_of_mem _ m)]
      · rw [if_neg m, if_neg (fun k => (List.mem_cons.mp k).elim (fun e => h e.symm) m)]
/-- the rows of a table in order -/
def SortOf (t u : Tab) : Prop := sortedS (u.map (·.1)) = true ∧ (u.map (·.1)).Perm (t.map (·.1)) ∧ ∀ x, valV u x = valV t x
theorem sortOf_keys {t : Tab} {ys : List Str} (hp : ys.Perm (t.map (·.1))) (hs : sortedS ys = true) : SortOf t (ys.map fun x => (x, (valV t x).getD .non)) := by
  have e : (ys.map fun x => (x, (valV t x).getD .non)).map (·.1) = ys := by
    rw [List.map_map]
    exact List.map_id' ys
  refine ⟨by rw [e]; exact hs, by rw [e]; exact hp, fun z => ?_⟩
  rw [val_keys (fun x => (valV t x).getD .non)]
  cases c : valV t z with
  | none => rw [if_neg (fun m => by have := mem_val.mp (hp.mem_iff.mp m); rw [c] at this; cases this)]
  | some v => rw [if_pos (hp.mem_iff.mpr (mem_val.mpr (by rw [c]; rfl)))]; rfl
theorem SortOf.nd {t u : Tab} (h : SortOf t u) (n : Nd t) : Nd u := h.2.1.nodup_iff.mpr n
theorem SortOf.len {t u : Tab} (h : SortOf t u) : u.length = t.length := by
  have := h.2.1.length_eq
  rw [List.length_map, List.length_map] at this
  exact this
def rowL (e : Str × V) : List V := [.str e.1, e.2]
/-! ### moves -/
def moveL (m : Str × V × V) : List V := [.str m.1, m.2.1, m.2.2]
def newsT (ms : List (Str × V × V)) : Tab := ms.map fun m => (m.1, m.2.2)
def notNon : V → Bool
  | .non => false
  | _ => true
def keptT (t n : Tab) : Tab := t.filter fun p => (valV n p.1).isNone
def madeT (n : Tab) : Tab := n.filter fun p => notNon p.2
def afterT (t : Tab) (ms : List (Str × V × V)) : Tab := keptT t (newsT ms) ++ madeT (newsT ms)
theorem zip_ms {α : Type} {as : List Addr} {ms : List α} (e : as.length = ms.length) : (as.zip ms).map (fun u => V.ref u.1) = as.map V.ref := by
  have : (fun u : Addr × α => V.ref u.1) = V.ref ∘ Prod.fst := rfl
  rw [this, ← List.map_map, List.map_fst_zip (by omega)]
theorem tups_get {α : Type} {H : Hp} {as : List Addr} {ms : List α} {f : α → List V} (tp : Tups H as (ms.map f)) {u : Addr × α} (h : u ∈ as.zip ms) : H u.1 = some (.tup (f u.2)) := by
  obtain ⟨i, hi⟩ := List.mem_iff_getElem?.mp h
  rw [List.getElem?_zip_eq_some] at hi
  refine tp.2 i _ _ hi.1 ?_
  rw [List.getElem?_map, hi.2]
  rfl
theorem ne_of_none' {H : Hp} {D a : Addr} {o : HO} (h : H D = none) (k : H a = some o) : D ≠ a := (ne_of_none k h).symm
theorem same_unlock {H H2 : Hp} {d : Addr} {od : Obj} {u : HO} (s : Same (upd H d (.frz od u)) H2) (h : H d = some u) : Same H (upd H2 d u) := fun b o e => by
  by_cases hb : b = d
  · rw [hb, upd_same, ← h, ← hb, e]
  · rw [upd_ne hb]
    exact s _ _ (by rw [upd_ne hb]; exact e)
theorem lock_ne {H : Hp} {d D : Addr} {o : HO} (h : upd H d o D = none) : D ≠ d := fun z => by
  rw [z, upd_same] at h
  cases h
theorem lock_free {H : Hp} {d D : Addr} {o : HO} (h : upd H d o D = none) : H D = none := by
  have n := lock_ne h
  rw [upd_ne n] at h
  exact h
/-- a walk over a locked table -/
theorem yields_tab {d : Addr} {o : Obj} {t : Tab} : Yields (Itk d o (kT t)) (t.map fun e => V.str e.1) (fun H => H d = some (.frz o (.dK (kT t)))) := by
  have : (t.map fun e => V.str e.1) = (kT t).map fun p => kV p.1 := by
    unfold kT
    rw [List.map_map]
    rfl
  rw [this]
  exact yields_keys
theorem yields_zip {α : Type} {K : PySem.W.Frag} {a : Addr} {as : List Addr} {ms : List α} (e : as.length = ms.length) : Yields (Itt K a) ((as.zip ms).map fun u => V.ref u.1) (fun H => SqT K H a (as.map V.ref)) := by
  rw [zip_ms e]
  exact yields_tup
theorem nd_filter {t : Tab} (h : Nd t) (p : Str × V → Bool) : Nd (t.filter p) := List.Nodup.sublist ((List.filter_sublist).map _) h
theorem nd_news {ms : List (Str × V × V)} (h : (ms.map (·.1)).Nodup) : Nd (newsT ms) := by
  unfold Nd newsT
  rw [List.map_map]
  exact h
theorem nd_after {t : Tab} {ms : List (Str × V × V)} (h : Nd t) (k : (ms.map (·.1)).Nodup) : Nd (afterT t ms) := by
  unfold Nd afterT
  rw [List.map_append]
  refine List.nodup_append.mpr ⟨nd_filter h _, nd_filter (nd_news k) _, fun x hx y hy e => ?_⟩
  obtain ⟨p, hp, rfl⟩ := List.mem_map.mp hx
  obtain ⟨q, hq, rfl⟩ := List.mem_map.mp hy
  have h1 := (List.mem_filter.mp hp).2
  have h2 := val_nodup (nd_news k) q (List.mem_filter.mp hq).1
  rw [e, h2] at h1
  cases h1
theorem len_after {t : Tab} {ms : List (Str × V × V)} : (afterT t ms).length ≤ t.length + ms.length := by
  unfold afterT
  rw [List.length_append]
  have h1 := List.length_filter_le (fun p : Str × V => (valV (newsT ms) p.1).isNone) t
  have h2 := List.length_filter_le (fun p : Str × V => notNon p.2) (newsT ms)
  have h3 : (newsT ms).length = ms.length := List.length_map ..
  unfold keptT madeT
  omega
theorem val_app {t u : Tab} (x : Str) : valV (t ++ u) x = (valV t x).or (valV u x) := by
  induction t with
  | nil => rfl
  | cons p r ih =>
    by_cases h : p.1 = x
    · rw [List.cons_append, valV_pos h, valV_pos h]
      rfl
    · rw [List.cons_append, valV_neg h, valV_neg h, ih]
theorem merge_kT : ∀ {t u : Tab}, Nd (t ++ u) → mergeK (kT t) (kT u) = kT (t ++ u)
  | t, [], _ => by rw [List.append_nil]; rfl
  | t, p :: r, h => by
    have e : t ++ p :: r = (t ++ [p]) ++ r := by rw [List.append_assoc]; rfl
    have new : valV t p.1 = none := by
      cases c : valV t p.1 with
      | none => rfl
      | some v =>
        have h : ((t ++ p :: r).map (·.1)).Nodup := h
        rw [List.map_append] at h
        exact absurd rfl ((List.nodup_append.mp h).2.2 _ (valV_in c) p.1 List.mem_cons_self)
    show mergeK (putK (kT t) (.inr p.1) p.2) (kT r) = _
    rw [putK_kT, putK_new _ new, e]
    rw [e] at h
    exact merge_kT h
/-- what a table holds behind moves -/
theorem val_filter {t : Tab} (h : Nd t) (p : Str × V → Bool) (x : Str) : valV (t.filter p) x = (valV t x).bind fun v => if p (x, v) = true then some v else none := by
  induction t with
  | nil => rfl
  | cons q r ih =>
    obtain ⟨h1, h2⟩ := List.nodup_cons.mp (show ((q :: r).map (·.1)).Nodup from h)
    have ih := ih h2
    have nr : q.1 = x → valV r x = none := fun e => by
      cases c : valV r x with
      | none => rfl
      | some v => exact absurd (show q.1 ∈ r.map (·.1) by rw [e]; exact valV_in c) h1
    rw [List.filter_cons]
    by_cases e : q.1 = x
    · rw [valV_pos e]
      have eq : q = (x, q.2) := by rw [← e]
      by_cases hp : p q = true
      · rw [if_pos hp, valV_pos e]
        show some q.2 = if p (x, q.2) = true then some q.2 else none
        rw [← eq, if_pos hp]
      · rw [if_neg hp, ih, nr e]
        show none = if p (x, q.2) = true then some q.2 else none
        rw [← eq, if_neg hp]
    · rw [valV_neg e]
      by_cases hp : p q = true
      · rw [if_pos hp, valV_neg e, ih]
      · rw [if_neg hp, ih]
theorem val_after {t : Tab} {ms : List (Str × V × V)} (h : Nd t) (k : (ms.map (·.1)).Nodup) (x : Str) : valV (afterT t ms) x = match valV (newsT ms) x with
    | none => valV t x
    | some v => if notNon v = true then some v else none := by
  unfold afterT keptT madeT
  rw [val_app, val_filter h, val_filter (nd_news k)]
  cases c : valV (newsT ms) x with
  | none =>
    cases d : valV t x with
    | none => rfl
    | some v => simp [c]
  | some v =>
    cases d : valV t x with
    | none => simp
    | some w => simp [c]
/-! ### logs -/
/-- the table tells the logs: tuples of entries -/
def LogsOk (H : Hp) (t : Tab) (L : Str → List (List V)) : Prop := ∀ x, (valV t x = none ∧ L x = []) ∨ ∃ p, (L x ≠ [] ∧ valV t x = some (.ref p)) ∧ TupsAt H p (L x)
def logPut (L : Str → List (List V)) (x : Str) (e : List V) : Str → List (List V) := fun y => if y = x then L y ++ [e] else L y
def logMoves (L : Str → List (List V)) (note : List V) (ms : List (Str × V × V)) : Str → List (List V) := ms.foldl (fun L m => logPut L m.1 ([m.2.1, m.2.2] ++ note)) L
theorem LogsOk.keep {H H' : Hp} {t : Tab} {L : Str → List (List V)} (h : LogsOk H t L) (k : TupKeep H H') : LogsOk H' t L := fun x => (h x).imp id fun ⟨p, a, b⟩ => ⟨p, a, b.keep k⟩
theorem LogsOk.of {H : Hp} {t u : Tab} {L : Str → List (List V)} (h : LogsOk H t L) (e : ∀ x, valV u x = valV t x) : LogsOk H u L := fun x => by
  rw [e]
  exact h x
theorem LogsOk.put {H : Hp} {t : Tab} {L : Str → List (List V)} (h : LogsOk H t L) {x : Str} {p : Addr} {e : List V} (tp : TupsAt H p (L x ++ [e])) : LogsOk H (putK t x (.ref p)) (logPut L x e) := fun y => by
  unfold logPut
  rw [valV_put]
  by_cases c : y = x
  · rw [if_pos c, if_pos c, c]
    exact .inr ⟨p, ⟨List.append_ne_nil_of_right_ne_nil _ (fun z => nomatch z), rfl⟩, tp⟩
  · rw [if_neg c, if_neg c]
    exact h y
theorem len_put (t : Tab) (x : Str) (v : V) : (putK t x v).length ≤ t.length + 1 := length_putK t x v
theorem logMoves_take {L : Str → List (List V)} {note : List V} {ms : List (Str × V × V)} {i : Nat} {m : Str × V × V} (h : ms[i]? = some m) : logMoves L note (ms.take (i + 1)) = logPut (logMoves L note (ms.take i)) m.1 ([m.2.1, m.2.2] ++ note) := by
  unfold logMoves
  rw [List.take_add_one, h, List.foldl_append]
  rfl
theorem catA {K : PySem.W.Frag} {H : Hp} {a b : Addr} {xs ys : List V} {Q : VK} (ha : SqT K H a xs) (hb : H b = some (.tup ys)) (ny : ys ≠ []) (hz : xs.length + ys.length ≤ 1000000) (q : ∀ p H', Same H H' → H' p = some (.tup (xs ++ ys)) → Q (.ref p) H') : rCatA K (.ref a) (.ref b) H Q :=
  ⟨a, b, xs, ys, rfl, rfl, ha, SqT.of hb, small_line hz, fun e => q b H (Same.refl H) (by rw [e]; exact hb), fun _ e => absurd e ny, fun _ _ p hp => q p _ (same_new hp) upd_same⟩
/-- an entry is put behind the log of a name -/
theorem log_step {K : PySem.W.Frag} {H : Hp} {D2 nt : Addr} {lt : Tab} {L : Str → List (List V)} {x : Str} {v1 v2 n1 n2 n3 : V} {tk t1 t2 td tn : TE} {D : Ends} {σ : L2.St} (hD : H D2 = some (.dK (kT lt))) (lk : LogsOk H lt L) (hnt : H nt = some (.tup [n1, n2, n3]))
    (b : (L x).length ≤ 100000) (hl : lt.length ≤ 1000) (ek : ∀ H' Q, Q (.str x) H' → tk σ H' Q) (e1 : ∀ H' Q, Q v1 H' → t1 σ H' Q) (e2 : ∀ H' Q, Q v2 H' → t2 σ H' Q) (ed : ∀ H' Q, Q (.ref D2) H' → td σ H' Q) (en : ∀ H' Q, Q (.ref nt) H' → tn σ H' Q)
    (q : ∀ H' p, FrL [D2] H H' → TupKeep H H' → H' D2 = some (.dK (kT (putK lt x (.ref p)))) → LogsOk H' (putK lt x (.ref p)) (logPut L x ([v1, v2] ++ [n1, n2, n3])) → D.nx σ H') :
    sDPut td tk (tOp (rCatA K) (tDGet2 td tk (tTup tNil)) (tTup (tCons (tOp (rCatA K) (tTup (tCons t1 (tCons t2 tNil))) tn) tNil))) D σ H := by
  refine ed _ _ ⟨D2, rfl, .inl ⟨_, .inl hD⟩, ek _ _ ⟨Nat.zero_le _, fun pe hpe => ⟨valV lt x, ?_, ?_⟩⟩⟩
  · exact dget_kT (.inl (by rw [upd_ne (ne_of_none hD hpe)]; exact hD)) x
  · have s0 : Same H (upd H pe (.tup [])) := same_new hpe
    have p0 : (upd H pe (.tup [])) pe = some (.tup []) := upd_same
    generalize upd H pe (.tup []) = H0 at s0 p0
    obtain ⟨a, as, ea, ha, ta⟩ : ∃ (a : Addr) (as : List Addr), (valV lt x).getD (.ref pe) = .ref a ∧ H0 a = some (.tup (as.map V.ref)) ∧ Tups H0 as (L x) := by
      rcases lk x with ⟨e, l⟩ | ⟨p, ⟨_, e⟩, as, h, t⟩
      · exact ⟨pe, [], by rw [e]; rfl, p0, by rw [l]; exact Tups.nil⟩
      · exact ⟨p, as, by rw [e]; rfl, s0 _ _ h, t.keep (TupKeep.of s0)⟩
    rw [ea]
    have la : as.length ≤ 100000 := by rw [ta.1]; exact b
    refine e1 _ _ (e2 _ _ ⟨(by show 2 ≤ sizeLine; decide), fun p2 hp2 => en _ _ ?_⟩)
    refine catA (SqT.of upd_same) ((same_new hp2) _ _ (s0 _ _ hnt)) (fun z => nomatch z) (by show 2 + 3 ≤ _; decide) fun p3 H3 s3 h3 => ?_
    refine ⟨(by show 1 ≤ sizeLine; decide), fun p4 hp4 => ?_⟩
    have s04 : Same H0 (upd H3 p4 (.tup [V.ref p3])) := ((same_new hp2).trans s3).trans (same_new hp4)
    have h3' : (upd H3 p4 (.tup [V.ref p3])) p3 = some (.tup ([v1, v2] ++ [n1, n2, n3])) := (same_new hp4) _ _ h3
    have h4' : (upd H3 p4 (.tup [V.ref p3])) p4 = some (.tup [V.ref p3]) := upd_same
    generalize upd H3 p4 (.tup [V.ref p3]) = H4 at s04 h3' h4'
    refine catA (SqT.of (s04 _ _ ha)) h4' (fun z => nomatch z) (by rw [List.length_map]; show _ + 1 ≤ _; omega) fun p5 H5 s5 h5 => ?_
    have s05 := (s0.trans s04).trans s5
    have hD5 := s05 _ _ hD
    refine ed _ _ (ek _ _ ⟨D2, _, rfl, .inl ⟨kT lt, .inr x, hD5, rfl, small_lt (by rw [len_kT]; omega), rfl⟩, ?_⟩)
    rw [putK_kT]
    have kp : TupKeep H5 (upd H5 D2 (.dK (kT (putK lt x (.ref p5))))) := TupKeep.at fun xs z => by rw [hD5] at z; cases z
    have kp2 : TupKeep H (upd H5 D2 (.dK (kT (putK lt x (.ref p5))))) := (TupKeep.of s05).trans kp
    refine q _ p5 ((FrL.same s05).trans (FrL.at (List.mem_singleton_self D2))) kp2 upd_same ?_
    refine (lk.keep kp2).put ⟨as ++ [p3], ?_, ?_⟩
    · refine kp _ _ ?_
      rw [h5, List.map_append]
      rfl
    · exact ((ta.keep (TupKeep.of (s04.trans s5))).snoc (s5 _ _ h3')).keep kp
theorem logMoves_len (L : Str → List (List V)) (note : List V) (x : Str) : ∀ ms : List (Str × V × V), (logMoves L note ms x).length ≤ (L x).length + ms.length := by
  intro ms
  induction ms generalizing L with
  | nil => exact Nat.le_refl _
  | cons m r ih =>
    have := ih (logPut L m.1 ([m.2.1, m.2.2] ++ note))
    have e : (logPut L m.1 ([m.2.1, m.2.2] ++ note) x).length ≤ (L x).length + 1 := by
      unfold logPut
      split
      · rw [List.length_append]
        exact Nat.le_refl _
      · omega
    show (logMoves (logPut L m.1 ([m.2.1, m.2.2] ++ note)) note r x).length ≤ _
    rw [List.length_cons]
    omega
theorem dp_head {K : PySem.W.Frag} {H : Hp} {p : Addr} {a b : Str} (h : TupK K H p [.str a, .str b]) : Dp K H (.ref p) (.tuple [.str a, .str b]) := .tup h.sq (.cons (.str a) (.cons (.str b) .nil))
theorem shaped_head {a b : Str} (ha : OkS a) (hb : OkS b) : SeqAt.shaped (.tuple [.str a, .str b]) = true := by
  simp [SeqAt.shaped, PyData.canLay0, PyData.canLayAll0, strOk_of ha, strOk_of hb, PyData.depth, PyData.depthAll]
theorem eqv_head (a b c d : Str) : PyData.eqv (.tuple [.str a, .str b]) (.tuple [.str c, .str d]) = decide ((c, d) = (a, b)) := by
  simp only [PyData.eqv, PyData.eqvAll]
  rw [Bool.eq_iff_iff]
  simp only [Bool.and_eq_true, beq_iff_eq, decide_eq_true_eq, Prod.mk.injEq, and_true]
  exact ⟨fun ⟨x, y⟩ => ⟨x.symm, y.symm⟩, fun ⟨x, y⟩ => ⟨x.symm, y.symm⟩⟩
def flatN : V → Prop
  | .non => True
  | .str _ => True
  | _ => False
theorem scal_flat {x y : V} (hx : flatN x) (hy : flatN y) : scal x y = true := by
  cases x <;> cases y <;> first | rfl | exact hx.elim | exact hy.elim
def ledF (t : Tab) (x n : Str) : V := if x = "id" then .str n else (valV t n).getD .non
theorem flat_val {t : Tab} (h : ∀ e ∈ t, flatN e.2) (x : Str) : flatN ((valV t x).getD .non) := by
  induction t with
  | nil => exact True.intro
  | cons p r ih =>
    by_cases e : p.1 = x
    · rw [valV_pos e]
      exact h p List.mem_cons_self
    · rw [valV_neg e]
      exact ih fun q hq => h q (List.mem_cons_of_mem _ hq)
theorem flat_led {t : Tab} (h : ∀ e ∈ t, flatN e.2) (x n : Str) : flatN (ledF t x n) := by
  unfold ledF
  split
  · exact True.intro
  · exact flat_val h n
theorem flat_after {t : Tab} {ms : List (Str × V × V)} (h : ∀ e ∈ t, flatN e.2) (k : ∀ m ∈ ms, flatN m.2.2) : ∀ e ∈ afterT t ms, flatN e.2 := fun e he => by
  rcases List.mem_append.mp he with he | he
  · exact h e (List.mem_filter.mp he).1
  · obtain ⟨m, hm, rfl⟩ := List.mem_map.mp (List.mem_filter.mp he).1
    exact k m hm
end Fk

set_option maxHeartbeats 4000000
/-! What stands where references and edits are. -/
namespace Fk
open PySem PySem.Spec PyProof.Rows L2
/-- the fields of references -/
def rf (lk tb hd lg : Addr) : List (Str × V) := [("_locks", .ref lk), ("_table", .ref tb), ("_head", .ref hd), ("_logs", .ref lg)]
/-- the fields of an edit -/
def ef (R nt cl : Addr) (nh : V) (b : Bool) : List (Str × V) := [("_refs", .ref R), ("_note", .ref nt), ("_calls", .ref cl), ("_new_head", nh), ("closed", .bl b)]
/-- the calls of an edit: names, what they shall have, what they had -/
def CallsAt (H : Hp) (cl : Addr) (cs : List (Str × V × V)) : Prop := ∃ zs : List (Addr × (Str × V × V)), zs.map (·.2) = cs ∧ H cl = some (.dK (kT (zs.map fun z => (z.2.1, .ref z.1)))) ∧ ∀ z ∈ zs, H z.1 = some (.tup [z.2.2.1, z.2.2.2])
/-- the locks: those of closed edits and those of the edit at E -/
def LocksAt (H : Hp) (CE lk E : Addr) (n : Nat) : Prop := ∃ kt : Tab, H lk = some (.dK (kT kt)) ∧ Nd kt ∧ kt.length ≤ 64 ∧ (kt.filter fun p => decide (p.2 = .ref E)).length ≤ n ∧ ∀ p ∈ kt, p.2 = .ref E ∨ ∃ e dx fs, p.2 = .ref e ∧ H e = some (.ins CE dx fs) ∧ fs.lookup ("closed" : Str) = some (.bl true)
theorem mem_putK {t : Tab} {x : Str} {v : V} {p : Str × V} (h : p ∈ putK t x v) : p ∈ t ∨ p.2 = v := by
  unfold putK at h
  split at h
  · obtain ⟨q, hq, e⟩ := List.mem_map.mp h
    by_cases c : q.1 = x
    · rw [if_pos c] at e
      exact .inr (by rw [← e])
    · rw [if_neg c] at e
      exact .inl (by rw [← e]; exact hq)
  · rcases List.mem_append.mp h with h | h
    · exact .inl h
    · exact .inr (by rw [List.mem_singleton.mp h])
theorem LocksAt.keep {H H' : Hp} {CE lk E : Addr} {n : Nat} (h : LocksAt H CE lk E n) (e : ∀ o, H lk = some o → H' lk = some o) (k : ∀ a dx fs, H a = some (.ins CE dx fs) → fs.lookup ("closed" : Str) = some (.bl true) → H' a = some (.ins CE dx fs)) : LocksAt H' CE lk E n := by
  obtain ⟨kt, a, b, c, c', d⟩ := h
  exact ⟨kt, e _ a, b, c, c', fun p hp => (d p hp).imp id fun ⟨x, dx, fs, h1, h2, h3⟩ => ⟨x, dx, fs, h1, k _ _ _ h2 h3, h3⟩⟩
theorem LocksAt.same {H H' : Hp} {CE lk E : Addr} {n : Nat} (h : LocksAt H CE lk E n) (s : Same H H') : LocksAt H' CE lk E n := h.keep (fun o e => s _ _ e) fun _ _ _ e _ => s _ _ e
theorem FrL.out {L : List Addr} {H H' : Hp} (f : FrL L H H') {b : Addr} {o : HO} (e : H b = some o) (n : ∀ a ∈ L, b ≠ a) : H' b = some o := f b o (fun z => n b z rfl) e
theorem not1 {a b : Addr} (h : b ≠ a) : ∀ c ∈ [a], b ≠ c := fun c hc => by rw [List.mem_singleton.mp hc]; exact h
theorem not2 {a c b : Addr} (h : b ≠ a) (k : b ≠ c) : ∀ d ∈ [a, c], b ≠ d := fun d hd => by
  rcases List.mem_cons.mp hd with e | hd
  · rw [e]; exact h
  · rw [List.mem_singleton.mp hd]; exact k
theorem at_ne {H : Hp} {a b : Addr} {o u : HO} (h : H a = some o) (k : H b = some u) (n : o ≠ u) : a ≠ b := fun z => by
  rw [z, k] at h
  exact n (Option.some.inj h).symm
/-- what an edit has behind a call -/
def callPut (cs : List (Str × V × V)) (x : Str) (v o : V) : List (Str × V × V) := cs.filter (fun c => decide (c.1 ≠ x)) ++ [(x, v, o)]
theorem CallsAt.keep {H H' : Hp} {cl : Addr} {cs : List (Str × V × V)} (h : CallsAt H cl cs) (k : TupKeep H H') (e : ∀ o, H cl = some o → H' cl = some o) : CallsAt H' cl cs := by
  obtain ⟨zs, a, b, c⟩ := h
  exact ⟨zs, a, e _ b, fun z hz => k _ _ (c z hz)⟩
theorem calls_drop (zs : List (Addr × (Str × V × V))) (x : Str) : dropK (zs.map fun z => (z.2.1, V.ref z.1)) x = (zs.filter fun z => decide (z.2.1 ≠ x)).map fun z => (z.2.1, V.ref z.1) := by
  unfold dropK
  rw [List.filter_map]
  rfl
theorem calls_put {H : Hp} {cl p : Addr} {zs : List (Addr × (Str × V × V))} {x : Str} {v o : V} (hc : H cl = some (.dK (kT (putK (dropK (zs.map fun z => (z.2.1, V.ref z.1)) x) x (.ref p))))) (hz : ∀ z ∈ zs, H z.1 = some (.tup [z.2.2.1, z.2.2.2])) (hp : H p = some (.tup [v, o])) :
    CallsAt H cl (callPut (zs.map (·.2)) x v o) := by
  refine ⟨zs.filter (fun z => decide (z.2.1 ≠ x)) ++ [(p, x, v, o)], ?_, ?_, fun z h => ?_⟩
  · unfold callPut
    rw [List.map_append, List.filter_map]
    rfl
  · rw [hc, calls_drop, putK_new]
    · rw [List.map_append]
      rfl
    · rw [← calls_drop, valV_drop, if_pos rfl]
  · rcases List.mem_append.mp h with h | h
    · exact hz z (List.mem_filter.mp h).1
    · rw [List.mem_singleton.mp h]
      exact hp
/-! ### errors that are raised -/
def spErr (K : PySem.W.Frag) (f : Str) : Sp := fun vs H Q _ => ∃ (a C fI : Addr) (y : V), vs = [.ref a, y] ∧ XC K C fI ∧ PySem.W.findIn K (.ref C) f = some none ∧ H a = some (exo a C none) ∧
  ∀ dx, H dx = none → dx ≠ a → Q .non (upd (upd H dx (exd dx [(f, y)])) a (exo a C (some dx)))
/-- what is asked of an error's class to be raised -/
structure OexW (K : PySem.W.Frag) (C : Addr) : Prop where
  exC : PySem.W.subIn K (.ref C) (.type "BaseException") = some true
  tyC : PySem.W.typeIn K (.ref C) = some (.type "type")
instance {K : PySem.W.Frag} {C : Addr} : Coe (OexC K C) (OexW K C) := ⟨fun h => ⟨h.exC, h.tyC⟩⟩
structure ErrC (K : PySem.W.Frag) (mg : Str → Option Value) (nm f : Str) (C fI : Addr) : Prop where
  mgc : mg nm = some (.ref C)
  ox : OexW K C
  xc : XC K C fI
  nf : PySem.W.findIn K (.ref C) f = some none
  ini : ∃ fd, (∀ (P : Program) (w : World) (base : Heap), FnOk P w K mg base C8.CX0 1 fI fd ["self", f] (spErr K f)) ∧ Binds K fd ["self", f] []
section
variable {X : Cx} {nm f : Str} {C fI : Addr} {e : Expr} {es : List Expr} {t : TA} {p pos : Pos}
theorem rs_of (T : ErrC X.K X.mg nm f C fI) (hr : Room 2 X.A) (hg : Gl X nm) (ha : PA X (e :: es) t) (hdb : (nm == ("__debug__" : Str)) = false := by decide)
    (he : starEach (e :: es) X.env = (false, eval e X.env) :: starEach es X.env := by rfl) (hpl : (backTo pos (starEach es X.env)).any (·.1) = false := by rfl) :
    PMk X (.Call (.Name nm p) (e :: es) [] pos) (tMkO C (spErr X.K f) [] t) := by
  obtain ⟨fd, FI, bI⟩ := T.ini
  have F1 := FI X.prog X.w X.base
  intro pn s σ H Q I h
  obtain ⟨B, newId, initId, bmB, cn, cq, N, bs, bm, sn, sub, ab, col, dd, k0, k1, k2, k3, k5, FB, ok, _, _, hC⟩ := T.xc.cls
  refine wpAny_Call_Name_kw (ld_glob I hg T.mgc ?_ hdb)
  refine PySem.W.callWith_K (h₀ := X.base) I.ok.mod.kin T.xc.kC (thn (ha.run pos pn s σ H _ I h) fun us sA ⟨vs, HA, IA, rA, zA, qA⟩ => ⟨IA.kIn, ?_⟩) he hpl
  show wpAny _ _ (call (.ref C) us) _ _ _
  obtain ⟨hp, g, dr, tk, os⟩ := sA
  have szE : hp.objs.size ≤ hp.objs.size + 1 := Nat.le_succ _
  have qE := qA (hp.objs.size + 1) (IA.hok.fresh szE)
  rw [List.append_nil] at qE
  have stays : ∀ b o, hp.get? b = some o → ((hp.push (PySem.W.kdv_tup us)).push (PySem.HandSPX.excO C hp.objs.size)).get? b = some o := fun b o z => Heap.get?_push_of_some _ (Heap.get?_push_of_some _ z)
  have atE : ((hp.push (PySem.W.kdv_tup us)).push (PySem.HandSPX.excO C hp.objs.size)).get? (hp.objs.size + 1) = some (PySem.HandSPX.excO C hp.objs.size) := by heap_get
  have IB : Inv X pn σ (upd HA (hp.objs.size + 1) (exo (hp.objs.size + 1) C none)) ⟨(hp.push (PySem.W.kdv_tup us)).push (PySem.HandSPX.excO C hp.objs.size), g, dr, tk, os⟩ :=
    IA.laid (t' := tk) (a := hp.objs.size + 1) (o := exo (hp.objs.size + 1) C none) (h' := (hp.push (PySem.W.kdv_tup us)).push (PySem.HandSPX.excO C hp.objs.size)) stays szE (exo_ok atE)
  have rB : Vals (V.ref (hp.objs.size + 1) :: vs) (Value.ref (hp.objs.size + 1) :: us) := .cons rfl rA
  have lB : (Value.ref (hp.objs.size + 1) :: us ++ []).length = [("self" : Str), f].length := by
    rw [List.append_nil, ← F1.len _ _ _ _ qE]
    exact rB.length.symm
  have usz : us.length ≤ sizeLine := by
    rw [← Paired.length rA, sizeLine_eq]; omega
  have bB := bI _ (Value.ref (hp.objs.size + 1) :: us) IB.kIn lB
  rw [List.append_nil] at bB
  refine wpAny_call (xcall FB ok (IA.kIn _ _ hC) (PySem.W.looks_findIn IA.kIn T.xc.iC) (fun self => PySem.W.bind_fn IA.kIn self T.xc.tI) usz
    (codeAny_mono (F1.run _ X.stack _ _ ⟨Value.ref (hp.objs.size + 1) :: us, []⟩ (Value.ref (hp.objs.size + 1) :: us) _ _ (fun _ _ _ => False) (hr.make C us []) (IB.env0.make C us []) bB rB qE) fun r s' z => ?_))
  rcases r with er | (_ | _ | _ | u)
  · exact absurd z id
  · exact z.elim
  · exact z.elim
  · exact z.elim
  · obtain ⟨v, HB, osB, bareB, unB, okB, rvB, ev, d, fs, ea, ed, nd, qB⟩ := z
    subst ev
    obtain ⟨hB, gB, dB, tB, osC⟩ := s'
    exact ⟨rvB, mk_end (raises_own T.ox.exC T.ox.tyC) IA szE stays unB okB osB bareB ea ed nd qB⟩
end
/-- an error made to be raised -/
theorem do_raise {K : PySem.W.Frag} {mg : Str → Option Value} {nm f : Str} {C fI : Addr} (T : ErrC K mg nm f C fI) {Hc : Hp} {y : V} {Q : XK} (q : ∀ d H', Same Hc H' → Hc d = none → H' d = some (.xd [(f, y)]) → Q (.ref C) (some d) H') :
    ∀ a, Hc a = none → spErr K f (.ref a :: ([y] ++ [])) (upd Hc a (exo a C none)) (fun v H2 => v = .non ∧ ∃ (d : Addr) (fs : List (Str × V)), H2 a = some (exo a C (some d)) ∧ H2 d = some (exd d fs) ∧ Hc d = none ∧ Q (.ref C) (some d) (upd (del H2 a) d (.xd fs))) (fun _ _ _ => False) := by
  intro a na
  refine ⟨a, C, fI, y, rfl, T.xc, T.nf, upd_same, fun dx nd ne => ⟨rfl, dx, [(f, y)], upd_same, by rw [upd_ne ne]; exact upd_same, ?_, ?_⟩⟩
  · rw [upd_ne ne] at nd
    exact nd
  · have nd' : Hc dx = none := by rw [upd_ne ne] at nd; exact nd
    refine q dx _ (fun b o e => ?_) nd' upd_same
    have n1 : b ≠ a := ne_of_none e na
    have n2 : b ≠ dx := ne_of_none e nd'
    rw [upd_ne n2]
    unfold del
    rw [if_neg n1, upd_ne n1, upd_ne n2, upd_ne n1]
    exact e
/-! ### what an edit moves -/
def bad (t : Tab) (c : Str × V × V) : Bool := !decide (c.2.2 = .str "") && !decide (c.2.2 = (valV t c.1).getD .non)
def staleF (t : Tab) (cs : List (Str × V × V)) : Option Str := (cs.find? (bad t)).map (·.1)
def newT (cs : List (Str × V × V)) : Tab := cs.map fun c => (c.1, c.2.1)
def rowsF (t : Tab) (cs : List (Str × V × V)) (ys : List Str) : List (Str × V × V) := ys.map fun x => (x, (valV t x).getD .non, (valV (newT cs) x).getD .non)
def movesF (t : Tab) (cs : List (Str × V × V)) (ys : List Str) : List (Str × V × V) := (rowsF t cs ys).filter fun m => !decide (m.2.1 = m.2.2)
theorem stale_at {t : Tab} {cs : List (Str × V × V)} {i : Nat} {c : Str × V × V} (h : cs[i]? = some c) (g : ∀ d ∈ cs.take i, bad t d = false) (b : bad t c = true) : staleF t cs = some c.1 := by
  have e : cs = cs.take i ++ c :: cs.drop (i + 1) := by
    have hi := (List.getElem?_eq_some_iff.mp h)
    obtain ⟨hi, hc⟩ := hi
    rw [← hc, List.getElem_cons_drop, List.take_append_drop]
  unfold staleF
  rw [e, List.find?_append]
  have n : (cs.take i).find? (bad t) = none := List.find?_eq_none.mpr fun d hd z => by rw [g d hd] at z; cases z
  rw [n, List.find?_cons, b]
  rfl
theorem stale_none {t : Tab} {cs : List (Str × V × V)} (g : ∀ d ∈ cs, bad t d = false) : staleF t cs = none := by
  unfold staleF
  rw [List.find?_eq_none.mpr fun d hd z => by rw [g d hd] at z; cases z]
  rfl
theorem movesF_nd {t : Tab} {cs : List (Str × V × V)} {ys : List Str} (h : ys.Nodup) : ((movesF t cs ys).map (·.1)).Nodup := by
  refine List.Nodup.sublist ((List.filter_sublist).map _) ?_
  unfold rowsF
  rw [List.map_map]
  have : ((fun x : Str × V × V => x.1) ∘ fun x : Str => (x, (valV t x).getD V.non, (valV (newT cs) x).getD V.non)) = id := rfl
  rw [this, List.map_id]
  exact h
theorem movesF_len (t : Tab) (cs : List (Str × V × V)) (ys : List Str) : (movesF t cs ys).length ≤ ys.length := by
  have := List.length_filter_le (fun m : Str × V × V => !decide (m.2.1 = m.2.2)) (rowsF t cs ys)
  unfold rowsF at this
  rw [List.length_map] at this
  exact this
theorem flat_new {cs : List (Str × V × V)} (h : ∀ c ∈ cs, flatN c.2.1) : ∀ e ∈ newT cs, flatN e.2 := fun e he => by
  obtain ⟨c, hc, rfl⟩ := List.mem_map.mp he
  exact h c hc
theorem flat_moves {t : Tab} {cs : List (Str × V × V)} {ys : List Str} (ht : ∀ e ∈ t, flatN e.2) (h : ∀ c ∈ cs, flatN c.2.1) : ∀ m ∈ rowsF t cs ys, flatN m.2.1 ∧ flatN m.2.2 := fun m hm => by
  obtain ⟨x, _, rfl⟩ := List.mem_map.mp hm
  exact ⟨flat_val ht x, flat_val (flat_new h) x⟩
theorem have_after {t u : Tab} {ms : List (Str × V × V)} (nt : Nd t) (so : SortOf t u) (nm : (ms.map (·.1)).Nodup) : haveF ((afterT u ms).map (·.1)) = haveF ((afterT t ms).map (·.1)) :=
  have_perm (keys_perm (nd_after (so.nd nt) nm) (nd_after nt nm) fun x => by rw [val_after (so.nd nt) nm, val_after nt nm, so.2.2])
theorem yields_zipL {α : Type} {K : PySem.W.Frag} {a : Addr} {as : List Addr} {ms : List α} (e : as.length = ms.length) : Yields (Itl K a) ((as.zip ms).map fun u => V.ref u.1) (fun H => SqL K H a (as.map V.ref)) := by
  rw [zip_ms e]
  exact yields_list
end Fk

set_option maxHeartbeats 4000000
/-! x[y] of an own class. -/
namespace Fk
open PySem PySem.Spec PyProof.Rows L2
section
variable {P : Program} {w : World} {K : PySem.W.Frag} {mg : Str → Option Value} {base : Heap} {k : Nat} {C : Addr} {m : Str} {sp : Sp}
theorem ownM_of (M : C8.Met P w K mg base k C m sp []) : OwnM P w K mg base C8.CX0 k C m sp := by
  obtain ⟨f, fd, ps, ds, _, hm, F, b, d⟩ := M.ex
  cases d
  exact ⟨f, fd, ps, hm.at_, hm.fn, F, b⟩
/-- .. whose def is known as a def -/
structure GetM (P : Program) (w : World) (K : PySem.W.Frag) (mg : Str → Option Value) (base : Heap) (k : Nat) (C : Addr) (sp : Sp) : Prop where
  ex : ∃ (f : Addr) (fd : FuncData) (ps : List Str), PySem.W.findIn K (.ref C) "__getitem__" = some (some (.ref f)) ∧ PySem.W.isFn K (.ref f) = true ∧ PySem.W.fnIn K f = true ∧ FnOk P w K mg base C8.CX0 k f fd ps sp ∧ Binds K fd ps []
theorem getM_of {qual : Str} {st : Stmt} {N ps : List Str} (D : MDef K C "__getitem__" qual st) (S : FnScope N ps (C8.fnScope st))
    (hb : ∀ (kV doc pm : Value) (an : Option Addr) (cdv ct : Value) (us : List Value), us.length = ps.length → bindArgs (PySem.W.fnOf "__getitem__" qual (C8.fnArgs st) (C8.fnBody st) (C8.fnScope st) .none kV doc pm an cdv ct) ⟨us, []⟩ = pure (ps.zip us))
    (len : ∀ vs H Q E, sp vs H Q E → vs.length = ps.length)
    (hbody : ∀ (f : Addr) (cdv : Value) (A : Around) (outer : List Env) (s : Shared) (H : Hp) (vs : List V) (Q : VK) (E : XK), Room k (A.deeper (envOfC qual (C8.fnScope st) s.heap.objs.size f cdv)) → sp vs H Q E →
      ∃ t, PSs (cxOf C8.CX0 P w K mg base N qual (C8.fnScope st) f cdv A outer s H E).nox (C8.fnBody st) t ∧ t { nx := fun _ H' => Q .non H', rt := Q } (start N vs) H) : GetM P w K mg base (k + 1) C sp := by
  obtain ⟨f, fd, F, M, df⟩ := D.ex
  have G := C8.fn0 (P := P) (w := w) (mg := mg) (base := base) F S len (hbody f)
  have b := F.binds df hb
  obtain ⟨oc, od, dV, kV, doc, pm, an, cdv, ct, osl, rfl, lk, hcd⟩ := F.ex
  refine ⟨f, _, ps, M.at_, M.fn, ?_, G, b⟩
  unfold PySem.W.fnIn
  rw [lk]
end
section
variable {X : Cx} {k : Nat} {C : Addr} {sp : Sp} {o i : Expr} {td ty : TE} {pos : Pos}
def tOwnGet (C : Addr) (sp : Sp) (td ty : TE) : TE := fun σ H Q => td σ H fun x H1 => ty σ H1 fun y H2 => ∃ (a dx : Addr) (fs : List (Str × V)), x = .ref a ∧ H2 a = some (.ins C dx fs) ∧ sp [x, y] H2 Q C8.E0
theorem pe_ownGet (M : GetM X.prog X.w X.K X.mg X.base k C sp) (hr : Room (k + 1) X.A) (ho : PE X o td) (hi : PE X i ty)
    (hsl : ∀ x iv, subscripted i true (.ref x) iv = runValue (.builtin "lifetime.subscript" ⟨[.ref x, iv], []⟩) := by intro _ _; with_unfolding_all rfl) : PE X (.Subscript o i pos) (tOwnGet C sp td ty) := by
  refine ⟨fun pins s σ H Q I h => ?_⟩
  refine Subscript_ (thn (ho.run pins s σ H _ I h) fun v s1 ⟨x, H1, I1, rx, q1⟩ => thn (hi.run pins s1 σ H1 _ I1 q1) fun u s2 ⟨y, H2, I2, ry, a, dx, fs, ex, ha, q⟩ => ?_)
  subst ex
  obtain rfl : v = Value.ref a := rx
  obtain ⟨f, fd, ps, hs, hf, hfi, F, hb⟩ := M.ex
  obtain ⟨mA, J, _⟩ := ins_get I2.hok ha
  obtain ⟨od, J, _⟩ := J.look
  obtain ⟨m, hF⟩ := I2.fr
  exact PySem.W.sub_K hF I2.ok.mod.kin J hs hfi hf (run_in F hr.in1 I2.env0.in1 hb noEx0 I2 (show Vals [V.ref a, y] [Value.ref a, u] from .cons rfl (.cons ry .nil)) q) (hsl _ _)
end
end Fk

set_option maxHeartbeats 4000000
/-! xs[::-1] of a list, t[::-1] of a tuple. -/
namespace Fk
open PySem PySem.Spec PyProof.Rows L2 HT
theorem back_places (n : Nat) : Builtin.Slice.sliceAdjust none none (-1) (n : Int) = ((n : Int) - 1, -1) ∧ Builtin.Slice.slicePlaces ((n : Int) - 1) (-1) (-1) = n := by
  constructor
  · first | rfl | simp [Builtin.Slice.sliceAdjust]
  · unfold Builtin.Slice.slicePlaces
    rw [if_neg (by decide)]
    by_cases h : (n : Int) - 1 > -1
    · rw [if_pos h, show (- -1 : Int) = 1 by decide, Int.ediv_one]
      omega
    · rw [if_neg h]
      omega
theorem sliceApplied_back {prog : Program} {w : World} {A : Around} {E : Value → Shared → Prop} {s : Shared} {sl : Addr} {vk : Value} {n : Nat} {Q : Int × Int × Nat → Shared → Prop} (hs : s.heap.IsSliceOf sl .none .none vk) (pk : IsPart vk (some (-1)))
    (h : Q ((n : Int) - 1, -1, n) s) : wpAny (model prog w) A (Builtin.Slice.sliceApplied (.ref sl) (pure (n : Int))) Q E s := by
  obtain ⟨os, hos, hcs, hds⟩ := id hs
  unfold Builtin.Slice.sliceApplied Builtin.Slice.sliceFields
  refine wpAny_bind (wpAny_bind (wpAny_field hos hds (x := .none) rfl (wpAny_bind (wpAny_field hos hds (x := .none) rfl (wpAny_bind (wpAny_field hos hds (x := vk) rfl (wpAny_pure ?_)))))))
  refine wpAny_bind (slicePart_ pk ?_)
  show wpAny _ _ (if ((-1 : Int) == 0) = true then _ else _) _ _ s
  rw [if_neg (by decide)]
  refine wpAny_bind (slicePart_ .none (wpAny_bind (slicePart_ .none (wpAny_bind (wpAny_pure ?_)))))
  show wpAny _ _ (match Builtin.Slice.sliceAdjust none none (-1) (n : Int) with | (lo, hi) => pure (lo, (-1 : Int), Builtin.Slice.slicePlaces lo hi (-1))) _ _ s
  rw [(back_places n).1]
  show wpAny _ _ (pure ((n : Int) - 1, (-1 : Int), Builtin.Slice.slicePlaces ((n : Int) - 1) (-1) (-1))) _ _ s
  rw [(back_places n).2]
  exact wpAny_pure h
theorem fm_congr {α β : Type} {f g : α → Option β} : ∀ {l : List α}, (∀ x ∈ l, f x = g x) → l.filterMap f = l.filterMap g
  | [], _ => rfl
  | a :: r, h => by
    rw [List.filterMap_cons, List.filterMap_cons, h a List.mem_cons_self, fm_congr fun x hx => h x (List.mem_cons_of_mem _ hx)]
theorem pick_back (items : Array Value) : ((List.range items.size).filterMap fun (k : Nat) => items[((items.size : Int) - 1 + (k : Int) * (-1)).toNat]?) = items.toList.reverse := by
  have e : ((List.range items.size).filterMap fun (k : Nat) => items[((items.size : Int) - 1 + (k : Int) * (-1)).toNat]?) = ((List.range items.size).map fun k => items.size - 1 - k).filterMap (items[·]?) := by
    rw [List.filterMap_map]
    refine fm_congr fun k hk => ?_
    have := List.mem_range.mp hk
    show _ = items[items.size - 1 - k]?
    congr 1
    omega
  rw [e, PySem.W.krv_range, List.filterMap_reverse, PySem.W.krv_all]
theorem getItem_tuple_back {prog : Program} {w : World} {A : Around} {E : Value → Shared → Prop} {s : Shared} {t sl : Addr} {items : Array Value} {vk : Value} {Q : Value → Shared → Prop} (ht : IsTup s.heap t items) (hs : s.heap.IsSliceOf sl .none .none vk) (pk : IsPart vk (some (-1)))
    (h : Q (.ref s.heap.objs.size) { s with heap := s.heap.push { cls := .type "tuple", data := .seq items.toList.reverse.toArray } }) (hsz : items.size ≤ sizeLine) : wpAny (model prog w) A (getItem (.ref t) (.ref sl)) Q E s := by
  have htake : sizeOk (.seq items.toList.reverse.toArray) := by
    show items.toList.reverse.toArray.size ≤ sizeLine
    rw [List.size_toArray, List.length_reverse, Array.length_toList]
    exact hsz
  obtain ⟨os, hos, hcs, hds⟩ := id hs
  have hTs : s.TypeIs (.ref sl) "slice" := ⟨os, hos, hcs⟩
  unfold getItem
  try with_reducible refine wpAny_holding ?_
  first | refine wpAny_bind (wpAny_pure ?_) | skip
  refine wpAny_bind (wpAny_sequenceKey ht.typeIs (by decide) ?_)
  refine wpAny_bind (wpAny_callSpecial?_slot (name := Str.ofString "__getitem__") ht.typeIs PyProof.Rows.slot_tuple_getitem
    (wpAny_call_entry PyProof.Rows.slot_tuple_getitem ht.typeIs entry_tuple_getitem ?_ (args_tuple_getitem _ _)))
  show wpAny _ _ (Builtin.Tuple.tupleItemsOf (.ref t) >>= _) _ _ s
  refine wpAny_bind (tupleItemsOf_ ht ?_)
  refine wpAny_bind (wpAny_typeOf hTs ?_)
  rw [if_pos (by decide)]
  refine wpAny_bind (sliceApplied_back hs pk ?_)
  have hno : ¬ ((((items.size : Int) - 1) == 0 && (-1 : Int) == 1 && items.size == items.size) = true) := by
    rw [show ((-1 : Int) == 1) = false from by decide, Bool.and_false, Bool.false_and]
    exact Bool.false_ne_true
  show wpAny _ _ (if (((items.size : Int) - 1) == 0 && (-1 : Int) == 1 && items.size == items.size) = true then _ else _) _ _ s
  rw [if_neg hno, pick_back]
  first
    | exact wpAny_bind (m := Builtin.Tuple.tupleExact _) (wpAny_newObj_type (wpAny_pure ⟨_, rfl, wpAny_pure h⟩) htake)
    | exact wpAny_bind (m := Builtin.Tuple.tupleExact _) (wpAny_newObj_type (wpAny_bind (wpAny_pure (wpAny_pure ⟨_, rfl, wpAny_pure h⟩))) htake)
    | exact wpAny_bind (wpAny_bind (m := Builtin.Tuple.tupleExact _) (wpAny_newObj_type (wpAny_pure (wpAny_pure ⟨_, rfl, wpAny_pure h⟩)) htake))
    | exact wpAny_bind (wpAny_bind (m := Builtin.Tuple.tupleExact _) (wpAny_newObj_type (wpAny_pure ⟨_, rfl, wpAny_pure h⟩) htake))
def rBack (K : PySem.W.Frag) : V → Hp → VK → Prop := fun x H Q => (∃ a xs, x = .ref a ∧ SqL K H a xs ∧ ∀ p, H p = none → Q (.ref p) (upd H p (.lst xs.reverse))) ∨ ∃ a xs, x = .ref a ∧ SqT K H a xs ∧ ∀ p, H p = none → Q (.ref p) (upd H p (.tup xs.reverse))
def tBack (K : PySem.W.Frag) (te ts : TE) : TE := fun σ H Q => te σ H fun x H1 => ts σ H1 fun y H2 => y = .int (-1) ∧ rBack K x H2 Q
theorem vals_rev {xs : List V} {us : List Value} (r : Vals xs us) : Vals xs.reverse us.reverse := by
  induction r with
  | nil => exact .nil
  | cons h t ih =>
    rw [List.reverse_cons, List.reverse_cons]
    exact ih.append (.cons h .nil)
/-- e[::-1] -/
theorem pe_back {X : Cx} {e st : Expr} {te ts : TE} {p2 pos : Pos} (he : PE X e te) (hst : PE X st ts) (hp : evalPart (some st) X.env = eval st X.env := by rfl)
    (hsub : ∀ x sl : Addr, ∃ ops, subscripted (.Slice none none (some st) p2) false (.ref x) (.ref sl) = operate ops (getItem (.ref x) (.ref sl)) := by intro x sl; exact ⟨_, by with_unfolding_all rfl⟩) : PE X (.Subscript e (.Slice none none (some st) p2) pos) (tBack X.K te ts) := by
  refine ⟨fun pins s σ H Q I h => ?_⟩
  refine Subscript_ (thn (he.run pins s σ H _ I h) fun v s1 ⟨x, H1, I1, r1, q1⟩ => ?_)
  refine wpAny_Slice ?_
  rw [evalPart_none]
  refine wpAny_pure (wpAny_pure ?_)
  rw [hp]
  refine thn (hst.run pins s1 σ H1 _ I1 q1) fun vk s3 ⟨y, H3, I3, pk, ey, q3⟩ => ?_
  subst ey
  obtain ⟨tk, rfl⟩ := (show ∃ t, vk = Value.int (-1) t from pk)
  have pk' : IsPart (.int (-1) tk) (some (-1)) := .int _ _
  have I4 : Inv X pins σ H3 { s3 with heap := s3.heap.push { cls := .type "slice", data := .fields #[.none, .none, .int (-1) tk] } } := I3.kept (t' := s3.toks) fun b ob q => Heap.get?_push_of_some _ q
  have hs : Heap.IsSliceOf (s3.heap.push { cls := .type "slice", data := .fields #[.none, .none, .int (-1) tk] }) s3.heap.objs.size .none .none (.int (-1) tk) := Heap.IsSliceOf.new ..
  generalize hS : ({ s3 with heap := s3.heap.push { cls := .type "slice", data := .fields #[.none, .none, .int (-1) tk] } } : Shared) = S at I4
  have hs' : S.heap.IsSliceOf s3.heap.objs.size .none .none (.int (-1) tk) := by rw [← hS]; exact hs
  show wpAny (model X.prog X.w) X.A (subscriptTail e (.Slice none none (some st) p2) v (.ref s3.heap.objs.size)) (EP X pins σ Q) X.xe S
  rcases q3 with ⟨a, xs, rfl, hx, q⟩ | ⟨a, xs, rfl, hx, q⟩
  · cases (show v = Value.ref a from r1)
    obtain ⟨its, r, hl, hz⟩ := I4.list hx
    have hlen : its.toArray.size = xs.length := by rw [List.size_toArray]; exact r.length.symm
    obtain ⟨ops, eo⟩ := hsub a s3.heap.objs.size
    refine tail_any (T := "list") (ops := ops) hl.isList.typeIs slot_list_getitem.lookup ?_ eo
    refine wpAny_getItem_list_slice hl.isList hs' .none .none pk' (by decide) ?_ (by rw [hlen]; exact hz)
    rw [PySem.W.krv_pick]
    refine ⟨.ref S.heap.objs.size, _, I4.laid (t' := S.toks) (o := .lst xs.reverse) (fun b ob q => Heap.get?_push_of_some _ q) (Nat.le_refl _) ?_, rfl, q _ (I4.hok.fresh (Nat.le_refl _))⟩
    exact ⟨by rw [List.length_reverse]; exact hz, _, 0, (vals_rev r), Heap.get?_push_size _ rfl⟩
  · cases (show v = Value.ref a from r1)
    obtain ⟨its, r, ht, hz⟩ := I4.tuple hx
    have hlen : its.toArray.size = xs.length := by rw [List.size_toArray]; exact r.length.symm
    obtain ⟨ops, eo⟩ := hsub a s3.heap.objs.size
    refine tail_any (T := "tuple") (ops := ops) ht.typeIs PyProof.Rows.slot_tuple_getitem.lookup ?_ eo
    refine getItem_tuple_back ht hs' pk' ?_ (by rw [hlen]; exact hz)
    refine ⟨.ref S.heap.objs.size, _, I4.laid (t' := S.toks) (o := .tup xs.reverse) (fun b ob q => Heap.get?_push_of_some _ q) (Nat.le_refl _) ?_, rfl, q _ (I4.hok.fresh (Nat.le_refl _))⟩
    exact ⟨by rw [List.length_reverse]; exact hz, _, (vals_rev r), IsTup.new _ _⟩
end Fk

set_option maxHeartbeats 4000000
/-! text.encode("ascii") of a text below 128 -/
namespace Fk
open PySem PySem.Spec PySem.Calls PyProof.Rows L2
open Builtin PySem.W
def AsX (x : PySem.Str) : Prop := ∀ c ∈ x.cps.toList, c < 128
def byts (x : PySem.Str) : Array UInt8 := ⟨x.cps.toList.map (·.toUInt8)⟩
theorem byts_size (x : PySem.Str) : (byts x).size = x.length := by simp only [byts, List.size_toArray, List.length_map, Array.length_toList]; rfl
theorem fold_b (l : List Nat) : ∀ acc : Array UInt8, l.foldl (fun a y => a ++ ([y.toUInt8] : List UInt8).toArray) acc = acc ++ (⟨l.map (·.toUInt8)⟩ : Array UInt8) := by
  induction l with
  | nil => intro acc; simp
  | cons c r ih => intro acc; rw [List.foldl_cons, ih]; apply Array.toList_inj.mp; simp
theorem none_bad {x : PySem.Str} (h : AsX x) : x.cps.findIdx? (fun c => decide (c ≥ 128)) = none := by
  refine Array.findIdx?_eq_none_iff.mpr fun c hc => decide_eq_false ?_
  have := h c (Array.mem_toList_iff.mpr hc); omega
section
variable {M : Model} {A : Around} {E : Value → Shared → Prop} {s : Shared} {x : PySem.Str} {id : String} {self : Value}
theorem all_of (y : Array Nat) : y.extract 0 y.size = y := by simp
theorem wp_narrow {Q : Array UInt8 → Shared → Prop} (ha : AsX x) (hz : x.length ≤ 16777216) (h : Q (byts x) s) : wpAny M A (_codecs.encodeNarrow id _codecs.asciiCodec none self x) Q E s := by
  have z0 : ¬ sizeLine < (#[] : Array UInt8).size := by rw [sizeLine_eq]; decide
  have z1 : ¬ sizeLine < (byts x).size := by rw [byts_size, sizeLine_eq]; omega
  have out : ((x.cps.extract 0 x.cps.size).extract 0 x.cps.size).foldl (fun a y => a ++ (_codecs.asciiCodec.bytesOf y).toArray) #[] = byts x := by
    rw [all_of, all_of, ← Array.foldl_toList]; exact (fold_b x.cps.toList #[]).trans (by simp [byts])
  unfold _codecs.encodeNarrow; refine wpAny_bind ?_; rw [KPc.range_list]
  cases hn : x.length with
  | zero =>
    have e : byts x = #[] := Array.eq_empty_of_size_eq_zero ((byts_size x).trans hn)
    rw [e] at h; show wpAny M A (forIn ([] : List Nat) _ _) _ E s; rw [List.forIn_nil]
    exact wpAny_pure (wpAny_pure h)
  | succ n =>
    have h0 : 0 < x.cps.size := by have : x.cps.size = n + 1 := hn; omega
    have hg : x.cps[0]? = some (x.cps[0]'h0) := Array.getElem?_eq_getElem h0
    have hb : _codecs.asciiCodec.bad (x.cps[0]'h0) = false := decide_eq_false (by have := ha _ (Array.mem_toList_iff.mpr (Array.getElem_mem h0)); omega)
    have hc : (((x.cps.extract 0 x.cps.size).findIdx? _codecs.asciiCodec.bad).getD (x.cps.extract 0 x.cps.size).size) = x.cps.size := by
      rw [all_of]; show ((x.cps.findIdx? (fun c => decide (c ≥ 128))).getD x.cps.size) = _; rw [none_bad ha]; rfl
    rw [List.range'_succ]; refine KPc.turn (wpAny_ite (KBy.ite_no z0 ?_)); (try dsimp only); rw [hg]; (try dsimp only)
    refine wpAny_ite (KBc.ite_yes (by rw [hb]; rfl) ?_); rw [hc, out]; (try dsimp only)
    cases n with
    | zero =>
      refine wpAny_pure ?_; show wpAny M A (forIn ([] : List Nat) _ _) _ E s; rw [List.forIn_nil]
      exact wpAny_pure (wpAny_pure h)
    | succ m =>
      refine wpAny_pure ?_; rw [List.range'_succ]; refine KPc.turn (wpAny_ite (KBy.ite_no z1 ?_)); (try dsimp only)
      have he : x.cps[0 + x.cps.size]? = none := Array.getElem?_eq_none (by omega)
      rw [he]; (try dsimp only); exact wpAny_pure (wpAny_pure h)
end
theorem enc_tree2 (x : PySem.Str) (t t2 : Tok) : «str.encode» ⟨[.str x t, .str (Str.ofString "ascii") t2], []⟩ = (do ret (← _codecs.encodeRoad "str.encode" (.str x t) x (Str.ofString "ascii") none)) := by
  first | rfl | kernel_rfl
theorem road_ascii (id : String) (self : Value) (x : PySem.Str) : _codecs.encodeRoad id self x (Str.ofString "ascii") none = (do mkBytes (← _codecs.encodeNarrow id _codecs.asciiCodec none self x)) := by
  first | rfl | (unfold _codecs.encodeRoad; rfl) | (unfold _codecs.encodeRoad; simp only []; rfl)
theorem meets_ascii {x : PySem.Str} {t t2 : Tok} (ha : AsX x) (hz : x.length ≤ 16777216) : Meets («str.encode» ⟨[.str x t, .str (Str.ofString "ascii") t2], []⟩) (fun _ R s => ∀ t' k, R (.ok (.ret (.bytes (byts x) t'))) { s with toks := k }) := by
  refine .of_wp fun prog w A R s h => ?_
  rw [enc_tree2, road_ascii]
  refine wpAny_bind (wpAny_bind (wp_narrow ha hz (wpAny_mkBytes ?_ (by rw [byts_size, sizeLine_eq]; exact hz))))
  exact wpAny_pure ⟨_, rfl, h _ _⟩
/-- text.encode("ascii") -/
theorem mt_ascii {X : Cx} : MtR X "str.encode" (fun x xs H Q => ∃ a : Str, x = .str a ∧ xs = [.str (Str.ofString "ascii")] ∧ AsX a ∧ a.length ≤ 16777216 ∧ Q (.byt (byts a)) H) := by
  intro pins s σ H x xs v us Q I rx rs h
  obtain ⟨a, rfl, rfl, ha, hz, q⟩ := h
  obtain ⟨t, rfl⟩ := rx
  cases rs with
  | cons r1 r2 =>
    cases r2
    obtain ⟨t2, rfl⟩ := r1
    exact call_meets F.slot_str_encode (typeIs_str s a t) F.entry_str_encode (F.args_str_encode_2 _ _) (meets_ascii ha hz) fun t' k => ⟨.byt (byts a), H, I.tok k, ⟨t', rfl⟩, q⟩
end Fk

set_option maxHeartbeats 4000000
/-! f"{n:016x}" of a number that is not negative -/
namespace Fk
open PySem PySem.Spec PySem.Calls PyProof.Rows L2
open Builtin PySem.W
def figs (n : Nat) : List Nat := (Nat.toDigits 16 n).map Char.toNat
def hex16 (n : Nat) : PySem.Str := ⟨(List.replicate (16 - (figs n).length) 48 ++ figs n).toArray⟩
def spec16 : Float.FormatSpec := match Float.parseFormatSpec (Str.ofString "016x").cps.toList "int" 62 with
  | .ok f => f
  | .error _ => ⟨0, 0, none, false, false, none, none, none, none⟩
def text16 (a : Int) : PySem.Str := intField' spec16 (decide (a < 0)) [] ((Nat.toDigits 16 a.natAbs).map fun c => (if (120 : Nat) == 88 then c.toUpper else c).toNat) [] 4
theorem spec_is : spec16.fill = 48 ∧ spec16.align = 61 ∧ spec16.width = some 16 ∧ spec16.grouping = none ∧ spec16.sign = none := by decide +kernel
theorem meets_hex {a : Int} {t : Tok} (hl : (text16 a).length ≤ sizeLine) : ∀ u, Meets («int.__format__» ⟨[.int a t, .str (Str.ofString "016x") u], []⟩) (fun _ R s => ∀ t' k, R (.ok (.ret (.str (text16 a) t'))) { s with toks := k }) := by
  intro _
  apply KPc.meets_of
  intro _ _ _ _ _ _ hq
  unfold Builtin.«int.__format__»; refine wpAny_bind (wpAny_of_eq (a := (_, _)) rfl ?_); refine wpAny_bind (wpAny_of_eq (a := _) rfl ?_)
  kxf_if
  refine wpAny_bind (wpAny_typeNameOf (T := "str") (typeIs_str _ _ _) (by decide) fun _ => ?_); refine wpAny_bind (wpAny_of_eq (a := some _) rfl ?_)
  kxf_if; kxf_if
  refine wpAny_bind (wpAny_typeNameOfCut_int ?_)
  repeat kxf_if
  refine KXf.ret_text (T := text16 a) ?_ ?_ hq
  · first | rfl | kernel_rfl
  · exact hl
theorem core_len (b : Nat) (hb : 1 < b) : ∀ (k fuel n : Nat) (ds : List Char), 1 ≤ k → n < b ^ k → (Nat.toDigitsCore b fuel n ds).length ≤ ds.length + k
  | _, 0, _, ds, _, _ => by unfold Nat.toDigitsCore; omega
  | k, fuel + 1, n, ds, hk, hn => by
    unfold Nat.toDigitsCore; simp only
    split
    · simp only [List.length_cons]; omega
    · rename_i h0
      cases k with
      | zero => omega
      | succ j =>
        cases j with
        | zero => exact absurd (Nat.div_eq_of_lt (by simpa using hn)) h0
        | succ i =>
          have h1 : n / b < b ^ (i + 1) := Nat.div_lt_of_lt_mul (by rw [Nat.pow_succ, Nat.mul_comm] at hn; exact hn)
          have := core_len b hb (i + 1) fuel (n / b) (Nat.digitChar (n % b) :: ds) (by omega) h1
          simp only [List.length_cons] at this; omega
theorem figs_len {n : Nat} (h : n < 16 ^ 16) : (figs n).length ≤ 16 := by
  have := core_len 16 (by decide) 16 (n + 1) n [] (by decide) h
  unfold figs; rw [List.length_map]; simpa [Nat.toDigits] using this
theorem figs_ne (n : Nat) : (figs n).isEmpty = false := by
  have := tDigits_len_ge 16 n
  cases e : figs n with
  | nil => have h2 : (figs n).length = 0 := by rw [e]; rfl
           unfold figs at h2; rw [List.length_map] at h2; omega
  | cons c r => rfl
theorem text_hex {n : Nat} (h : n < 16 ^ 16) : text16 (n : Int) = hex16 n := by
  obtain ⟨f1, f2, f3, f4, f5⟩ := spec_is
  have hl := figs_len h
  have hn := figs_ne n
  have e0 : decide ((n : Int) < 0) = false := decide_eq_false (by omega)
  have e1 : ((Nat.toDigits 16 (n : Int).natAbs).map fun c => (if (120 : Nat) == 88 then c.toUpper else c).toNat) = figs n := rfl
  unfold text16 intField' hex16
  rw [e0, e1]
  simp only [f1, f2, f3, f4, f5, hn, Bool.false_eq_true, if_false, List.length_nil, List.append_nil, List.nil_append, List.length_append, List.length_replicate, beq_self_eq_true, Bool.and_true, if_true]
  simp
  omega
theorem hex_len {n : Nat} (h : n < 16 ^ 16) : (hex16 n).length = 16 := by
  have := figs_len h
  show ((List.replicate (16 - (figs n).length) 48 ++ figs n).toArray).size = 16
  rw [List.size_toArray, List.length_append, List.length_replicate]; omega
def HX : List Nat := [48, 49, 50, 51, 52, 53, 54, 55, 56, 57, 97, 98, 99, 100, 101, 102]
theorem dig_in : ∀ d : Fin 16, (Nat.digitChar d).toNat ∈ HX := by decide +kernel
theorem core_in : ∀ (fuel n : Nat) (ds : List Char), (∀ c ∈ ds, c.toNat ∈ HX) → ∀ c ∈ Nat.toDigitsCore 16 fuel n ds, c.toNat ∈ HX
  | 0, _, ds, h => by unfold Nat.toDigitsCore; exact h
  | fuel + 1, n, ds, h => by
    have h2 : ∀ c ∈ Nat.digitChar (n % 16) :: ds, c.toNat ∈ HX := fun c hc => by
      rcases List.mem_cons.mp hc with rfl | hc
      · exact dig_in ⟨n % 16, Nat.mod_lt _ (by decide)⟩
      · exact h c hc
    unfold Nat.toDigitsCore; simp only
    split
    · exact h2
    · exact core_in fuel (n / 16) _ h2
theorem hex_in {n c : Nat} (h : c ∈ (hex16 n).cps.toList) : c ∈ HX := by
  have h : c ∈ List.replicate (16 - (figs n).length) 48 ++ figs n := h
  rcases List.mem_append.mp h with h | h
  · rw [(List.mem_replicate.mp h).2]; decide
  · obtain ⟨d, hd, rfl⟩ := List.mem_map.mp h
    exact core_in (n + 1) n [] (fun c hc => by cases hc) d hd
/-- {n:016x} -/
def tHex (te : TE) : TE := fun σ H Q => te σ H fun x H1 => ∃ n : Nat, x = .int n ∧ n < 16 ^ 16 ∧ Q (.str (hex16 n)) H1
theorem pe_hex {X : Cx} {e sp : Expr} {te : TE} {pos : Pos} (he : PE X e te) (hs : PE X sp (tC (.str (Str.ofString "016x")))) : PE X (.FormattedValue e (-1) (some sp) pos) (tHex te) := by
  refine ⟨fun pins s σ H Q I h => wpAny_FormattedValue_spec (thn (he.run pins s σ H _ I h) fun v s1 hv => ?_)⟩
  obtain ⟨x, H1, I1, r1, n, rfl, hn, q⟩ := hv
  obtain ⟨t, rfl⟩ := r1
  refine thn (hs.run pins s1 σ H1 (fun y H2 => y = .str (Str.ofString "016x") ∧ H2 = H1) I1 ⟨rfl, rfl⟩) fun u s2 hu => ?_
  obtain ⟨y, H2, I2, r2, rfl, rfl⟩ := hu
  obtain ⟨t2, rfl⟩ := r2
  have hz : (text16 (n : Int)).length ≤ sizeLine := by rw [text_hex hn, hex_len hn]; decide
  refine ⟨_, t2, rfl, KXf.field_int (y := text16 (n : Int)) rfl (by decide) (by decide) (fun u => meets_hex hz u) fun t' k => ?_⟩
  rw [text_hex hn]
  exact ⟨.str (hex16 n), H2, I2.tok k, ⟨t', rfl⟩, q⟩
end Fk

set_option maxHeartbeats 4000000
/-! What calls make of a table, one by one and by moves. -/
namespace Fk
open PySem PySem.Spec PyProof.Rows L2
def stepT (u : Tab) (c : Str × V × V) : Tab := if notNon c.2.1 = true then putK (dropK u c.1) c.1 c.2.1 else dropK u c.1
def lawT (t : Tab) (cs : List (Str × V × V)) : Tab := cs.foldl stepT t
theorem nd_step {t : Tab} (h : Nd t) (c : Str × V × V) : Nd (stepT t c) := by
  unfold stepT
  split
  · exact nd_put (nd_drop h c.1) _ _
  · exact nd_drop h c.1
theorem nd_lawT {t : Tab} (h : Nd t) : ∀ cs, Nd (lawT t cs) := fun cs => by
  unfold lawT
  induction cs generalizing t with
  | nil => exact h
  | cons c r ih => exact ih (nd_step h c)
theorem len_step (t : Tab) (c : Str × V × V) : (stepT t c).length ≤ t.length + 1 := by
  unfold stepT
  have h := dropK_le t c.1
  split
  · have := len_put (dropK t c.1) c.1 c.2.1
    omega
  · omega
theorem len_lawT (t : Tab) (cs : List (Str × V × V)) : (lawT t cs).length ≤ t.length + cs.length := by
  unfold lawT
  induction cs generalizing t with
  | nil => exact Nat.le_refl _
  | cons c r ih =>
    have := ih (stepT t c)
    have := len_step t c
    rw [List.foldl_cons, List.length_cons]
    omega
theorem val_step (t : Tab) (c : Str × V × V) (x : Str) : valV (stepT t c) x = if x = c.1 then (if notNon c.2.1 = true then some c.2.1 else none) else valV t x := by
  unfold stepT
  by_cases h : notNon c.2.1 = true
  · rw [if_pos h, valV_put, valV_drop]
    by_cases e : x = c.1
    · rw [if_pos e, if_pos e, if_pos h]
    · rw [if_neg e, if_neg e, if_neg e]
  · rw [if_neg h, valV_drop]
    by_cases e : x = c.1
    · rw [if_pos e, if_pos e, if_neg h]
    · rw [if_neg e, if_neg e]
theorem val_lawT (x : Str) : ∀ (cs : List (Str × V × V)) (t : Tab), (cs.map (·.1)).Nodup → valV (lawT t cs) x = match valV (newT cs) x with
    | none => valV t x
    | some v => if notNon v = true then some v else none
  | [], t, _ => rfl
  | c :: r, t, h => by
    obtain ⟨h1, h2⟩ := List.nodup_cons.mp (show (c.1 :: r.map (·.1)).Nodup from h)
    show valV (lawT (stepT t c) r) x = match valV ((c.1, c.2.1) :: newT r) x with
      | none => valV t x
      | some v => if notNon v = true then some v else none
    rw [val_lawT x r (stepT t c) h2]
    by_cases e : c.1 = x
    · have n : valV (newT r) x = none := by
        cases q : valV (newT r) x with
        | none => rfl
        | some v =>
          have m := valV_in q
          unfold newT at m
          rw [List.map_map] at m
          exact absurd (show c.1 ∈ r.map (·.1) by rw [e]; exact m) h1
      rw [n, valV_pos e]
      show valV (stepT t c) x = if notNon c.2.1 = true then some c.2.1 else none
      rw [val_step, if_pos e.symm]
    · rw [valV_neg e]
      cases q : valV (newT r) x with
      | none =>
        show valV (stepT t c) x = valV t x
        rw [val_step, if_neg (fun z => e z.symm)]
      | some v => rfl
theorem news_moves (t : Tab) (cs : List (Str × V × V)) {ys : List Str} (h : ys.Nodup) (x : Str) : valV (newsT (movesF t cs ys)) x = if x ∈ ys ∧ ¬ (valV t x).getD .non = (valV (newT cs) x).getD .non then some ((valV (newT cs) x).getD .non) else none := by
  have e : newsT (movesF t cs ys) = (ys.map fun x => (x, (valV (newT cs) x).getD .non)).filter fun p => !decide ((valV t p.1).getD .non = p.2) := by
    unfold newsT movesF rowsF
    rw [List.filter_map, List.filter_map, List.map_map]
    rfl
  have nd : Nd (ys.map fun x => (x, (valV (newT cs) x).getD .non)) := by
    unfold Nd
    rw [List.map_map]
    have : ((fun x : Str × V => x.1) ∘ fun x : Str => (x, (valV (newT cs) x).getD V.non)) = id := rfl
    rw [this, List.map_id]
    exact h
  rw [e, val_filter nd, val_keys (fun x => (valV (newT cs) x).getD .non)]
  by_cases m : x ∈ ys
  · rw [if_pos m]
    by_cases d : (valV t x).getD .non = (valV (newT cs) x).getD .non
    · rw [if_neg (fun z => z.2 d)]
      simp [d]
    · rw [if_pos ⟨m, d⟩]
      simp [d]
  · rw [if_neg m, if_neg (fun z => m z.1)]
    rfl
theorem notNon_some {v : V} (h : notNon v = true) : v ≠ .non := fun z => by rw [z] at h; cases h
theorem nn_of {v : V} (h : ¬ notNon v = true) : v = .non := by
  cases v <;> first | rfl | exact absurd rfl h
/-- moves and calls make the same -/
theorem after_law {t : Tab} {cs : List (Str × V × V)} {ys : List Str} (nt : Nd t) (vs : ∀ e ∈ t, notNon e.2 = true) (nc : (cs.map (·.1)).Nodup) (hp : ys.Perm (cs.map (·.1))) (x : Str) : valV (afterT t (movesF t cs ys)) x = valV (lawT t cs) x := by
  have ny : ys.Nodup := hp.nodup_iff.mpr nc
  rw [val_after nt (movesF_nd ny), news_moves t cs ny, val_lawT x cs t nc]
  have mk : x ∈ ys ↔ (valV (newT cs) x).isSome = true := by
    rw [hp.mem_iff, ← mem_val]
    unfold newT
    rw [List.map_map]
    rfl
  cases q : valV (newT cs) x with
  | none =>
    have nx : ¬ x ∈ ys := fun z => by have := mk.mp z; rw [q] at this; cases this
    rw [if_neg (fun z => nx z.1)]
  | some v =>
    have yx : x ∈ ys := mk.mpr (by rw [q]; rfl)
    by_cases d : (valV t x).getD .non = v
    · rw [if_neg (fun z => z.2 d)]
      show valV t x = if notNon v = true then some v else none
      cases c : valV t x with
      | none =>
        rw [c] at d
        rw [← d]
        rfl
      | some w =>
        rw [c] at d
        have d : w = v := d
        obtain ⟨p, hp2, ep⟩ := List.mem_map.mp (valV_in c)
        have v1 := val_nodup nt p hp2
        rw [ep, c] at v1
        have := vs p hp2
        rw [← Option.some.inj v1, d] at this
        rw [if_pos this, d]
    · rw [if_pos ⟨yx, d⟩]
      rfl
/-- moves, name by name -/
theorem movesF_snoc (t : Tab) (cs : List (Str × V × V)) (ys : List Str) (y : Str) : movesF t cs (ys ++ [y]) = movesF t cs ys ++ (if (valV t y).getD .non = (valV (newT cs) y).getD .non then [] else [(y, (valV t y).getD .non, (valV (newT cs) y).getD .non)]) := by
  unfold movesF rowsF
  rw [List.map_append, List.filter_append]
  congr 1
  by_cases d : (valV t y).getD .non = (valV (newT cs) y).getD .non
  · rw [if_pos d]
    simp [d]
  · rw [if_neg d]
    simp [d]
theorem logMoves_app (L : Str → List (List V)) (note : List V) (ms : List (Str × V × V)) (m : Str × V × V) : logMoves L note (ms ++ [m]) = logPut (logMoves L note ms) m.1 ([m.2.1, m.2.2] ++ note) := by
  unfold logMoves
  rw [List.foldl_append]
  rfl
/-- lists stay -/
def LstKeep (H H' : Hp) : Prop := ∀ b xs, H b = some (.lst xs) → H' b = some (.lst xs)
theorem LstKeep.of {H H' : Hp} (s : Same H H') : LstKeep H H' := fun b xs e => s b _ e
theorem LstKeep.trans {H H1 H2 : Hp} (a : LstKeep H H1) (b : LstKeep H1 H2) : LstKeep H H2 := fun c xs e => b c xs (a c xs e)
theorem LstKeep.at {a : Addr} {H : Hp} {o : HO} (n : ∀ xs, H a ≠ some (.lst xs)) : LstKeep H (upd H a o) := fun b xs e => by
  have z : b ≠ a := fun z => n xs (by rw [← z]; exact e)
  rw [upd_ne z]
  exact e
/-! ### the model -/
def modelT (mt mh ml : Addr) : Tab := [("table", .ref mt), ("head", .ref mh), ("logs", .ref ml)]
/-- the model's logs: lists of entries -/
def LogsL (H : Hp) (t : Tab) (L : Str → List (List V)) : Prop := ∀ x, (valV t x = none ∧ L x = []) ∨ ∃ (p : Addr) (as : List Addr), valV t x = some (.ref p) ∧ H p = some (.lst (as.map V.ref)) ∧ Tups H as (L x)
def ModAt (K : PySem.W.Frag) (H : Hp) (m mt mh ml : Addr) (t lt : Tab) (x n : Str) : Prop := H m = some (.dK (kT (modelT mt mh ml))) ∧ H mt = some (.dK (kT t)) ∧ TupK K H mh [.str x, .str n] ∧ H ml = some (.dK (kT lt))
theorem mod_get {H : Hp} {m mt mh ml : Addr} (h : H m = some (.dK (kT (modelT mt mh ml)))) : DGet H m (.str "table") (some (.ref mt)) ∧ DGet H m (.str "head") (some (.ref mh)) ∧ DGet H m (.str "logs") (some (.ref ml)) := ⟨dget_kT (.inl h) "table", dget_kT (.inl h) "head", dget_kT (.inl h) "logs"⟩
theorem ModAt.same {K : PySem.W.Frag} {H H' : Hp} {m mt mh ml : Addr} {t lt : Tab} {x n : Str} (h : ModAt K H m mt mh ml t lt x n) (s : Same H H') : ModAt K H' m mt mh ml t lt x n := ⟨s _ _ h.1, s _ _ h.2.1, h.2.2.1.keep (TupKeep.of s), s _ _ h.2.2.2⟩
theorem LogsL.same {H H' : Hp} {t : Tab} {L : Str → List (List V)} (h : LogsL H t L) (s : Same H H') : LogsL H' t L := fun x => (h x).imp id fun ⟨p, as, a, b, c⟩ => ⟨p, as, a, s _ _ b, c.keep (TupKeep.of s)⟩
theorem LogsL.keep {H H' : Hp} {t : Tab} {L : Str → List (List V)} (h : LogsL H t L) (k : TupKeep H H') (l : LstKeep H H') : LogsL H' t L := fun x => (h x).imp id fun ⟨p, as, a, b, c⟩ => ⟨p, as, a, l _ _ b, c.keep k⟩
theorem LogsL.put {H : Hp} {t : Tab} {L : Str → List (List V)} (h : LogsL H t L) {x : Str} {p : Addr} {e : List V} {as : List Addr} (hp : H p = some (.lst (as.map V.ref))) (tp : Tups H as (L x ++ [e])) : LogsL H (putK t x (.ref p)) (logPut L x e) := fun y => by
  unfold logPut
  rw [valV_put]
  by_cases c : y = x
  · rw [if_pos c, if_pos c, c]
    exact .inr ⟨p, as, rfl, hp, tp⟩
  · rw [if_neg c, if_neg c]
    exact h y
theorem log_stepL {H : Hp} {ml en : Addr} {lt : Tab} {L : Str → List (List V)} {x : Str} {ent : List V} {tk td te : TE} {D : Ends} {σ : L2.St} (hD : H ml = some (.dK (kT lt))) (ll : LogsL H lt L) (he : H en = some (.tup ent))
    (b : (L x).length ≤ 100000) (hl : lt.length ≤ 1000) (ek : ∀ H' Q, Q (.str x) H' → tk σ H' Q) (ed : ∀ H' Q, Same H H' → Q (.ref ml) H' → td σ H' Q) (ee : ∀ H' Q, Q (.ref en) H' → te σ H' Q)
    (q : ∀ H' p, FrL [ml] H H' → TupKeep H H' → LstKeep H H' → H' ml = some (.dK (kT (putK lt x (.ref p)))) → LogsL H' (putK lt x (.ref p)) (logPut L x ent) → D.nx σ H') :
    sDPut td tk (tOp rCat (tDGet2 td tk (tLst tNil)) (tLst (tCons te tNil))) D σ H := by
  refine ed _ _ (Same.refl H) ⟨ml, rfl, .inl ⟨_, .inl hD⟩, ek _ _ ⟨Nat.zero_le _, fun pe hpe => ⟨valV lt x, ?_, ?_⟩⟩⟩
  · exact dget_kT (.inl (by rw [upd_ne (ne_of_none hD hpe)]; exact hD)) x
  · have s0 : Same H (upd H pe (.lst [])) := same_new hpe
    have p0 : (upd H pe (.lst [])) pe = some (.lst []) := upd_same
    generalize upd H pe (.lst []) = H0 at s0 p0
    obtain ⟨a, as, ea, ha, ta⟩ : ∃ (a : Addr) (as : List Addr), (valV lt x).getD (.ref pe) = .ref a ∧ H0 a = some (.lst (as.map V.ref)) ∧ Tups H0 as (L x) := by
      rcases ll x with ⟨e, l⟩ | ⟨p, as, e, h, t⟩
      · exact ⟨pe, [], by rw [e]; rfl, p0, by rw [l]; exact Tups.nil⟩
      · exact ⟨p, as, by rw [e]; rfl, s0 _ _ h, t.keep (TupKeep.of s0)⟩
    rw [ea]
    have la : as.length ≤ 100000 := by rw [ta.1]; exact b
    refine ee _ _ ⟨(by show 1 ≤ sizeLine; decide), fun p2 hp2 => ⟨a, p2, _, _, rfl, rfl, (same_new hp2) _ _ ha, upd_same, small_line (by rw [List.length_map]; show _ + 1 ≤ _; omega), fun p3 hp3 => ?_⟩⟩
    have s03 : Same H0 (upd (upd H0 p2 (.lst [V.ref en])) p3 (.lst (as.map V.ref ++ [V.ref en]))) := (same_new hp2).trans (same_new hp3)
    have h3 : (upd (upd H0 p2 (.lst [V.ref en])) p3 (.lst (as.map V.ref ++ [V.ref en]))) p3 = some (.lst ((as ++ [en]).map V.ref)) := by
      rw [upd_same, List.map_append]
      rfl
    generalize upd (upd H0 p2 (.lst [V.ref en])) p3 (.lst (as.map V.ref ++ [V.ref en])) = H5 at s03 h3
    have s05 := s0.trans s03
    have hD5 := s05 _ _ hD
    refine ed _ _ s05 (ek _ _ ⟨ml, _, rfl, .inl ⟨kT lt, .inr x, hD5, rfl, small_lt (by rw [len_kT]; omega), rfl⟩, ?_⟩)
    rw [putK_kT]
    have kp : TupKeep H5 (upd H5 ml (.dK (kT (putK lt x (.ref p3))))) := TupKeep.at fun xs z => by rw [hD5] at z; cases z
    have kl : LstKeep H5 (upd H5 ml (.dK (kT (putK lt x (.ref p3))))) := LstKeep.at fun xs z => by rw [hD5] at z; cases z
    have kp2 := (TupKeep.of s05).trans kp
    have kl2 := (LstKeep.of s05).trans kl
    refine q _ p3 ((FrL.same s05).trans (FrL.at (List.mem_singleton_self ml))) kp2 kl2 upd_same ?_
    exact (ll.keep kp2 kl2).put (kl _ _ h3) (((ta.keep (TupKeep.of s03)).snoc (s05 _ _ he)).keep kp)
def callL (c : Str × V × V) : List V := [.str c.1, c.2.1, c.2.2]
/-- the law's own list of the calls -/
def CallsL (H : Hp) (lc : Addr) (cs : List (Str × V × V)) : Prop := ∃ as : List Addr, H lc = some (.lst (as.map V.ref)) ∧ Tups H as (cs.map callL)
theorem ok_prefixes {x : Str} (h : OkS x) : ∀ y ∈ prefixesF x, OkS y := fun y hy => by
  obtain ⟨k, _, rfl⟩ := List.mem_map.mp hy
  exact ok_join ok_slash fun p hp => segs_ok x h p (List.mem_of_mem_take hp)
theorem have_any {ks : List Str} (h : haveF ks = false) : ∀ x ∈ ks, ((prefixesF x).any fun y => decide (y ∈ ks)) = false := fun x hx => by
  unfold haveF at h
  exact Bool.eq_false_iff.mpr fun z => by
    rw [List.any_eq_true.mpr ⟨x, hx, z⟩] at h
    cases h
theorem law_new_at {t : Tab} {cs : List (Str × V × V)} {y : Str} (nc : (cs.map (·.1)).Nodup) (h : y ∈ cs.map (·.1)) : (valV (lawT t cs) y).getD .non = (valV (newT cs) y).getD .non := by
  rw [val_lawT y cs t nc]
  have m : (valV (newT cs) y).isSome = true := by
    rw [← mem_val]
    unfold newT
    rw [List.map_map]
    exact h
  cases c : valV (newT cs) y with
  | none => rw [c] at m; cases m
  | some v =>
    show (if notNon v = true then some v else none).getD .non = v
    by_cases d : notNon v = true
    · rw [if_pos d]
      rfl
    · rw [if_neg d, nn_of d]
      rfl
theorem mem_keys_put {t : Tab} {x y : Str} {v : V} (h : y ∈ (putK t x v).map (·.1)) : y ∈ t.map (·.1) ∨ y = x := by
  have := mem_val.mp h
  rw [valV_put] at this
  by_cases c : y = x
  · exact .inr c
  · rw [if_neg c] at this
    exact .inl (mem_val.mpr this)
theorem flat_lawT {t : Tab} {cs : List (Str × V × V)} (ht : ∀ e ∈ t, flatN e.2) (hc : ∀ c ∈ cs, flatN c.2.1) : ∀ e ∈ lawT t cs, flatN e.2 := by
  unfold lawT
  induction cs generalizing t with
  | nil => exact ht
  | cons c r ih =>
    refine ih (fun e he => ?_) fun d hd => hc d (List.mem_cons_of_mem _ hd)
    unfold stepT at he
    have dr : ∀ e ∈ dropK t c.1, flatN e.2 := fun e he => ht e (dropK_mem he)
    split at he
    · rcases mem_putK he with h | h
      · exact dr e h
      · rw [h]
        exact hc c List.mem_cons_self
    · exact dr e he
end Fk

set_option maxHeartbeats 4000000
/-! A try with several except clauses, of which any may have a name. -/
namespace Fk
open PySem PySem.Spec PyProof.Rows L2
/-- a clause with a name: slot i is the error's within the suite, and nothing's behind it -/
def asTS (i : Nat) (ts : Addr → Value → Option Addr → TS) : Addr → Value → Option Addr → TS := fun a cls d D σ H =>
  ts a cls d { nx := fun σ' H' => D.nx (σ'.set i none) H', rt := D.rt, bk := fun σ' H' => D.bk (σ'.set i none) H', ct := fun σ' H' => D.ct (σ'.set i none) H' } (σ.set i (some (.ref a))) H
inductive HdA (X : Cx) : List ExceptHandler → List (Value × (Addr → Value → Option Addr → TS)) → Prop
  | nil : HdA X [] []
  | cons {x : Str} {c : Value} {ts : Addr → Value → Option Addr → TS} {b₀ : Stmt} {suite : List Stmt} {np pos' : Pos} {hds : List ExceptHandler} {l : List (Value × (Addr → Value → Option Addr → TS))} (hc : Names X x c)
      (hsu : ∀ (a : Addr) (oe : Obj) (cls : Value) (d : Option Addr) (pn : List (Addr × Obj)), Zc cls d oe → (∃ vs, oe.data = .fields vs) → PSs (X.suite a ((a, oe) :: pn)) (b₀ :: suite) (ts a cls d)) (r : HdA X hds l) :
      HdA X (.ExceptHandler (some (.Name x np)) none (b₀ :: suite) pos' :: hds) ((c, ts) :: l)
  | as {x n : Str} {i : Nat} {c : Value} {ts : Addr → Value → Option Addr → TS} {b₀ : Stmt} {suite : List Stmt} {np pos' : Pos} {hds : List ExceptHandler} {l : List (Value × (Addr → Value → Option Addr → TS))} (hN : X.N.Nodup) (hi : X.N[i]? = some n) (hln : X.env.kindOf n = some .local) (hc : Names X x c)
      (hsu : ∀ (a : Addr) (oe : Obj) (cls : Value) (d : Option Addr) (pn : List (Addr × Obj)), Zc cls d oe → (∃ vs, oe.data = .fields vs) → PSs (X.suite a ((a, oe) :: pn)) (b₀ :: suite) (ts a cls d)) (r : HdA X hds l) :
      HdA X (.ExceptHandler (some (.Name x np)) (some n) (b₀ :: suite) pos' :: hds) ((c, asTS i ts) :: l)
section
variable {X : Cx} {body : List Stmt} {h₀ : ExceptHandler} {hds : List ExceptHandler} {l : List (Value × (Addr → Value → Option Addr → TS))} {pos : Pos} {tb : WX → TS} {Wout : WX}
theorem ps_tryA (hs : X.stack = X.env :: X.outer) (hf : X.env.frame = some X.env.locals) (tk : Takes X Wout)
    (hb : ∀ (W : WX) (pn : List (Addr × Obj)) (xe : Value → Shared → Prop), Takes (X.tr pn xe) W → PassesOwn (model X.prog X.w) X.A X.env xe → PSs (X.tr pn xe) body (tb W))
    (hh : HdA X (h₀ :: hds) l) : PS X (.Try body (h₀ :: hds) [] [] pos) (fun D σ H => tb (wMany X.K Wout D l) D σ H) := by
  refine ⟨fun pins s σ H D I h => ?_⟩
  have ok := I.ok
  have hfr : X.A.frames = some (X.env :: X.outer) := by rw [ok.frames, hs]
  refine wpAny_Try_except ?_
  refine wpAny_mono ((hb (wMany X.K Wout D l) (X.pn ++ pins) (fun e s₁ => wpAny (model X.prog X.w) X.A (noteFrame e X.env) (fun _ s₂ => wpAny (model X.prog X.w) X.A (setFlight e none) (fun _ s₃ =>
    wpAny (model X.prog X.w) X.A (handleBy e X.env (h₀ :: hds)) (SP X pins D) X.xe s₃) X.xe s₂) X.xe s₁) (fun u s' xx => ?_) PassesOwn.looking).run [] s σ H D (I.toTry _) h) (fun f s1 hsp => ?_) (fun e s1 he => he)
  · obtain ⟨a, B, sI, pins', σ', H', cls, d, rfl, J', nb, up, sky, na, os, ag, w⟩ := xx
    have J : Inv X pins σ' H' sI := J'.ofTry ok
    have sky' : Sky B (X.env :: X.outer) a (Zc cls d) X.env.locals s'.heap := by rw [← hs]; exact sky
    show wpAny (model X.prog X.w) X.A (noteFrame (.ref a) X.env) _ _ _
    refine Sky.land Zc.steady hfr hf sky' fun h3 fl3 up3 => ?_
    have J3 : Inv X pins σ' H' { s' with heap := h3 } := J.landed nb fl3.1 (up.trans up3) os ag
    obtain ⟨oe3, vs3, he3, hz3, hd3⟩ := fl3.there
    have notFr : ∀ {h : Heap} {o : Obj} {vs : Array Value}, h.FunFrames B (X.env :: X.outer) → h.get? a = some o → o.data = .fields vs → a ∉ frs (X.env :: X.outer) := fun {h o vs} ff e dd hm => by
      obtain ⟨_, o', e', hnf⟩ := ff.mem hm
      rw [e] at e'; cases e'
      exact hnf _ dd
    have nfr := notFr fl3.2.2.1 he3 hd3
    have nL : a ≠ X.env.locals := fun z => nfr (List.mem_filterMap.mpr ⟨X.env, List.mem_cons_self, by rw [hf, z]⟩)
    have nF : a ∉ X.fs := fun hm => by
      obtain ⟨e, he, q⟩ := List.mem_filterMap.mp hm
      exact nfr (List.mem_filterMap.mpr ⟨e, List.mem_cons_of_mem _ he, q⟩)
    have S3 := J3.suite he3 hd3 na nL nF
    have go : ∀ {hds' : List ExceptHandler} {l' : List (Value × (Addr → Value → Option Addr → TS))}, HdA X hds' l' → wMany X.K Wout D l' cls d σ' H' →
        wpAny (model X.prog X.w) X.A (handleBy (.ref a) X.env hds') (SP X pins D) X.xe { s' with heap := h3 } := by
      intro hds' l' hk
      induction hk with
      | nil =>
        intro w
        refine wpAny_handleBy_nil ?_
        obtain ⟨k1, k2, k3, oe, vs, T, oT, ts', he, hz, hd, h1, hr⟩ := id fl3
        unfold PySem.passOn
        refine wpAny_bind (wpAny_field he hd h1 ?_)
        rw [if_neg (show ¬ ((Value.ref T == Value.none) = true) from by simp)]
        have fin : wpAny (model X.prog X.w) X.A (setFlight (.ref a) X.env.frame) (fun _ s4 => wpAny (model X.prog X.w) X.A (throw (.ref a) : Sem Flow) (SP X pins D) X.xe s4) X.xe { s' with heap := h3 } := by
          rw [hf]
          refine HandSPX.setFlight_upZ fl3 fun h4 hh4 up4 => wpAny_throw (tk _ _ ?_)
          exact ⟨a, B, sI, pins, σ', H', cls, d, rfl, J, nb, (up.trans up3).trans up4, .inr (.inr (by rw [hs]; exact hh4)), na, os, ag, w⟩
        first
          | exact wpAny_bind (wpAny_pure (wpAny_bind fin))
          | exact wpAny_bind fin
      | @cons x c ts b₀ suite np pos' hds2 l2 hc hsu r ih =>
        intro w
        obtain ⟨b, hb1, hyes, hno⟩ := w
        refine wpAny_handleBy_cons (codeAny_handlers_test ?_) (by intro q; cases q)
        have LT : PySem.W.Looks (model X.prog X.w) h3 (typeOf (.ref a)) cls := fun A Q E s k q => wpAny_typeOf_ref (k _ _ he3) (by rw [hz3.1]; exact q)
        have LM := PySem.W.exm_one (M := model X.prog X.w) (J3.kIn) LT hb1
        have test : ∀ {Q : Value → Shared → Prop} {E : Value → Shared → Prop}, Q c { s' with heap := h3 } → wpAny (model X.prog X.w) (X.A.mark (some (.ref a))) (eval (.Name x np) X.env) Q E { s' with heap := h3 } := fun {Q E} q => by
          obtain ⟨hg, hdbg, hm | ⟨hm, hv, hnn⟩⟩ := hc
          · exact ld_glob (X := X.suite a ((a, oe3) :: (X.pn ++ pins))) S3 hg hm q hdbg
          · exact ld_blt (X := X.suite a ((a, oe3) :: (X.pn ++ pins))) S3 hg hm hv q hnn hdbg
        refine test (LM.here ?_)
        cases b with
        | true =>
          refine codeAny_handlers_suite ?_
          refine HandSPX.lands_againZ fl3 fun h4 fl4 up4 => ?_
          have J4 : Inv X pins σ' H' { s' with heap := h4 } := J.landed nb fl4.1 ((up.trans up3).trans up4) os ag
          obtain ⟨oe4, vs4, he4, hz4, hd4⟩ := fl4.there
          have S4 := J4.suite he4 hd4 na nL nF
          refine wpAny_mono ((hsu a oe4 cls d (X.pn ++ pins) hz4 ⟨_, hd4⟩).run [] _ _ H' _ S4 (hyes rfl a na)) (fun f s6 hsp => ?_) (fun _ _ z => False.elim z)
          cases f with
          | next =>
            obtain ⟨σ6, H6, S6, q6⟩ := hsp
            exact ⟨_, _, S6.unsuite ok, q6⟩
          | brk =>
            obtain ⟨σ6, H6, S6, q6⟩ := hsp
            exact ⟨_, _, S6.unsuite ok, q6⟩
          | cont =>
            obtain ⟨σ6, H6, S6, q6⟩ := hsp
            exact ⟨_, _, S6.unsuite ok, q6⟩
          | ret u =>
            obtain ⟨v6, σ6, H6, S6, r6, q6⟩ := hsp
            exact ⟨_, _, _, S6.unsuite ok, r6, q6⟩
        | false =>
          show wpAny _ X.A (handleBy (.ref a) X.env hds2) _ _ _
          exact ih (hno rfl)
      | @as x n i c ts b₀ suite np pos' hds2 l2 hN hi hln hc hsu r ih =>
        intro w
        have hloc : Loc X.env.scope n := .inl hln
        obtain ⟨b, hb1, hyes, hno⟩ := w
        refine wpAny_handleBy_cons (codeAny_handlers_test ?_) (by intro q; cases q)
        have LT : PySem.W.Looks (model X.prog X.w) h3 (typeOf (.ref a)) cls := fun A Q E s k q => wpAny_typeOf_ref (k _ _ he3) (by rw [hz3.1]; exact q)
        have LM := PySem.W.exm_one (M := model X.prog X.w) (J3.kIn) LT hb1
        have test : ∀ {Q : Value → Shared → Prop} {E : Value → Shared → Prop}, Q c { s' with heap := h3 } → wpAny (model X.prog X.w) (X.A.mark (some (.ref a))) (eval (.Name x np) X.env) Q E { s' with heap := h3 } := fun {Q E} q => by
          obtain ⟨hg, hdbg, hm | ⟨hm, hv, hnn⟩⟩ := hc
          · exact ld_glob (X := X.suite a ((a, oe3) :: (X.pn ++ pins))) S3 hg hm q hdbg
          · exact ld_blt (X := X.suite a ((a, oe3) :: (X.pn ++ pins))) S3 hg hm hv q hnn hdbg
        refine test (LM.here ?_)
        cases b with
        | true =>
          refine codeAny_handlers_suite_as ?_
          refine HandSPX.lands_againZ fl3 fun h4 fl4 up4 => ?_
          have J4 : Inv X pins σ' H' { s' with heap := h4 } := J.landed nb fl4.1 ((up.trans up3).trans up4) os ag
          obtain ⟨oe4, vs4, he4, hz4, hd4⟩ := fl4.there
          have S4 := J4.suite he4 hd4 na nL nF
          refine store_ok (X := X.suite a ((a, oe4) :: (X.pn ++ pins))) (v := .ref a) S4 hN hi hloc rfl (fun s5 S5 => ?_) (.inr hln)
          refine wpAny_mono ((hsu a oe4 cls d (X.pn ++ pins) hz4 ⟨_, hd4⟩).run [] s5 _ H' _ S5 (hyes rfl a na)) (fun f s6 hsp => ?_) (fun _ _ z => False.elim z)
          have end_ : ∀ {σ6 : L2.St} {H6 : Hp} {Q : Shared → Prop}, Inv (X.suite a ((a, oe4) :: (X.pn ++ pins))) [] σ6 H6 s6 → (∀ s7, Inv X pins (σ6.set i none) H6 s7 → Q s7) →
              wpAny (model X.prog X.w) X.A (do bindName X.env n .none; unbindBehindTheSuite X.env n pos') (fun _ s7 => Q s7) X.xe s6 := fun {σ6 H6 Q} S6 hq => gone_ok (S6.unsuite ok) hN hi hln hq
          cases f with
          | next =>
            obtain ⟨σ6, H6, S6, q6⟩ := hsp
            exact end_ S6 fun s7 J7 => ⟨_, _, J7, q6⟩
          | brk =>
            obtain ⟨σ6, H6, S6, q6⟩ := hsp
            exact end_ S6 fun s7 J7 => ⟨_, _, J7, q6⟩
          | cont =>
            obtain ⟨σ6, H6, S6, q6⟩ := hsp
            exact end_ S6 fun s7 J7 => ⟨_, _, J7, q6⟩
          | ret u =>
            obtain ⟨v6, σ6, H6, S6, r6, q6⟩ := hsp
            exact end_ S6 fun s7 J7 => ⟨_, _, _, J7, r6, q6⟩
        | false =>
          show wpAny _ X.A (handleBy (.ref a) X.env hds2) _ _ _
          exact ih (hno rfl)
    exact go hh w
  · cases f with
    | next =>
      obtain ⟨σ', H', J', q⟩ := hsp
      exact wpAny_execs_nil ⟨σ', H', J'.ofTry ok, q⟩
    | brk =>
      obtain ⟨σ', H', J', q⟩ := hsp
      exact ⟨σ', H', J'.ofTry ok, q⟩
    | cont =>
      obtain ⟨σ', H', J', q⟩ := hsp
      exact ⟨σ', H', J'.ofTry ok, q⟩
    | ret u =>
      obtain ⟨v, σ', H', J', r, q⟩ := hsp
      exact ⟨v, σ', H', J'.ofTry ok, r, q⟩
end
end Fk

set_option maxHeartbeats 4000000
/-! Frames one after the other; logs that stay; references and a model that agree, moved to another heap. -/
namespace Fk
open PySem PySem.Spec PyProof.Rows L2
theorem FrL.then {L M : List Addr} {H H1 H2 : Hp} (f : FrL L H H1) (g : FrL M H1 H2) (h : ∀ b ∈ M, b ∈ L ∨ H b = none) : FrL L H H2 := fun b o n e =>
  g b o (fun hm => (h b hm).elim n (fun z => by rw [e] at z; cases z)) (f b o n e)
theorem FrL.then1 {L : List Addr} {a : Addr} {H H1 H2 : Hp} (f : FrL L H H1) (g : FrL [a] H1 H2) (h : a ∈ L ∨ H a = none) : FrL L H H2 := f.then g fun b hb => by rw [List.mem_singleton.mp hb]; exact h
theorem FrL.free {L : List Addr} {H H1 : Hp} (f : FrL L H H1) {b : Addr} (n : b ∉ L) (e : H1 b = none) : H b = none := by
  cases c : H b with
  | none => rfl
  | some o => rw [f b o n c] at e; cases e
theorem val_mem {t : Tab} {x : Str} {v : V} (h : valV t x = some v) : (x, v) ∈ t := by
  unfold valV at h
  cases c : t.find? fun kv => decide (kv.1 = x) with
  | none => rw [c] at h; cases h
  | some p =>
    rw [c] at h
    have m := List.mem_of_find?_eq_some c
    have e : p.1 = x := by have := List.find?_some (p := fun kv : Str × V => decide (kv.1 = x)) c; exact of_decide_eq_true this
    obtain ⟨a, b⟩ := p
    cases h
    cases e
    exact m
theorem Tups.cons {H : Hp} {a : Addr} {as : List Addr} {l : List V} {ls : List (List V)} (h : H a = some (.tup l)) (t : Tups H as ls) : Tups H (a :: as) (l :: ls) := by
  refine ⟨by rw [List.length_cons, List.length_cons, t.1], fun i b m h1 h2 => ?_⟩
  cases i with
  | zero => cases h1; cases h2; exact h
  | succ j => exact t.2 j b m h1 h2
theorem Tups.head {H : Hp} {a : Addr} {as : List Addr} {l : List V} {ls : List (List V)} (t : Tups H (a :: as) (l :: ls)) : H a = some (.tup l) := t.2 0 a l rfl rfl
theorem Tups.tail {H : Hp} {a : Addr} {as : List Addr} {l : List V} {ls : List (List V)} (t : Tups H (a :: as) (l :: ls)) : Tups H as ls := ⟨by have := t.1; rw [List.length_cons, List.length_cons] at this; omega, fun i b m h1 h2 => t.2 (i + 1) b m h1 h2⟩
theorem tups_filter {α : Type} {H : Hp} (f : α → List V) (p : α → Bool) : ∀ (cs : List α) (as : List Addr), Tups H as (cs.map f) → ∃ bs : List Addr, ((as.zip cs).filter fun z => p z.2).map (fun z => V.ref z.1) = bs.map V.ref ∧ Tups H bs ((cs.filter p).map f)
  | [], as, _ => ⟨[], by rw [List.zip_nil_right]; rfl, Tups.nil⟩
  | c :: cs, [], t => absurd t.1 (by simp)
  | c :: cs, a :: as, t => by
    obtain ⟨bs, e, tb⟩ := tups_filter f p cs as t.tail
    rw [List.zip_cons_cons, List.filter_cons, List.filter_cons]
    by_cases h : p c = true
    · refine ⟨a :: bs, ?_, ?_⟩
      · rw [if_pos h, List.map_cons, List.map_cons, e]
      · rw [if_pos h, List.map_cons]
        exact Tups.cons t.head tb
    · refine ⟨bs, ?_, ?_⟩
      · rw [if_neg h, e]
      · rw [if_neg h]
        exact tb
theorem int_refs {x y z : Int} {as : List Addr} : ([V.int x, .int y, .int z] : List V) ≠ as.map V.ref := fun h => by
  cases as with
  | nil => cases h
  | cons b r => injection h with h _; cases h
theorem LogsL.out {H H' : Hp} {t : Tab} {L : Str → List (List V)} {M : List Addr} (h : LogsL H t L) (k : TupKeep H H') (f : FrL M H H') (n : ∀ b ∈ M, ∀ as : List Addr, H b ≠ some (.lst (as.map V.ref))) : LogsL H' t L := fun x =>
  (h x).imp id fun ⟨p, as, a, b, c⟩ => ⟨p, as, a, f p _ (fun hm => n p hm as b) b, c.keep k⟩
theorem CallsL.out {H H' : Hp} {lc : Addr} {cs : List (Str × V × V)} {M : List Addr} (h : CallsL H lc cs) (k : TupKeep H H') (f : FrL M H H') (n : lc ∉ M) : CallsL H' lc cs := by
  obtain ⟨as, a, b⟩ := h
  exact ⟨as, f lc _ n a, b.keep k⟩
theorem CallsL.same {H H' : Hp} {lc : Addr} {cs : List (Str × V × V)} (h : CallsL H lc cs) (s : Same H H') : CallsL H' lc cs := by
  obtain ⟨as, a, b⟩ := h
  exact ⟨as, s _ _ a, b.keep (TupKeep.of s)⟩
theorem callPut_nd {cs : List (Str × V × V)} {x : Str} {v o : V} (h : (cs.map (·.1)).Nodup) : ((callPut cs x v o).map (·.1)).Nodup := by
  unfold callPut
  rw [List.map_append, List.nodup_append]
  refine ⟨List.Nodup.sublist ((List.filter_sublist).map _) h, by simp, fun a ha b hb => ?_⟩
  obtain ⟨c, hc, rfl⟩ := List.mem_map.mp ha
  have := of_decide_eq_true (List.mem_filter.mp hc).2
  simp at hb
  rw [hb]
  exact this
theorem callPut_len (cs : List (Str × V × V)) (x : Str) (v o : V) : (callPut cs x v o).length ≤ cs.length + 1 := by
  unfold callPut
  rw [List.length_append]
  have := List.length_filter_le (fun c : Str × V × V => decide (c.1 ≠ x)) cs
  show _ + 1 ≤ _
  omega
theorem mem_callPut {cs : List (Str × V × V)} {x : Str} {v o : V} {c : Str × V × V} (h : c ∈ callPut cs x v o) : c ∈ cs ∨ c = (x, v, o) := by
  rcases List.mem_append.mp h with h | h
  · exact .inl (List.mem_filter.mp h).1
  · exact .inr (List.mem_singleton.mp h)
end Fk

set_option maxHeartbeats 4000000
/-! A comprehension over zip of two tuples. -/
namespace Fk
open PySem PySem.Spec PyProof.Rows L2 RZ
theorem lc_zipT {K : PySem.W.Frag} {a b D : Addr} {xs ys : List V} {σ : L2.St} {vs : List Nat} {g : TG} {tt : TT} {te : TE} {Q : Hp → Prop} {H1 : Hp} {n : Nat} (f : Nat → V) (hD1 : H1 D = none) (ha : ∀ H, Same H1 H → SqT K H a xs) (hb : ∀ H, Same H1 H → SqT K H b ys)
    (hx : n ≤ xs.length) (hy : n ≤ ys.length) (hn : xs.length ≤ n ∨ ys.length ≤ n) (hl : n ≤ 1000000)
    (hs : ∀ i x y T H, i < n → xs[i]? = some x → ys[i]? = some y → Same H1 H → H T = some (.tup [x, y]) → ∀ (N : VK) (M : Hp → Prop), (∀ H3, Same H H3 → N (f i) H3) →
      g (.ref T) (wipe σ vs) H fun σ2 H2 => wipe σ2 vs = wipe σ vs ∧ tt σ2 H2 fun bb H3 => if bb = true then te σ2 H3 N else M H3)
    (hd : ∀ H, Same H1 H → H D = some (.lst ((List.range n).map f)) → Q H) :
    ∃ W : Nat → Nat → Hp → Prop, (∃ m, W 0 m (upd H1 D (.lst []))) ∧ ∀ k m H, W k m H →
      ((ItzT K a b).stop k H ∧ Q H) ∨ ((ItzT K a b).go k H ∧ ∃ Nx : Hp → Prop, (∀ H', Nx H' → ∃ m', m' < m ∧ W (k + 1) m' H') ∧ ∀ x H', (ItzT K a b).yld k H x H' → g x (wipe σ vs) H' fun σ2 H2 => wipe σ2 vs = wipe σ vs ∧ tt σ2 H2 fun bb H3 =>
        if bb = true then te σ2 H3 fun y H4 => ∃ acc, H4 D = some (.lst acc) ∧ acc.length < sizeLine ∧ Nx (upd H4 D (.lst (acc ++ [y]))) else Nx H3) := by
  refine ⟨fun k m H => m = n - k ∧ k ≤ n ∧ Same H1 H ∧ H D = some (.lst ((List.range k).map f)), ⟨n, by omega, Nat.zero_le _, same_new hD1, upd_same⟩, ?_⟩
  rintro k m H ⟨rfl, hk, s1, hD⟩
  by_cases hlt : k < n
  · have lx : k < xs.length := by omega
    have ly : k < ys.length := by omega
    refine .inr ⟨⟨xs, ys, xs[k], ys[k], ha H s1, hb H s1, List.getElem?_eq_getElem lx, List.getElem?_eq_getElem ly⟩, fun H' => Same H1 H' ∧ H' D = some (.lst ((List.range (k + 1)).map f)), fun H' q => ⟨n - (k + 1), by omega, rfl, hlt, q⟩, fun x H' y => ?_⟩
    obtain ⟨T, u, v, rfl, hT, rfl, gx, gy⟩ := y
    have s2 := same_new (o := .tup [u, v]) hT
    refine hs k u v T _ hlt (gx xs (ha H s1)) (gy ys (hb H s1)) (s1.trans s2) upd_same _ _ fun H3 s3 => ⟨_, s3 _ _ (s2 _ _ hD), small_lt (by rw [List.length_map, List.length_range]; omega), fun c o e => ?_, ?_⟩
    · rw [upd_ne (ne_of_none e hD1)]
      exact s3 _ _ (s2 _ _ (s1 _ _ e))
    · rw [upd_same, List.range_succ, List.map_append]
      rfl
  · have e : k = n := by omega
    subst e
    exact .inl ⟨⟨xs, ys, ha H s1, hb H s1, hn⟩, hd H s1 hD⟩
theorem lc_gen {α : Type} {J : It} {us : List α} {val : α → V} {G : Hp → Prop} {H1 : Hp} {D : Addr} {σ : L2.St} {vs : List Nat} {g : TG} {tt : TT} {te : TE} {Q : Hp → Prop} (Y : Yields J (us.map val) G) (f : α → V) (p : α → Bool) (σf : α → L2.St) (hD1 : H1 D = none) (hG : ∀ H, Same H1 H → G H) (hw : ∀ u ∈ us, wipe (σf u) vs = wipe σ vs)
    (hg : ∀ H u, Same H1 H → u ∈ us → ∀ (R : L2.St → Hp → Prop), R (σf u) H → g (val u) (wipe σ vs) H R)
    (ht : ∀ H u, Same H1 H → u ∈ us → ∀ (R : Bool → Hp → Prop), (∀ H3, Same H H3 → R (p u) H3) → tt (σf u) H R)
    (he : ∀ H u, Same H1 H → u ∈ us → p u = true → ∀ (R : VK), (∀ H3, Same H H3 → R (f u) H3) → te (σf u) H R)
    (hl : us.length ≤ 1000000) (hd : ∀ H, Same H1 H → H D = some (.lst ((us.filter p).map f)) → Q H) :
    ∃ W : Nat → Nat → Hp → Prop, (∃ m, W 0 m (upd H1 D (.lst []))) ∧ ∀ k m H, W k m H →
      (J.stop k H ∧ Q H) ∨ (J.go k H ∧ ∃ Nx : Hp → Prop, (∀ H', Nx H' → ∃ m', m' < m ∧ W (k + 1) m' H') ∧ ∀ x H', J.yld k H x H' → g x (wipe σ vs) H' fun σ2 H2 => wipe σ2 vs = wipe σ vs ∧ tt σ2 H2 fun b H3 =>
        if b = true then te σ2 H3 fun y H4 => ∃ acc, H4 D = some (.lst acc) ∧ acc.length < sizeLine ∧ Nx (upd H4 D (.lst (acc ++ [y]))) else Nx H3) := by
  refine lcG Y (fun k acc H => Same H1 H ∧ acc = ((us.take k).filter p).map f) (fun k acc H h _ => hG H h.1) ⟨same_new hD1, rfl⟩ (fun k acc H x hI hD hx hacc hk => ?_) (by rw [List.length_map]; exact hl) (fun acc H hI hD _ => ?_)
  · obtain ⟨sm, ea⟩ := hI
    rw [List.getElem?_map] at hx
    cases hu : us[k]? with
    | none => rw [hu] at hx; cases hx
    | some u =>
      rw [hu] at hx
      cases hx
      have hm : u ∈ us := List.mem_of_getElem? hu
      have et : us.take (k + 1) = us.take k ++ [u] := by
        rw [List.take_add_one, hu]
        rfl
      refine hg H u sm hm _ ⟨hw u hm, ?_⟩
      refine ht H u sm hm _ (fun H3 s3 => ?_)
      by_cases hp : p u = true
      · rw [if_pos hp]
        refine he H3 u (sm.trans s3) hm hp _ (fun H4 s4 => ?_)
        refine lc_take (s4 _ _ (s3 _ _ hD)) hacc hk ⟨same_mut ((sm.trans s3).trans s4) hD1, ?_⟩
        rw [et, List.filter_append, List.map_append, List.filter_cons, hp, ea]
        rfl
      · rw [if_neg hp]
        refine lc_skip (s3 _ _ hD) hacc ⟨sm.trans s3, ?_⟩
        rw [et, List.filter_append, List.map_append, List.filter_cons, if_neg hp, ea]
        simp
  · obtain ⟨sm, ea⟩ := hI
    rw [List.length_map, List.take_length] at ea
    exact hd H sm (by rw [hD, ea])
def rLenQ (K : PySem.W.Frag) : List V → Hp → VK → Prop := fun xs H Q => ∃ p ys, xs = [.ref p] ∧ (SqL K H p ys ∨ SqT K H p ys) ∧ Q (.int ys.length) H
theorem ciK {X : Cx} {K : PySem.W.Frag} (h : X.K = K) : CallR X (.builtin "isinstance") (rIsi K) := h ▸ call_isi
theorem clK {X : Cx} {K : PySem.W.Frag} (h : X.K = K) : CallR X (.builtin "len") (rLenQ K) := h ▸ call_len_seq
end Fk

/-! truth of a thing within a comprehension, K given -/
namespace Fk
open PySem PySem.Spec PyProof.Rows L2
def tTruK (K : PySem.W.Frag) (ta : TE) : TT := fun σ H Q => ta σ H fun x H' => ∃ k, TruV K x H' k ∧ Q k H'
theorem ptK_truth {X : Cx} {K : PySem.W.Frag} {a : Expr} {ta : TE} (h : X.K = K) (ha : PE X a ta) (he : ∀ whole, isTrue a X.env whole = (do let v ← whole; standAt a.pos; holding [v] (truthy v))) : PT X a (tTruK K ta) := h ▸ pt_truth ha he
end Fk

set_option maxHeartbeats 4000000
/-! iter(bytes); a walk over zip of eight times the same iterator of bytes. -/
namespace Fk
open PySem PySem.Spec PyProof.Rows L2 PySem.W.KBw
open PySem.Sem (wp)
abbrev I8 (it : Addr) : Array Value := #[.ref it, .ref it, .ref it, .ref it, .ref it, .ref it, .ref it, .ref it]
abbrev IsT8 (h : Heap) (T : Addr) (xs : Array Value) : Prop := h.get? T = some { cls := .type "tuple", data := .seq xs }
section
variable {prog : Program} {w : World} {A : Around} {E : Value → Shared → Prop} {s : Shared} {b : Array UInt8} {t : Tok}
theorem nextOf_bytes_item {it : Addr} {i : Nat} {c : UInt8} {Q : Value → Shared → Prop} (hit : IsBytesIter s.heap it b t i) (hx : b[i]? = some c)
    (hQ : ∀ h', IsBytesIter h' it b t (i + 1) → Heap.SameBut it s.heap h' → Q (.int (c.toNat : Int) s.toks) { s with heap := h', toks := s.toks + 1 }) :
    wpAny (model prog w) A (Builtin.SmallTypes.nextOf (.ref it)) Q E s := by
  obtain ⟨o, ho, hc, hd⟩ := id hit
  unfold Builtin.SmallTypes.nextOf
  refine wpAny_bind (wpAny_callSpecial?_slot (name := Str.ofString "__next__") (iter_typeIs hit) slot_next
    (wpAny_call_entry slot_next (iter_typeIs hit) entry_next ?_ (args_next _)))
  show wpAny _ _ (field (.ref it) 0 >>= _) _ _ s
  refine wpAny_bind (wpAny_field ho hd (x := .bytes b t) rfl ?_)
  show wpAny _ _ (if (Value.bytes b t == Value.none) = true then _ else _) _ _ s
  rw [if_neg (show ¬ ((Value.bytes b t == Value.none) = true) from Bool.false_ne_true)]
  show wpAny _ _ (field (.ref it) 1 >>= _) _ _ s
  refine wpAny_bind (wpAny_field ho hd (x := .int i 0) rfl ?_)
  refine wpAny_bind (wpAny_of_eq (a := b) rfl ?_)
  simp only [Int.toNat_natCast, hx]
  refine wpAny_bind (wpAny_setField ho hd (by simp) (wpAny_bind (wpAny_mkInt (wpAny_pure ⟨_, rfl, wpAny_pure (hQ _ ?_ (Heap.SameBut.update ..))⟩))))
  exact ⟨_, Heap.get?_update_self _ ho (Obj.isFreed_of_fields (Obj.data_mapFields hd _)), (Obj.cls_mapFields ..).trans hc, by
    rw [Obj.data_mapFields hd]; simp [rawInt]⟩
theorem nextOf_bytes_end {it : Addr} {i : Nat} {Q : Value → Shared → Prop} (hh : A.handled = none) (hit : IsBytesIter s.heap it b t i) (hx : b[i]? = none)
    (hE : ∀ h' e, Heap.ExtBut it s.heap h' → (∃ o, h'.get? e = some o ∧ o.cls = .type "StopIteration") → E (.ref e) { s with heap := h' }) :
    wpAny (model prog w) A (Builtin.SmallTypes.nextOf (.ref it)) Q E s := by
  obtain ⟨o, ho, hc, hd⟩ := id hit
  unfold Builtin.SmallTypes.nextOf
  refine wpAny_bind (wpAny_callSpecial?_slot (name := Str.ofString "__next__") (iter_typeIs hit) slot_next
    (wpAny_call_entry slot_next (iter_typeIs hit) entry_next ?_ (args_next _)))
  show wpAny _ _ (field (.ref it) 0 >>= _) _ _ s
  refine wpAny_bind (wpAny_field ho hd (x := .bytes b t) rfl ?_)
  show wpAny _ _ (if (Value.bytes b t == Value.none) = true then _ else _) _ _ s
  rw [if_neg (show ¬ ((Value.bytes b t == Value.none) = true) from Bool.false_ne_true)]
  show wpAny _ _ (field (.ref it) 1 >>= _) _ _ s
  refine wpAny_bind (wpAny_field ho hd (x := .int i 0) rfl ?_)
  refine wpAny_bind (wpAny_of_eq (a := b) rfl ?_)
  simp only [Int.toNat_natCast, hx]
  refine wpAny_bind (wpAny_rule (wpAny_bind (wpAny_setField ho hd (by simp) ?_)))
  show wpAny _ _ (newExc (.type "StopIteration") [] >>= _) _ _ _
  refine wpAny_bind ?_
  simp only [newExc, newTuple]
  refine wpAny_bind (wpAny_newObj_type ?_ (by size_fits))
  refine wpAny_bind (m := firstArgMember _ _) (wpAny_of_eq (a := Value.none) (by first | rfl | (simp only [firstArgMember]; rfl)) ?_)
  refine wpAny_newObj_type ?_ (by size_fits)
  simp only [raiseNew]
  refine wpAny_bind (wpAny_handled ?_)
  first | rw [show A.in1.handled = none from hh] | rw [hh]
  refine wpAny_bind (wpAny_pure (wpAny_throw ?_))
  exact hE _ _ (((Heap.SameBut.update ..).extBut.push _).push _) ⟨_, Heap.get?_push_size _ rfl, rfl⟩
theorem updateSeq_t8 {T : Addr} {xs : Array Value} {x : Value} {k : Nat} {Q : Unit → Shared → Prop} (hT : IsT8 s.heap T xs) (hz : xs.size ≤ 100)
    (h : ∀ h', IsT8 h' T (xs.setIfInBounds k x) → Heap.SameBut T s.heap h' → Q () { s with heap := h' }) :
    wpAny (model prog w) A (updateSeq T (·.setIfInBounds k x)) Q E s := by
  refine wpAny_updateSeq hT rfl (h _ ?_ (Heap.SameBut.update ..)) (Nat.le_trans hz (by decide)) (by rw [Array.size_setIfInBounds]; exact Nat.le_trans hz (by decide))
  show (s.heap.update T _).get? T = _
  rw [Heap.get?_update_self _ hT rfl]
  simp [Obj.mapSeq]
end
section
variable {prog : Program} {w : World} {A : Around} {E : Value → Shared → Prop} {b : Array UInt8} {t : Tok}
theorem nextOf_bytes_item' {hp g d tk os} {it : Addr} {i : Nat} {c : UInt8} {Q : Value → Shared → Prop} (hit : IsBytesIter hp it b t i) (hx : b[i]? = some c)
    (hQ : ∀ h', IsBytesIter h' it b t (i + 1) → Heap.SameBut it hp h' → Q (.int (c.toNat : Int) tk) ⟨h', g, d, tk + 1, os⟩) :
    wpAny (model prog w) A (Builtin.SmallTypes.nextOf (.ref it)) Q E ⟨hp, g, d, tk, os⟩ := nextOf_bytes_item (s := ⟨hp, g, d, tk, os⟩) hit hx hQ
theorem updateSeq_t8' {hp g d tk os} {T : Addr} {xs : Array Value} {x : Value} {k : Nat} {Q : Unit → Shared → Prop} (hT : IsT8 hp T xs) (hz : xs.size ≤ 100)
    (h : ∀ h', IsT8 h' T (xs.setIfInBounds k x) → Heap.SameBut T hp h' → Q () ⟨h', g, d, tk, os⟩) :
    wpAny (model prog w) A (updateSeq T (·.setIfInBounds k x)) Q E ⟨hp, g, d, tk, os⟩ := updateSeq_t8 (s := ⟨hp, g, d, tk, os⟩) hT hz h
theorem seqItems_t8' {hp g d tk os} {T : Addr} {xs : Array Value} {Q : Option (Array Value) → Shared → Prop} (hT : IsT8 hp T xs) (h : Q (some xs) ⟨hp, g, d, tk, os⟩) : wpAny (model prog w) A (seqItems? (.ref T)) Q E ⟨hp, g, d, tk, os⟩ := wpAny_seqItems hT rfl h
theorem setField_z' {hp g d tk os} {a : Addr} {cls : Value} {vs : Array Value} {k : Nat} {x : Value} {Q : Unit → Shared → Prop}
    (ho : hp.get? a = some { cls := cls, dict := none, data := .fields vs, slots := #[] }) (hk : k < vs.size)
    (h : ∀ h', h'.get? a = some { cls := cls, dict := none, data := .fields (vs.setIfInBounds k x), slots := #[] } → Heap.SameBut a hp h' → Q () ⟨h', g, d, tk, os⟩) :
    wpAny (model prog w) A (setField (.ref a) k x) Q E ⟨hp, g, d, tk, os⟩ := wpAny_setField_rec (s := ⟨hp, g, d, tk, os⟩) ho hk h
theorem newTuple_z' {hp g d tk os} {items : List Value} {Q : Value → Shared → Prop} (h : Q (.ref hp.objs.size) ⟨hp.push { cls := .type "tuple", data := .seq items.toArray }, g, d, tk, os⟩)
    (hsz : items.length ≤ sizeLine) : wpAny (model prog w) A (newTuple items) Q E ⟨hp, g, d, tk, os⟩ := wpAny_newTuple (s := ⟨hp, g, d, tk, os⟩) h hsz
/-- the bytes from m0 on, as ints -/
def bI (b : Array UInt8) (k : Nat) : Int := ((b.getD k 0).toNat : Int)
theorem bI_get {b : Array UInt8} {k : Nat} (h : k < b.size) : b[k]? = some (b.getD k 0) := by
  rw [Array.getElem?_eq_getElem h, Array.getD_eq_getD_getElem?, Array.getElem?_eq_getElem h] <;> rfl
def RowI (b : Array UInt8) (m0 : Nat) (us : List Value) : Prop := ∀ i v, us[i]? = some v → ∃ t, v = Value.int (bI b (m0 + i)) t
theorem RowI.snoc {b : Array UInt8} {m0 : Nat} {us : List Value} (h : RowI b m0 us) (t : Tok) : RowI b m0 (us ++ [.int (bI b (m0 + us.length)) t]) := fun i v e => by
  by_cases c : i < us.length
  · rw [List.getElem?_append_left c] at e
    exact h i v e
  · rw [List.getElem?_append_right (by omega)] at e
    have e0 : i - us.length = 0 := by
      by_cases q : i - us.length = 0
      · exact q
      · rw [List.getElem?_eq_none (by simp; omega)] at e
        cases e
    rw [e0] at e
    have ei : i = us.length := by omega
    cases e
    exact ⟨t, by rw [ei]⟩
/-- what j draws leave -/
structure Dr (b : Array UInt8) (t : Tok) (z TI TO it : Addr) (h0 : Heap) (m0 j : Nat) (h : Heap) : Prop where
  hz : IsZip h z TI TO .ellipsis
  hTO : ∃ us rest : List Value, us.length = j ∧ us.length + rest.length = 8 ∧ RowI b m0 us ∧ IsT8 h TO (us ++ rest).toArray
  hit : IsBytesIter h it b t (m0 + j)
  hk : ∀ c o, c ≠ z → c ≠ TO → c ≠ it → h0.get? c = some o → h.get? c = some o
  sz : h.objs.size = h0.objs.size
/-- apart -/
structure Z8 (z TI TO it : Addr) : Prop where
  zi : z ≠ it
  zO : z ≠ TO
  Oi : TO ≠ it
  Iz : TI ≠ z
  IO : TI ≠ TO
  Ii : TI ≠ it
theorem forIn_draws {β : Type} {body : (Value × Nat) → β → Sem (ForInStep β)} {init : β} {z TI TO it : Addr} {h0 : Heap} {m0 : Nat} {gs dr os}
    (hbody : ∀ (h : Heap) (tk : Nat) (j : Nat) (Q : ForInStep β → Shared → Prop), Dr b t z TI TO it h0 m0 j h → j < 8 → (∀ h' tk', Dr b t z TI TO it h0 m0 (j + 1) h' → Q (.yield init) ⟨h', gs, dr, tk', os⟩) → wpAny (model prog w) A (body (.ref it, j) init) Q E ⟨h, gs, dr, tk, os⟩)
    {Q : β → Shared → Prop} (hQ : ∀ h tk, Dr b t z TI TO it h0 m0 8 h → Q init ⟨h, gs, dr, tk, os⟩) :
    ∀ (n j : Nat) (h : Heap) (tk : Nat), n + j = 8 → Dr b t z TI TO it h0 m0 j h → wpAny (model prog w) A (forIn ((List.replicate n (Value.ref it)).zipIdx j) init body) Q E ⟨h, gs, dr, tk, os⟩ := by
  intro n
  induction n with
  | zero =>
    intro j h tk e D
    rw [show j = 8 by omega] at D
    simp only [List.replicate_zero, List.zipIdx_nil, List.forIn_nil]
    exact wpAny_pure (hQ h tk D)
  | succ n ih =>
    intro j h tk e D
    rw [List.replicate_succ, List.zipIdx_cons, List.forIn_cons]
    refine wpAny_bind (hbody h tk j _ D (by omega) fun h' tk' D' => ?_)
    exact ih (j + 1) h' tk' (by omega) D'
theorem zip8_item {s : Shared} {z TI TO it : Addr} {m : Nat} {xs : List Value} {Q : Value → Shared → Prop} (Z : Z8 z TI TO it)
    (hz : IsZip s.heap z TI TO .none) (hTI : IsT8 s.heap TI (I8 it)) (hTO : IsT8 s.heap TO xs.toArray) (hxz : xs.length = 8) (hit : IsBytesIter s.heap it b t m) (hb : m + 8 ≤ b.size)
    (hQ : ∀ h' tk us, us.length = 8 → RowI b m us → IsZip h' z TI TO (rawInt s.heap.objs.size) → IsT8 h' TO us.toArray → IsBytesIter h' it b t (m + 8) → IsT8 h' s.heap.objs.size us.toArray →
      (∀ c o, c ≠ z → c ≠ TO → c ≠ it → s.heap.get? c = some o → h'.get? c = some o) → Q (.ref s.heap.objs.size) { s with heap := h', toks := tk }) :
    wpAny (model prog w) A (Builtin.«zip.__next__» ⟨[.ref z], []⟩) (fun fin s' => ∃ v, fin = .done (.ret v) ∧ Q v s') E s := by
  obtain ⟨hp, gs, dr, tk, os⟩ := s
  replace hz : IsZip hp z TI TO .none := hz
  replace hTO : IsT8 hp TO xs.toArray := hTO
  replace hTI : IsT8 hp TI (I8 it) := hTI
  replace hit : IsBytesIter hp it b t m := hit
  show wpAny _ _ (field (.ref z) 2 >>= _) _ _ _
  refine wpAny_bind (wpAny_field hz rfl (x := .bool false) rfl ?_)
  show wpAny _ _ (field (.ref z) 3 >>= _) _ _ _
  refine wpAny_bind (wpAny_field hz rfl (x := .ref TI) rfl ?_)
  refine wpAny_bind (seqItems_t8' hTI ?_)
  show wpAny _ _ (Builtin.SmallTypes.ownedTupleIsFree (.ref z) >>= _) _ _ _
  refine wpAny_bind ?_
  unfold Builtin.SmallTypes.ownedTupleIsFree
  refine wpAny_bind (wpAny_field hz rfl (x := .none) rfl (wpAny_pure ?_))
  simp only [if_true]
  refine wpAny_bind (wpAny_rule ?_)
  refine wpAny_bind (wpAny_field hz rfl (x := .ref TO) rfl ?_)
  refine wpAny_bind (setField_z' hz (by simp) fun h₀ hz₀ hs₀ => ?_)
  have D0 : Dr b t z TI TO it hp m 0 h₀ := ⟨hz₀, ⟨[], xs, rfl, by rw [hxz]; rfl, fun i v e => by simp at e, hs₀.extBut _ _ Z.zO.symm hTO⟩, (by obtain ⟨o, ho, r⟩ := hit; exact ⟨o, hs₀.extBut _ _ Z.zi.symm ho, r⟩), fun c o c1 _ _ e => hs₀.extBut _ _ c1 e, hs₀.1⟩
  clear hz₀ hs₀
  refine wpAny_bind ?_
  show wpAny _ _ (forIn ((List.replicate 8 (Value.ref it)).zipIdx 0) _ _) _ _ _
  refine forIn_draws (b := b) (t := t) (z := z) (TI := TI) (TO := TO) (h0 := hp) (m0 := m) (fun h tk j Q D hj hq => ?_) (fun h tk D => ?_) 8 0 h₀ tk rfl D0
  · refine wpAny_bind (wpAny_onRaise ?_)
    show wpAny _ _ (Builtin.SmallTypes.nextOf (.ref it) >>= _) _ _ _
    refine wpAny_bind (nextOf_bytes_item' D.hit (bI_get (by omega)) fun g ig sg => wpAny_pure ?_)
    obtain ⟨us, rest, e1, e2, ri, hT⟩ := D.hTO
    cases rest with
    | nil => simp at e2; omega
    | cons r rest =>
      have hT1 := sg.extBut _ _ Z.Oi hT
      refine wpAny_bind (seqItems_t8' hT1 ?_)
      refine wpAny_bind (updateSeq_t8' hT1 (by simp only [List.size_toArray, List.length_append]; omega) fun h1 t1 s1 => ?_)
      refine wpAny_bind (wpAny_letGo (wpAny_pure (hq h1 _ ?_)))
      refine ⟨s1.extBut _ _ Z.zO (sg.extBut _ _ Z.zi D.hz), ⟨us ++ [.int (bI b (m + us.length)) tk], rest, by rw [List.length_append, e1]; rfl, by rw [List.length_append]; simp at e2 ⊢; omega, ri.snoc tk, ?_⟩, ?_, fun c o c1 c2 c3 e => s1.extBut _ _ c2 (sg.extBut _ _ c3 (D.hk c o c1 c2 c3 e)), by rw [s1.1, sg.1, D.sz]⟩
      · have ex : ((us ++ r :: rest).toArray).setIfInBounds j (Value.int (bI b (m + us.length)) tk) = (us ++ [Value.int (bI b (m + us.length)) tk] ++ rest).toArray := by
          rw [List.setIfInBounds_toArray, List.set_append_right _ _ (by omega), show j - us.length = 0 by omega, List.append_assoc]
          rfl
        rw [← ex]
        rw [show m + us.length = m + j by rw [e1]]
        exact t1
      · obtain ⟨o, ho, rr⟩ := ig
        exact ⟨o, s1.extBut _ _ Z.Oi.symm ho, rr⟩
  · obtain ⟨us, rest, e1, e2, ri, hT⟩ := D.hTO
    have er : rest = [] := List.eq_nil_of_length_eq_zero (by omega)
    subst er
    rw [List.append_nil] at hT
    have hlz : z < h.objs.size := Heap.lt_size D.hz
    refine wpAny_bind (seqItems_t8' hT ?_)
    refine wpAny_bind (newTuple_z' ?_ (by show us.length ≤ sizeLine; rw [e1]; decide))
    show wpAny _ _ (Builtin.SmallTypes.ownedTupleHandOut (.ref z) (.ref h.objs.size) >>= _) _ _ _
    refine wpAny_bind ?_
    unfold Builtin.SmallTypes.ownedTupleHandOut
    refine wpAny_bind (setField_z' (Heap.get?_push_of_some _ D.hz) (by simp) fun h₇ hz₇ hs₇ => ?_)
    replace hz₇ : IsZip h₇ z TI TO (rawInt h.objs.size) := hz₇
    refine setField_z' hz₇ (by simp) fun h₈ hz₈ hs₈ => ?_
    replace hz₈ : IsZip h₈ z TI TO (rawInt h.objs.size) := hz₈
    have up : ∀ c o, c ≠ z → h.get? c = some o → h₈.get? c = some o := fun c o c1 e => hs₈.extBut _ _ c1 (hs₇.extBut _ _ c1 (Heap.get?_push_of_some _ e))
    have hT₈ : IsT8 h₈ h.objs.size us.toArray := hs₈.extBut _ _ (Nat.ne_of_gt hlz) (hs₇.extBut _ _ (Nat.ne_of_gt hlz) (Heap.get?_push_size _ rfl))
    rw [D.sz] at hz₈ hT₈
    refine wpAny_pure ⟨_, rfl, ?_⟩
    show Q (.ref h.objs.size) _
    rw [D.sz]
    refine hQ h₈ _ us e1 ri hz₈ (up _ _ Z.zO.symm hT) ?_ hT₈ fun c o c1 c2 c3 e => up c o c1 (D.hk c o c1 c2 c3 e)
    obtain ⟨o, ho, r⟩ := D.hit
    exact ⟨o, up _ o Z.zi.symm ho, r⟩
theorem zip8_end {s : Shared} {z TI TO it : Addr} {m : Nat} {xs : Array Value} {Q : Fin → Shared → Prop} (hh : A.handled = none) (Z : Z8 z TI TO it)
    (hz : IsZip s.heap z TI TO .none) (hTI : IsT8 s.heap TI (I8 it)) (hTO : IsT8 s.heap TO xs) (hit : IsBytesIter s.heap it b t m) (hx : b[m]? = none)
    (hE : ∀ h' e, (∀ c o, c ≠ z → c ≠ TO → c ≠ it → s.heap.get? c = some o → h'.get? c = some o) → (∃ o, h'.get? e = some o ∧ o.cls = .type "StopIteration") → E (.ref e) { s with heap := h' }) :
    wpAny (model prog w) A (Builtin.«zip.__next__» ⟨[.ref z], []⟩) Q E s := by
  show wpAny _ _ (field (.ref z) 2 >>= _) _ _ _
  refine wpAny_bind (wpAny_field hz rfl (x := .bool false) rfl ?_)
  show wpAny _ _ (field (.ref z) 3 >>= _) _ _ _
  refine wpAny_bind (wpAny_field hz rfl (x := .ref TI) rfl ?_)
  refine wpAny_bind (wpAny_seqItems hTI rfl ?_)
  show wpAny _ _ (Builtin.SmallTypes.ownedTupleIsFree (.ref z) >>= _) _ _ _
  refine wpAny_bind ?_
  unfold Builtin.SmallTypes.ownedTupleIsFree
  refine wpAny_bind (wpAny_field hz rfl (x := .none) rfl (wpAny_pure ?_))
  simp only [if_true]
  refine wpAny_bind (wpAny_rule ?_)
  refine wpAny_bind (wpAny_field hz rfl (x := .ref TO) rfl ?_)
  refine wpAny_bind (wpAny_setField_rec hz (by simp) fun h₁ hz₁ hs₁ => ?_)
  replace hz₁ : IsZip h₁ z TI TO .ellipsis := hz₁
  refine wpAny_bind ?_
  simp only [List.zipIdx_cons, List.zipIdx_nil, List.forIn_cons, List.forIn_nil]
  refine wpAny_bind (wpAny_bind (wpAny_onRaise ?_))
  show wpAny _ _ (Builtin.SmallTypes.nextOf (.ref it) >>= _) _ _ _
  have hit₁ : IsBytesIter h₁ it b t m := by obtain ⟨o, ho, r⟩ := hit; exact ⟨o, hs₁.extBut _ _ Z.zi.symm ho, r⟩
  refine wpAny_bind (nextOf_bytes_end hh hit₁ hx fun h₂ e hs₂ he => ?_)
  obtain ⟨oe, hoe, hce⟩ := he
  have hz₂ : IsZip h₂ z TI TO .ellipsis := hs₂ _ _ Z.zi hz₁
  have hez : e ≠ z := fun x => by subst x; rw [hz₂] at hoe; cases hoe; simp at hce
  exact wpAny_setField_rec hz₂ (by simp) fun h₃ _ hs₃ => hE h₃ e (fun c o c1 _ c3 x => hs₃.extBut _ _ c1 (hs₂ _ _ c3 (hs₁.extBut _ _ c1 x))) ⟨oe, hs₃.extBut _ _ hez hoe, hce⟩
end
end Fk

set_option maxHeartbeats 4000000
/-! iter(bytes); for .. in zip(it, .. eight times): the rules. -/
namespace Fk
open PySem PySem.Spec PyProof.Rows L2 PySem.W.KBw
theorem typeCall_zip_8 (a : Value) : checkTypeCall "zip" ⟨[a, a, a, a, a, a, a, a], []⟩ = pure () := by kernel_rfl
theorem newCall_zip_8 (a : Value) : checkBuiltinCall "zip.__new__" ⟨[.type "zip", a, a, a, a, a, a, a, a], []⟩ = pure () := by kernel_rfl
theorem args_oi_9 (o a : Value) : argsOk "object.__init__" ⟨[o, a, a, a, a, a, a, a, a], []⟩ := by
  unfold argsOk; rw [signature?_of (id := "object.__init__") (n := ['_', '_', 't', 'i', 'n', 'i', '_', '_']) (o := ['t', 'c', 'e', 'j', 'b', 'o']) (by kernel_rfl) F.owner_object]; kernel_rfl
abbrev z8H1 (h : Heap) (it : Addr) : Heap := h.push { cls := .type "tuple", data := .seq (I8 it) }
abbrev z8H2 (h : Heap) (it : Addr) : Heap := (z8H1 h it).push { cls := .type "tuple", data := .seq #[.none, .none, .none, .none, .none, .none, .none, .none] }
abbrev z8H3 (h : Heap) (it : Addr) : Heap := (z8H2 h it).push { cls := .type "zip", data := .fields #[.none, .bool false, .bool false, .ref h.objs.size, .ref (z8H1 h it).objs.size] }
theorem meets_zip8 (it : Addr) (b : Array UInt8) (t : Tok) :
    Meets (Builtin.«zip.__new__» ⟨[.type "zip", .ref it, .ref it, .ref it, .ref it, .ref it, .ref it, .ref it, .ref it], []⟩) (fun _ R s => IsBytesIter s.heap it b t 0 ∧
      R (.ok (.ret (.ref (z8H2 s.heap it).objs.size))) { s with heap := z8H3 s.heap it }) :=
  .of_wp fun prog w A R s h => by
    obtain ⟨hp, g, d, tk, os⟩ := s; obtain ⟨hi, h⟩ := h
    have hsub := sub_zip
    have hI : IsBytesIter (Shared.heap ⟨hp, g, d, tk, os⟩) it b t 0 := hi
    wp_walk using pyIter_self hI
    exact ⟨_, rfl, h⟩
section
variable {prog : Program} {w : World} {A : Around} {E : Value → Shared → Prop} {s : Shared} {b : Array UInt8} {t : Tok}
theorem call_zip8 {it : Addr} {Q : Value → Shared → Prop} (hi : IsBytesIter s.heap it b t 0)
    (h : ∀ h', IsZip h' (s.heap.objs.size + 2) s.heap.objs.size (s.heap.objs.size + 1) .none → IsT8 h' s.heap.objs.size (I8 it) → IsT8 h' (s.heap.objs.size + 1) #[.none, .none, .none, .none, .none, .none, .none, .none] →
      (∀ c o, s.heap.get? c = some o → h'.get? c = some o) → Q (.ref (s.heap.objs.size + 2)) { s with heap := h' }) :
    wpAny (model prog w) A (call (.type "zip") [.ref it, .ref it, .ref it, .ref it, .ref it, .ref it, .ref it, .ref it]) Q E s := by
  refine callType_new F.called_zip (by decide) (typeCall_zip_8 _) (newCall_zip_8 _) (fun obj => args_oi_9 obj _) F.entry_zip_new
    (meets_zip8 it b t) ⟨hi, ?_⟩
  have z1 : (z8H1 s.heap it).objs.size = s.heap.objs.size + 1 := Heap.size_push ..
  have z2 : (z8H2 s.heap it).objs.size = s.heap.objs.size + 2 := by rw [Heap.size_push, z1]
  have g3 : (z8H3 s.heap it).get? (z8H2 s.heap it).objs.size = some _ := Heap.get?_push_size _ rfl
  have g2 : (z8H3 s.heap it).get? (z8H1 s.heap it).objs.size = some _ := Heap.get?_push_of_some _ (Heap.get?_push_size _ rfl)
  have g1 : (z8H3 s.heap it).get? s.heap.objs.size = some _ := Heap.get?_push_of_some _ (Heap.get?_push_of_some _ (Heap.get?_push_size _ rfl))
  show _ ∧ _
  rw [z1, z2] at g3
  rw [z1] at g2
  rw [z2]
  exact ⟨⟨_, g3, rfl⟩, h _ g3 g1 g2 fun c o x => Heap.get?_push_of_some _ (Heap.get?_push_of_some _ (Heap.get?_push_of_some _ x))⟩
theorem pyNext_zip8_item {z TI TO it : Addr} {m : Nat} {xs : List Value} {Q : Option Value → Shared → Prop} (Z : Z8 z TI TO it)
    (hz : IsZip s.heap z TI TO .none) (hTI : IsT8 s.heap TI (I8 it)) (hTO : IsT8 s.heap TO xs.toArray) (hxz : xs.length = 8) (hit : IsBytesIter s.heap it b t m) (hb : m + 8 ≤ b.size)
    (hQ : ∀ h' tk us, us.length = 8 → RowI b m us → IsZip h' z TI TO (rawInt s.heap.objs.size) → IsT8 h' TO us.toArray → IsBytesIter h' it b t (m + 8) → IsT8 h' s.heap.objs.size us.toArray →
      (∀ c o, c ≠ z → c ≠ TO → c ≠ it → s.heap.get? c = some o → h'.get? c = some o) → Q (some (.ref s.heap.objs.size)) { s with heap := h', toks := tk }) :
    wpAny (model prog w) A (pyNext (.ref z)) Q E s := by
  have hT : s.TypeIs (.ref z) "zip" := ⟨_, hz, rfl⟩
  unfold pyNext
  exact wpAny_bind (wpAny_attempt (wpAny_callSpecial?_slot (name := Str.ofString "__next__") hT F.slot_zip_next
    (wpAny_call_entry F.slot_zip_next hT F.entry_zip_next
      (zip8_item Z hz hTI hTO hxz hit hb fun h' tk us a0 a1 a2 a3 a4 a5 a6 => wpAny_pure (hQ h' tk us a0 a1 a2 a3 a4 a5 a6)) (F.args_zip_next_1 _))))
theorem pyNext_zip8_end {z TI TO it : Addr} {m : Nat} {xs : Array Value} {Q : Option Value → Shared → Prop} (hh : A.handled = none) (Z : Z8 z TI TO it)
    (hz : IsZip s.heap z TI TO .none) (hTI : IsT8 s.heap TI (I8 it)) (hTO : IsT8 s.heap TO xs) (hit : IsBytesIter s.heap it b t m) (hx : b[m]? = none)
    (hQ : ∀ h', (∀ c o, c ≠ z → c ≠ TO → c ≠ it → s.heap.get? c = some o → h'.get? c = some o) → Q none { s with heap := h' }) : wpAny (model prog w) A (pyNext (.ref z)) Q E s := by
  have hT : s.TypeIs (.ref z) "zip" := ⟨_, hz, rfl⟩
  unfold pyNext
  refine wpAny_bind (wpAny_attempt (wpAny_callSpecial?_slot (name := Str.ofString "__next__") hT F.slot_zip_next
    (wpAny_call_entry F.slot_zip_next hT F.entry_zip_next (zip8_end hh Z hz hTI hTO hit hx fun h' e hk he => ?_) (F.args_zip_next_1 _))))
  obtain ⟨o, ho, hc⟩ := he
  refine wpAny_bind (wpAny_isInstance (T := "StopIteration") (b := true) ⟨o, ho, hc⟩ isSubtype_stop ?_)
  exact wpAny_pure (hQ _ hk)
end
theorem RowI.vals {b : Array UInt8} : ∀ (us : List Value) (m : Nat), RowI b m us → Vals ((List.range us.length).map fun k => V.int (bI b (m + k))) us := by
  intro us
  induction us with
  | nil => intro m _; exact .nil
  | cons u us ih =>
    intro m h
    rw [List.length_cons, List.range_succ_eq_map, List.map_cons, List.map_map]
    obtain ⟨t, rfl⟩ := h 0 u rfl
    refine .cons ⟨t, rfl⟩ ?_
    have q := ih (m + 1) fun i v e => by
      obtain ⟨t', e'⟩ := h (i + 1) v e
      exact ⟨t', by rw [e', show m + (i + 1) = m + 1 + i by omega]⟩
    refine (congrArg (fun l => Vals l us) (List.map_congr_left fun k _ => ?_)).mp q
    show V.int (bI b (m + 1 + k)) = V.int (bI b (m + (k + 1)))
    rw [show m + 1 + k = m + (k + 1) by omega]
def row8 (b : Array UInt8) (i : Nat) : List V := [.int (bI b (8 * i + 0)), .int (bI b (8 * i + 1)), .int (bI b (8 * i + 2)), .int (bI b (8 * i + 3)), .int (bI b (8 * i + 4)), .int (bI b (8 * i + 5)), .int (bI b (8 * i + 6)), .int (bI b (8 * i + 7))]
theorem row8_vals {b : Array UInt8} {us : List Value} {i : Nat} (h : RowI b (8 * i) us) (hl : us.length = 8) : Vals (row8 b i) us := by
  have q := h.vals us
  rw [hl] at q
  exact q
def It8 (b : Array UInt8) : It := ⟨fun i _ => 8 * i + 8 ≤ b.size, fun i H v H' => ∃ T, v = .ref T ∧ H T = none ∧ H' = upd H T (.tup (row8 b i)), fun i _ => b.size ≤ 8 * i⟩
theorem turn_zip8 {P : Program} {w : World} {K : PySem.W.Frag} {elts : List Expr} {kk : Nat} {tpos : Pos} {z TI TO it : Addr} (Z : Z8 z TI TO it) (b : Array UInt8) (t : Tok) :
    Turn P w K (.Tuple elts kk tpos) (It8 b) [z, TI, TO, it] z (fun i h => IsZip h z TI TO .none ∧ IsT8 h TI (I8 it) ∧ (∃ xs : List Value, xs.length = 8 ∧ IsT8 h TO xs.toArray) ∧ IsBytesIter h it b t (8 * i)) where
  mem := by simp
  obj := fun i h st c hc => by
    obtain ⟨hz, hTI, ⟨xs, hxz, hTO⟩, ⟨o1, e1, _, d1⟩⟩ := st
    have e' : c = z ∨ c = TI ∨ c = TO ∨ c = it := by simpa using hc
    rcases e' with q | q | q | q
    · rw [q]; exact ⟨_, hz, fun v q => nomatch q⟩
    · rw [q]; exact ⟨_, hTI, fun v q => nomatch q⟩
    · rw [q]; exact ⟨_, hTO, fun v q => nomatch q⟩
    · rw [q]; exact ⟨o1, e1, fun v q => by rw [d1] at q; cases q⟩
  keep := fun i h h' st k => by
    obtain ⟨hz, hTI, ⟨xs, hxz, hTO⟩, ⟨o1, e1, r⟩⟩ := st
    exact ⟨k z (by simp) _ hz, k TI (by simp) _ hTI, ⟨xs, hxz, k TO (by simp) _ hTO⟩, ⟨o1, k it (by simp) o1 e1, r⟩⟩
  item := by
    intro X hP hw hK hc i pins s σ H E I hf st hg
    subst hP hw hK
    obtain ⟨hz, hTI, ⟨xs, hxz, hTO⟩, hit⟩ := st
    have hg : 8 * i + 8 ≤ b.size := hg
    have hzl : z < s.heap.objs.size := Heap.lt_size hz
    refine pyNext_zip8_item Z hz hTI hTO hxz hit hg fun h' tk us hl ri z' TO' it' hT hk => ?_
    refine ⟨_, rfl, wpAny_letOwnedTupleGo_zip (s := { s with heap := h', toks := tk }) z' fun h'' z'' sb => ?_⟩
    have hT2 : IsT8 h'' s.heap.objs.size _ := (sb.2 _ (Nat.ne_of_gt hzl)).trans hT
    have new : ObjOk X.prog X.w (upd H s.heap.objs.size (.tup (row8 b i))) h'' s.heap.objs.size (.tup (row8 b i)) :=
      ⟨by show 8 ≤ sizeLine; decide, us, row8_vals ri hl, ⟨_, hT2, rfl, _, rfl⟩⟩
    have I1 : Inv X pins σ (upd H s.heap.objs.size (.tup (row8 b i))) { s with heap := h'', toks := tk } :=
      I.turnedNew (t' := tk) (ch := [z, TI, TO, it]) (fun c o hb q => (sb.2 c (fun q' => hb (by simp [q']))).trans (hk c o (fun q' => hb (by simp [q'])) (fun q' => hb (by simp [q'])) (fun q' => hb (by simp [q'])) q)) hf (Nat.le_refl _) new
    refine ⟨.ref s.heap.objs.size, _, I1, rfl, ⟨_, rfl, I.hok.fresh (Nat.le_refl _), rfl⟩, ⟨z'', ?_, ⟨us, hl, ?_⟩, ?_⟩, fun c hcm => ?_⟩
    · exact (sb.2 _ Z.Iz).trans (hk _ _ Z.Iz Z.IO Z.Ii hTI)
    · exact (sb.2 _ Z.zO.symm).trans TO'
    · obtain ⟨o, ho, r⟩ := it'
      exact ⟨o, (sb.2 _ Z.zi.symm).trans ho, r⟩
    · have hlt : c < s.heap.objs.size := by
        have e' : c = z ∨ c = TI ∨ c = TO ∨ c = it := by simpa using hcm
        rcases e' with q | q | q | q
        · rw [q]; exact hzl
        · rw [q]; exact Heap.lt_size hTI
        · rw [q]; exact Heap.lt_size hTO
        · rw [q]; obtain ⟨_, e1, _⟩ := hit; exact Heap.lt_size e1
      rw [upd_ne (Nat.ne_of_lt hlt)]
      exact (hf c hcm).1
  done := by
    intro X hP hw hK hc i pins s σ H E I hf st hg
    subst hP hw hK
    obtain ⟨hz, hTI, ⟨xs, hxz, hTO⟩, hit⟩ := st
    exact pyNext_zip8_end (I.ok.hd hc) Z hz hTI hTO hit (Array.getElem?_eq_none hg) fun h' hk => ⟨rfl, I.turnedL (t' := s.toks) (ch := [z, TI, TO, it]) (fun c o hb q =>
      hk c o (fun q' => hb (by simp [q'])) (fun q' => hb (by simp [q'])) (fun q' => hb (by simp [q'])) q) hf⟩
  self := fun A i s Q E st h => wpAny_pyIter_zip st.1 h
/-! ### iter(b) -/
def BiO (b : Array UInt8) (it : Addr) : HO := .ext fun h => ∃ t, IsBytesIter h it b t 0
theorem call_iterB {X : Cx} : CallR X (.builtin "iter") (fun xs H Q => ∃ b, xs = [.byt b] ∧ ∀ it, H it = none → X.s_0.heap.objs.size ≤ it → Q (.ref it) (upd H it (BiO b it))) := by
  intro pins s σ H xs us Q I r h
  obtain ⟨b, rfl, q⟩ := h
  obtain ⟨u, rfl, ru⟩ := vals1 r
  obtain ⟨t, rfl⟩ := ru
  refine Calls.call_function_entry (by decide +kernel) (by decide +kernel) PySem.W.kdk_entry_iter (PySem.W.kdk_args_iter _) ?_
  unfold Builtin.«iter»
  refine wpAny_bind (m := someArgs "iter" 1 2 _) (wpAny_of_eq (a := [Value.bytes b t]) (by first | rfl | kernel_rfl!) ?_)
  show wpAny _ _ (pyIter (.bytes b t) >>= _) _ _ _
  refine wpAny_bind (pyIter_bytes (wpAny_pure ⟨_, rfl, ?_⟩))
  have st : IsBytesIter (s.heap.push { cls := .type "bytes_iterator", data := .fields #[.bytes b t, .int 0 0] }) s.heap.objs.size b t 0 := ⟨_, Heap.get?_push_size _ rfl, rfl, rfl⟩
  refine ⟨.ref s.heap.objs.size, _, I.laid (t' := s.toks) (fun b u e => Heap.get?_push_of_some _ e) (Nat.le_refl _) (o := BiO b s.heap.objs.size) ⟨⟨t, st⟩, ⟨_, Heap.get?_push_size _ rfl⟩, fun h1 h2 ⟨t, o, ho, r⟩ k => ⟨t, o, k _ ho, r⟩⟩, rfl, q _ (I.hok.fresh (Nat.le_refl _)) I.sz⟩
/-! ### for .. in zip(it, ..) -/
def iZip8 (n : Nat) (ta : TA) : TI := fun σ H R => ta σ H fun vs H1 => ∃ it b, vs = [.ref it, .ref it, .ref it, .ref it, .ref it, .ref it, .ref it, .ref it] ∧ H1 it = some (BiO b it) ∧ n ≤ it ∧ R (It8 b) (ItX.dropH H1 it)
theorem pi_zip8 {X : Cx} {e0 e1 e2 e3 e4 e5 e6 e7 : Expr} {ta : TA} {p pos tpos : Pos} {elts : List Expr} {kk : Nat} (hg : Gl X "zip") (hm : X.mg "zip" = none) (ha : PA X [e0, e1, e2, e3, e4, e5, e6, e7] ta)
    (hs : starEach [e0, e1, e2, e3, e4, e5, e6, e7] X.env = (false, eval e0 X.env) :: starEach [e1, e2, e3, e4, e5, e6, e7] X.env := by rfl) (hpl : (backTo pos (starEach [e1, e2, e3, e4, e5, e6, e7] X.env)).any (·.1) = false := by rfl) :
    PI X (.Tuple elts kk tpos) (.Call (.Name "zip" p) [e0, e1, e2, e3, e4, e5, e6, e7] [] pos) (iZip8 X.s_0.heap.objs.size ta) := by
  refine ⟨fun pins s σ H R I h => ?_⟩
  refine Call_ (ld_blt I hg hm PyProof.Rows.boot_zip (PyProof.Rows.callWith_type1 (thn (ha.run pos pins s σ H _ I h) fun us s1 ⟨vs, H1, I1, r1, q1⟩ => ?_) hs hpl))
  obtain ⟨it, b, ex, hi, hn, q⟩ := q1
  subst ex
  obtain ⟨t, st⟩ := (I1.hok it _ hi).1
  have eu : us = [.ref it, .ref it, .ref it, .ref it, .ref it, .ref it, .ref it, .ref it] := by
    have z : ∀ (n : Nat) (us : List Value), Vals (List.replicate n (V.ref it)) us → us = List.replicate n (Value.ref it) := fun n => by
      induction n with
      | zero => intro us r; cases r; rfl
      | succ n ih =>
        intro us r
        cases r with
        | cons r0 r =>
          rw [ih _ r, show _ = Value.ref it from r0]
          rfl
    exact z 8 us r1
  subst eu
  have Id : Inv X pins σ (ItX.dropH H1 it) s1 := ItX.inv_drop I1 hi
  have hlt : it < s1.heap.objs.size := by obtain ⟨_, e1, _⟩ := st; exact Heap.lt_size e1
  refine call_zip8 st fun h' hz hTI hTO hk => wpAny_pyIter_zip hz ?_
  have I2 : Inv X pins σ (ItX.dropH H1 it) { s1 with heap := h' } := Id.kept (t' := s1.toks) hk
  have Z : Z8 (s1.heap.objs.size + 2) s1.heap.objs.size (s1.heap.objs.size + 1) it := ⟨by show s1.heap.objs.size + 2 ≠ it; exact Nat.ne_of_gt (Nat.lt_add_right 2 hlt), Nat.ne_of_gt (Nat.lt_succ_self _), by show s1.heap.objs.size + 1 ≠ it; exact Nat.ne_of_gt (Nat.lt_add_right 1 hlt), Nat.ne_of_lt (Nat.lt_add_of_pos_right (by decide)), Nat.ne_of_lt (Nat.lt_succ_self _), Nat.ne_of_gt hlt⟩
  refine ⟨s1.heap.objs.size + 2, [s1.heap.objs.size + 2, s1.heap.objs.size, s1.heap.objs.size + 1, it], _, It8 b, ItX.dropH H1 it, rfl, I2, turn_zip8 Z b t, ⟨hz, hTI, ⟨[.none, .none, .none, .none, .none, .none, .none, .none], rfl, hTO⟩, ?_⟩, fun c hcm => ?_, q⟩
  · obtain ⟨o, ho, r⟩ := st
    exact ⟨o, hk _ _ ho, r⟩
  · have e' : c = s1.heap.objs.size + 2 ∨ c = s1.heap.objs.size ∨ c = s1.heap.objs.size + 1 ∨ c = it := by simpa using hcm
    have fr : s1.heap.objs.size ≤ c → FpOk X pins (ItX.dropH H1 it) c := fun hle => Id.fpOk hle (Id.hok.fresh hle)
    rcases e' with z | z | z | z
    · exact fr (by rw [z]; exact Nat.le_add_right _ _)
    · exact fr (by rw [z]; exact Nat.le_refl _)
    · exact fr (by rw [z]; exact Nat.le_add_right _ _)
    · rw [z]; exact ItX.inv_fp I1 hi hn
/-- a loop over the bytes by eights -/
theorem for_zip8 {b : Array UInt8} {n : Nat} (hn : b.size = 8 * n) {g : TG} {tb : TS} {D : Ends} {σ : L2.St} {H : Hp} (Pv : Nat → L2.St → Hp → Prop) (h0 : Pv 0 σ H)
    (hs : ∀ (i : Nat) (T : Addr) (σ : L2.St) (H : Hp), i < n → Pv i σ H → H T = none → g (.ref T) σ (upd H T (.tup (row8 b i))) fun σ2 H2 => tb { D with nx := Pv (i + 1), ct := Pv (i + 1), bk := D.nx } σ2 H2) (hd : ∀ σ H, Pv n σ H → D.nx σ H) :
    ∃ W : Nat → Nat → L2.St → Hp → Prop, (∃ m, W 0 m σ H) ∧ ∀ i m σ H, W i m σ H →
      ((It8 b).stop i H ∧ D.nx σ H) ∨ ((It8 b).go i H ∧ ∃ N : L2.St → Hp → Prop, (∀ σ' H', N σ' H' → ∃ m', m' < m ∧ W (i + 1) m' σ' H') ∧ ∀ v H', (It8 b).yld i H v H' → g v σ H' fun σ2 H2 => tb { D with nx := N, ct := N, bk := D.nx } σ2 H2) := by
  refine ⟨fun i m σ H => m = n - i ∧ i ≤ n ∧ Pv i σ H, ⟨n, rfl, Nat.zero_le _, h0⟩, ?_⟩
  rintro i m σ H ⟨rfl, hi, p⟩
  by_cases hlt : i < n
  · refine .inr ⟨by show 8 * i + 8 ≤ b.size; omega, Pv (i + 1), fun σ' H' p' => ⟨n - (i + 1), by omega, rfl, hlt, p'⟩, fun v H' y => ?_⟩
    obtain ⟨T, rfl, hT, rfl⟩ := y
    exact hs i T σ H hlt p hT
  · have e : i = n := by omega
    subst e
    exact .inl ⟨by show b.size ≤ 8 * i; omega, hd σ H p⟩
end Fk

set_option maxHeartbeats 4000000
/-! list(text); classes and defs called with keywords; properties. -/
namespace Fk
open PySem PySem.Spec PyProof.Rows L2
section
variable {X : Cx}
/-- list(x), x a text -/
def rListS : List V → Hp → VK → Prop := fun xs H Q => ∃ x : Str, xs = [.str x] ∧ x.length ≤ sizeLine ∧ ∀ q, H q = none → Q (.ref q) (upd H q (.lst ((TL.tl x).map sgn)))
theorem call_listS (hc : X.calm = true) : CallR X (.type "list") rListS := by
  intro pins s σ H xs us Q I r h
  obtain ⟨x, e, hz, q⟩ := h
  subst e
  obtain ⟨u, eu, rx⟩ := vals1 r
  subst eu
  obtain ⟨t, rfl⟩ := rx
  refine PySem.call_list_str (I.ok.hd hc) x t (fun h' tk acc' c' hk hS hacc => ?_) hz
  refine ⟨.ref s.heap.objs.size, upd H s.heap.objs.size (.lst ((TL.tl x).map sgn)), I.laid hk (Nat.le_refl _) (show ObjOk X.prog X.w _ _ _ (.lst ((TL.tl x).map sgn)) from ⟨?_, acc'.toList, c', ?_, ?_⟩), rfl, q _ (I.hok.fresh (Nat.le_refl _))⟩
  · rw [List.length_map, ← TL.len_tl]; exact hz
  · have el : acc'.toList.length = acc'.size := by simp
    refine vals_of_at (by rw [List.length_map, el, hacc.1, ← TL.len_tl]; rfl) fun j x' w h1 h2 => ?_
    obtain ⟨c, u, hcx, rfl⟩ := hacc.2 j w (by rw [← Array.getElem?_toList]; exact h2)
    rw [List.getElem?_map, show (TL.tl x)[j]? = some c from by rw [← hcx]; exact Array.getElem?_toList] at h1
    cases h1
    exact ⟨u, rfl⟩
  · rw [Array.toArray_toList]; exact hS
end
/-! ### classes and defs called with keywords -/
def IniK (K : PySem.W.Frag) (C : Addr) (qual : Str) (st : Stmt) (ps : List Str) (n : Nat) (ks : List Str) (gV : List V → List V → List V) : Prop := ∃ (f : Addr) (fd : FuncData) (g : List Value → List Value → List Value), Mk K C f ∧ C8.Fun K "__init__" qual st f fd ∧ KBn K fd ps n ks g gV
structure MakK (P : Program) (w : World) (K : PySem.W.Frag) (mg : Str → Option Value) (base : Heap) (k : Nat) (x : Str) (C : Addr) (sp : Sp) (n : Nat) (ks : List Str) (gV : List V → List V → List V) : Prop where
  ex : ∃ (f : Addr) (fd : FuncData) (ps : List Str) (g : List Value → List Value → List Value), Mk K C f ∧ FnOk P w K mg base C8.CX0 k f fd ps sp ∧ mg x = some (.ref C) ∧ KBn K fd ps n ks g gV
def DefK (K : PySem.W.Frag) (mg : Str → Option Value) (x : Str) (st : Stmt) (ps : List Str) (n : Nat) (ks : List Str) (gV : List V → List V → List V) : Prop := ∃ (f : Addr) (fd : FuncData) (g : List Value → List Value → List Value), C8.Fun K x x st f fd ∧ mg x = some (.ref f) ∧ PySem.W.keepIn K (.ref f) = true ∧ KBn K fd ps n ks g gV
structure CalK (P : Program) (w : World) (K : PySem.W.Frag) (mg : Str → Option Value) (base : Heap) (k : Nat) (x : Str) (sp : Sp) (n : Nat) (ks : List Str) (gV : List V → List V → List V) : Prop where
  ex : ∃ (f : Addr) (fd : FuncData) (ps : List Str) (g : List Value → List Value → List Value), FnOk P w K mg base C8.CX0 k f fd ps sp ∧ mg x = some (.ref f) ∧ PySem.W.keepIn K (.ref f) = true ∧ KBn K fd ps n ks g gV
section
variable {P : Program} {w : World} {K : PySem.W.Frag} {mg : Str → Option Value} {base : Heap}
theorem makK {x qual : Str} {C : Addr} {st : Stmt} {ps ks : List Str} {n k : Nat} {sp : Sp} {gV : List V → List V → List V} (I : IniK K C qual st ps n ks gV) (hm : mg x = some (.ref C)) (F : ∀ f fd, C8.Fun K "__init__" qual st f fd → FnOk P w K mg base C8.CX0 k f fd ps sp) : MakK P w K mg base k x C sp n ks gV := by
  obtain ⟨f, fd, g, M, U, b⟩ := I
  exact ⟨f, fd, ps, g, M, F f fd U, hm, b⟩
theorem calK {x : Str} {st : Stmt} {ps ks : List Str} {n k : Nat} {sp : Sp} {gV : List V → List V → List V} (I : DefK K mg x st ps n ks gV) (F : ∀ f fd, C8.Fun K x x st f fd → FnOk P w K mg base C8.CX0 k f fd ps sp) : CalK P w K mg base k x sp n ks gV := by
  obtain ⟨f, fd, g, U, hm, hk, b⟩ := I
  exact ⟨f, fd, ps, g, F f fd U, hm, hk, b⟩
/-- a property of a class, by its getter -/
structure PDef (K : PySem.W.Frag) (C : Addr) (f qual : Str) (st : Stmt) : Prop where
  ex : ∃ (p g : Addr) (fd : FuncData), PropOf K C f p g ∧ C8.Fun K f qual st g fd ∧ fd.defaults = .none
structure Prp (P : Program) (w : World) (K : PySem.W.Frag) (mg : Str → Option Value) (base : Heap) (k : Nat) (C : Addr) (f : Str) (sp : Sp) : Prop where
  ex : ∃ (p g : Addr) (fd : FuncData) (ps : List Str), Cls K C ∧ PropOf K C f p g ∧ FnOk P w K mg base C8.CX0 k g fd ps sp ∧ Binds K fd ps []
theorem prp_of {f qual : Str} {C : Addr} {st : Stmt} {N ps : List Str} {k : Nat} {sp : Sp} (c : Cls K C) (D : PDef K C f qual st) (S : FnScope N ps (C8.fnScope st))
    (hb : ∀ (kV doc pm : Value) (an : Option Addr) (cdv ct : Value) (us : List Value), us.length = ps.length → bindArgs (PySem.W.fnOf f qual (C8.fnArgs st) (C8.fnBody st) (C8.fnScope st) .none kV doc pm an cdv ct) ⟨us, []⟩ = pure (ps.zip us))
    (len : ∀ vs H Q E, sp vs H Q E → vs.length = ps.length)
    (hbody : ∀ (f : Addr) (cdv : Value) (A : Around) (outer : List Env) (s : Shared) (H : Hp) (vs : List V) (Q : VK) (E : XK), Room k (A.deeper (envOfC qual (C8.fnScope st) s.heap.objs.size f cdv)) → sp vs H Q E →
      ∃ t, PSs (cxOf C8.CX0 P w K mg base N qual (C8.fnScope st) f cdv A outer s H E).nox (C8.fnBody st) t ∧ t { nx := fun _ H' => Q .non H', rt := Q } (start N vs) H) : Prp P w K mg base (k + 1) C f sp := by
  obtain ⟨p, g, fd, hp, F, df⟩ := D.ex
  exact ⟨p, g, fd, ps, c, hp, C8.fn0 F S len (hbody g), F.binds df hb⟩
end
section
variable {X : Cx} {k j n : Nat} {C : Addr} {x f : Str} {sp : Sp} {p pos : Pos} {e : Expr} {es : List Expr} {kws : List Keyword} {ks : List Str} {t tk : TA} {ta : TE} {gV : List V → List V → List V}
/-- C(e, .., k = v, ..) -/
theorem pe_mkK (c : MakK X.prog X.w X.K X.mg X.base k x C sp (n + 1) ks gV) (hr : Room j X.A) (hk : k + 1 ≤ j) (hg : Gl X x) (ha : PA X (e :: es) t) (hkw : PK X kws tk)
    (hall : (backToKw pos (keywordEach kws X.env)).all (·.1.isSome) = true := by rfl) (hks : (backToKw pos (keywordEach kws X.env)).filterMap (·.1) = ks := by rfl) (hdb : (x == ("__debug__" : Str)) = false := by decide)
    (he : starEach (e :: es) X.env = (false, eval e X.env) :: starEach es X.env := by rfl) (hpl : ((backTo pos (starEach (e :: es) X.env)).any (·.1) || (backToKw pos (keywordEach kws X.env)).any (·.1.isNone)) = false := by rfl) :
    PE X (.Call (.Name x p) (e :: es) kws pos) (tMakeK C n ks.length sp gV C8.E0 t tk) := by
  obtain ⟨f, fd, ps, g, M, F, hm, b⟩ := c.ex
  exact pe_makeK M F (hr.mono hk) hg hm b C8.pass0 ha hkw hall hks hdb he hpl
/-- C(k = v, ..) -/
theorem pe_mkK0 (c : MakK X.prog X.w X.K X.mg X.base k x C sp 1 ks gV) (hr : Room j X.A) (hk : k + 1 ≤ j) (hg : Gl X x) (hkw : PK X kws tk)
    (hall : (backToKw pos (keywordEach kws X.env)).all (·.1.isSome) = true := by rfl) (hks : (backToKw pos (keywordEach kws X.env)).filterMap (·.1) = ks := by rfl) (hdb : (x == ("__debug__" : Str)) = false := by decide)
    (hpl : ((backTo pos (starEach [] X.env)).any (·.1) || (backToKw pos (keywordEach kws X.env)).any (·.1.isNone)) = false := by rfl) :
    PE X (.Call (.Name x p) [] kws pos) (tMakeK C 0 ks.length sp gV C8.E0 tNil tk) := by
  obtain ⟨f, fd, ps, g, M, F, hm, b⟩ := c.ex
  exact pe_makeK0 M F (hr.mono hk) hg hm b C8.pass0 hkw hall hks hdb hpl
/-- x(e, .., k = v, ..) -/
theorem pe_cK (c : CalK X.prog X.w X.K X.mg X.base k x sp n ks gV) (hr : Room j X.A) (hk : k ≤ j) (hg : Gl X x) (ha : PA X (e :: es) t) (hkw : PK X kws tk)
    (hall : (backToKw pos (keywordEach kws X.env)).all (·.1.isSome) = true := by rfl) (hks : (backToKw pos (keywordEach kws X.env)).filterMap (·.1) = ks := by rfl) (hdb : (x == ("__debug__" : Str)) = false := by decide)
    (he : starEach (e :: es) X.env = (false, eval e X.env) :: starEach es X.env := by rfl) (hpl : ((backTo pos (starEach (e :: es) X.env)).any (·.1) || (backToKw pos (keywordEach kws X.env)).any (·.1.isNone)) = false := by rfl) :
    PE X (.Call (.Name x p) (e :: es) kws pos) (tCallN n ks.length sp gV C8.E0 t tk) := by
  obtain ⟨f, fd, ps, g, F, hm, hkp, b⟩ := c.ex
  exact pe_callN F (hr.mono hk) hg hm hkp b C8.pass0 ha hkw hall hks hdb he hpl
/-- e.f, a property -/
theorem pe_pr (c : Prp X.prog X.w X.K X.mg X.base k C f sp) (hr : Room j X.A) (hk : k + 1 ≤ j) (he : PE X e ta) (hab : attributeBase e f X.env (eval e X.env) = eval e X.env := by rfl) : PE X (.Attribute e f pos) (tProp C sp [] C8.E0 ta) := by
  obtain ⟨p, g, fd, ps, cl, hp, F, b⟩ := c.ex
  exact pe_prop he cl hp F (hr.mono hk) b .nil C8.pass0 hab
/-- e, locked behind its making: a thing of its own that is walked -/
def tLocked (te : TE) : TE := fun σ H Q => te σ H fun x H1 => ∃ d u, x = .ref d ∧ H1 d = some u ∧ Mut (some u) ∧ ∀ od, Q x (upd H1 d (.frz od u))
theorem pe_locked (he : PE X e ta) : PE X e (tLocked ta) := by
  refine ⟨fun pins s σ H Q I h => thn (he.run pins s σ H _ I h) fun v s1 ⟨x, H1, I1, r, d, u, ex, hd, mu, q⟩ => ?_⟩
  obtain ⟨od, I2⟩ := I1.lock hd mu
  exact ⟨x, _, I2, r, q od⟩
end
end Fk

set_option maxHeartbeats 4000000
/-! sorted(set(xs)), xs a list of texts. -/
namespace Fk
open PySem PySem.Spec PyProof.Rows L2 PySem.Froz

/-- what walking over the set asks of its table -/
def Pl (w : World) (t : SetTable) : Prop := Ris t.place.toList ∧ (w.params.followText "set-order" = true ∨ t.led = true)
theorem pl_add {w : World} {D : SD} {h : Int} {v : Value} (p : Pl w D.2.2) : Pl w (addTx h v D).2.2 := by
  obtain ⟨es, ep, t⟩ := D
  have p1 : Pl w (layNew t es h v).2.1 := ⟨layNew_ris t es h v p.1, p.2.imp id fun z => by rw [layNew_led t es h v]; exact z⟩
  have p2 : Pl w (if (layNew t es h v).2.1.plain = true then { (layNew t es h v).2.1 with plain := false } else (layNew t es h v).2.1) := by
    split <;> exact p1
  show Pl w (tailTx ep (layNew t es h v).1 (if (layNew t es h v).2.1.plain = true then { (layNew t es h v).2.1 with plain := false } else (layNew t es h v).2.1) (layNew t es h v).2.2.1).2.2
  generalize (if (layNew t es h v).2.1.plain = true then { (layNew t es h v).2.1 with plain := false } else (layNew t es h v).2.1) = t2 at p2 ⊢
  unfold tailTx
  split
  · exact ⟨relayAll_ris _ _ _, p2.2.imp id fun z => by rw [relayAll_led]; exact z⟩
  · exact p2
theorem perm_add (h : Int) (v : Value) (D : SD) : (addTx h v D).1.toList.Perm (D.1.toList ++ [(h, v)]) := by
  obtain ⟨es, ep, t⟩ := D
  have pm := layNew_perm t es h v
  rw [Array.toList_push] at pm
  show (tailTx ep (layNew t es h v).1 (if (layNew t es h v).2.1.plain = true then { (layNew t es h v).2.1 with plain := false } else (layNew t es h v).2.1) (layNew t es h v).2.2.1).1.toList.Perm _
  generalize (if (layNew t es h v).2.1.plain = true then { (layNew t es h v).2.1 with plain := false } else (layNew t es h v).2.1) = t2
  unfold tailTx
  split
  · exact (relayAll_perm _ _ _).trans pm
  · exact pm
def strOf : Value → Str
  | .str k _ => k
  | _ => Str.empty
/-- the set at a holds the texts l -/
structure TxR (P : Program) (w : World) (h : Heap) (a : Addr) (l : List Str) : Prop where
  ob : ∃ D : SD, h.get? a = some (sObj "set" D) ∧ TxOk P w D l ∧ Pl w D.2.2 ∧ (∀ e ∈ D.1.toList, ∃ k t, e.2 = Value.str k t) ∧ (D.1.toList.map fun e => strOf e.2).Perm l
  nd : l.Nodup
theorem TxR.at {P : Program} {w : World} {h h' : Heap} {a : Addr} {l : List Str} (R : TxR P w h a l) (k : ∀ o, h.get? a = some o → h'.get? a = some o) : TxR P w h' a l := by
  obtain ⟨⟨D, ho, r⟩, nd⟩ := R
  exact ⟨⟨D, k _ ho, r⟩, nd⟩
theorem txr_new {P : Program} {w : World} {h : Heap} {a : Addr} (ho : h.get? a = some { cls := .type "set", dict := none, data := .set #[] 0 (.fresh 0 0 (!w.params.followText "set-order")) }) : TxR P w h a [] := by
  refine ⟨⟨(#[], 0, .fresh 0 0 (!w.params.followText "set-order")), ho, TxOk.nil (by rfl), ⟨List.Pairwise.nil, ?_⟩, fun e he => by simp at he, by simp⟩, .nil⟩
  show _ ∨ (!w.params.followText "set-order") = true
  cases w.params.followText "set-order"
  · exact .inr rfl
  · exact .inl rfl
section
variable {P : Program} {w : World} {A : Around} {E : Value → Shared → Prop} {s : Shared}
theorem txr_same {a : Addr} {l : List Str} {k : Str} {u : Tok} {Q : Bool → Shared → Prop} (R : TxR P w s.heap a l) (hk : k ∈ l) (hb : l.length < scanBound) (h : Q false s) :
    wpAny (model P w) A (setAddHashed a (.str k u) ((strKind P w).hash k)) Q E s := by
  obtain ⟨⟨⟨es, ep, t⟩, ho, F, _⟩, _⟩ := R
  have hd : (sObj "set" (es, ep, t)).data = .set es ep t := rfl
  have hf : t.fits es.size = true := F.fit
  have hel : ElemsOf (strKind P w) es.toList := F.el
  have hsz : es.size = l.length := F.sz
  have hkey : (strKind P w).is k (.str k u) = true := is_str k u
  unfold setAddHashed setAddHashedIn
  refine wpAny_holding (wpAny_bind (wpAny_setState_of ho hd hf ?_))
  dsimp only
  rw [byScan_of rfl (by omega) hel]
  simp only [↓reduceIte]
  unfold setAddByScan
  refine wpAny_bind ?_
  refine wpAny_bind (wpAny_rule ?_)
  refine wpAny_bind (wpAny_setScan_of (knd := strKind P w) (k := k) hkey ho hd hf hel ?_)
  cases hr : List.findIdx? (fun e => (strKind P w).is k e.2) es.toList with
  | none =>
    obtain ⟨e, he, q⟩ := (F.mem k).mp hk
    have c := List.findIdx?_eq_none_iff.mp hr e he
    rw [q] at c
    cases c
  | some j =>
    dsimp only
    exact wpAny_pure (wpAny_pure h)
theorem txr_add {a : Addr} {l : List Str} {k : Str} {u : Tok} {Q : Bool → Shared → Prop} (R : TxR P w s.heap a l) (hb : l.length + 1 < scanBound)
    (h : ∀ (b : Bool) h', Heap.SameBut a s.heap h' → TxR P w h' a (if k ∈ l then l else k :: l) → Q b { s with heap := h' }) :
    wpAny (model P w) A (setAddHashed a (.str k u) ((strKind P w).hash k)) Q E s := by
  by_cases hk : k ∈ l
  · rw [if_pos hk] at h
    exact txr_same R hk (by omega) (h false s.heap (Heap.SameBut.refl a s.heap) R)
  · rw [if_neg hk] at h
    obtain ⟨⟨D, ho, F, p, st, pm⟩, nd⟩ := R
    refine add_x ho F hk hb (h true _ ?_ ⟨⟨_, get_upd _ ho rfl, add_ok u F, pl_add p, fun e he => ?_, ?_⟩, List.nodup_cons.mpr ⟨hk, nd⟩⟩)
    · exact Heap.SameBut.update _ _ _
    · rcases List.mem_append.mp ((perm_add _ _ D).mem_iff.mp he) with z | z
      · exact st e z
      · rw [List.mem_singleton] at z
        exact ⟨k, u, by rw [z]⟩
    · refine ((perm_add _ _ D).map fun e => strOf e.2).trans ?_
      rw [List.map_append]
      exact (List.perm_append_comm).trans (pm.cons k)

theorem set_update_strs {I : Addr} {fp wr : List Addr} {G : Array GenState → Array GenState → Prop} {n : Nat} {Pv : Nat → Value → Prop} {St : Nat → Shared → Prop} {R : Result → Shared → Prop}
    (W : WalksS P w A.in1 I fp wr G n Pv St) (S : Addr) (hSf : S ∉ fp) (ks : List Str) (hn : n = ks.length) (hb : ks.length + 1 < scanBound) (hval : ∀ i v, Pv i v → ∃ k t, ks[i]? = some k ∧ v = .str k t) :
    ∀ (m i : Nat) (s : Shared), n - i = m → i ≤ n → St i s → (∃ l, l.length ≤ i ∧ (∀ k, k ∈ l ↔ k ∈ ks.take i) ∧ TxR P w s.heap S l) →
      (∀ s' l, Moved (S :: wr) G s s' → l.length ≤ n → (∀ k, k ∈ l ↔ k ∈ ks) → TxR P w s'.heap S l → R (.ok (.ret .none)) s') →
      codeAny (model P w) A (.builtin "set.update.loop" ⟨[.ref S, .ref I], []⟩) R s := by
  have hSw : S ∉ wr := fun h => hSf (W.sub _ h)
  have hsub : ∀ b ∈ wr, b ∈ S :: wr := fun b hb => List.mem_cons_of_mem _ hb
  intro m
  induction m with
  | zero =>
    intro i s hk' hi hst ⟨l, hc, hm0, hS⟩ hR
    have hin : i = n := by omega
    subst hin
    refine codeAny_builtin F.entry_set_update_loop ?_
    rw [Around.under_plainId F.plain_set_update_loop _]
    show wpAny _ A.in1 (pyNext (.ref I) >>= _) _ _ s
    refine wpAny_bind (W.done s _ _ hst fun s' hm => ?_)
    show wpAny _ A.in1 (ret Value.none) _ _ s'
    rw [List.take_of_length_le (by omega)] at hm0
    exact wpAny_pure (hR s' l (hm.mono hsub) hc hm0 (hS.at fun o e => hm.heap S o hSw e))
  | succ m ih =>
    intro i s hk' hi hst ⟨l, hc, hm0, hS⟩ hR
    have hlt : i < n := by omega
    refine codeAny_builtin F.entry_set_update_loop ?_
    rw [Around.under_plainId F.plain_set_update_loop _]
    show wpAny _ A.in1 (pyNext (.ref I) >>= _) _ _ s
    refine wpAny_bind (W.item i s _ _ hlt hst fun v s' hP hst' hm => ?_)
    obtain ⟨z, t, hz, rfl⟩ := hval i v hP
    have hS' : TxR P w s'.heap S l := hS.at fun o e => hm.heap S o hSw e
    show wpAny _ A.in1 (holding [Value.str z t] (setAdd S (.str z t)) >>= _) _ _ s'
    refine wpAny_bind (wpAny_holding ?_)
    unfold setAdd
    refine wpAny_holding ?_
    refine wpAny_bind ((strKind P w).pyHash (k := z) (is_str _ _) ?_)
    refine txr_add (s := { s' with toks := s'.toks + 1 }) hS' (by omega) fun _ h' hsb hS2 => ?_
    have hm2 : ∀ k, k ∈ (if z ∈ l then l else z :: l) ↔ k ∈ ks.take (i + 1) := fun k => by
      have e : ks.take (i + 1) = ks.take i ++ [z] := by
        rw [List.take_add_one, hz]; rfl
      rw [e, List.mem_append, List.mem_singleton, ← hm0 k]
      by_cases c : z ∈ l
      · rw [if_pos c]
        exact ⟨.inl, fun q => q.elim id fun q => q ▸ c⟩
      · rw [if_neg c, List.mem_cons]
        exact Or.comm
    have hc2 : (if z ∈ l then l else z :: l).length ≤ i + 1 := by
      split
      · omega
      · rw [List.length_cons]; omega
    refine wpAny_pure ⟨plainId_quiet F.plain_set_update_loop _, ih (i + 1) _ (by omega) hlt (W.frame _ s' _ _ hst' (Nat.le_succ _) fun b hb o e => ?_) ⟨_, hc2, hm2, hS2⟩ fun s'' l2 hm'' hc'' hm3 hS'' => ?_⟩
    · rw [hsb.2 b (fun h : b = S => hSf (by rw [← h]; exact hb))]; exact e
    · refine hR s'' l2 (Moved.trans W.gtrans ((hm.mono hsub).then_heap (Nat.le_succ _) fun b o hb e => ?_) hm'') hc'' hm3 hS''
      rw [hsb.2 b (fun h : b = S => hb (by rw [h]; exact List.mem_cons_self))]; exact e

theorem str_vals : ∀ {us : List Value} {ks : List Str}, StrsAre us ks → ∀ (i : Nat) (v : Value), us[i]? = some v → ∃ k t, ks[i]? = some k ∧ v = .str k t
  | _, _, .nil, i, v, h => by simp at h
  | _, _, .cons n t hr, 0, v, h => ⟨n, t, rfl, (Option.some.inj h).symm⟩
  | _, _, .cons n t hr, i + 1, v, h => str_vals hr i v (by simpa using h)
theorem str_len : ∀ {us : List Value} {ks : List Str}, StrsAre us ks → us.length = ks.length
  | _, _, .nil => rfl
  | _, _, .cons n t hr => by rw [List.length_cons, List.length_cons, str_len hr]

set_option maxHeartbeats 6400000 in
theorem call_set_strs {l : Addr} {items : Array Value} (ks : List Str) {Q : Value → Shared → Prop} (hh : A.handled = none) (hl : s.heap.IsList l items) (hit : StrsAre items.toList ks) (hb : ks.length + 1 < scanBound)
    (h : ∀ (h' : Heap) (tk : Nat) L, TxR P w h' s.heap.objs.size L → L.length ≤ ks.length → (∀ k, k ∈ L ↔ k ∈ ks) → (∀ b o, s.heap.get? b = some o → h'.get? b = some o) → Q (.ref s.heap.objs.size) { s with heap := h', toks := tk }) :
    wpAny (model P w) A (call (.type "set") [.ref l]) Q E s := by
  have hisz : items.size = ks.length := by
    have q := str_len hit
    rw [Array.length_toList] at q
    exact q
  obtain ⟨c, tl, hmro⟩ := F.called_set.mro
  have hmade := F.called_set.made
  have hsub := F.called_set.sub
  refine wpAny_call (codeAny_of_tree ?_)
  show wpAny _ _ (callAny (.type "set") _) _ _ _
  refine wpAny_pure ⟨Code.quiet_builtin _ (by decide +kernel), codeAny_builtin F.entry_type_call ?_⟩
  rw [Around.under_plain (weight_type_call_type "set" [.ref l] []) rfl]
  have h1 := F.called_set.notType
  have h2 := F.called_set.canCreate
  have hct := F.typeCall_set_1 (.ref l)
  repeat (any_goals (first | assumption | wp_step))
  generalize hO : ({ cls := .type "set", dict := none, data := .set #[] 0 (.fresh 0 0 (!w.params.followText "set-order")) } : Obj) = O
  have hOc : O.cls = .type "set" := by rw [← hO]
  have hOf : O.isFreed = false := by rw [← hO]; rfl
  refine codeAny_mono (code_set_led1 (.ref l) (E := E) (Q₁ := fun obj s₁ => obj = .ref s.heap.objs.size ∧ s₁ = { s with heap := s.heap.push O }) ⟨rfl, by rw [hO]⟩) fun r s₁ hr => ?_
  cases r with
  | error e => exact hr
  | ok fl =>
    cases fl with
    | ret obj =>
      obtain ⟨rfl, rfl⟩ := hr
      have hS : (s.heap.push O).get? s.heap.objs.size = some O := Heap.get?_push_size _ hOf
      have hT : Shared.TypeIs { s with heap := s.heap.push O } (.ref s.heap.objs.size) "set" := ⟨_, hS, hOc⟩
      have hli := F.called_set.init.lookup
      have hbi := F.called_set.init.bind (.ref s.heap.objs.size)
      repeat (any_goals (first | assumption | wp_step))
      refine codeAny_mono (codeAny_call_builtin (R := wants (fun r s₂ => r = .none ∧ ∃ h' tk L, s₂ = { s with heap := h', toks := tk } ∧ TxR P w h' s.heap.objs.size L ∧ L.length ≤ ks.length ∧ (∀ k, k ∈ L ↔ k ∈ ks) ∧
          (∀ b o, s.heap.get? b = some o → h'.get? b = some o)) E) F.called_set.init.plain F.entry_set_init (check_set_init_1 hT ?_)) fun r₂ s₂ hr₂ => ?_
      · obtain ⟨ol, hol, hcl, nl, hdl⟩ := hl
        obtain ⟨ocls, odict, odata, oslots⟩ := ol
        simp only at hcl hdl
        subst hcl; subst hdl
        have hol' : (s.heap.push O).get? l = some { cls := .type "list", dict := odict, data := .seq items nl, slots := oslots } := Heap.get?_push_of_some _ hol
        subst hO
        have hsls := F.sub_list_set
        have hslf := F.sub_list_frozenset
        have hne : (Value.type "list" == Value.type "dict") = false := by decide
        have hl1 : (s.heap.push ({ cls := .type "set", dict := none, data := .set #[] 0 (.fresh 0 0 (!w.params.followText "set-order")) } : Obj)).IsList l items := ⟨_, hol', rfl, nl, rfl⟩
        unfold Builtin.«set.__init__» noKeywords Builtin.Frozenset.updateFrom
        generalize hPI : pyIter = PI
        wp_walk
        subst hPI
        refine wpAny_pyIter_list (s := { s with heap := s.heap.push ({ cls := .type "set", dict := none, data := .set #[] 0 (.fresh 0 0 (!w.params.followText "set-order")) } : Obj) }) hl1 ?_
        refine wpAny_bind (wpAny_runValue ?_)
        have hlS : l < s.heap.objs.size := Heap.lt_size hol
        have hh3 : A.in1.in1.in1.handled = none := by simp [hh]
        have hneI : l ≠ (s.heap.push ({ cls := .type "set", dict := none, data := .set #[] 0 (.fresh 0 0 (!w.params.followText "set-order")) } : Obj)).objs.size := by
          rw [Heap.size_push]; exact Nat.ne_of_lt (Nat.lt_succ_of_lt hlS)
        have hSf : s.heap.objs.size ∉ [(s.heap.push ({ cls := .type "set", dict := none, data := .set #[] 0 (.fresh 0 0 (!w.params.followText "set-order")) } : Obj)).objs.size, l] := by
          rw [Heap.size_push]; simp only [List.mem_cons, List.mem_singleton, List.not_mem_nil, or_false, not_or]
          exact ⟨Nat.ne_of_lt (Nat.lt_succ_self _), Nat.ne_of_gt hlS⟩
        refine set_update_strs ((Walks.list hh3 _ l hneI items).toS) s.heap.objs.size
          hSf ks hisz hb (fun i v hv => str_vals hit i v (by rw [Array.getElem?_toList]; exact hv)) (items.size - 0) 0 _ (by omega) (Nat.zero_le _)
          ⟨⟨_, Heap.get?_push_size _ rfl, rfl, rfl⟩, (hl1.push _)⟩ ⟨[], Nat.le_refl _, (fun k => by simp), txr_new (by exact Heap.get?_push_of_some _ hS)⟩ fun s' L hm hlen hmem hS' => ?_
        obtain ⟨h', g2, d', tk', os'⟩ := s'
        have eg : g2 = s.gens := hm.gens
        have ed : d' = s.drawn := hm.drawn
        have eo : os' = s.os := hm.os
        subst eg; subst ed; subst eo
        show wpAny _ _ _ _ _ _
        refine wpAny_pure ?_
        show wpAny _ _ (ret Value.none) _ _ _
        refine wpAny_pure ⟨rfl, h', tk', L, rfl, hS', by omega, hmem, fun b o e => ?_⟩
        have hb0 : b < s.heap.objs.size := Heap.lt_size e
        have hb2 : b ≠ (s.heap.push ({ cls := .type "set", dict := none, data := .set #[] 0 (.fresh 0 0 (!w.params.followText "set-order")) } : Obj)).objs.size := by
          rw [Heap.size_push]; exact Nat.ne_of_lt (Nat.lt_succ_of_lt hb0)
        exact hm.heap b o (by simp only [List.mem_cons, List.mem_singleton, List.not_mem_nil, or_false, not_or]; exact ⟨Nat.ne_of_lt hb0, hb2⟩) (Heap.get?_push_of_some _ (Heap.get?_push_of_some _ e))
      · cases r₂ with
        | error e => exact hr₂
        | ok fl₂ =>
          cases fl₂ with
          | ret r =>
            obtain ⟨rfl, h', tk, L, rfl, hS', hc', hm', hk'⟩ := hr₂
            repeat (any_goals (first | assumption | wp_step))
            exact h _ _ _ hS' hc' hm' hk'
          | _ => exact hr₂.elim
    | _ => exact hr.elim

theorem strs_of_vals : ∀ (vs : List Value), (∀ v ∈ vs, ∃ k t, v = Value.str k t) → StrsAre vs (vs.map strOf)
  | [], _ => .nil
  | v :: vs, h => by
    obtain ⟨k, t, rfl⟩ := h v List.mem_cons_self
    exact .cons k t (strs_of_vals vs fun u hu => h u (List.mem_cons_of_mem _ hu))
/-- sorted(the set) -/
theorem sorted_txr {a : Addr} {l : List Str} {Q : Value → Shared → Prop} (R : TxR P w s.heap a l) (hh : A.handled = none) (h64 : l.length < 64)
    (hQ : ∀ s' p (out : List Value) (c : Nat) (ys : List Str), (∀ b o, s.heap.get? b = some o → s'.heap.get? b = some o) → s'.gens = s.gens → s'.os = s.os → s.heap.objs.size ≤ p →
      s'.heap.get? p = some (seqObj "list" out.toArray c) → StrsAre out ys → ys.Perm l → sortedS ys = true → Q (.ref p) s') :
    wpAny (model P w) A (call (.builtin "sorted") [.ref a]) Q E s := by
  obtain ⟨⟨⟨es, ep, t⟩, ho, F, pl, st, pm0⟩, nd⟩ := R
  have hsz : es.size = l.length := F.sz
  refine Calls.call_function_entry PyProof.Rows.kind_sorted PyProof.Rows.plain_sorted PyProof.Rows.entry_sorted (PyProof.Rows.args_sorted1 _) ?_
  unfold Builtin.«sorted»
  refine wpAny_bind (m := checkCount "sorted" 1 1 _) (wpAny_pure ?_)
  refine wpAny_bind (collect_set (A := A.in1) hh ⟨_, ho, rfl, rfl⟩ F.fit (by show es.size < scanBound; unfold scanBound; omega) pl.1 pl.2 fun s1 vs k1 hz g1 o1 pm => ?_)
  have hvl : vs.length < 64 := by rw [pm.length_eq, List.length_map, Array.length_toList]; exact hsz ▸ h64
  have hS : StrsAre vs (vs.map strOf) := strs_of_vals vs fun v hv => by
    obtain ⟨e, he, q⟩ := List.mem_map.mp (pm.mem_iff.mp hv)
    obtain ⟨k, tk, z⟩ := st e he
    exact ⟨k, tk, by rw [← q]; exact z⟩
  have pk : (vs.map strOf).Perm l := by
    have q := pm.map strOf
    rw [List.map_map] at q
    exact q.trans pm0
  refine wpAny_bind (wpAny_newList ?_ (by rw [sizeLine_eq]; omega))
  have hoL : (s1.heap.push (seqObj "list" vs.toArray 0)).get? s1.heap.objs.size = some (seqObj "list" vs.toArray 0) := Heap.get?_push_size _ rfl
  refine wpAny_bind (wpAny_holding (wpAny_call_entry PyProof.Rows.slot_list_sort ⟨_, hoL, rfl⟩ PyProof.Rows.entry_list_sort
    (list_sort_treeK strKind_oneLt (s := { s1 with heap := s1.heap.push (seqObj "list" vs.toArray 0) }) hoL hS.keysOf (fun v₁ v₂ rest e => keyKind_strs (by rw [← e]; exact hS)) hvl fun st' hp hs => ⟨_, rfl, ?_⟩)
    (PyProof.Rows.args_list_sort _)))
  obtain ⟨ys, g1', g2, g3⟩ := sorted_out_str hS hp hs
  obtain ⟨c, hc⟩ := PyProof.Rows.sortedHeap_at (vs := vs) (out := (arrOf st').map (·.2)) hoL
  refine wpAny_pure ⟨_, rfl, hQ _ s1.heap.objs.size ((arrOf st').map (·.2)).toList c ys (fun b u e => ?_) g1 o1 hz (by rw [Array.toArray_toList]; exact hc) g1' (g2.trans pk) g3⟩
  have q := k1 b u e
  have hlt := Heap.lt_size q
  show (sortedHeap (s1.heap.push (seqObj "list" vs.toArray 0)) s1.heap.objs.size vs _).get? b = some u
  rw [PyProof.Rows.sortedHeap_old (Nat.ne_of_lt hlt) (by rw [size_push']; exact Nat.lt_succ_of_lt hlt)]
  exact Heap.get?_push_of_some _ q
end
section
variable {X : Cx}
/-- sorted(set(xs)), xs a list of fewer than 64 texts -/
def tSortSetS (K : PySem.W.Frag) (ta : TE) : TE := fun σ H Q => ta σ H fun x H1 => ∃ (l : Addr) (xs : List Str), x = .ref l ∧ SqL K H1 l (xs.map V.str) ∧ xs.length < 64 ∧
  ∀ ys p, ys.Nodup → (∀ k, k ∈ ys ↔ k ∈ xs) → sortedS ys = true → ys.length ≤ xs.length → H1 p = none → Q (.ref p) (upd H1 p (.lst (ys.map V.str)))
theorem pe_sortSetS {a : Expr} {ta : TE} {p p2 q pos : Pos} (hc : X.calm = true) (hg : Gl X "sorted") (hm : X.mg "sorted" = none) (hg2 : Gl X "set") (hm2 : X.mg "set" = none) (ha : PE X a ta)
    (na : starEach [a] X.env = (false, eval a X.env) :: starEach [] X.env := by rfl) : PE X (.Call (.Name "sorted" p) [.Call (.Name "set" p2) [a] [] q] [] pos) (tSortSetS X.K ta) := by
  refine ⟨fun pins s σ H Q I h => ?_⟩
  refine Call_ (ld_blt I hg hm boot_sorted ?_)
  refine PyProof.Rows.callWith_builtin1 (PyProof.Rows.args_cons ?_ rfl) rfl rfl
  refine Call_ (ld_blt I hg2 hm2 boot_set ?_)
  refine PyProof.Rows.callWith_type1 (PyProof.Rows.args_cons (thn (ha.run pins s σ H _ I h) fun v s1 ⟨x, H1, I1, r1, q1⟩ => PyProof.Rows.args_nil ?_) na) na rfl
  obtain ⟨l, xs, rfl, hq, h1, q1⟩ := q1
  cases r1
  obtain ⟨its, r, pl, hz⟩ := I1.list hq
  refine call_set_strs xs (I1.ok.hd hc) pl.isList (by simpa using strsAre_of r) (by unfold scanBound; omega) fun h' tk L R hl hmem hk => ?_
  refine PyProof.Rows.args_nil ?_
  obtain ⟨s2, e2⟩ : ∃ s2 : Shared, s2 = { s1 with heap := h', toks := tk } := ⟨_, rfl⟩
  rw [← e2]
  have I2 : Inv X pins σ H1 s2 := by rw [e2]; exact I1.kept fun b o e => hk b o e
  have R2 : TxR X.prog X.w s2.heap s1.heap.objs.size L := by rw [e2]; exact R
  refine sorted_txr R2 (I2.ok.hd hc) (by omega) fun s' p out c ys k g o hp hgp hs pm hsort => ?_
  have hlen : (ys.map V.str).length ≤ sizeLine := by rw [List.length_map, pm.length_eq, sizeLine_eq]; omega
  have hn : H1 p = none := I2.hok.fresh hp
  have J : Inv X pins σ (upd H1 p (.lst (ys.map V.str))) { s2 with heap := s'.heap, gens := s'.gens, drawn := s'.drawn, toks := s'.toks } :=
    I2.call (ch := []) (Un.laid k hp hn) (I2.hok.laid k hp ⟨hlen, out, c, vals_of_strs hs, hgp⟩) (by rw [g]; exact I2.bare) (fun _ z => nomatch z)
  have e : s' = { s2 with heap := s'.heap, gens := s'.gens, drawn := s'.drawn, toks := s'.toks } := by
    obtain ⟨h3, g3, d3, t3, o3⟩ := s'
    have eo : o3 = s2.os := o
    subst eo
    rfl
  rw [e]
  exact ⟨.ref p, _, J, rfl, q1 ys p (pm.nodup_iff.mpr R.nd) (fun k => by rw [pm.mem_iff, hmem k]) hsort (by rw [pm.length_eq]; exact hl) hn⟩
end
end Fk

set_option maxHeartbeats 4000000
/-! len(set(t)) of a tuple of texts. -/
namespace Fk
open PySem PySem.Spec PyProof.Rows L2 PySem.Froz
section
variable {P : Program} {w : World} {A : Around} {E : Value → Shared → Prop} {s : Shared}
set_option maxHeartbeats 6400000 in
theorem call_set_strsT {l : Addr} {items : Array Value} (ks : List Str) {Q : Value → Shared → Prop} (hh : A.handled = none) (hl : s.heap.IsTuple l items) (hit : StrsAre items.toList ks) (hb : ks.length + 1 < scanBound)
    (h : ∀ (h' : Heap) (tk : Nat) L, TxR P w h' s.heap.objs.size L → L.length ≤ ks.length → (∀ k, k ∈ L ↔ k ∈ ks) → (∀ b o, s.heap.get? b = some o → h'.get? b = some o) → Q (.ref s.heap.objs.size) { s with heap := h', toks := tk }) :
    wpAny (model P w) A (call (.type "set") [.ref l]) Q E s := by
  have hisz : items.size = ks.length := by
    have q := str_len hit
    rw [Array.length_toList] at q
    exact q
  obtain ⟨c, tl, hmro⟩ := F.called_set.mro
  have hmade := F.called_set.made
  have hsub := F.called_set.sub
  refine wpAny_call (codeAny_of_tree ?_)
  show wpAny _ _ (callAny (.type "set") _) _ _ _
  refine wpAny_pure ⟨Code.quiet_builtin _ (by decide +kernel), codeAny_builtin F.entry_type_call ?_⟩
  rw [Around.under_plain (weight_type_call_type "set" [.ref l] []) rfl]
  have h1 := F.called_set.notType
  have h2 := F.called_set.canCreate
  have hct := F.typeCall_set_1 (.ref l)
  repeat (any_goals (first | assumption | wp_step))
  generalize hO : ({ cls := .type "set", dict := none, data := .set #[] 0 (.fresh 0 0 (!w.params.followText "set-order")) } : Obj) = O
  have hOc : O.cls = .type "set" := by rw [← hO]
  have hOf : O.isFreed = false := by rw [← hO]; rfl
  refine codeAny_mono (code_set_led1 (.ref l) (E := E) (Q₁ := fun obj s₁ => obj = .ref s.heap.objs.size ∧ s₁ = { s with heap := s.heap.push O }) ⟨rfl, by rw [hO]⟩) fun r s₁ hr => ?_
  cases r with
  | error e => exact hr
  | ok fl =>
    cases fl with
    | ret obj =>
      obtain ⟨rfl, rfl⟩ := hr
      have hS : (s.heap.push O).get? s.heap.objs.size = some O := Heap.get?_push_size _ hOf
      have hT : Shared.TypeIs { s with heap := s.heap.push O } (.ref s.heap.objs.size) "set" := ⟨_, hS, hOc⟩
      have hli := F.called_set.init.lookup
      have hbi := F.called_set.init.bind (.ref s.heap.objs.size)
      repeat (any_goals (first | assumption | wp_step))
      refine codeAny_mono (codeAny_call_builtin (R := wants (fun r s₂ => r = .none ∧ ∃ h' tk L, s₂ = { s with heap := h', toks := tk } ∧ TxR P w h' s.heap.objs.size L ∧ L.length ≤ ks.length ∧ (∀ k, k ∈ L ↔ k ∈ ks) ∧
          (∀ b o, s.heap.get? b = some o → h'.get? b = some o)) E) F.called_set.init.plain F.entry_set_init (check_set_init_1 hT ?_)) fun r₂ s₂ hr₂ => ?_
      · obtain ⟨ol, hol, hcl, nl, hdl⟩ := hl
        obtain ⟨ocls, odict, odata, oslots⟩ := ol
        simp only at hcl hdl
        subst hcl; subst hdl
        have hol' : (s.heap.push O).get? l = some { cls := .type "tuple", dict := odict, data := .seq items nl, slots := oslots } := Heap.get?_push_of_some _ hol
        subst hO
        have hsls := F.sub_tuple_set
        have hslf := F.sub_tuple_frozenset
        have hne : (Value.type "tuple" == Value.type "dict") = false := by decide
        have hl1 : (s.heap.push ({ cls := .type "set", dict := none, data := .set #[] 0 (.fresh 0 0 (!w.params.followText "set-order")) } : Obj)).IsTuple l items := ⟨_, hol', rfl, nl, rfl⟩
        unfold Builtin.«set.__init__» noKeywords Builtin.Frozenset.updateFrom
        generalize hPI : pyIter = PI
        wp_walk
        subst hPI
        refine wpAny_pyIter_tuple (s := { s with heap := s.heap.push ({ cls := .type "set", dict := none, data := .set #[] 0 (.fresh 0 0 (!w.params.followText "set-order")) } : Obj) }) hl1 ?_
        refine wpAny_bind (wpAny_runValue ?_)
        have hlS : l < s.heap.objs.size := Heap.lt_size hol
        have hh3 : A.in1.in1.in1.handled = none := by simp [hh]
        have hneI : l ≠ (s.heap.push ({ cls := .type "set", dict := none, data := .set #[] 0 (.fresh 0 0 (!w.params.followText "set-order")) } : Obj)).objs.size := by
          rw [Heap.size_push]; exact Nat.ne_of_lt (Nat.lt_succ_of_lt hlS)
        have hSf : s.heap.objs.size ∉ [(s.heap.push ({ cls := .type "set", dict := none, data := .set #[] 0 (.fresh 0 0 (!w.params.followText "set-order")) } : Obj)).objs.size, l] := by
          rw [Heap.size_push]; simp only [List.mem_cons, List.mem_singleton, List.not_mem_nil, or_false, not_or]
          exact ⟨Nat.ne_of_lt (Nat.lt_succ_self _), Nat.ne_of_gt hlS⟩
        refine set_update_strs ((Walks.tuple hh3 _ l hneI items).toS) s.heap.objs.size
          hSf ks hisz hb (fun i v hv => str_vals hit i v (by rw [Array.getElem?_toList]; exact hv)) (items.size - 0) 0 _ (by omega) (Nat.zero_le _)
          ⟨⟨_, Heap.get?_push_size _ rfl, rfl, rfl⟩, (hl1.push _)⟩ ⟨[], Nat.le_refl _, (fun k => by simp), txr_new (by exact Heap.get?_push_of_some _ hS)⟩ fun s' L hm hlen hmem hS' => ?_
        obtain ⟨h', g2, d', tk', os'⟩ := s'
        have eg : g2 = s.gens := hm.gens
        have ed : d' = s.drawn := hm.drawn
        have eo : os' = s.os := hm.os
        subst eg; subst ed; subst eo
        show wpAny _ _ _ _ _ _
        refine wpAny_pure ?_
        show wpAny _ _ (ret Value.none) _ _ _
        refine wpAny_pure ⟨rfl, h', tk', L, rfl, hS', by omega, hmem, fun b o e => ?_⟩
        have hb0 : b < s.heap.objs.size := Heap.lt_size e
        have hb2 : b ≠ (s.heap.push ({ cls := .type "set", dict := none, data := .set #[] 0 (.fresh 0 0 (!w.params.followText "set-order")) } : Obj)).objs.size := by
          rw [Heap.size_push]; exact Nat.ne_of_lt (Nat.lt_succ_of_lt hb0)
        exact hm.heap b o (by simp only [List.mem_cons, List.mem_singleton, List.not_mem_nil, or_false, not_or]; exact ⟨Nat.ne_of_lt hb0, hb2⟩) (Heap.get?_push_of_some _ (Heap.get?_push_of_some _ e))
      · cases r₂ with
        | error e => exact hr₂
        | ok fl₂ =>
          cases fl₂ with
          | ret r =>
            obtain ⟨rfl, h', tk, L, rfl, hS', hc', hm', hk'⟩ := hr₂
            repeat (any_goals (first | assumption | wp_step))
            exact h _ _ _ hS' hc' hm' hk'
          | _ => exact hr₂.elim
    | _ => exact hr.elim

end
section
variable {X : Cx}
/-- len(set(t)), t a tuple of texts: how many different ones -/
def tLenSetT (K : PySem.W.Frag) (ta : TE) : TE := fun σ H Q => ta σ H fun x H1 => ∃ (l : Addr) (xs : List Str), x = .ref l ∧ SqT K H1 l (xs.map V.str) ∧ xs.length < 64 ∧ ∀ n : Nat, (∀ ys : List Str, ys.Nodup → (∀ k, k ∈ ys ↔ k ∈ xs) → ys.length = n → Q (.int n) H1) ∧ True
theorem pe_lenSetT {a : Expr} {ta : TE} {p p2 q pos : Pos} (hc : X.calm = true) (hg : Gl X "len") (hm : X.mg "len" = none) (hg2 : Gl X "set") (hm2 : X.mg "set" = none) (ha : PE X a ta)
    (na : starEach [a] X.env = (false, eval a X.env) :: starEach [] X.env := by rfl) : PE X (.Call (.Name "len" p) [.Call (.Name "set" p2) [a] [] q] [] pos) (tLenSetT X.K ta) := by
  refine ⟨fun pins s σ H Q I h => ?_⟩
  refine Call_ (ld_blt I hg hm boot_len ?_)
  refine PyProof.Rows.callWith_builtin1 (PyProof.Rows.args_cons ?_ rfl) rfl rfl
  refine Call_ (ld_blt I hg2 hm2 boot_set ?_)
  refine PyProof.Rows.callWith_type1 (PyProof.Rows.args_cons (thn (ha.run pins s σ H _ I h) fun v s1 ⟨x, H1, I1, r1, q1⟩ => PyProof.Rows.args_nil ?_) na) na rfl
  obtain ⟨l, xs, rfl, hq, h1, q1⟩ := q1
  cases r1
  obtain ⟨its, r, pl, hz⟩ := I1.tuple hq
  refine call_set_strsT xs (I1.ok.hd hc) pl (by simpa using strsAre_of r) (by unfold scanBound; omega) fun h' tk L R hl hmem hk => ?_
  refine PyProof.Rows.args_nil ?_
  have I2 : Inv X pins σ H1 { s1 with heap := h', toks := tk } := I1.kept fun b o e => hk b o e
  obtain ⟨⟨D, ho, F, _⟩, nd⟩ := R
  refine call_len_set ho ⟨rfl, rfl, rfl⟩ rfl F.fit (by rw [F.sz]; omega) ⟨.int L.length, H1, I2.tok _, ⟨_, by rw [F.sz]⟩, (q1 L.length).1 L nd hmem rfl⟩
end
end Fk

set_option maxHeartbeats 4000000
/-! bytes: find from a place on, isascii, decode("ascii"), startswith. -/
namespace Fk
open PySem PySem.Spec PySem.Calls PyProof.Rows L2
open Builtin PySem.W
/-- the place of c in b from n on, or -1 -/
def findB (b c : Array UInt8) (n : Nat) : Int := if (b.size : Int) - (n : Int) < (c.size : Int) then -1 else (Bytes.find? b c n b.size).elim (-1) fun i => (i : Int)
section
variable {M : Model} {A : Around} {E : Value → Shared → Prop} {s : Shared} {b c : Array UInt8} {t u v : Tok} {n : Nat}
theorem bound_none {Q : Option Int → Shared → Prop} (h : Q none s) : wpAny M A (Bytes.bound? none) Q E s := wpAny_of_eq (a := none) rfl h
theorem bound_int {Q : Option Int → Shared → Prop} (h : Q (some (n : Int)) s) : wpAny M A (Bytes.bound? (some (.int (n : Int) v))) Q E s := by
  unfold Bytes.bound?
  refine wpAny_bind (wpAny_specialOf (T := "int") (typeIs_int s n v) F.slot_int_index.lookup ?_)
  try dsimp only
  rw [if_neg (show ¬ (Option.isNone (some (Value.builtin "int.__index__")) = true) from Bool.false_ne_true)]
  refine wpAny_bind (wpAny_of_eq (a := (n : Int)) rfl ?_)
  exact wpAny_pure h
theorem window_from (m n : Nat) : Bytes.window m (some (n : Int)) none = ((n : Int), (m : Int)) := by
  unfold Bytes.window
  have h : ¬ ((n : Int) < 0) := by omega
  have h2 : ¬ ((m : Int) < 0) := by omega
  simp [h, h2]
theorem wp_args3 {name : String} {Q : Array UInt8 × Array UInt8 × Option (Nat × Nat) → Shared → Prop} (h : Q (b, c, if (b.size : Int) - (n : Int) < (c.size : Int) then none else some ((n : Int).toNat, (b.size : Int).toNat)) s) :
    wpAny M A (Bytes.searchArgs .bytes name ⟨[.bytes b t, .bytes c u, .int (n : Int) v], []⟩) Q E s := by
  unfold Bytes.searchArgs
  refine wpAny_bind (wpAny_of_eq (a := (Value.bytes b t, [Value.bytes c u, Value.int (n : Int) v])) rfl ?_)
  refine wpAny_bind (bound_int ?_)
  refine wpAny_bind (bound_none ?_)
  try dsimp only [List.headD]
  refine wpAny_bind (wpAny_of_eq KBy.buffer_eq ?_)
  first
    | refine wpAny_bind (wpAny_pure ?_)
    | (dsimp only; refine wpAny_bind (wpAny_pure ?_))
    | skip
  refine wpAny_bind (wpAny_of_eq (a := b) rfl ?_)
  try dsimp only
  rw [window_from]
  exact wpAny_pure h
end
section
variable {b c : Array UInt8} {t u v : Tok} {n : Nat}
theorem args_find3 (a b c : Value) : argsOk "bytes.find" ⟨[a, b, c], []⟩ := by
  unfold argsOk; rw [signature?_of (id := "bytes.find") (n := ['d', 'n', 'i', 'f']) (o := ['s', 'e', 't', 'y', 'b']) (by kernel_rfl) FB.owner_bytes]; kernel_rfl
theorem gives_find3 : Gives («bytes.find» ⟨[.bytes b t, .bytes c u, .int (n : Int) v], []⟩) (.int (findB b c n)) := by
  refine .of_wp fun M A E s Q hq => ?_
  show wpAny M A (Bytes.searchArgs .bytes "find" ⟨[.bytes b t, .bytes c u, .int (n : Int) v], []⟩ >>= fun r => _) _ E s
  refine wpAny_bind (wp_args3 ?_)
  unfold findB at hq
  by_cases hn : (b.size : Int) - (n : Int) < (c.size : Int)
  · rw [if_pos hn] at hq ⊢
    show wpAny M A (rule _ >>= fun _ => retInt (-1)) _ E s
    exact wpAny_bind (wpAny_rule (wpAny_bind (wpAny_mkInt (wpAny_pure ⟨_, rfl, hq⟩))))
  · rw [if_neg hn] at hq ⊢
    show wpAny M A (match Bytes.find? b c n b.size with | some i => retInt (i : Int) | none => rule _ >>= fun _ => retInt (-1)) _ E s
    cases e : Bytes.find? b c n b.size with
    | none =>
      rw [e] at hq
      exact wpAny_bind (wpAny_rule (wpAny_bind (wpAny_mkInt (wpAny_pure ⟨_, rfl, hq⟩))))
    | some i =>
      rw [e] at hq
      exact wpAny_bind (wpAny_mkInt (wpAny_pure ⟨_, rfl, hq⟩))
end
/-- b.find(c, n) -/
theorem mt_bfind {X : Cx} : MtR X "bytes.find" (fun x xs H Q => ∃ (b c : Array UInt8) (n : Nat), x = .byt b ∧ xs = [.byt c, .int n] ∧ Q (.int (findB b c n)) H) := by
  intro pins s σ H x xs v us Q I rx rs h
  obtain ⟨b, c, n, rfl, rfl, q⟩ := h
  obtain ⟨t, rfl⟩ := rx
  cases rs with
  | cons r1 r2 =>
    cases r2 with
    | cons r2 r3 =>
      cases r3
      obtain ⟨t1, rfl⟩ := r1
      obtain ⟨t2, rfl⟩ := r2
      exact call_gives KBf.slot_find (typeIs_bytes s b t) KBf.entry_find (args_find3 _ _ _) gives_find3 ⟨.int (findB b c n), H, I.tok _, ⟨_, rfl⟩, q⟩
/-- b.startswith(c) -/
theorem mt_bstarts {X : Cx} : MtR X "bytes.startswith" (fun x xs H Q => ∃ (b c : Array UInt8), x = .byt b ∧ xs = [.byt c] ∧ Q (.bl (KBf.starts (KBw.bInts b) (KBw.bInts c))) H) := by
  intro pins s σ H x xs v us Q I rx rs h
  obtain ⟨b, c, rfl, rfl, q⟩ := h
  obtain ⟨t, rfl⟩ := rx
  cases rs with
  | cons r1 r2 =>
    cases r2
    obtain ⟨t1, rfl⟩ := r1
    exact call_gives FB.slot_bytes_startswith (typeIs_bytes s b t) FB.entry_bytes_startswith (FB.args_bytes_startswith_2 _ _) (KBf.gives_starts rfl rfl) ⟨.bl _, H, I, rfl, q⟩
def ascB (b : Array UInt8) : Bool := b.toList.all fun x => decide (x < 128)
theorem gives_asc {b : Array UInt8} {t : Tok} : Gives («bytes.isascii» ⟨[.bytes b t], []⟩) (.val (.bool (ascB b))) := by
  refine .of_wp fun M A E s Q hq => ?_
  show wpAny M A (Bytes.testM .bytes "isascii" _ ⟨[.bytes b t], []⟩) _ E s
  unfold Bytes.testM
  refine wpAny_bind (wpAny_of_eq (a := Value.bytes b t) rfl ?_)
  refine wpAny_bind (wpAny_of_eq (a := b) rfl ?_)
  exact wpAny_pure ⟨_, rfl, hq⟩
theorem slot_isascii : Slot "bytes" "isascii" "bytes.isascii" :=
  .of (owner := "bytes") (n := "isascii") (by rw [typeLookup_type, builtinLookup_eq_fast]; kernel_rfl) (by decide +kernel) (by decide +kernel) (by decide +kernel)
    (by first | exact .inl (by decide +kernel) | exact .inr (by decide +kernel)) (by rw [isSubtype_type]; kernel_rfl)
theorem type_isascii : typeOf (.builtin "bytes.isascii") = pure (.type "method_descriptor") := by show builtinType _ = _; rw [builtinType_eq_fast]; kernel_rfl
theorem entry_isascii : entryFor table "bytes.isascii" = some Builtin.«bytes.isascii» := by first | exact entryFor_of_tree (by kernel_rfl) | exact entryFor_of_fast (by kernel_rfl)
theorem args_isascii (a : Value) : argsOk "bytes.isascii" ⟨[a], []⟩ := by
  unfold argsOk; rw [signature?_of (id := "bytes.isascii") (n := ['i', 'i', 'c', 's', 'a', 's', 'i']) (o := ['s', 'e', 't', 'y', 'b']) (by kernel_rfl) FB.owner_bytes]; kernel_rfl
/-- b.isascii() -/
theorem mt_bascii {X : Cx} : MtR X "bytes.isascii" (fun x xs H Q => ∃ b : Array UInt8, x = .byt b ∧ xs = [] ∧ Q (.bl (ascB b)) H) := by
  intro pins s σ H x xs v us Q I rx rs h
  obtain ⟨b, rfl, rfl, q⟩ := h
  obtain ⟨t, rfl⟩ := rx
  cases rs
  exact call_gives slot_isascii (typeIs_bytes s b t) entry_isascii (args_isascii _) gives_asc ⟨.bl _, H, I, rfl, q⟩
/-! ### decode -/
def strB (b : Array UInt8) : PySem.Str := ⟨(b.toList.map (·.toNat)).toArray⟩
theorem road_asc {id : String} {b : Array UInt8} : _codecs.decodeRoad id b (PySem.Str.ofString "ascii") none [] = (_codecs.runDecoder id _codecs.asciiDecoder none true b 0 [] >>= fun r => mkStr ⟨r.1⟩) := by kernel_rfl
theorem decode_entry {c : UInt8} {cs : List UInt8} {t t2 : Tok} : «bytes.decode» ⟨[.bytes (c :: cs).toArray t, .str (PySem.Str.ofString "ascii") t2], []⟩ = (mkStr (PySem.Str.ofString "utf-8") >>= fun e => mkStr (PySem.Str.ofString "ascii") >>= fun a => mkStr (PySem.Str.ofString "bytes.decode") >>= fun d =>
    call (.builtin "_codecs.decode.text") [.bytes (c :: cs).toArray t, a, .none, d] >>= fun v => ret v) := by first | kernel_rfl | rfl
def prefB (b : Array UInt8) (k : Nat) : Array Nat := ((b.toList.take k).map (·.toNat)).toArray
theorem prefB_size (b : Array UInt8) {k : Nat} (h : k ≤ b.size) : (prefB b k).size = k := by
  unfold prefB
  rw [List.size_toArray, List.length_map, List.length_take, Array.length_toList]
  omega
theorem prefB_succ (b : Array UInt8) {k : Nat} (h : k < b.size) : prefB b k ++ #[(b.getD k 0).toNat] = prefB b (k + 1) := by
  apply Array.toList_inj.mp
  unfold prefB
  have e : b.toList[k]? = some (b[k]) := by rw [Array.getElem?_toList, Array.getElem?_eq_getElem h]
  have g : b.getD k 0 = b[k] := by rw [Array.getD_eq_getD_getElem?, Array.getElem?_eq_getElem h]; rfl
  rw [List.take_add_one, e, g]
  simp
theorem loop_gen {M : Model} {A : Around} {E : Value → Shared → Prop} {s : Shared} {b : Array UInt8} {st : _codecs.Faults} {F : Nat → Nat × Array Nat × _codecs.Faults → Sem (ForInStep (Nat × Array Nat × _codecs.Faults))} {Q : Nat × Array Nat × _codecs.Faults → Shared → Prop}
    (step : ∀ (k x : Nat) (Q' : ForInStep (Nat × Array Nat × _codecs.Faults) → Shared → Prop), k < b.size → Q' (.yield (k + 1, prefB b (k + 1), st)) s → wpAny M A (F x (k, prefB b k, st)) Q' E s) (q : Q (b.size, prefB b b.size, st) s) :
    ∀ (m k : Nat), k + m = b.size → wpAny M A (forIn (List.range' k m) (k, prefB b k, st) F) Q E s
  | 0, k, h => by
    show wpAny M A (forIn ([] : List Nat) _ _) _ E s
    rw [List.forIn_nil]
    have : k = b.size := by omega
    subst this
    exact wpAny_pure q
  | m + 1, k, h => by
    rw [List.range'_succ]
    refine KPc.turn (step k k _ (by omega) ?_)
    exact loop_gen step q m (k + 1) (by omega)
theorem run_asc {M : Model} {A : Around} {E : Value → Shared → Prop} {s : Shared} {id : String} {b : Array UInt8} {Q : Array Nat × Nat → Shared → Prop} (ha : ascB b = true) (hz : b.size ≤ 16777216) (h : ∀ n, Q ((strB b).cps, n) s) : wpAny M A (_codecs.runDecoder id _codecs.asciiDecoder none true b 0 []) Q E s := by
  unfold _codecs.runDecoder
  refine wpAny_bind ?_
  rw [KPc.range_list]
  have e0 : (#[] : Array Nat) = prefB b 0 := rfl
  have all : (strB b).cps = prefB b b.size := by
    unfold strB prefB
    rw [List.take_of_length_le (by rw [Array.length_toList]; exact Nat.le_refl _)]
  refine loop_gen (b := b) (fun k x Q' hk hq => ?_) ?_ b.size 0 (by omega)
  · have z : ¬ sizeLine < (prefB b k).size := by rw [prefB_size b (by omega), sizeLine_eq]; omega
    refine wpAny_ite (KBy.ite_no z ?_)
    (try dsimp only)
    refine wpAny_ite (KBy.ite_no (show ¬ k ≥ b.size by omega) ?_)
    have g : b.getD k 0 = b[k] := by rw [Array.getD_eq_getD_getElem?, Array.getElem?_eq_getElem hk]; rfl
    have lt : (b.getD k 0).toNat < 128 := by
      rw [g]
      have := List.all_eq_true.mp ha (b[k]) (Array.getElem_mem_toList hk)
      exact of_decide_eq_true this
    have hf : _codecs.asciiDecoder.find true b k = _codecs.Found.text [(b.getD k 0).toNat] (k + 1) := if_pos lt
    rw [hf]
    (try dsimp only)
    have e : prefB b k ++ [(b.getD k 0).toNat].toArray = prefB b (k + 1) := prefB_succ b hk
    rw [e]
    exact wpAny_pure hq
  · refine wpAny_pure ?_
    rw [← all]
    exact h _
theorem strB_len (b : Array UInt8) : (strB b).length = b.size := by
  show (List.map _ b.toList).toArray.size = _
  rw [List.size_toArray, List.length_map, Array.length_toList]
theorem meets_dtext {b : Array UInt8} {t t1 t2 : Tok} {d : PySem.Str} (ha : ascB b = true) (hz : b.size ≤ 16777216) :
    Meets («_codecs.decode.text» ⟨[.bytes b t, .str (PySem.Str.ofString "ascii") t1, .none, .str d t2], []⟩) (fun _ R s => R (.ok (.ret (.str (strB b) s.toks))) { s with toks := s.toks + 1 }) := by
  refine .of_wp fun prog w A R s h => ?_
  show wpAny _ _ (Bytes.bytesLike _ (.bytes b t) >>= fun r => _) _ _ s
  refine wpAny_bind (wpAny_of_eq KBd.like_eq ?_)
  refine wpAny_bind (wpAny_of_eq KBd.held_eq ?_)
  show wpAny _ _ (_codecs.decodeRoad _ b (PySem.Str.ofString "ascii") none [] >>= fun v => _) _ _ s
  rw [road_asc]
  refine wpAny_bind (wpAny_bind (run_asc ha hz fun n => ?_))
  exact wpAny_mkStr (wpAny_pure ⟨_, rfl, h⟩) (by show (strB b).length ≤ _; rw [strB_len, sizeLine_eq]; exact hz)
theorem meets_dasc {b : Array UInt8} {t t2 : Tok} (ha : ascB b = true) (hz : b.size ≤ 16777216) :
    Meets («bytes.decode» ⟨[.bytes b t, .str (PySem.Str.ofString "ascii") t2], []⟩) (fun _ R s => ∀ t' k, R (.ok (.ret (.str (strB b) t'))) { s with toks := k }) := by
  refine .of_wp fun prog w A R s h => ?_
  cases hb : b.toList with
  | nil =>
    have e : b = #[] := Array.toList_inj.mp hb
    subst e
    have e2 : «bytes.decode» ⟨[.bytes #[] t, .str (PySem.Str.ofString "ascii") t2], []⟩ = (rule "bytes.decode.empty" >>= fun _ => mkStr PySem.Str.empty >>= fun v => ret v) := by first | kernel_rfl | rfl
    rw [e2]
    refine wpAny_bind (wpAny_rule (wpAny_bind (wpAny_mkStr ?_ (by decide))))
    exact wpAny_pure ⟨_, rfl, h _ _⟩
  | cons c cs =>
    have e : b = (c :: cs).toArray := Array.toList_inj.mp hb
    subst e
    rw [decode_entry]
    refine wpAny_bind (wpAny_mkStr ?_ (by decide))
    refine wpAny_bind (wpAny_mkStr ?_ (by decide))
    refine wpAny_bind (wpAny_mkStr ?_ (by decide))
    exact wpAny_bind (call_function_meets KBd.kind_text KBd.plain_text KBd.entry_text (KBd.args_text _ _ _ _) (meets_dtext ha hz) (wpAny_pure ⟨_, rfl, h _ _⟩))
theorem args_decode2 (a b : Value) : argsOk "bytes.decode" ⟨[a, b], []⟩ := by
  unfold argsOk; rw [signature?_of (id := "bytes.decode") (n := ['e', 'd', 'o', 'c', 'e', 'd']) (o := ['s', 'e', 't', 'y', 'b']) (by kernel_rfl) FB.owner_bytes]; kernel_rfl
/-- b.decode("ascii") -/
theorem mt_bdecode {X : Cx} : MtR X "bytes.decode" (fun x xs H Q => ∃ b : Array UInt8, x = .byt b ∧ xs = [.str (PySem.Str.ofString "ascii")] ∧ ascB b = true ∧ b.size ≤ 16777216 ∧ Q (.str (strB b)) H) := by
  intro pins s σ H x xs v us Q I rx rs h
  obtain ⟨b, rfl, rfl, ha, hz, q⟩ := h
  obtain ⟨t, rfl⟩ := rx
  cases rs with
  | cons r1 r2 =>
    cases r2
    obtain ⟨t1, rfl⟩ := r1
    exact call_meets FB.slot_bytes_decode (typeIs_bytes s b t) FB.entry_bytes_decode (args_decode2 _ _) (meets_dasc ha hz) fun t' k => ⟨.str (strB b), H, I.tok k, ⟨t', rfl⟩, q⟩
/-! ### methods of bytes -/
def tBB0 (r : V → List V → Hp → VK → Prop) (to : TE) : TE := fun σ H Q => to σ H fun x H1 => (∃ b, x = .byt b) ∧ r x [] H1 Q
def tBB (r : V → List V → Hp → VK → Prop) (to : TE) (t : TA) : TE := fun σ H Q => to σ H fun x H1 => (∃ b, x = .byt b) ∧ t σ H1 fun xs H2 => r x xs H2 Q
section
variable {X : Cx} {o e : Expr} {es : List Expr} {to : TE} {t : TA} {name : PySem.Str} {apos cpos : Pos} {id : String} {r : V → List V → Hp → VK → Prop}
theorem pe_bB0 (slot : Slot "bytes" name id) (hty : typeOf (.builtin id) = pure (.type "method_descriptor")) (hm : MtR X id r) (ho : PE X o to)
    (hbase : attributeBase o name X.env (eval o X.env) = eval o X.env := by rfl) (hline : (apos.endLine == cpos.line) = true := by rfl) : PE X (.Call (.Attribute o name apos) [] [] cpos) (tBB0 r to) := by
  refine ⟨fun pins s σ H Q I h => ?_⟩
  refine wpAny_Call_method0_late hbase hline (thn (ho.run pins s σ H _ I h) fun v s1 ⟨x, H1, I1, r1, ty, q1⟩ => ?_)
  obtain ⟨b, rfl⟩ := ty
  obtain ⟨tk, rfl⟩ := (show ∃ t, v = Value.bytes b t from r1)
  exact ⟨"bytes", id, FB.plainAttrs_bytes, slot, hty, typeIs_bytes _ _ _, (fun _ e => nomatch e), Calls.callWith_builtin rfl (PySem.evalArgs_none (hm pins s1 σ H1 _ [] _ [] Q I1 r1 .nil q1))⟩
theorem pe_bB (slot : Slot "bytes" name id) (hty : typeOf (.builtin id) = pure (.type "method_descriptor")) (hm : MtR X id r) (ho : PE X o to) (ha : PA X (e :: es) t)
    (hbase : attributeBase o name X.env (eval o X.env) = eval o X.env := by rfl)
    (hfew : ((backTo cpos (starEach (e :: es) X.env)).all (fun x => !x.1) && (backToKw cpos (keywordEach [] X.env)).all (fun x => x.1.isSome)
      && decide ((e :: es).length + ([] : List Keyword).length + (if ([] : List Keyword).isEmpty then 0 else 1) < 30)) = true := by rfl)
    (hline : (apos.endLine == cpos.line) = true := by rfl) (hs : starEach (e :: es) X.env = (false, eval e X.env) :: starEach es X.env := by rfl) (hplain : (backTo cpos (starEach es X.env)).any (·.1) = false := by rfl) :
    PE X (.Call (.Attribute o name apos) (e :: es) [] cpos) (tBB r to t) := by
  refine ⟨fun pins s σ H Q I h => ?_⟩
  refine wpAny_Call_method_late hbase hfew hline rfl (thn (ho.run pins s σ H _ I h) fun v s1 ⟨x, H1, I1, r1, ty, q1⟩ => ?_)
  obtain ⟨b, rfl⟩ := ty
  obtain ⟨tk, rfl⟩ := (show ∃ t, v = Value.bytes b t from r1)
  refine ⟨"bytes", id, FB.plainAttrs_bytes, slot, hty, typeIs_bytes _ _ _, (fun _ e => nomatch e), ?_⟩
  have hA := ha.run cpos pins s1 σ H1 _ I1 q1
  rw [hs] at hA ⊢
  refine Calls.callWith_builtin (by show (false || (backTo cpos (starEach es X.env)).any (·.1)) = false; rw [hplain] <;> rfl) (Calls.evalArgs_plain ?_)
  exact thn hA fun us s2 ⟨vs, H2, I2, r2, q2⟩ => hm pins s2 σ H2 _ vs _ us Q I2 r1 r2 q2
end
theorem slot_bdecode : Slot "bytes" "decode" "bytes.decode" := FB.slot_bytes_decode
theorem type_bdecode : typeOf (.builtin "bytes.decode") = pure (.type "method_descriptor") := FB.type_bytes_decode
theorem slot_bstarts : Slot "bytes" "startswith" "bytes.startswith" := FB.slot_bytes_startswith
theorem type_bstarts : typeOf (.builtin "bytes.startswith") = pure (.type "method_descriptor") := FB.type_bytes_startswith
end Fk

set_option maxHeartbeats 4000000
/-! The four kinds of objects: what they are, where they stand, their texts. -/
namespace Fk
open PySem PySem.Spec PyProof.Rows L2
inductive Ob where
  | blob (x : Str)
  | tree (es : List (Str × Str × Str))
  | commit (t : Str) (ps : List Str) (au : Str) (tm : Int) (msg : Str)
  | tag (tg lb msg : Str)
  deriving DecidableEq
def Ob.kd : Ob → Nat
  | .blob _ => 0
  | .tree _ => 1
  | .commit .. => 2
  | .tag .. => 3
theorem Ob.kd_lt (o : Ob) : o.kd < 4 := by cases o <;> simp [Ob.kd]
/-- the classes -/
structure C4 where
  B : Addr
  T : Addr
  C : Addr
  G : Addr
def C4.at (c : C4) : Nat → Addr
  | 0 => c.B
  | 1 => c.T
  | 2 => c.C
  | _ => c.G
abbrev Ent := Str × Str × Str
def entL (e : Ent) : List V := [.str e.2.1, .str e.2.2]
def KINDS : List Str := ["file", "exec", "dir"]
def EntOk (e : Ent) : Prop := isSegF e.1 = true ∧ e.2.1 ∈ KINDS ∧ isIdF e.2.2 = true
def EntsOk (es : List Ent) : Prop := es.length ≤ 30 ∧ (es.map (·.1)).Nodup ∧ sortedS (es.map (·.1)) = true ∧ ∀ e ∈ es, EntOk e
def Ob.ok : Ob → Prop
  | .blob x => isTextF x = true
  | .tree es => EntsOk es
  | .commit t ps au tm msg => isIdF t = true ∧ ps.length ≤ 6 ∧ ps.Nodup ∧ (∀ p ∈ ps, isIdF p = true) ∧ isWordF LET au = true ∧ 0 ≤ tm ∧ tm ≤ 1000000000000 ∧ isTextF msg = true ∧ msg.length ≤ 200
  | .tag tg lb msg => isIdF tg = true ∧ isSegF lb = true ∧ isTextF msg = true ∧ msg.length ≤ 200
/-- a table's entries -/
def EntsAt (K : PySem.W.Frag) (H : Hp) (t : Tab) (es : List Ent) : Prop := Paired (fun p e => p.1 = e.1 ∧ ∃ q, p.2 = V.ref q ∧ TupK K H q (entL e)) t es
def cmF (t : Str) (p : Addr) (au : Str) (tm : Int) (msg : Str) : List (Str × V) := [("_tree", .str t), ("_parents", .ref p), ("_author", .str au), ("_time", .int tm), ("_message", .str msg)]
def tgF (tg lb msg : Str) : List (Str × V) := [("_target", .str tg), ("_label", .str lb), ("_message", .str msg)]
/-- at a stands the object o; d: the dict of a tree -/
def ObAt (K : PySem.W.Frag) (c : C4) (H : Hp) (a d : Addr) : Ob → Prop
  | .blob x => ∃ dx, H a = some (.ins c.B dx [("_text", .str x)])
  | .tree es => ∃ dx t, H a = some (.ins c.T dx [("_entries", .ref d)]) ∧ H d = some (.dK (kT t)) ∧ EntsAt K H t es
  | .commit t ps au tm msg => ∃ dx p, H a = some (.ins c.C dx (cmF t p au tm msg)) ∧ TupK K H p (ps.map V.str)
  | .tag tg lb msg => ∃ dx, H a = some (.ins c.G dx (tgF tg lb msg))
theorem EntsAt.keep {K : PySem.W.Frag} {H H' : Hp} {t : Tab} {es : List Ent} (h : EntsAt K H t es) (k : TupKeep H H') : EntsAt K H' t es := Paired.mapP h fun _ _ ⟨e, q, e1, e2⟩ => ⟨e, q, e1, e2.keep k⟩
/-- instances and tuples stay -/
def InsKeep (H H' : Hp) : Prop := ∀ b C dx fs, H b = some (.ins C dx fs) → H' b = some (.ins C dx fs)
theorem InsKeep.of {H H' : Hp} (s : Same H H') : InsKeep H H' := fun b _ _ _ e => s b _ e
theorem InsKeep.trans {H H1 H2 : Hp} (a : InsKeep H H1) (b : InsKeep H1 H2) : InsKeep H H2 := fun c _ _ _ e => b c _ _ _ (a c _ _ _ e)
theorem InsKeep.at {a : Addr} {H : Hp} {o : HO} (n : ∀ C dx fs, H a ≠ some (.ins C dx fs)) : InsKeep H (upd H a o) := fun b C dx fs e => by
  have z : b ≠ a := fun z => n C dx fs (by rw [← z]; exact e)
  rw [upd_ne z]
  exact e
theorem ObAt.keep {K : PySem.W.Frag} {c : C4} {H H' : Hp} {a d : Addr} {o : Ob} (h : ObAt K c H a d o) (k : TupKeep H H') (i : InsKeep H H') (e : ∀ u, H d = some (.dK u) → H' d = some (.dK u)) : ObAt K c H' a d o := by
  cases o with
  | blob x => obtain ⟨dx, h⟩ := h; exact ⟨dx, i _ _ _ _ h⟩
  | tree es => obtain ⟨dx, t, h, h2, h3⟩ := h; exact ⟨dx, t, i _ _ _ _ h, e _ h2, h3.keep k⟩
  | commit t ps au tm msg => obtain ⟨dx, p, h, h2⟩ := h; exact ⟨dx, p, i _ _ _ _ h, h2.keep k⟩
  | tag tg lb msg => obtain ⟨dx, h⟩ := h; exact ⟨dx, i _ _ _ _ h⟩
theorem ObAt.same {K : PySem.W.Frag} {c : C4} {H H' : Hp} {a d : Addr} {o : Ob} (h : ObAt K c H a d o) (s : Same H H') : ObAt K c H' a d o := h.keep (TupKeep.of s) (InsKeep.of s) fun _ e => s _ _ e
/-- only the list at a changed -/
theorem Fr.tups {a : Addr} {H H' : Hp} {l : List V} (f : Fr a H H') (h : H a = some (.lst l)) : TupKeep H H' := fun b xs e => f b _ (fun z => by rw [z, h] at e; cases e) e
theorem Fr.inss {a : Addr} {H H' : Hp} {l : List V} (f : Fr a H H') (h : H a = some (.lst l)) : InsKeep H H' := fun b C dx fs e => f b _ (fun z => by rw [z, h] at e; cases e) e
theorem Fr.dict {a d : Addr} {H H' : Hp} {l : List V} {u : List (Key × V)} (f : Fr a H H') (h : H a = some (.lst l)) (e : H d = some (.dK u)) : H' d = some (.dK u) := f d _ (fun z => by rw [z, h] at e; cases e) e
theorem ObAt.wl {K : PySem.W.Frag} {cl : C4} {H H' : Hp} {a d w : Addr} {c : Int} {o : Ob} (h : ObAt K cl H a d o) (hw : Wl H w c) (f : Fr w H H') : ObAt K cl H' a d o := by
  obtain ⟨_, x, y, e⟩ := hw
  exact h.keep (f.tups e) (f.inss e) fun _ z => f.dict e z
/-- where an object stands -/
theorem ObAt.ins {K : PySem.W.Frag} {c : C4} {H : Hp} {a d : Addr} {o : Ob} (h : ObAt K c H a d o) : ∃ dx fs, H a = some (.ins (c.at o.kd) dx fs) := by
  cases o with
  | blob x => obtain ⟨dx, h⟩ := h; exact ⟨dx, _, h⟩
  | tree es => obtain ⟨dx, t, h, _⟩ := h; exact ⟨dx, _, h⟩
  | commit t ps au tm msg => obtain ⟨dx, p, h, _⟩ := h; exact ⟨dx, _, h⟩
  | tag tg lb msg => obtain ⟨dx, h⟩ := h; exact ⟨dx, _, h⟩
/-! ### trees that are equal -/
def datE (es : List Ent) : List (Key × PyData) := es.map fun e => (.inr e.1, .tuple [.str e.2.1, .str e.2.2])
theorem dat_at {K : PySem.W.Frag} {H : Hp} : ∀ {t : Tab} {es : List Ent}, EntsAt K H t es → DD K H (kT t) (datE es)
  | _, _, .nil => .nil
  | _, _, .cons (a := p) (b := e) ⟨e1, q, e2, e3⟩ r => by
    refine .cons ⟨by show Sum.inr p.1 = Sum.inr e.1; rw [e1], ?_⟩ (dat_at r)
    show Dp K H p.2 _
    rw [e2]
    exact dp_head e3
theorem kinds_ok : ∀ k ∈ KINDS, OkS k := fun k hk => by
  have : ∀ k ∈ KINDS, ((TL.tl k).all fun u => decide (u < 1114112)) = true := by decide +kernel
  exact ok_by (this k hk)
theorem id_ok {x : Str} (h : isIdF x = true) : OkS x := by
  unfold isIdF at h
  exact ok_sub (only_sub (Bool.and_eq_true_iff.mp h).2) ok_hex
theorem shaped_ents {es : List Ent} (h : ∀ e ∈ es, EntOk e) : shapedAll (datE es) := fun p hp => by
  obtain ⟨e, he, rfl⟩ := List.mem_map.mp hp
  exact shaped_head (kinds_ok _ (h e he).2.1) (id_ok (h e he).2.2)
theorem valD_ents {es : List Ent} (nd : (es.map (·.1)).Nodup) {e : Ent} (he : e ∈ es) : valD (datE es) (.inr e.1) = some (.tuple [.str e.2.1, .str e.2.2]) := by
  induction es with
  | nil => exact absurd he (by simp)
  | cons f r ih =>
    obtain ⟨n1, n2⟩ := List.nodup_cons.mp (show (f.1 :: r.map (·.1)).Nodup from nd)
    show valD ((.inr f.1, _) :: datE r) _ = _
    rcases List.mem_cons.mp he with z | z
    · rw [z]
      exact valD_pos rfl
    · rw [valD_neg (fun q => n1 (by rw [show f.1 = e.1 from Sum.inr.inj q]; exact List.mem_map.mpr ⟨e, z, rfl⟩))]
      exact ih n2 z
theorem valD_mem {es : List Ent} {k : Str} {d : PyData} (h : valD (datE es) (.inr k) = some d) : ∃ e ∈ es, e.1 = k ∧ d = .tuple [.str e.2.1, .str e.2.2] := by
  induction es with
  | nil => cases h
  | cons f r ih =>
    have h : valD ((.inr f.1, .tuple [.str f.2.1, .str f.2.2]) :: datE r) (.inr k) = some d := h
    by_cases c : f.1 = k
    · rw [valD_pos (by rw [c])] at h
      exact ⟨f, List.mem_cons_self, c, (Option.some.inj h).symm⟩
    · rw [valD_neg (fun q => c (Sum.inr.inj q))] at h
      obtain ⟨e, he, r⟩ := ih h
      exact ⟨e, List.mem_cons_of_mem _ he, r⟩
theorem nodup_inj {α : Type} {l : List α} (h : l.Nodup) {i j : Nat} (hi : i < l.length) (hj : j < l.length) (e : l[i] = l[j]) : i = j := by
  have p := List.pairwise_iff_getElem.mp h
  rcases Nat.lt_trichotomy i j with c | c | c
  · exact absurd e (p i j hi hj c)
  · exact c
  · exact absurd e.symm (p j i hj hi c)
theorem sub_perm {α : Type} [DecidableEq α] : ∀ {l m : List α}, l.Nodup → (∀ x ∈ l, x ∈ m) → m.length ≤ l.length → l.Perm m
  | [], m, _, _, h => by rw [List.eq_nil_of_length_eq_zero (Nat.le_zero.mp h)]
  | x :: r, m, nd, hs, h => by
    obtain ⟨n1, n2⟩ := List.nodup_cons.mp nd
    have hx := hs x List.mem_cons_self
    have hl := List.length_erase_of_mem hx
    have h : m.length ≤ r.length + 1 := h
    exact ((sub_perm n2 (fun y hy => (List.mem_erase_of_ne (fun (z : y = x) => n1 (by rw [← z]; exact hy))).mpr (hs y (List.mem_cons_of_mem _ hy))) (by omega)).cons x).trans (List.perm_cons_erase hx).symm
theorem ents_eq {es fs : List Ent} (he : es.map (·.1) = fs.map (·.1)) (nd : (fs.map (·.1)).Nodup) (hm : ∀ e ∈ es, e ∈ fs) : es = fs := by
  have hl : es.length = fs.length := by
    have := congrArg List.length he
    rwa [List.length_map, List.length_map] at this
  refine List.ext_getElem hl fun i h1 h2 => ?_
  obtain ⟨j, hj, e⟩ := List.mem_iff_getElem.mp (hm _ (List.getElem_mem h1))
  have k1 : (fs.map (·.1))[j]'(by rw [List.length_map]; exact hj) = (fs.map (·.1))[i]'(by rw [List.length_map]; exact h2) := by
    rw [List.getElem_map, e]
    have := List.getElem_of_eq he (i := i) (by rw [List.length_map]; exact h1)
    rw [List.getElem_map, List.getElem_map] at this
    rw [this, List.getElem_map]
  have : j = i := nodup_inj nd _ _ k1
  subst this
  exact e.symm
theorem eqv_ents2 {es fs : List Ent} (h : EntsOk es) (k : EntsOk fs) : eqvDict (datE es) (datE fs) = decide (es = fs) := by
  obtain ⟨_, n1, s1, _⟩ := h
  obtain ⟨_, n2, s2, _⟩ := k
  by_cases c : es = fs
  · subst c
    rw [decide_eq_true rfl]
    unfold eqvDict
    rw [decide_eq_true rfl, Bool.true_and, List.all_eq_true]
    intro p hp
    obtain ⟨e, he, rfl⟩ := List.mem_map.mp hp
    unfold hitD
    show (match valD (datE es) (.inr e.1) with | none => false | some d => PyData.eqv _ d) = true
    rw [valD_ents n1 he]
    show PyData.eqv _ _ = true
    rw [eqv_head, decide_eq_true rfl]
  · rw [decide_eq_false c]
    refine Bool.eq_false_iff.mpr fun z => c ?_
    unfold eqvDict at z
    obtain ⟨z1, z2⟩ := Bool.and_eq_true_iff.mp z
    have hl : es.length = fs.length := by
      have := of_decide_eq_true z1
      unfold datE at this
      rwa [List.length_map, List.length_map] at this
    have hm : ∀ e ∈ es, e ∈ fs := fun e he => by
      have q := List.all_eq_true.mp z2 _ (List.mem_map.mpr ⟨e, he, rfl⟩)
      unfold hitD at q
      cases v : valD (datE fs) (.inr e.1) with
      | none =>
        have q : (match valD (datE fs) (.inr e.1) with | none => false | some d => PyData.eqv _ d) = true := q
        rw [v] at q
        cases q
      | some d =>
        obtain ⟨f, hf, e1, e2⟩ := valD_mem v
        have q : (match valD (datE fs) (.inr e.1) with | none => false | some d => PyData.eqv _ d) = true := q
        rw [v] at q
        rw [e2] at q
        have q : PyData.eqv _ _ = true := q
        rw [eqv_head] at q
        have q := of_decide_eq_true q
        have : e = f := by
          obtain ⟨a, b, d⟩ := e
          obtain ⟨a', b', d'⟩ := f
          simp only [Prod.mk.injEq] at q e1 ⊢
          exact ⟨e1.symm, by first | exact q.1 | exact q.1.symm, by first | exact q.2 | exact q.2.symm⟩
        rw [this]
        exact hf
    have kp : (es.map (·.1)).Perm (fs.map (·.1)) := by
      refine sub_perm n1 (fun k hk => ?_) (by rw [List.length_map, List.length_map, hl]; exact Nat.le_refl _)
      obtain ⟨e, he, rfl⟩ := List.mem_map.mp hk
      exact List.mem_map.mpr ⟨e, hm e he, rfl⟩
    exact ents_eq (sort_uniq s1 s2 kp) n2 hm
/-! ### operators by one of two rules -/
theorem op_or {X : Cx} {f : Value → Value → Sem Value} {r1 r2 : R2} (h1 : OpR X f r1) (h2 : OpR X f r2) : OpR X f (fun x y H Q => r1 x y H Q ∨ r2 x y H Q) := fun pins s σ H x y v u Q I rx ry h => h.elim (h1 pins s σ H x y v u Q I rx ry) (h2 pins s σ H x y v u Q I rx ry)
theorem op_mono {X : Cx} {f : Value → Value → Sem Value} {r1 r2 : R2} (h : OpR X f r1) (k : ∀ x y H Q, r2 x y H Q → r1 x y H Q) : OpR X f r2 := fun pins s σ H x y v u Q I rx ry q => h pins s σ H x y v u Q I rx ry (k x y H Q q)
end Fk

set_option maxHeartbeats 4000000
/-! The texts of objects. -/
namespace Fk
open PySem PySem.Spec PyProof.Rows L2
theorem ax_app {x y : Str} (hx : AsX x) (hy : AsX y) : AsX (x ++ y) := fun u hu => by
  have hu : u ∈ TL.tl (x ++ y) := hu
  rw [TL.tl_append] at hu
  rcases List.mem_append.mp hu with hu | hu
  · exact hx u hu
  · exact hy u hu
theorem ax_by {x : Str} (h : (TL.tl x).all (fun u => decide (u < 128)) = true) : AsX x := fun u hu => of_decide_eq_true (List.all_eq_true.mp h u hu)
theorem ax_sub {x y : Str} (h : ∀ u ∈ TL.tl x, u ∈ TL.tl y) (hy : AsX y) : AsX x := fun u hu => hy u (h u hu)
theorem ax_hex : AsX HEX := ax_by (by decide +kernel)
theorem ax_ssg : AsX SSG := ax_by (by decide +kernel)
theorem ax_let : AsX LET := ax_by (by decide +kernel)
theorem ax_id {x : Str} (h : isIdF x = true) : AsX x := by
  unfold isIdF at h
  exact ax_sub (only_sub (Bool.and_eq_true_iff.mp h).2) ax_hex
theorem ax_word {x y : Str} (h : isWordF y x = true) (hy : AsX y) : AsX x := by
  unfold isWordF at h
  simp only [Bool.and_eq_true] at h
  exact ax_sub (only_sub h.2.2) hy
theorem ax_seg {x : Str} (h : isSegF x = true) : AsX x := by
  unfold isSegF at h
  exact ax_word (Bool.and_eq_true_iff.mp h).1 ax_ssg
theorem ax_text {x : Str} (h : isTextF x = true) : AsX x := fun u hu => by
  have h := List.all_eq_true.mp (Bool.and_eq_true_iff.mp h).2 u hu
  rcases Bool.or_eq_true_iff.mp h with h | h
  · have := of_decide_eq_true h
    omega
  · unfold plainC at h
    have h2 := (Bool.and_eq_true_iff.mp h).2
    have h3 : ¬ ([126] < [u]) := fun z => by
      rw [decide_eq_true z] at h2
      exact absurd h2 (by decide)
    have h4 : ¬ 126 < u := fun z => h3 (List.Lex.rel z)
    omega
theorem ax_kinds : ∀ k ∈ KINDS, AsX k := fun k hk => ax_by ((by decide +kernel : ∀ k ∈ KINDS, (TL.tl k).all (fun u => decide (u < 128)) = true) k hk)
theorem kinds_len : ∀ k ∈ KINDS, k.length ≤ 4 := by decide +kernel
/-! ### join by nothing -/
theorem nil_tl : TL.tl ("" : Str) = [] := by decide +kernel
theorem tl_join0 (ps : List Str) : TL.tl (Txt.join ("" : Str) ps) = (ps.map TL.tl).flatten := by
  rw [TL.join_eq, TL.tl_join, nil_tl]
  have e : ∀ ls : List (List Nat), TL.joinL [] ls = ls.flatten := by
    intro ls
    induction ls with
    | nil => rfl
    | cons l r ih =>
      cases r with
      | nil => show l = _; simp
      | cons m r =>
        show l ++ ([] ++ TL.joinL [] (m :: r)) = _
        rw [ih]
        simp
  exact e _
theorem ax_join0 {ps : List Str} (h : ∀ p ∈ ps, AsX p) : AsX (Txt.join ("" : Str) ps) := fun u hu => by
  have hu : u ∈ TL.tl (Txt.join ("" : Str) ps) := hu
  rw [tl_join0] at hu
  obtain ⟨l, hl, hu⟩ := List.mem_flatten.mp hu
  obtain ⟨p, hp, rfl⟩ := List.mem_map.mp hl
  exact h p hp u hu
theorem len_join0 (n : Nat) : ∀ ps : List Str, (∀ p ∈ ps, p.length ≤ n) → (Txt.join ("" : Str) ps).length ≤ ps.length * n := fun ps h => by
  rw [TL.len_tl, tl_join0, List.length_flatten]
  have e : ∀ ps : List Str, (∀ p ∈ ps, p.length ≤ n) → ((ps.map TL.tl).map List.length).sum ≤ ps.length * n := by
    intro ps
    induction ps with
    | nil => intro _; exact Nat.zero_le _
    | cons p r ih =>
      intro h
      rw [List.map_cons, List.map_cons, List.sum_cons, List.length_cons, Nat.succ_mul]
      have h1 := h p List.mem_cons_self
      rw [TL.len_tl] at h1
      have := ih fun q hq => h q (List.mem_cons_of_mem _ hq)
      omega
  exact e ps h
theorem len_app (x y : Str) : (x ++ y).length = x.length + y.length := by
  rw [TL.len_tl, TL.tl_append, List.length_append, ← TL.len_tl, ← TL.len_tl]
theorem empty_len : (Str.empty).length = 0 := by decide +kernel
theorem ax_empty : AsX Str.empty := ax_by (by decide +kernel)
/-! ### numbers -/
theorem ax_num {i : Int} (h : 0 ≤ i) : AsX (Str.ofString (toString i)) := fun u hu => by
  obtain ⟨n, rfl⟩ := Int.eq_ofNat_of_zero_le h
  have hu : u ∈ TL.tl (Str.ofString (toString ((n : Nat) : Int))) := hu
  rw [TL.tl_num] at hu
  have := TL.numL_digits n u hu
  omega
theorem num_len {i : Int} (h : 0 ≤ i) (h2 : i ≤ 1000000000000) : (Str.ofString (toString i)).length ≤ 13 := by
  obtain ⟨n, rfl⟩ := Int.eq_ofNat_of_zero_le h
  rw [TL.len_tl, TL.tl_num]
  exact TL.numL_len (by decide) (by omega)
/-! ### the texts -/
def rowF (e : Ent) : Str := Str.empty ++ e.2.1 ++ (" " : Str) ++ e.1 ++ (" " : Str) ++ e.2.2 ++ ("\n" : Str)
def parF (p : Str) : Str := Str.empty ++ ("parent " : Str) ++ p ++ ("\n" : Str)
def headF (t : Str) (ps : List Str) (au : Str) (tm : Int) : Str := Str.empty ++ ("commit\ntree " : Str) ++ t ++ ("\n" : Str) ++ Txt.join ("" : Str) (ps.map parF) ++ ("author " : Str) ++ au ++ ("\ntime " : Str) ++ Str.ofString (toString tm) ++ ("\n\n" : Str)
def tagF (tg lb msg : Str) : Str := Str.empty ++ ("tag\ntarget " : Str) ++ tg ++ ("\nlabel " : Str) ++ lb ++ ("\n\n" : Str) ++ msg
def encF : Ob → Str
  | .blob x => ("blob\n" : Str) ++ x
  | .tree es => ("tree\n" : Str) ++ Txt.join ("" : Str) (es.map rowF)
  | .commit t ps au tm msg => headF t ps au tm ++ msg
  | .tag tg lb msg => tagF tg lb msg
theorem row_ax {e : Ent} (h : EntOk e) : AsX (rowF e) := ax_app (ax_app (ax_app (ax_app (ax_app (ax_app ax_empty (ax_kinds _ h.2.1)) (ax_by (by decide +kernel))) (ax_seg h.1)) (ax_by (by decide +kernel))) (ax_id h.2.2)) (ax_by (by decide +kernel))
theorem par_ax {p : Str} (h : isIdF p = true) : AsX (parF p) := ax_app (ax_app (ax_app ax_empty (ax_by (by decide +kernel))) (ax_id h)) (ax_by (by decide +kernel))
theorem head_ax {t : Str} {ps : List Str} {au : Str} {tm : Int} (h1 : isIdF t = true) (h2 : ∀ p ∈ ps, isIdF p = true) (h3 : isWordF LET au = true) (h4 : 0 ≤ tm) : AsX (headF t ps au tm) := by
  refine ax_app (ax_app (ax_app (ax_app (ax_app (ax_app (ax_app (ax_app (ax_app ax_empty (ax_by (by decide +kernel))) (ax_id h1)) (ax_by (by decide +kernel))) (ax_join0 fun p hp => ?_)) (ax_by (by decide +kernel))) (ax_word h3 ax_let)) (ax_by (by decide +kernel))) (ax_num h4)) (ax_by (by decide +kernel))
  obtain ⟨q, hq, rfl⟩ := List.mem_map.mp hp
  exact par_ax (h2 q hq)
theorem enc_ax {o : Ob} (h : o.ok) : AsX (encF o) := by
  cases o with
  | blob x => exact ax_app (ax_by (by decide +kernel)) (ax_text h)
  | tree es =>
    refine ax_app (ax_by (by decide +kernel)) (ax_join0 fun p hp => ?_)
    obtain ⟨e, he, rfl⟩ := List.mem_map.mp hp
    exact row_ax (h.2.2.2 e he)
  | commit t ps au tm msg =>
    obtain ⟨o1, o2, o3, o4, o5, o6, o7, o8, o9⟩ := h
    exact ax_app (head_ax o1 o4 o5 o6) (ax_text o8)
  | tag tg lb msg =>
    obtain ⟨o1, o2, o8, o9⟩ := h
    exact ax_app (ax_app (ax_app (ax_app (ax_app (ax_app ax_empty (ax_by (by decide +kernel))) (ax_id o1)) (ax_by (by decide +kernel))) (ax_seg o2)) (ax_by (by decide +kernel))) (ax_text o8)
theorem lit1 : (" " : Str).length = 1 ∧ ("\n" : Str).length = 1 ∧ ("parent " : Str).length = 7 ∧ ("commit\ntree " : Str).length = 12 ∧ ("author " : Str).length = 7 ∧ ("\ntime " : Str).length = 6 ∧ ("\n\n" : Str).length = 2 ∧ ("tag\ntarget " : Str).length = 11 ∧ ("\nlabel " : Str).length = 7 ∧ ("blob\n" : Str).length = 5 ∧ ("tree\n" : Str).length = 5 := by decide +kernel
theorem row_len {e : Ent} (h : EntOk e) : (rowF e).length ≤ 35 := by
  obtain ⟨l1, l2, _⟩ := lit1
  unfold rowF
  simp only [len_app, empty_len, l1, l2]
  have h1 := seg_len h.1
  have h2 := kinds_len _ h.2.1
  have h3 : e.2.2.length = 16 := of_decide_eq_true (Bool.and_eq_true_iff.mp (show (decide _ && _) = true from h.2.2)).1
  omega
theorem id_len {x : Str} (h : isIdF x = true) : x.length = 16 := of_decide_eq_true (Bool.and_eq_true_iff.mp (show (decide _ && _) = true from h)).1
theorem par_len {p : Str} (h : isIdF p = true) : (parF p).length = 24 := by
  obtain ⟨l1, l2, l3, _⟩ := lit1
  unfold parF
  simp only [len_app, empty_len, l3, l2, id_len h]
theorem rows_len {es : List Ent} (h : EntsOk es) : (Txt.join ("" : Str) (es.map rowF)).length ≤ 1050 := by
  have := len_join0 35 (es.map rowF) fun p hp => by
    obtain ⟨e, he, rfl⟩ := List.mem_map.mp hp
    exact row_len (h.2.2.2 e he)
  rw [List.length_map] at this
  have := h.1
  omega
theorem pars_len {ps : List Str} (h : ∀ p ∈ ps, isIdF p = true) (hl : ps.length ≤ 6) : (Txt.join ("" : Str) (ps.map parF)).length ≤ 144 := by
  have := len_join0 24 (ps.map parF) fun p hp => by
    obtain ⟨e, he, rfl⟩ := List.mem_map.mp hp
    rw [par_len (h e he)]
    exact Nat.le_refl _
  rw [List.length_map] at this
  omega
theorem word_len {x y : Str} (h : isWordF y x = true) : x.length ≤ 12 := by
  unfold isWordF at h
  simp only [Bool.and_eq_true] at h
  exact of_decide_eq_true h.2.1
theorem head_len {t : Str} {ps : List Str} {au : Str} {tm : Int} (h1 : isIdF t = true) (h2 : ∀ p ∈ ps, isIdF p = true) (hl : ps.length ≤ 6) (h3 : isWordF LET au = true) (h4 : 0 ≤ tm) (h5 : tm ≤ 1000000000000) : (headF t ps au tm).length ≤ 300 := by
  obtain ⟨l1, l2, l3, l4, l5, l6, l7, _⟩ := lit1
  unfold headF
  simp only [len_app, empty_len, l2, l4, l5, l6, l7, id_len h1]
  have := pars_len h2 hl
  have := word_len h3
  have := num_len h4 h5
  omega
theorem enc_len {o : Ob} (h : o.ok) : (encF o).length ≤ 3000 := by
  obtain ⟨l1, l2, l3, l4, l5, l6, l7, l8, l9, l10, l11⟩ := lit1
  cases o with
  | blob x =>
    show (_ ++ _ : Str).length ≤ _
    have : x.length ≤ 2000 := of_decide_eq_true (Bool.and_eq_true_iff.mp (show (decide _ && _) = true from h)).1
    simp only [len_app, l10]
    omega
  | tree es =>
    show (_ ++ _ : Str).length ≤ _
    simp only [len_app, l11]
    have := rows_len h
    omega
  | commit t ps au tm msg =>
    obtain ⟨o1, o2, o3, o4, o5, o6, o7, o8, o9⟩ := h
    show (_ ++ _ : Str).length ≤ _
    simp only [len_app]
    have := head_len o1 o4 o2 o5 o6 o7
    omega
  | tag tg lb msg =>
    obtain ⟨o1, o2, o8, o9⟩ := h
    show (tagF tg lb msg).length ≤ _
    unfold tagF
    simp only [len_app, empty_len, l8, l9, l7, id_len o1]
    have := seg_len o2
    omega
end Fk

set_option maxHeartbeats 4000000
/-! Bytes read back: lines, words. -/
namespace Fk
open PySem PySem.Spec PySem.Calls PyProof.Rows L2
def bytL (L : List Nat) : Array UInt8 := (L.map (·.toUInt8)).toArray
def AsL (L : List Nat) : Prop := ∀ u ∈ L, u < 128
theorem byts_L (x : Str) : byts x = bytL (TL.tl x) := rfl
theorem bytL_size (L : List Nat) : (bytL L).size = L.length := by
  unfold bytL
  rw [List.size_toArray, List.length_map]
theorem u8_nat {u : Nat} (h : u < 128) : u.toUInt8.toNat = u := by
  show u % 256 = u
  omega
theorem strB_L {L : List Nat} (h : AsL L) : strB (bytL L) = ⟨L.toArray⟩ := by
  unfold strB bytL
  rw [List.map_map]
  congr 2
  conv => rhs; rw [← List.map_id L]
  exact List.map_congr_left fun u hu => u8_nat (h u hu)
theorem asc_L {L : List Nat} (h : AsL L) : ascB (bytL L) = true := by
  unfold ascB bytL
  refine List.all_eq_true.mpr fun x hx => ?_
  obtain ⟨u, hu, rfl⟩ := List.mem_map.mp hx
  refine decide_eq_true ?_
  show u.toUInt8 < 128
  rw [UInt8.lt_iff_toNat_lt, u8_nat (h u hu)]
  exact h u hu
theorem AsL.sub {L M : List Nat} (h : AsL L) (s : ∀ u ∈ M, u ∈ L) : AsL M := fun u hu => h u (s u hu)
theorem pk_L {L : List Nat} {i j : Nat} (hi : i ≤ L.length) (hj : j ≤ L.length) : PySem.W.KBy.picked (bytL L) (some (i : Int)) (some (j : Int)) = bytL ((L.drop i).take (j - i)) := by
  unfold bytL
  rw [pk_mid (by rw [List.length_map]; exact hi) (by rw [List.length_map]; exact hj), ← List.map_drop, ← List.map_take]
theorem pkf_L {L : List Nat} {i : Nat} (hi : i ≤ L.length) : PySem.W.KBy.picked (bytL L) (some (i : Int)) none = bytL (L.drop i) := by
  unfold bytL
  rw [pk_from (by rw [List.length_map]; exact hi), ← List.map_drop]
theorem one_at {L : List Nat} (h : AsL L) {i u : Nat} (hi : L[i]? = some u) : ((bytL L).extract i (i + 1) == (#[10] : Array UInt8)) = decide (u = 10) := by
  have e : (bytL L).extract i (i + 1) = #[u.toUInt8] := by
    apply Array.toList_inj.mp
    unfold bytL
    rw [List.extract_toArray, List.extract_eq_take_drop]
    have hl := (List.getElem?_eq_some_iff.mp hi).1
    show ((L.map (·.toUInt8)).drop i).take (i + 1 - i) = [u.toUInt8]
    rw [Nat.add_sub_cancel_left, ← List.map_drop, ← List.map_take, List.take_one, List.head?_drop, hi]
    rfl
  rw [e, Bool.eq_iff_iff]
  have hu := h u (List.mem_of_getElem? hi)
  constructor
  · intro z
    have z : (#[u.toUInt8] : Array UInt8) = #[10] := eq_of_beq z
    have z2 : u.toUInt8 = 10 := by
      have := congrArg Array.toList z
      simpa using this
    have := congrArg UInt8.toNat z2
    rw [u8_nat hu] at this
    exact decide_eq_true this
  · intro z
    rw [of_decide_eq_true z]
    rfl
theorem find_nl {pre line post : List Nat} (h : AsL (pre ++ line ++ 10 :: post)) (hn : 10 ∉ line) : findB (bytL (pre ++ line ++ 10 :: post)) #[10] pre.length = ((pre.length + line.length : Nat) : Int) := by
  have sz : (bytL (pre ++ line ++ 10 :: post)).size = pre.length + line.length + 1 + post.length := by
    rw [bytL_size, List.length_append, List.length_append, List.length_cons]
    omega
  have s1 : (#[10] : Array UInt8).size = 1 := rfl
  unfold findB
  rw [sz, s1, if_neg (by omega)]
  have f : Builtin.Bytes.find? (bytL (pre ++ line ++ 10 :: post)) #[10] pre.length (pre.length + line.length + 1 + post.length) = some (line.length + pre.length) := by
    unfold Builtin.Bytes.find?
    rw [List.find?_map, s1]
    have g : List.find? ((fun i => (bytL (pre ++ line ++ 10 :: post)).extract i (i + 1) == (#[10] : Array UInt8)) ∘ fun x => x + pre.length) (List.range (pre.length + line.length + 1 + post.length + 1 - (pre.length + 1))) = some line.length := by
      rw [List.find?_range_eq_some]
      refine ⟨?_, List.mem_range.mpr (by omega), fun j hj => ?_⟩
      · show ((bytL (pre ++ line ++ 10 :: post)).extract (line.length + pre.length) (line.length + pre.length + 1) == (#[10] : Array UInt8)) = true
        rw [one_at h (u := 10) (by rw [List.append_assoc, List.getElem?_append_right (by omega), Nat.add_sub_cancel, List.getElem?_append_right (Nat.le_refl _), Nat.sub_self]; rfl)]
        rfl
      · show (!((bytL (pre ++ line ++ 10 :: post)).extract (j + pre.length) (j + pre.length + 1) == (#[10] : Array UInt8))) = true
        have hg : (pre ++ line ++ 10 :: post)[j + pre.length]? = some line[j] := by
          rw [List.append_assoc, List.getElem?_append_right (by omega), Nat.add_sub_cancel, List.getElem?_append_left hj, List.getElem?_eq_getElem hj]
        rw [one_at h hg, decide_eq_false (fun (z : line[j] = 10) => hn (by rw [← z]; exact List.getElem_mem hj))]
        rfl
    rw [g]
    rfl
  rw [f]
  show (((line.length + pre.length : Nat) : Int)) = _
  rw [Nat.add_comm]
end Fk

set_option maxHeartbeats 4000000
/-! A disk's files: what they are, where they stand, what deeds make of them. -/
namespace Fk
open PySem PySem.Spec PyProof.Rows L2
abbrev Byt := Array UInt8
/-- a file: its content, its last safe content, whether it is unsafe -/
structure Fl where
  c : Byt
  s : Option Byt
  u : Bool
def optB : Option Byt → V
  | none => .non
  | some b => .byt b
def optI : Option Int → V
  | none => .non
  | some n => .int n
/-- n: the books of the law say whether it is safe -/
def flL (n : Bool) (f : Fl) : List V := [.byt f.c, optB f.s, .bl (if n then !f.u else f.u)]
abbrev Fls := List (Str × Fl)
def FlsAt (n : Bool) (H : Hp) (t : Tab) (fs : Fls) : Prop := Paired (fun p f => p.1 = f.1 ∧ ∃ q, p.2 = V.ref q ∧ H q = some (.tup (flL n f.2))) t fs
def putF (fs : Fls) (x : Str) (f : Fl) : Fls := if (fs.any fun p => decide (p.1 = x)) = true then fs.map (fun p => if p.1 = x then (p.1, f) else p) else fs ++ [(x, f)]
def dropF (fs : Fls) (x : Str) : Fls := fs.filter fun p => decide (p.1 ≠ x)
def lookF (fs : Fls) (x : Str) : Option Fl := (fs.find? fun p => decide (p.1 = x)).map (·.2)
section
variable {n : Bool} {H H' : Hp} {t : Tab} {fs : Fls}
theorem FlsAt.keep (h : FlsAt n H t fs) (k : TupKeep H H') : FlsAt n H' t fs := Paired.mapP h fun p f ⟨e, q, e1, e2⟩ => ⟨e, q, e1, k _ _ e2⟩
theorem FlsAt.keys : ∀ {t : Tab} {fs : Fls}, FlsAt n H t fs → t.map (·.1) = fs.map (·.1)
  | _, _, .nil => rfl
  | _, _, .cons ⟨e, _⟩ r => by
    rw [List.map_cons, List.map_cons, e, FlsAt.keys r]
theorem FlsAt.len (h : FlsAt n H t fs) : t.length = fs.length := by
  have := congrArg List.length h.keys
  rwa [List.length_map, List.length_map] at this
theorem FlsAt.any (x : Str) : ∀ {t : Tab} {fs : Fls}, FlsAt n H t fs → (t.any fun p => decide (p.1 = x)) = fs.any fun p => decide (p.1 = x)
  | _, _, .nil => rfl
  | _, _, .cons ⟨e, _⟩ r => by
    rw [List.any_cons, List.any_cons, e, FlsAt.any x r]
theorem FlsAt.val (x : Str) : ∀ {t : Tab} {fs : Fls}, FlsAt n H t fs → (lookF fs x = none ∧ valV t x = none) ∨ ∃ f q, lookF fs x = some f ∧ valV t x = some (.ref q) ∧ H q = some (.tup (flL n f))
  | _, _, .nil => .inl ⟨rfl, rfl⟩
  | _, _, .cons (a := p) (b := f) (l₂ := l) ⟨e, q, e1, e2⟩ r => by
    by_cases h : f.1 = x
    · refine .inr ⟨f.2, q, ?_, ?_, e2⟩
      · unfold lookF
        rw [List.find?_cons, decide_eq_true h]
        rfl
      · rw [show p = (p.1, p.2) from rfl, valV_pos (by rw [← h, ← e]), e1]
    · have a : lookF (f :: l) x = lookF l x := by
        unfold lookF
        rw [List.find?_cons, decide_eq_false h]
      rw [a, valV_neg (p := p) (fun z => h (by rw [← e, z]))]
      exact FlsAt.val x r
theorem fls_map {x : Str} {f : Fl} {q : Addr} (hq : H q = some (.tup (flL n f))) : ∀ {t : Tab} {fs : Fls}, FlsAt n H t fs → FlsAt n H (t.map fun kv => if kv.1 = x then (kv.1, V.ref q) else kv) (fs.map fun p => if p.1 = x then (p.1, f) else p)
  | _, _, .nil => .nil
  | _, _, .cons (a := a) (b := b) ⟨e, y⟩ r => by
    refine .cons ?_ (fls_map hq r)
    show (if a.1 = x then (a.1, V.ref q) else a).1 = (if b.1 = x then (b.1, f) else b).1 ∧ ∃ q', (if a.1 = x then (a.1, V.ref q) else a).2 = V.ref q' ∧ H q' = some (.tup (flL n (if b.1 = x then (b.1, f) else b).2))
    by_cases z : b.1 = x
    · rw [if_pos z, if_pos (by rw [e, z])]
      exact ⟨e, q, rfl, hq⟩
    · rw [if_neg z, if_neg (fun w => z (by rw [← e, w]))]
      exact ⟨e, y⟩
theorem fls_snoc {x : Str} {f : Fl} {q : Addr} (hq : H q = some (.tup (flL n f))) : ∀ {t : Tab} {fs : Fls}, FlsAt n H t fs → FlsAt n H (t ++ [(x, V.ref q)]) (fs ++ [(x, f)])
  | _, _, .nil => .cons ⟨rfl, q, rfl, hq⟩ .nil
  | _, _, .cons e r => .cons e (fls_snoc hq r)
theorem FlsAt.put {x : Str} {f : Fl} {q : Addr} (h : FlsAt n H t fs) (hq : H q = some (.tup (flL n f))) : FlsAt n H (putK t x (.ref q)) (putF fs x f) := by
  unfold putK putF
  rw [h.any x]
  split
  · exact fls_map hq h
  · exact fls_snoc hq h
theorem FlsAt.drop (x : Str) : ∀ {t : Tab} {fs : Fls}, FlsAt n H t fs → FlsAt n H (dropK t x) (dropF fs x)
  | _, _, .nil => .nil
  | _, _, .cons (a := a) (b := b) (l₁ := l) (l₂ := m) ⟨e, y⟩ r => by
    have ih : FlsAt n H (dropK l x) (dropF m x) := FlsAt.drop x r
    unfold dropK dropF at ih ⊢
    rw [List.filter_cons, List.filter_cons, e]
    split
    · exact .cons ⟨e, y⟩ ih
    · exact ih
end
/-- a disk -/
structure Dk where
  fs : Fls
  left : Option Int
inductive Out where
  | told (b : Option Byt)
  | crash
  | absent (x : Str)
  deriving DecidableEq
inductive Deed where
  | write (x : Str) (b : Byt)
  | sync (x : Str)
  | rename (x y : Str)
  | remove (x : Str)
  | read (x : Str)
def spent (k : Dk) (fs : Fls) : Dk := ⟨fs, k.left.map (· - 1)⟩
/-- a deed that is a step -/
def stepD (k : Dk) (fs : Fls) : Out × Dk := if k.left = some 0 then (.crash, k) else (.told none, spent k fs)
def doDeed (d : Deed) (k : Dk) : Out × Dk :=
  match d with
  | .write x b => stepD k (putF k.fs x ⟨b, (lookF k.fs x).bind (·.s), true⟩)
  | .sync x => match lookF k.fs x with
    | none => (.absent x, k)
    | some f => stepD k (putF k.fs x ⟨f.c, some f.c, false⟩)
  | .rename x y => match lookF k.fs x with
    | none => (.absent x, k)
    | some f => stepD k (putF (dropF k.fs x) y f)
  | .remove x => match lookF k.fs x with
    | none => (.absent x, k)
    | some _ => stepD k (dropF k.fs x)
  | .read x => match lookF k.fs x with
    | none => (.absent x, k)
    | some f => (.told (some f.c), k)
end Fk

set_option maxHeartbeats 4000000
/-! a def that makes lambdas (its code object known); a lambda handed to a def, by the def's name; the end with the tables of such defs. -/
namespace Fk
open PySem PySem.Spec PyProof.Rows L2 LamX
section
variable {P : Program} {w : World} {K : PySem.W.Frag} {mg : Str → Option Value} {base : Heap}
/-- a def of the module, its code object known -/
def IsDefC (K : PySem.W.Frag) (mg : Str → Option Value) (x : Str) (st : Stmt) (c : Addr) : Prop := ∃ f fd, C8.Def K mg x st f fd ∧ fd.defaults = .none ∧ fd.code = .ref c
theorem cal_ofC {x : Str} {st : Stmt} {N ps : List Str} {k : Nat} {sp : Sp} {c : Addr} (D : IsDefC K mg x st c) (S : FnScope N ps (C8.fnScope st))
    (hb : ∀ (kV doc pm : Value) (an : Option Addr) (cdv ct : Value) (us : List Value), us.length = ps.length → bindArgs (PySem.W.fnOf x x (C8.fnArgs st) (C8.fnBody st) (C8.fnScope st) .none kV doc pm an cdv ct) ⟨us, []⟩ = pure (ps.zip us))
    (len : ∀ vs H Q E, sp vs H Q E → vs.length = ps.length)
    (hbody : ∀ (f : Addr) (A : Around) (outer : List Env) (s : Shared) (H : Hp) (vs : List V) (Q : VK) (E : XK), Room k (A.deeper (envOfC x (C8.fnScope st) s.heap.objs.size f (.ref c))) → sp vs H Q E →
      ∃ t, PSs (cxOf C8.CX0 P w K mg base N x (C8.fnScope st) f (.ref c) A outer s H E).nox (C8.fnBody st) t ∧ t { nx := fun _ H' => Q .non H', rt := Q } (start N vs) H) : C8.Cal P w K mg base (k + 1) x sp [] := by
  obtain ⟨f, fd, D, df, dc⟩ := D
  obtain ⟨oc, od, dV, kV, doc, pm, an, cdv, ct, osl, rfl, lk, hcd⟩ := D.fn.ex
  have e : dV = .none := df
  subst e
  have e2 : cdv = .ref c := dc
  subst e2
  exact ⟨f, _, ps, [], fn_of lk hcd S len fun A outer s H vs Q E hr hsp => by
    obtain ⟨t, h, q⟩ := hbody f A outer s H vs Q E hr hsp
    exact ⟨t, h.nox, q⟩, D.mgf, D.kp, .all (hb kV doc pm an (.ref c) ct), .nil⟩
end
/-- what the lambda's body lets out, its caller is told of -/
theorem takes_lam {X : Cx} {A : Around} {outer : List Env} {s : Shared} {H : Hp} {E : XK} {scope : Scope} {f c' : Addr} : Takes (lamCx X A outer s H E scope f c') (fun cls d _ H' => E cls d H') :=
  takes_of rfl rfl rfl rfl
/-- where an error is let out, the names are as many as ever -/
theorem takes_len {X : Cx} {W : WX} (tk : Takes X W) : Takes X (fun cls d σ H => σ.length = X.N.length → W cls d σ H) := fun u s' ⟨a, B, sI, pins, σ, H, cls, d, e, I, nb, up, sky, na, os, ag, w⟩ =>
  tk u s' ⟨a, B, sI, pins, σ, H, cls, d, e, I, nb, up, sky, na, os, ag, w I.len⟩
section
variable {X : Cx}
/-- x(lambda: body), x a def of one parameter a -/
theorem pe_lamC {T : List (Addr × Str)} {TT : (XK → Hp → VK → Prop) → Hp → VK → Prop} {x a : Str} {st : Stmt} {c P : Addr} {k j : Nat} {Ng : List Str}
    {params : Arguments} {body : Expr} {scope : Scope} {t : XK → TE} {p lpos pos : Pos} (D : IsDef X.K X.mg x st) (Sg : FnScope Ng [a] (C8.fnScope st))
    (hb : ∀ (kV doc pm : Value) (an : Option Addr) (cdv ct : Value) (us : List Value), us.length = 1 → bindArgs (PySem.W.fnOf x x (C8.fnArgs st) (C8.fnBody st) (C8.fnScope st) .none kV doc pm an cdv ct) ⟨us, []⟩ = pure ([a].zip us))
    (hg : Gl X x) (hNg : Ng[0]? = some a) (hva : Vis (C8.fnScope st) a)
    (hG : ∀ (g : Addr) (cdg : Value), GivesTo X Ng x (C8.fnScope st) g cdg (C8.fnBody st) a (X.env.qual ++ "<lambda>") TT)
    (TB : TabB X.base X.mg c P) (hcode : X.env.code = .ref c) (hmT : (P, X.env.qual ++ "<lambda>") ∈ T) (hu : ∀ p ∈ T, p.1 = P → p.2 = X.env.qual ++ "<lambda>") (hr : Room j X.A) (hk : k + 2 ≤ j) (L : LamS X.env.scope scope) (hdef : defaultsOf params X.env = ([], []))
    (hbind : ∀ (q : Str) (cl : List (Str × Addr)) (pm cv ctv : Value), bindArgs (PySem.W.kla_fn "<lambda>" q params body scope cl pm cv ctv) ⟨[], []⟩ = pure [])
    (hbody : ∀ (A : Around) (outer : List Env) (s : Shared) (H : Hp) (E : XK) (f c' : Addr), Room k (A.deeper (lamEnv X scope s.heap.objs.size f c')) → PE (lamCx X A outer s H E scope f c') body (t E))
    (hdb : (x == ("__debug__" : Str)) = false := by decide) (hd : (a == ("__debug__" : Str)) = false := by decide) (hcd : (a == ("__classdict__" : Str)) = false := by decide) :
    PE X (.Call (.Name x p) [.Lambda params body scope lpos] [] pos) (tLam T TT t) := by
  obtain ⟨f, fd, D, df⟩ := D
  obtain ⟨oc, od, dV, kV, doc, pm, an, cdv, ct, osl, rfl, lk, hcg⟩ := D.fn.ex
  have e : dV = .none := df
  subst e
  exact pe_lamcall hg D.mgf D.kp lk hcg (.all (hb kV doc pm an cdv ct)) Sg hNg hva (hG f cdv) TB hcode hmT hu (hr.mono hk) L hdef hbind hbody hdb hd hcd
end
/-! ### the end -/
/-- the def y, its code object and its table -/
def TabD (mg : Str → Option Value) (h : Heap) (y : Str) (c P : Addr) : Prop := ∃ (a : Addr) (o : Obj) (fd : FuncData), mg y = some (.ref a) ∧ h.get? a = some o ∧ o.data = .func fd ∧ fd.code = .ref c ∧ PySem.W.CodeHd h c P ∧ h.get? P = some { cls := .none, data := .fields #[] }
theorem TabD.code {K : PySem.W.Frag} {mg : Str → Option Value} {h : Heap} {y : Str} {c P f : Addr} {fd : FuncData} {oc : Value} {od : Option Addr} {osl : Array (Option Value)} (t : TabD mg h y c P) (X : K.In h) (hm : mg y = some (.ref f)) (lk : K.lookup f = some ⟨oc, od, .func fd, osl⟩) : fd.code = .ref c := by
  obtain ⟨a, o, fd', h1, h2, h3, h4, _⟩ := t
  rw [hm] at h1
  cases h1
  have e := X _ _ lk
  rw [h2] at e
  cases e
  cases h3
  exact h4
theorem walk_ofTabs {l : PySem.W.OpenLaw} {n k : Nat} {q : Program} {loose : List Str} {XP : (Str → Option Value) → Heap → Prop} {YP : World → Heap → Prop} {d : DefRec} {K : Params → PySem.W.Frag} {CX : World → CXT} {x : Str} {ys : List Str}
    (hn : l.most = some n) (hn2 : n ≤ sizeLine) (hdf : d.params.defaults = []) (hr : Room k callerA) (hrec : ∀ y ∈ ys, ((recsOf q).any fun e => e.name == y) = true) (hY : ∀ (w : World) (h : Heap), YP w h → (K w.params).In h)
    (F : ∀ (w : World) (mg : Str → Option Value) (fa : Addr) (h : Heap), YP w h → (K w.params).In h → h.Ns mainGlobals mg → mg d.name = some (.ref fa) → (∀ y ∈ ys, ∃ c P, TabD mg h y c P) → LawAtS l w (K w.params) (CX w) k n x mg fa h)
    (hCX : ∀ (w : World) (H : Hp) (s : Shared) (e : Value) (s' : Shared), CX w [] H s (fun _ _ _ => False) e s' → False) :
    PySem.W.WalkO q loose XP YP l.row.toRowW d [] (fun f vs => PySem.call f vs) := by
  refine Att.attach_callB hn hdf fun w s₀ s₁ mg mb fa o pm cd doc a vs ns G Y ho hd hcd hmg hobj hints hlen hbits hg => ?_
  have KX := hY w _ Y
  have tabs : ∀ y ∈ ys, ∃ c P, TabD mg s₁.heap y c P := fun y hy => by
    obtain ⟨dL, hm, hn1⟩ := List.any_eq_true.mp (hrec y hy)
    have hn2 : dL.name = y := beq_iff_eq.mp hn1
    obtain ⟨a', o', fd', c', P', h1, h2, h3, h4, h5, h6⟩ := G.T.tab dL hm
    rw [hn2] at h1
    exact ⟨c', P', a', o', fd', h1, h2, h3, h4, PySem.W.CodeHd.of h5 h6, h6.2⟩
  obtain ⟨fd, cs, sp, hT, nT, C, hb, hsp, hF⟩ := F w mg fa _ Y KX G.T.g hmg tabs
  exact law_callTs KX G.T.g G.T.b G.T.builtins G.T.nolimit hg hT nT C G.T.bmain hobj hints (Nat.le_trans hlen hn2) hr hF hb (fun H hH hS => hsp H a ns hlen hbits hH hS) fun H e s' => hCX w H s₁ e s'
end Fk

set_option maxHeartbeats 4000000
/-! lambdas that stand in lists: a lambda is an object of its own; a comprehension whose tests call it through a def. -/
namespace Fk
open PySem PySem.Spec PyProof.Rows L2 LamX
/-- the lambda at f, its code object at c' -/
def LamE (cells : List (Str × Addr)) (q : Str) (params : Arguments) (body : Expr) (scope : Scope) (c' f : Addr) : HO :=
  .ext fun h => ∃ pm ctv : Value, h.get? f = some (PySem.W.kla_obj "<lambda>" q params body scope (cloFrom cells scope.names []) pm c' ctv)
theorem lamE_ne {cells : List (Str × Addr)} {q : Str} {params : Arguments} {body : Expr} {scope : Scope} {c' f : Addr} (ps : Array Value) : LamE cells q params body scope c' f ≠ .tbl ps := fun z => by
  unfold LamE at z
  cases z
/-- what stands at f, when it is called, does t -/
def AskOf (X : Cx) (k : Nat) (f : Addr) (t : XK → TE) (H : Hp) : Prop :=
  ∃ (params : Arguments) (body : Expr) (scope : Scope) (c' : Addr), H f = some (LamE X.env.cells (X.env.qual ++ "<lambda>") params body scope c' f) ∧ H c' = some (CodeO c' (X.env.qual ++ "<lambda>")) ∧ LamS X.env.scope scope ∧
    (∀ (q : Str) (cl : List (Str × Addr)) (pm cv ctv : Value), bindArgs (PySem.W.kla_fn "<lambda>" q params body scope cl pm cv ctv) ⟨[], []⟩ = pure []) ∧
    ∀ (A : Around) (outer : List Env) (s : Shared) (H : Hp) (E : XK) (f c' : Addr), Room k (A.deeper (lamEnv X scope s.heap.objs.size f c')) → PE (lamCx X A outer s H E scope f c') body (t E)
theorem AskOf.ext {X : Cx} {k : Nat} {f : Addr} {t : XK → TE} {H H' : Hp} (a : AskOf X k f t H) (e : ExtN H H') : AskOf X k f t H' := by
  obtain ⟨params, body, scope, c', h1, h2, h3⟩ := a
  exact ⟨params, body, scope, c', e _ _ h1 lamE_ne, e _ _ h2 codeO_ne, h3⟩
section
variable {X : Cx} {pins : List (Addr × Obj)} {σ : L2.St} {H : Hp} {s : Shared}
/-- a new lambda is laid and known -/
theorem lam_laid {q : Str} {params : Arguments} {body : Expr} {scope : Scope} {pm ctv : Value} {c' : Addr} {h' : Heap} {tk : Nat} (I : Inv X pins σ H { s with heap := h', toks := tk }) :
    Inv X pins σ (upd H h'.objs.size (LamE X.env.cells q params body scope c' h'.objs.size)) { s with heap := h'.push (PySem.W.kla_obj "<lambda>" q params body scope (cloFrom X.env.cells scope.names []) pm c' ctv), toks := tk } :=
  I.laid (t' := tk) (fun b u e => Heap.get?_push_of_some _ e) (Nat.le_refl _) ⟨⟨pm, ctv, Heap.get?_push_size _ rfl⟩, ⟨_, Heap.get?_push_size _ rfl⟩, fun h1 h2 ⟨pm, ctv, e⟩ k => ⟨pm, ctv, k _ e⟩⟩
theorem ext_new {H H1 : Hp} {f : Addr} {o : HO} (e : ExtN H H1) (n : H1 f = none) : ExtN H (upd H1 f o) := fun b u q z => by
  have w := e b u q z
  rw [upd_ne (ne_of_none w n)]
  exact w
theorem tabs_new {T : List (Addr × Str)} {H1 : Hp} {f : Addr} {o : HO} (t : Tabs T H1) (n : H1 f = none) : Tabs T (upd H1 f o) := t.ext fun b u q => by rw [upd_ne (ne_of_none q n)]; exact q
theorem lam_make3 {T : List (Addr × Str)} {c P : Addr} {params : Arguments} {body : Expr} {scope : Scope} {pos : Pos} {E : Value → Shared → Prop} {Q : Value → Shared → Prop} (I : Inv X pins σ H s) (TB : TabB X.base X.mg c P) (hcode : X.env.code = .ref c)
    (hm : (P, X.env.qual ++ "<lambda>") ∈ T) (hu : ∀ p ∈ T, p.1 = P → p.2 = X.env.qual ++ "<lambda>") (hT : Tabs T H) (hdef : defaultsOf params X.env = ([], [])) (hfree : ∀ y ∈ scope.names, y.2 = .free → ∃ c, X.env.cells.lookup y.1 = some c)
    (h : ∀ (f c' : Addr) (H1 : Hp) (s' : Shared), Inv X pins σ H1 s' → ExtN H H1 → Tabs T H1 → H f = none → H1 f = some (LamE X.env.cells (X.env.qual ++ "<lambda>") params body scope c' f) → H1 c' = some (CodeO c' (X.env.qual ++ "<lambda>")) → Q (.ref f) s') :
    wpAny (model X.prog X.w) X.A (eval (.Lambda params body scope pos) X.env) Q E s := by
  obtain ⟨ps, hP, ht, ha⟩ := hT _ hm
  refine PySem.W.kla_eval hdef ?_
  have bP : s.heap.BuiltinsAt X.mg P := TB.bm.keeps I.bk
  have hP' : s.heap.get? P = some { cls := .none, data := .fields ps } := I.hok P _ hP
  cases hc : codeAmong pos ps.toList with
  | some cv =>
    obtain ⟨c', e, hco⟩ := ha pos cv hc
    subst e
    refine PySem.W.kla_makeFunctionHit (mg := X.mg) (c := c) (P := P) (ps := ps) (closure_ok hfree) I.ok.glob (I.mod.glob.keeps I.bk) hcode (TB.code.keeps I.bk) hP' ht hc bP fun ctv h' tk hx hsz => ?_
    have I1 : Inv X pins σ H { s with heap := h', toks := tk } := I.kept hx
    have n : H h'.objs.size = none := I1.hok.fresh (Nat.le_refl _)
    exact h _ c' _ _ (lam_laid I1) (ext_new (ExtN.refl H) n) (tabs_new hT n) n upd_same (by rw [upd_ne (ne_of_none hco n)]; exact hco)
  | none =>
    refine PySem.W.kla_makeFunction (mg := X.mg) (c := c) (P := P) (ps := ps) (closure_ok hfree) I.ok.glob (I.mod.glob.keeps I.bk) hcode (TB.code.keeps I.bk) hP' ht hc TB.gP bP fun c' ctv h' tk hx hge hlt hrec htb => ?_
    obtain ⟨c2, oc, vs, t, e2, hoc, hd, hv⟩ := hrec
    cases e2
    have nC : H c' = none := I.hok.fresh hge
    have I1 := inv_table (t' := tk) (more := #[rawInt pos.line, rawInt pos.col, .ref c']) (h' := h') I hP (fun b o hb e => hx b o hb e) htb hge ⟨oc, vs, t, hoc, hd, hv⟩
    have n0 : H h'.objs.size = none := I.hok.fresh (Nat.le_trans hge (Nat.le_of_lt hlt))
    have eC : upd (upd H P (.tbl (ps ++ #[rawInt pos.line, rawInt pos.col, .ref c']))) c' (CodeO c' (X.env.qual ++ "<lambda>")) c' = some (CodeO c' (X.env.qual ++ "<lambda>")) := upd_same
    have hE : ExtN H (upd (upd H P (.tbl (ps ++ #[rawInt pos.line, rawInt pos.col, .ref c']))) c' (CodeO c' (X.env.qual ++ "<lambda>"))) := fun b o e n => by
      rw [upd_ne (ne_of_none e nC), upd_ne (fun z => n ps (Option.some.inj (e.symm.trans (by rw [z]; exact hP))))]
      exact e
    have hTn : Tabs T (upd (upd H P (.tbl (ps ++ #[rawInt pos.line, rawInt pos.col, .ref c']))) c' (CodeO c' (X.env.qual ++ "<lambda>"))) := fun p hp => by
      by_cases hb : p.1 = P
      · rw [hu p hp hb, hb]
        refine ⟨_, by rw [upd_ne (ne_of_none hP nC), upd_same], by simpa using PySem.TriplesOk_snoc _ _ _ _ ht, fun p' cv hcv => ?_⟩
        rcases among_app (pos := pos) (c := .ref c') _ ht (by simpa using hcv) with z | z
        · obtain ⟨c0, e1, e2⟩ := ha p' cv z
          exact ⟨c0, e1, hE _ _ e2 codeO_ne⟩
        · exact ⟨c', z, eC⟩
      · obtain ⟨ps', a1, a2, a3⟩ := hT p hp
        refine ⟨ps', by rw [upd_ne (ne_of_none a1 nC), upd_ne hb]; exact a1, a2, fun p' cv hcv => ?_⟩
        obtain ⟨c0, e1, e2⟩ := a3 p' cv hcv
        exact ⟨c0, e1, hE _ _ e2 codeO_ne⟩
    generalize upd (upd H P (.tbl (ps ++ #[rawInt pos.line, rawInt pos.col, .ref c']))) c' (CodeO c' (X.env.qual ++ "<lambda>")) = H1 at I1 hE hTn eC
    have n : H1 h'.objs.size = none := I1.hok.fresh (Nat.le_refl _)
    exact h _ c' _ _ (lam_laid I1) (ext_new hE n) (tabs_new hTn n) n0 upd_same (by rw [upd_ne (ne_of_none eC n)]; exact eC)
/-- a lambda, as a value -/
def tLamV (X : Cx) (T : List (Addr × Str)) (k : Nat) (t : XK → TE) : TE := fun σ H Q => Tabs T H ∧ ∀ f H1, ExtN H H1 → Tabs T H1 → H f = none → AskOf X k f t H1 → Q (.ref f) H1
theorem pe_lamV {T : List (Addr × Str)} {c P : Addr} {k : Nat} {params : Arguments} {body : Expr} {scope : Scope} {t : XK → TE} {lpos : Pos}
    (TB : TabB X.base X.mg c P) (hcode : X.env.code = .ref c) (hmT : (P, X.env.qual ++ "<lambda>") ∈ T) (hu : ∀ p ∈ T, p.1 = P → p.2 = X.env.qual ++ "<lambda>") (L : LamS X.env.scope scope) (hdef : defaultsOf params X.env = ([], []))
    (hbind : ∀ (q : Str) (cl : List (Str × Addr)) (pm cv ctv : Value), bindArgs (PySem.W.kla_fn "<lambda>" q params body scope cl pm cv ctv) ⟨[], []⟩ = pure [])
    (hbody : ∀ (A : Around) (outer : List Env) (s : Shared) (H : Hp) (E : XK) (f c' : Addr), Room k (A.deeper (lamEnv X scope s.heap.objs.size f c')) → PE (lamCx X A outer s H E scope f c') body (t E)) :
    PE X (.Lambda params body scope lpos) (tLamV X T k t) := by
  refine ⟨fun pins s σ H Q I h => ?_⟩
  obtain ⟨hT, h⟩ := h
  exact lam_make3 I TB hcode hmT hu hT hdef (L.has I.ok) fun f c' H1 s' I1 eN T1 nf hf hc => ⟨.ref f, H1, I1, rfl, h f H1 eN T1 nf ⟨params, body, scope, c', hf, hc, L, hbind, hbody⟩⟩
end
/-! ### the def that asks -/
/-- the def that calls what it got; R: what is to be known of the heap where it calls -/
def GivesR (X : Cx) (Ng : List Str) (x : Str) (sg : Scope) (g : Addr) (cdg : Value) (bg : List Stmt) (a : Str) (TT : (XK → Hp → VK → Prop) → Hp → VK → Prop) : Prop :=
  ∀ (R : Hp → Prop) (f : Addr) (s : Shared) (H : Hp) (Q : VK) (tl : XK → Hp → VK → Prop),
    (∀ (W : WX) (pn : List (Addr × Obj)) (xe : Value → Shared → Prop) (E : XK) (p1 p2 : Pos), Takes ((cxOf C8.CX0 X.prog X.w X.K X.mg X.base Ng x sg g cdg X.A X.stack s H C8.E0).tr pn xe) W → (∀ cls d σ' H', E cls d H' → W cls d σ' H') →
      PE ((cxOf C8.CX0 X.prog X.w X.K X.mg X.base Ng x sg g cdg X.A X.stack s H C8.E0).tr pn xe) (.Call (.Name a p1) [] [] p2) (fun σZ HZ Q => σZ[0]? = some (some (.ref f)) ∧ R HZ ∧ tl E HZ Q)) →
    R H → TT tl H Q →
    ∃ t, PSs (cxOf C8.CX0 X.prog X.w X.K X.mg X.base Ng x sg g cdg X.A X.stack s H C8.E0).nox bg t ∧ t { nx := fun _ H' => Q .non H', rt := Q } (L2.start Ng [.ref f]) H
theorem GivesR.to {X : Cx} {Ng : List Str} {x : Str} {sg : Scope} {g : Addr} {cdg : Value} {bg : List Stmt} {a q : Str} {TT : (XK → Hp → VK → Prop) → Hp → VK → Prop} (h : GivesR X Ng x sg g cdg bg a TT) : GivesTo X Ng x sg g cdg bg a q TT :=
  fun f c' s H Q tl act hc ht => h (fun HZ => HZ c' = some (CodeO c' q)) f s H Q tl act hc ht
section
variable {X : Cx} {pins : List (Addr × Obj)} {σ : L2.St} {H HZ : Hp} {s s1 : Shared}
/-- x(), in the def that got a lambda that is known -/
theorem pe_actR {CXg : CXT} {Eg : XK} {Ng : List Str} {qg : Str} {sg : Scope} {g f c' : Addr} {cdg : Value} {params : Arguments} {body : Expr} {scope : Scope} {k i : Nat} {a : Str} {pn : List (Addr × Obj)} {xe : Value → Shared → Prop} {W : WX} {E : XK} {tb : TE} {p1 p2 : Pos}
    (I : Inv X pins σ H s) (L : LamS X.env.scope scope)
    (hbind : ∀ (pm ctv : Value), bindArgs (PySem.W.kla_fn "<lambda>" (X.env.qual ++ "<lambda>") params body scope (cloFrom X.env.cells scope.names []) pm (.ref c') ctv) ⟨[], []⟩ = pure [])
    (tk : Takes ((cxOf CXg X.prog X.w X.K X.mg X.base Ng qg sg g cdg X.A X.stack s H Eg).tr pn xe) W) (hW : ∀ cls d σ' H', E cls d H' → W cls d σ' H') (hr : Room (k + 1) (X.A.deeper (envOfC qg sg s.heap.objs.size g cdg)))
    (hbody : ∀ (A : Around) (outer : List Env) (s : Shared) (H : Hp), Room k (A.deeper (lamEnv X scope s.heap.objs.size f c')) → PE (lamCx X A outer s H E scope f c') body tb)
    (hN : Ng[i]? = some a) (hv : Vis sg a) (hd : (a == ("__debug__" : Str)) = false := by decide) (hcd : (a == ("__classdict__" : Str)) = false := by decide) :
    PE ((cxOf CXg X.prog X.w X.K X.mg X.base Ng qg sg g cdg X.A X.stack s H Eg).tr pn xe) (.Call (.Name a p1) [] [] p2)
      (fun σZ HZ Q => σZ[i]? = some (some (.ref f)) ∧ (HZ f = some (LamE X.env.cells (X.env.qual ++ "<lambda>") params body scope c' f) ∧ HZ c' = some (CodeO c' (X.env.qual ++ "<lambda>"))) ∧ tb σ HZ Q) := by
  refine ⟨fun pinsZ sZ σZ HZ Q IZ h => ?_⟩
  obtain ⟨hs, ⟨hf, hc⟩, ht⟩ := h
  refine wpAny_Call_Name_kw (thn ((pe_var (pos := p1) (i := i) hN hv hd hcd).run pinsZ sZ σZ HZ (fun v H1 => v = .ref f ∧ H1 = HZ) IZ ⟨.ref f, hs, rfl, rfl⟩) fun u s1 ⟨v, H1, I1, r1, q1⟩ => ?_)
  obtain ⟨ev, eH⟩ := q1
  subst ev
  rw [eH] at I1
  obtain rfl : u = Value.ref f := r1
  obtain ⟨pm, ctv, of1⟩ := (I1.hok f _ hf).1
  refine PySem.W.callWith_F0 ⟨_, _, _, _, of1⟩ ?_
  have un : Un (frs X.stack) [] H HZ s.heap s1.heap := I1.base
  obtain ⟨⟨oc, vs, t, hoc, hdc, hvc⟩, _, _⟩ := I1.hok c' _ hc
  have rc : codeAny (model X.prog X.w) (X.A.deeper (envOfC qg sg s.heap.objs.size g cdg)) (.call (.ref f) ⟨[], []⟩) (CR (L2.CX X.prog X.w) (envOfC qg sg s.heap.objs.size g cdg :: X.stack) X.prog X.w HZ s1 Q E) s1 := by
    refine PySem.W.kla_callFunE hr.depth of1 rfl L.co L.gen rfl ⟨c', oc, vs, t, rfl, hoc, hdc, hvc⟩ ?_
    rw [hbind]
    refine wpAny_pure (wpAny_newFunctionEnv (fun y hy => (L.own y hy).2) (fun y hy => absurd hy (by simp)) (fun h₁ hns hsb => ⟨I1.nolimit.fresh _ hsb, ?_⟩) L.kind)
    show codeAny _ _ (.expr body (lamEnv X scope s1.heap.objs.size f c')) _ _
    have kp : ∀ b o, s1.heap.get? b = some o → h₁.get? b = some o := fun b o e => hsb.extBut b o (Nat.ne_of_lt (Heap.lt_size e)) (Heap.get?_push_of_some _ e)
    have J : Inv (lamCx X (X.A.deeper (envOfC qg sg s.heap.objs.size g cdg)) (envOfC qg sg s.heap.objs.size g cdg :: X.stack) s1 HZ E scope f c') [] σ HZ { s1 with heap := h₁, toks := s1.toks + ([] : List (Str × Value)).length } :=
      lam_start2 I L I1.env0 hr.hd un hns kp
    refine PySem.W.kla_codeExpr (wpAny_mono ((hbody _ _ s1 HZ (hr.deeper _)).run [] _ _ HZ Q J ht) (fun v s' hq => ?_) fun e s' hq => hq)
    obtain ⟨w', H', J', rv, q⟩ := hq
    exact ⟨w', H', J'.os, J'.bare, J'.base, J'.hok, rv, q⟩
  have hx : Passes (L2.CX X.prog X.w) ((cxOf CXg X.prog X.w X.K X.mg X.base Ng qg sg g cdg X.A X.stack s H Eg).tr pn xe) E := passes_call tk hW
  refine wpAny_call (codeAny_mono rc fun r s' hq => ?_)
  cases r with
  | error e => exact hx pinsZ σZ HZ s1 e s' I1 hq
  | ok fl =>
    cases fl with
    | ret u => exact I1.after hq
    | next => exact False.elim hq
    | brk => exact False.elim hq
    | cont => exact False.elim hq
end
/-! ### within a comprehension -/
/-- the block started where the def stood so -/
structure Blk0 (X : Cx) (pins : List (Addr × Obj)) (σ : L2.St) (s : Shared) (H : Hp) (fp : List Addr) : Prop where
  I : Inv X pins σ H s
  f : ∀ b ∈ fp, FpOk X pins H b
theorem Blk0.back {X : Cx} {pins pinsY : List (Addr × Obj)} {σ σY : L2.St} {s s' : Shared} {H H' : Hp} {fp : List Addr} {scope : Scope} {ce : Env} (B : Blk0 X pins σ s H fp) (IY : Inv (X.blk s H scope ce fp) pinsY σY H' s') : Inv X pins σ H' s' :=
  B.I.call' (ch := fp) IY.os IY.base IY.hok IY.bare fun b hb => ⟨(B.f b hb).2.2.2.1, (B.f b hb).2.1, (B.f b hb).2.2.2.2.1, (B.f b hb).2.2.2.2.2⟩
/-- x(y), x a def that calls what it got, y a lambda that is known -/
def tAskV (X : Cx) (k : Nat) (TT : (XK → Hp → VK → Prop) → Hp → VK → Prop) (σ0 : L2.St) (te : TE) : TE := fun σ H Q => te σ H fun v H1 => ∃ f t, v = .ref f ∧ AskOf X k f t H1 ∧ TT (fun E H' Q' => t E σ0 H' Q') H1 Q
theorem pe_askY {X : Cx} {pins : List (Addr × Obj)} {σ0 : L2.St} {s0 : Shared} {H0 : Hp} {fp : List Addr} {scope : Scope} {ce : Env} {TT : (XK → Hp → VK → Prop) → Hp → VK → Prop} {x a : Str} {st : Stmt} {k j : Nat} {Ng : List Str} {e : Expr} {te : TE} {p pos : Pos}
    (B : Blk0 X pins σ0 s0 H0 fp) (D : IsDef X.K X.mg x st) (Sg : FnScope Ng [a] (C8.fnScope st))
    (hb : ∀ (kV doc pm : Value) (an : Option Addr) (cdv ct : Value) (us : List Value), us.length = 1 → bindArgs (PySem.W.fnOf x x (C8.fnArgs st) (C8.fnBody st) (C8.fnScope st) .none kV doc pm an cdv ct) ⟨us, []⟩ = pure ([a].zip us))
    (hg : Gl (X.blk s0 H0 scope ce fp) x) (hNg : Ng[0]? = some a) (hva : Vis (C8.fnScope st) a) (hG : ∀ (g : Addr) (cdg : Value), GivesR X Ng x (C8.fnScope st) g cdg (C8.fnBody st) a TT) (hr : Room j X.A) (hk : k + 2 ≤ j) (he : PE (X.blk s0 H0 scope ce fp) e te)
    (hs : starEach [e] (X.blk s0 H0 scope ce fp).env = [(false, eval e (X.blk s0 H0 scope ce fp).env)] := by rfl)
    (hdb : (x == ("__debug__" : Str)) = false := by decide) (hd : (a == ("__debug__" : Str)) = false := by decide) (hcd : (a == ("__classdict__" : Str)) = false := by decide) :
    PE (X.blk s0 H0 scope ce fp) (.Call (.Name x p) [e] [] pos) (tAskV X k TT σ0 te) := by
  obtain ⟨g, fd, D, df⟩ := D
  obtain ⟨oc, od, dV, kV, doc, pm, an, cdv, ct, osl, rfl, lk, hcg⟩ := D.fn.ex
  have ed : dV = .none := df
  subst ed
  refine ⟨fun pinsY s σ H Q IY h => ?_⟩
  have h : te σ H fun v H1 => ∃ f t, v = .ref f ∧ AskOf X k f t H1 ∧ TT (fun E H' Q' => t E σ0 H' Q') H1 Q := h
  refine wpAny_Call_Name_kw (ld_glob IY hg D.mgf ?_ hdb)
  refine PySem.W.callWith_K (h₀ := X.base) IY.ok.mod.kin D.kp ?_ (by rw [hs]; rfl) (by rfl)
  rw [hs]
  show wpAny _ _ (spliced ((false, eval e (X.blk s0 H0 scope ce fp).env) :: backTo pos (starEach [] (X.blk s0 H0 scope ce fp).env))) _ _ s
  refine Calls.spliced_cons (thn (he.run pinsY s σ H _ IY h) fun u s1 ⟨v, H1, I1, r1, f, t, ev, ⟨params, body, lsc, c', hf, hc, L, hbind, hbody⟩, ht⟩ => ?_)
  subst ev
  obtain rfl : u = Value.ref f := r1
  refine Calls.spliced_nil ⟨I1.kIn, ?_⟩
  have IX := B.back I1
  have hbs : L2.Binds X.K (PySem.W.fnOf x x (C8.fnArgs st) (C8.fnBody st) (C8.fnScope st) .none kV doc pm an cdv ct) [a] [] := .all (hb kV doc pm an cdv ct)
  have rc : codeAny (model X.prog X.w) X.A (.call (.ref g) ⟨[.ref f], []⟩) (CR C8.CX0 X.stack X.prog X.w H1 s1 Q C8.E0) s1 := by
    refine run_ofS (N := Ng) (ps := [a]) (us := [.ref f]) (vs := [.ref f]) (k := k + 1) lk hcg Sg (hr.mono hk) IX.env0 (hbs s1 [.ref f] IX.kIn rfl) (.cons rfl .nil) rfl fun hr' => ?_
    obtain ⟨t', ht', hq'⟩ := hG g cdv (fun HZ => HZ f = some (LamE X.env.cells (X.env.qual ++ "<lambda>") params body lsc c' f) ∧ HZ c' = some (CodeO c' (X.env.qual ++ "<lambda>"))) f s1 H1 Q (fun E H' Q' => t E σ0 H' Q')
      (fun W pn xe E p1 p2 tk hW => pe_actR (i := 0) IX L (fun pm ctv => hbind _ _ _ _ _) tk hW hr' (fun A outer s H hr2 => hbody A outer s H E f c' hr2) hNg hva hd hcd) ⟨hf, hc⟩ ht
    exact ⟨t', ht'.nox, hq'⟩
  refine wpAny_call (codeAny_mono rc fun r s2 hq => ?_)
  cases r with
  | error e => exact (show False from hq).elim
  | ok fl =>
    cases fl with
    | ret u => exact I1.after hq
    | next => exact False.elim hq
    | brk => exact False.elim hq
    | cont => exact False.elim hq
end Fk

set_option maxHeartbeats 4000000
/-! a list comprehension whose tests and items may lean on what is known of the def around it (Blk0); steps as in HandS.Comp. -/
namespace Fk
open PySem PySem.Spec PyProof.Rows L2 LamX
section
variable {X : Cx}
theorem pe_lcI {elt tg iter : Expr} {ifs : List Expr} {scope : Scope} {own : List (Str × Nat)} {pos : Pos} {wi : TI} {g : TG} {tt : L2.St → TT} {te : L2.St → TE} (hc : X.calm = true) (hN : X.N.Nodup) (hi : PI X tg iter wi) (ok : BlkOk X.N X.env.scope scope own)
    (hg : ∀ (s : Shared) (H : Hp) (C : Addr) (cl : List (Str × Addr)) (fp : List Addr), PG (X.blk s H scope (compEnvC scope cl C X.env) fp) tg g)
    (ht : ∀ (pins : List (Addr × Obj)) (σ : L2.St) (s : Shared) (H : Hp) (C : Addr) (cl : List (Str × Addr)) (fp : List Addr), Blk0 X pins σ s H fp → PTs (X.blk s H scope (compEnvC scope cl C X.env) fp) ifs (tt σ))
    (he : ∀ (pins : List (Addr × Obj)) (σ : L2.St) (s : Shared) (H : Hp) (C : Addr) (cl : List (Str × Addr)) (fp : List Addr), Blk0 X pins σ s H fp → PE (X.blk s H scope (compEnvC scope cl C X.env) fp) elt (te σ)) (hs : ∀ x, foldedSetIterable iter X.env x = pure x := by intro _; rfl) :
    PE X (.ListComp elt [⟨tg, iter, ifs, 0⟩] scope pos) (fun σ => tLc wi g (tt σ) (te σ) (own.map (·.2)) σ) := by
  refine ⟨fun pins s σ H Q I h => ?_⟩
  rw [eval_ListComp]
  have hfree : ∀ y ∈ scope.names, y.2 = .free → ∃ c, X.env.cells.lookup y.1 = some c := fun y hy e => (ok.free y hy e).elim (fun k => I.ok.has _ (.inl k)) fun k => I.ok.has _ (.inr k)
  refine wpAny_comprehension_free (use := none) rfl hs (closure_ok hfree) ok.kind (fun y hy e => by rw [ok.uniq y hy, e]) (thn (hi.run pins s σ H _ I h) fun xv s1 hx => thn hx fun itv s2 h2 => ?_)
  obtain ⟨it, fp, tn, J, H2, e, I2, T, st2, f2, q⟩ := h2
  subst e
  refine wpAny_newObj_type (newEnv_comp ?_) (by show 0 ≤ sizeLine; decide)
  generalize hD : s2.heap.objs.size = D
  have hDn : H2 D = none := I2.hok.fresh (Nat.le_of_eq hD)
  obtain ⟨W, ⟨m0, w0⟩, turn⟩ := q D hDn
  generalize hs3 : ({ s2 with heap := s2.heap.push { cls := .type "list", data := .seq ([] : List Value).toArray } } : Shared) = s3
  have h3 : s3.heap = s2.heap.push { cls := .type "list", data := .seq ([] : List Value).toArray } := by rw [← hs3]
  have I3 : Inv X pins σ (upd H2 D (.lst [])) s3 := by
    rw [← hs3]
    refine I2.laid (t' := s2.toks) (fun b o e => Heap.get?_push_of_some _ e) (Nat.le_of_eq hD) ⟨Nat.zero_le _, [], 0, .nil, ?_⟩
    rw [← hD]
    exact Heap.get?_push_size _ rfl
  have f3 : ∀ b ∈ fp, FpOk X pins (upd H2 D (.lst [])) b ∧ b < s3.heap.objs.size := fun b hb => by
    obtain ⟨o, e, _⟩ := T.obj _ _ st2 b hb
    have hlt := Heap.lt_size e
    refine ⟨⟨?_, (f2 b hb).2⟩, by rw [h3, Heap.size_push]; exact Nat.lt_succ_of_lt hlt⟩
    rw [upd_ne (by rw [← hD]; exact Nat.ne_of_lt hlt)]
    exact (f2 b hb).1
  have B0 : Blk0 X pins σ s3 (upd H2 D (.lst [])) fp := ⟨I3, fun b hb => (f3 b hb).1⟩
  have st3 : tn 0 s3.heap := T.keep _ _ _ st2 fun b _ o e => by rw [h3]; exact Heap.get?_push_of_some _ e
  have I4 := block_start I3 ok hN f3
  have pg := hg s3 (upd H2 D (.lst [])) s3.heap.objs.size (cellsFrom (s3.heap.objs.size + 1) scope.names (cloFrom X.env.cells scope.names [])) fp
  have pt := ht pins σ s3 (upd H2 D (.lst [])) s3.heap.objs.size (cellsFrom (s3.heap.objs.size + 1) scope.names (cloFrom X.env.cells scope.names [])) fp B0
  have pe := he pins σ s3 (upd H2 D (.lst [])) s3.heap.objs.size (cellsFrom (s3.heap.objs.size + 1) scope.names (cloFrom X.env.cells scope.names [])) fp B0
  show codeAny _ _ (.compStart (.ListComp elt [⟨tg, iter, ifs, 0⟩] scope pos) 0 (.ref it) (.ref D) (compEnvC scope (cellsFrom (s3.heap.objs.size + 1) scope.names (cloFrom X.env.cells scope.names [])) s3.heap.objs.size X.env)) (compPost (model X.prog X.w) X.A X.xe none (EP X pins σ Q) (.ref D) s3.heap.objs.size) { s3 with heap := pushCells (s3.heap.push { cls := .type "dict", data := .dict #[] }) scope.names }
  have nfp : ∀ b ∈ fp, (upd H2 D (.lst [])) b = none := fun b hb => (f3 b hb).1.1
  generalize hce : compEnvC scope (cellsFrom (s3.heap.objs.size + 1) scope.names (cloFrom X.env.cells scope.names [])) s3.heap.objs.size X.env = ce at I4 pg pt pe ⊢
  have cL : ce.locals = s3.heap.objs.size := by subst hce; rfl
  generalize hH3 : upd H2 D (.lst []) = H3 at I3 I4 pg pt pe w0 nfp f3 B0
  generalize hs4 : ({ s3 with heap := pushCells (s3.heap.push { cls := .type "dict", data := .dict #[] }) scope.names } : Shared) = s4 at I4 ⊢
  have st4 : tn 0 s4.heap := T.keep _ _ _ st3 fun b _ o e => by rw [← hs4]; exact pushCells_keeps _ _ _ _ (Heap.get?_push_of_some _ e)
  have stat : ∀ {σ' : L2.St} {H' : Hp} {s' : Shared}, Inv (X.blk s3 H3 scope ce fp) [] σ' H' s' → (∀ b ∈ fp, H' b = none) → ∀ b ∈ fp, FpOk (X.blk s3 H3 scope ce fp) [] H' b := fun {σ' H' s'} I' hn b hb =>
    ⟨hn b hb, (I'.ok.exf b hb).1, I'.ok.exfs b hb, .inl hb, fun x c e => (I'.ok.exf b hb).2 x c e, fun p hp => absurd (show p ∈ ([] : List (Addr × Obj)) ++ [] from hp) (by simp)⟩
  have loop : codeAny (model X.prog X.w) X.A (.compLoop (.ListComp elt [⟨tg, iter, ifs, 0⟩] scope pos) 0 (.ref it) (.ref D) ce) (compPost (model X.prog X.w) X.A X.xe none (EP X pins σ Q) (.ref D) s3.heap.objs.size) s4 := by
    refine compLoop_any (fun n s' => ∃ i H', Inv (X.blk s3 H3 scope ce fp) [] (wipe σ (own.map (·.2))) H' s' ∧ tn i s'.heap ∧ (∀ b ∈ fp, H' b = none) ∧ W i n H') ?_ m0 ⟨0, H3, I4, st4, nfp, w0⟩
    rintro n s5 ⟨i, H5, I5, st5, n5, w5⟩
    rcases turn i n H5 w5 with ⟨stop, qq⟩ | ⟨go, Nx, hNx, step⟩
    · refine thnF (T.done (X.blk s3 H3 scope ce fp) rfl rfl rfl hc i [] s5 _ H5 (fun _ _ => False) I5 (stat I5 n5) st5 stop) fun r s6 ⟨hr, I6⟩ => ?_
      subst hr
      have I7 : Inv X pins σ H5 s6 := B0.back I6
      have nC : H5 s3.heap.objs.size = none := by
        have z : H5 ce.locals = none := I6.free
        rw [cL] at z
        exact z
      obtain ⟨m, hn, _⟩ := I6.loc
      have hn : s6.heap.Ns ce.locals m := hn
      rw [cL] at hn
      refine ⟨m, hn, fun h'' sb => ?_⟩
      obtain ⟨k0, k1, k2, k3, k4, k5⟩ := I3.fpOk (Nat.le_refl _) nC
      exact ⟨.ref D, H5, I7.turned (t' := s6.toks) (fun b o hb e => (sb.2 b hb).trans e) k0 k1 k3 k4 k5, rfl, qq⟩
    · refine thnF (T.item (X.blk s3 H3 scope ce fp) rfl rfl rfl hc i [] s5 _ H5 (fun _ _ => False) I5 (stat I5 n5) st5 go) fun r s6 ⟨u, hr, h6⟩ => ?_
      subst hr
      refine thnF h6 fun _ s7 ⟨x, H7, I7, r7, y7, st7, n7⟩ => ?_
      refine thnF (pg.run _ s7 _ H7 x u _ (I7.pinned (stat I7 n7) (T.obj _ _ st7)) r7 (step x H7 y7)) fun _ s8 ⟨σ8, H8, I8, hw8, q8⟩ => ?_
      refine thnF (pt.run _ s8 σ8 H8 _ I8 q8) fun b s9 ⟨H9, I9, q9⟩ => ?_
      have fin : ∀ {s' : Shared} {H' : Hp}, Inv (X.blk s3 H3 scope ce fp) ([] ++ pinsAt fp s7.heap) σ8 H' s' → Nx H' → ∃ m, m < n ∧ ∃ i H', Inv (X.blk s3 H3 scope ce fp) [] (wipe σ (own.map (·.2))) H' s' ∧ tn i s'.heap ∧ (∀ b ∈ fp, H' b = none) ∧ W i m H' := fun {s' H'} I' nx => by
        obtain ⟨m', hm, w'⟩ := hNx H' nx
        have pin' : ∀ b ∈ fp, ∀ o, s7.heap.get? b = some o → s'.heap.get? b = some o ∧ H' b = none := fun b hb o e =>
          let z := I'.pin (b, o) (List.mem_append_right _ (List.mem_append_right _ (mem_pinsAt hb e)))
          ⟨z.1, z.2.1⟩
        refine ⟨m', hm, i + 1, H', (I'.unpinned (pins := [])).weak (by rw [← hw8, wipe_length]) (fun j v e => ?_), T.keep _ _ _ st7 fun b hb o e => (pin' b hb o e).1, fun b hb => ?_, w'⟩
        · rw [← hw8] at e
          exact (wipe_some e).1
        · obtain ⟨o, e, _⟩ := T.obj _ _ st7 b hb
          exact (pin' b hb o e).2
      cases b with
      | false =>
        simp only [Bool.false_eq_true, if_false] at q9 ⊢
        exact fin I9 q9
      | true =>
        simp only [if_true] at q9 ⊢
        refine thnF (pe.run _ s9 σ8 H9 _ I9 q9) fun z s10 ⟨yv, H10, I10, r10, acc, hD10, hz10, nx⟩ => ?_
        exact app_ok (X := X.blk s3 H3 scope ce fp) I10 hD10 hz10 r10 fun s11 I11 => fin I11 nx
  exact codeAny_compStart_list loop (T.self X.A 0 _ _ _ st4 loop)
end
end Fk

set_option maxHeartbeats 4000000
/-! lambdas of several defs: the name of a code object by its line; tables may be one and the same. -/
namespace Fk
open PySem PySem.Spec PyProof.Rows L2 LamX
/-- the table at P: what it tells bears the name of its line -/
def TabL (qf : Nat → Str) (P : Addr) (H : Hp) : Prop := ∃ ps : Array Value, H P = some (.tbl ps) ∧ TriplesOk ps.toList ∧ ∀ (pos : Pos) (cv : Value), codeAmong pos ps.toList = some cv → ∃ c, cv = .ref c ∧ H c = some (CodeO c (qf pos.line))
def TabsL (qf : Nat → Str) (Ps : List Addr) (H : Hp) : Prop := ∀ P ∈ Ps, TabL qf P H
theorem TabL.ext {qf : Nat → Str} {P : Addr} {H H' : Hp} (t : TabL qf P H) (e : ∀ b o, (∀ l, o ≠ .lst l) → (∀ l, o ≠ .dK l) → H b = some o → H' b = some o) : TabL qf P H' := by
  obtain ⟨ps, h1, h2, h3⟩ := t
  refine ⟨ps, e _ _ (fun l z => nomatch z) (fun l z => nomatch z) h1, h2, fun pos cv hc => ?_⟩
  obtain ⟨c, e1, e2⟩ := h3 pos cv hc
  exact ⟨c, e1, e _ _ (fun l z => nomatch z) (fun l z => nomatch z) e2⟩
theorem TabsL.ext {qf : Nat → Str} {Ps : List Addr} {H H' : Hp} (t : TabsL qf Ps H) (e : ∀ b o, (∀ l, o ≠ .lst l) → (∀ l, o ≠ .dK l) → H b = some o → H' b = some o) : TabsL qf Ps H' := fun P hP => (t P hP).ext e
theorem TabsL.same {qf : Nat → Str} {Ps : List Addr} {H H' : Hp} (t : TabsL qf Ps H) (e : ∀ b o, H b = some o → H' b = some o) : TabsL qf Ps H' := t.ext fun b o _ _ q => e b o q
theorem TabL.nil {qf : Nat → Str} {H : Hp} {P : Addr} (h : H P = some (.tbl #[])) : TabL qf P H := ⟨#[], h, True.intro, fun pos cv hc => by
  have z : codeAmong pos [] = some cv := hc
  simp [codeAmong] at z⟩
theorem among_line {pos p' : Pos} {c cv : Value} (l : List Value) (h : TriplesOk l) (hc : codeAmong p' (l ++ [rawInt pos.line, rawInt pos.col, c]) = some cv) : codeAmong p' l = some cv ∨ (cv = c ∧ p'.line = pos.line) := by
  fun_induction TriplesOk l with
  | case1 =>
    simp only [List.nil_append, rawInt, codeAmong] at hc
    split at hc
    · rename_i q
      have q1 := (Bool.and_eq_true_iff.mp q).1
      have q2 : ((pos.line : Nat) : Int) = ((p'.line : Nat) : Int) := by simpa using q1
      exact .inr ⟨(Option.some.inj hc).symm, by omega⟩
    · cases hc
  | case2 a t b u x rest ih =>
    simp only [List.cons_append, codeAmong] at hc ⊢
    split at hc
    · rename_i q
      rw [if_pos q]
      exact .inl hc
    · rename_i q
      rw [if_neg q]
      exact ih h hc
  | case3 l h1 h2 => exact h.elim
section
variable {X : Cx} {pins : List (Addr × Obj)} {σ : L2.St} {H : Hp} {s : Shared}
theorem lam_make4 {qf : Nat → Str} {Ps : List Addr} {c P : Addr} {params : Arguments} {body : Expr} {scope : Scope} {pos : Pos} {E : Value → Shared → Prop} {Q : Value → Shared → Prop} (I : Inv X pins σ H s) (TB : TabB X.base X.mg c P) (hcode : X.env.code = .ref c)
    (hm : P ∈ Ps) (hu : qf pos.line = X.env.qual ++ "<lambda>") (hT : TabsL qf Ps H) (hdef : defaultsOf params X.env = ([], [])) (hfree : ∀ y ∈ scope.names, y.2 = .free → ∃ c, X.env.cells.lookup y.1 = some c)
    (h : ∀ (f c' : Addr) (H1 : Hp) (s' : Shared), Inv X pins σ H1 s' → ExtN H H1 → TabsL qf Ps H1 → H f = none → H1 f = some (LamE X.env.cells (X.env.qual ++ "<lambda>") params body scope c' f) → H1 c' = some (CodeO c' (X.env.qual ++ "<lambda>")) → Q (.ref f) s') :
    wpAny (model X.prog X.w) X.A (eval (.Lambda params body scope pos) X.env) Q E s := by
  obtain ⟨ps, hP, ht, ha⟩ := hT _ hm
  refine PySem.W.kla_eval hdef ?_
  have bP : s.heap.BuiltinsAt X.mg P := TB.bm.keeps I.bk
  have hP' : s.heap.get? P = some { cls := .none, data := .fields ps } := I.hok P _ hP
  have tnew : ∀ {H1 : Hp} {f : Addr} {o : HO}, TabsL qf Ps H1 → H1 f = none → TabsL qf Ps (upd H1 f o) := fun t n => t.same fun b u q => by rw [upd_ne (ne_of_none q n)]; exact q
  cases hc : codeAmong pos ps.toList with
  | some cv =>
    obtain ⟨c', e, hco⟩ := ha pos cv hc
    subst e
    rw [hu] at hco
    refine PySem.W.kla_makeFunctionHit (mg := X.mg) (c := c) (P := P) (ps := ps) (closure_ok hfree) I.ok.glob (I.mod.glob.keeps I.bk) hcode (TB.code.keeps I.bk) hP' ht hc bP fun ctv h' tk hx hsz => ?_
    have I1 : Inv X pins σ H { s with heap := h', toks := tk } := I.kept hx
    have n : H h'.objs.size = none := I1.hok.fresh (Nat.le_refl _)
    exact h _ c' _ _ (lam_laid I1) (ext_new (ExtN.refl H) n) (tnew hT n) n upd_same (by rw [upd_ne (ne_of_none hco n)]; exact hco)
  | none =>
    refine PySem.W.kla_makeFunction (mg := X.mg) (c := c) (P := P) (ps := ps) (closure_ok hfree) I.ok.glob (I.mod.glob.keeps I.bk) hcode (TB.code.keeps I.bk) hP' ht hc TB.gP bP fun c' ctv h' tk hx hge hlt hrec htb => ?_
    obtain ⟨c2, oc, vs, t, e2, hoc, hd, hv⟩ := hrec
    cases e2
    have nC : H c' = none := I.hok.fresh hge
    have I1 := inv_table (t' := tk) (more := #[rawInt pos.line, rawInt pos.col, .ref c']) (h' := h') I hP (fun b o hb e => hx b o hb e) htb hge ⟨oc, vs, t, hoc, hd, hv⟩
    have n0 : H h'.objs.size = none := I.hok.fresh (Nat.le_trans hge (Nat.le_of_lt hlt))
    have eC : upd (upd H P (.tbl (ps ++ #[rawInt pos.line, rawInt pos.col, .ref c']))) c' (CodeO c' (X.env.qual ++ "<lambda>")) c' = some (CodeO c' (X.env.qual ++ "<lambda>")) := upd_same
    have hE : ExtN H (upd (upd H P (.tbl (ps ++ #[rawInt pos.line, rawInt pos.col, .ref c']))) c' (CodeO c' (X.env.qual ++ "<lambda>"))) := fun b o e n => by
      rw [upd_ne (ne_of_none e nC), upd_ne (fun z => n ps (Option.some.inj (e.symm.trans (by rw [z]; exact hP))))]
      exact e
    have hTn : TabsL qf Ps (upd (upd H P (.tbl (ps ++ #[rawInt pos.line, rawInt pos.col, .ref c']))) c' (CodeO c' (X.env.qual ++ "<lambda>"))) := fun p hp => by
      by_cases hb : p = P
      · subst hb
        refine ⟨_, by rw [upd_ne (ne_of_none hP nC), upd_same], by simpa using PySem.TriplesOk_snoc _ _ _ _ ht, fun p' cv hcv => ?_⟩
        rcases among_line (pos := pos) (c := .ref c') _ ht (by simpa using hcv) with z | ⟨z, z2⟩
        · obtain ⟨c0, e1, e2⟩ := ha p' cv z
          exact ⟨c0, e1, hE _ _ e2 codeO_ne⟩
        · exact ⟨c', z, by rw [z2, hu]; exact eC⟩
      · obtain ⟨ps', a1, a2, a3⟩ := hT p hp
        refine ⟨ps', by rw [upd_ne (ne_of_none a1 nC), upd_ne hb]; exact a1, a2, fun p' cv hcv => ?_⟩
        obtain ⟨c0, e1, e2⟩ := a3 p' cv hcv
        exact ⟨c0, e1, hE _ _ e2 codeO_ne⟩
    generalize upd (upd H P (.tbl (ps ++ #[rawInt pos.line, rawInt pos.col, .ref c']))) c' (CodeO c' (X.env.qual ++ "<lambda>")) = H1 at I1 hE hTn eC
    have n : H1 h'.objs.size = none := I1.hok.fresh (Nat.le_refl _)
    exact h _ c' _ _ (lam_laid I1) (ext_new hE n) (tnew hTn n) n0 upd_same (by rw [upd_ne (ne_of_none eC n)]; exact eC)
/-- a lambda, as a value -/
def tLamL (X : Cx) (qf : Nat → Str) (Ps : List Addr) (k : Nat) (t : XK → TE) : TE := fun σ H Q => TabsL qf Ps H ∧ ∀ f H1, ExtN H H1 → TabsL qf Ps H1 → H f = none → AskOf X k f t H1 → Q (.ref f) H1
theorem pe_lamL {qf : Nat → Str} {Ps : List Addr} {c P : Addr} {k : Nat} {params : Arguments} {body : Expr} {scope : Scope} {t : XK → TE} {lpos : Pos}
    (TB : TabB X.base X.mg c P) (hcode : X.env.code = .ref c) (hm : P ∈ Ps) (hu : qf lpos.line = X.env.qual ++ "<lambda>") (L : LamS X.env.scope scope) (hdef : defaultsOf params X.env = ([], []))
    (hbind : ∀ (q : Str) (cl : List (Str × Addr)) (pm cv ctv : Value), bindArgs (PySem.W.kla_fn "<lambda>" q params body scope cl pm cv ctv) ⟨[], []⟩ = pure [])
    (hbody : ∀ (A : Around) (outer : List Env) (s : Shared) (H : Hp) (E : XK) (f c' : Addr), Room k (A.deeper (lamEnv X scope s.heap.objs.size f c')) → PE (lamCx X A outer s H E scope f c') body (t E)) :
    PE X (.Lambda params body scope lpos) (tLamL X qf Ps k t) := by
  refine ⟨fun pins s σ H Q I h => ?_⟩
  obtain ⟨hT, h⟩ := h
  exact lam_make4 I TB hcode hm hu hT hdef (L.has I.ok) fun f c' H1 s' I1 eN T1 nf hf hc => ⟨.ref f, H1, I1, rfl, h f H1 eN T1 nf ⟨params, body, scope, c', hf, hc, L, hbind, hbody⟩⟩
end
/-- x(y) in the def itself -/
def tAskX (X : Cx) (k : Nat) (TT : (XK → Hp → VK → Prop) → Hp → VK → Prop) (te : TE) : TE := fun σ H Q => te σ H fun v H1 => ∃ f t, v = .ref f ∧ AskOf X k f t H1 ∧ TT (fun E H' Q' => t E σ H' Q') H1 Q
theorem pe_askX {X : Cx} {TT : (XK → Hp → VK → Prop) → Hp → VK → Prop} {x a : Str} {st : Stmt} {k j : Nat} {Ng : List Str} {e : Expr} {te : TE} {p pos : Pos}
    (D : IsDef X.K X.mg x st) (Sg : FnScope Ng [a] (C8.fnScope st))
    (hb : ∀ (kV doc pm : Value) (an : Option Addr) (cdv ct : Value) (us : List Value), us.length = 1 → bindArgs (PySem.W.fnOf x x (C8.fnArgs st) (C8.fnBody st) (C8.fnScope st) .none kV doc pm an cdv ct) ⟨us, []⟩ = pure ([a].zip us))
    (hg : Gl X x) (hNg : Ng[0]? = some a) (hva : Vis (C8.fnScope st) a) (hG : ∀ (g : Addr) (cdg : Value), GivesR X Ng x (C8.fnScope st) g cdg (C8.fnBody st) a TT) (hr : Room j X.A) (hk : k + 2 ≤ j) (he : PE X e te)
    (hs : starEach [e] X.env = [(false, eval e X.env)] := by rfl)
    (hdb : (x == ("__debug__" : Str)) = false := by decide) (hd : (a == ("__debug__" : Str)) = false := by decide) (hcd : (a == ("__classdict__" : Str)) = false := by decide) :
    PE X (.Call (.Name x p) [e] [] pos) (tAskX X k TT te) := by
  obtain ⟨g, fd, D, df⟩ := D
  obtain ⟨oc, od, dV, kV, doc, pm, an, cdv, ct, osl, rfl, lk, hcg⟩ := D.fn.ex
  have ed : dV = .none := df
  subst ed
  refine ⟨fun pins s σ H Q I h => ?_⟩
  have h : te σ H fun v H1 => ∃ f t, v = .ref f ∧ AskOf X k f t H1 ∧ TT (fun E H' Q' => t E σ H' Q') H1 Q := h
  refine wpAny_Call_Name_kw (ld_glob I hg D.mgf ?_ hdb)
  refine PySem.W.callWith_K (h₀ := X.base) I.ok.mod.kin D.kp ?_ (by rw [hs]; rfl) (by rfl)
  rw [hs]
  show wpAny _ _ (spliced ((false, eval e X.env) :: backTo pos (starEach [] X.env))) _ _ s
  refine Calls.spliced_cons (thn (he.run pins s σ H _ I h) fun u s1 ⟨v, H1, I1, r1, f, t, ev, ⟨params, body, lsc, c', hf, hc, L, hbind, hbody⟩, ht⟩ => ?_)
  subst ev
  obtain rfl : u = Value.ref f := r1
  refine Calls.spliced_nil ⟨I1.kIn, ?_⟩
  have hbs : L2.Binds X.K (PySem.W.fnOf x x (C8.fnArgs st) (C8.fnBody st) (C8.fnScope st) .none kV doc pm an cdv ct) [a] [] := .all (hb kV doc pm an cdv ct)
  have rc : codeAny (model X.prog X.w) X.A (.call (.ref g) ⟨[.ref f], []⟩) (CR C8.CX0 X.stack X.prog X.w H1 s1 Q C8.E0) s1 := by
    refine run_ofS (N := Ng) (ps := [a]) (us := [.ref f]) (vs := [.ref f]) (k := k + 1) lk hcg Sg (hr.mono hk) I1.env0 (hbs s1 [.ref f] I1.kIn rfl) (.cons rfl .nil) rfl fun hr' => ?_
    obtain ⟨t', ht', hq'⟩ := hG g cdv (fun HZ => HZ f = some (LamE X.env.cells (X.env.qual ++ "<lambda>") params body lsc c' f) ∧ HZ c' = some (CodeO c' (X.env.qual ++ "<lambda>"))) f s1 H1 Q (fun E H' Q' => t E σ H' Q')
      (fun W pn xe E p1 p2 tk hW => pe_actR (i := 0) I1 L (fun pm ctv => hbind _ _ _ _ _) tk hW hr' (fun A outer s H hr2 => hbody A outer s H E f c' hr2) hNg hva hd hcd) ⟨hf, hc⟩ ht
    exact ⟨t', ht'.nox, hq'⟩
  refine wpAny_call (codeAny_mono rc fun r s2 hq => ?_)
  cases r with
  | error e => exact (show False from hq).elim
  | ok fl =>
    cases fl with
    | ret u => exact I1.after hq
    | next => exact False.elim hq
    | brk => exact False.elim hq
    | cont => exact False.elim hq
end Fk

set_option maxHeartbeats 4000000
/-! A try with except clauses, of which any may have a name, and an else. -/
namespace Fk
open PySem PySem.Spec PyProof.Rows L2
section
variable {X : Cx} {body : List Stmt} {h₀ : ExceptHandler} {hds : List ExceptHandler} {l : List (Value × (Addr → Value → Option Addr → TS))} {pos : Pos} {tb : WX → TS} {Wout : WX}
theorem ps_tryAE {orelse : List Stmt} {u : TS} (ho : PSs X orelse u) (hs : X.stack = X.env :: X.outer) (hf : X.env.frame = some X.env.locals) (tk : Takes X Wout)
    (hb : ∀ (W : WX) (pn : List (Addr × Obj)) (xe : Value → Shared → Prop), Takes (X.tr pn xe) W → PassesOwn (model X.prog X.w) X.A X.env xe → PSs (X.tr pn xe) body (tb W))
    (hh : HdA X (h₀ :: hds) l) : PS X (.Try body (h₀ :: hds) orelse [] pos) (fun D σ H => tb (wMany X.K Wout D l) { D with nx := u D } σ H) := by
  refine ⟨fun pins s σ H D I h => ?_⟩
  have ok := I.ok
  have hfr : X.A.frames = some (X.env :: X.outer) := by rw [ok.frames, hs]
  refine wpAny_Try_except ?_
  refine wpAny_mono ((hb (wMany X.K Wout D l) (X.pn ++ pins) (fun e s₁ => wpAny (model X.prog X.w) X.A (noteFrame e X.env) (fun _ s₂ => wpAny (model X.prog X.w) X.A (setFlight e none) (fun _ s₃ =>
    wpAny (model X.prog X.w) X.A (handleBy e X.env (h₀ :: hds)) (SP X pins D) X.xe s₃) X.xe s₂) X.xe s₁) (fun u s' xx => ?_) PassesOwn.looking).run [] s σ H { D with nx := u D } (I.toTry _) h) (fun f s1 hsp => ?_) (fun e s1 he => he)
  · obtain ⟨a, B, sI, pins', σ', H', cls, d, rfl, J', nb, up, sky, na, os, ag, w⟩ := xx
    have J : Inv X pins σ' H' sI := J'.ofTry ok
    have sky' : Sky B (X.env :: X.outer) a (Zc cls d) X.env.locals s'.heap := by rw [← hs]; exact sky
    show wpAny (model X.prog X.w) X.A (noteFrame (.ref a) X.env) _ _ _
    refine Sky.land Zc.steady hfr hf sky' fun h3 fl3 up3 => ?_
    have J3 : Inv X pins σ' H' { s' with heap := h3 } := J.landed nb fl3.1 (up.trans up3) os ag
    obtain ⟨oe3, vs3, he3, hz3, hd3⟩ := fl3.there
    have notFr : ∀ {h : Heap} {o : Obj} {vs : Array Value}, h.FunFrames B (X.env :: X.outer) → h.get? a = some o → o.data = .fields vs → a ∉ frs (X.env :: X.outer) := fun {h o vs} ff e dd hm => by
      obtain ⟨_, o', e', hnf⟩ := ff.mem hm
      rw [e] at e'; cases e'
      exact hnf _ dd
    have nfr := notFr fl3.2.2.1 he3 hd3
    have nL : a ≠ X.env.locals := fun z => nfr (List.mem_filterMap.mpr ⟨X.env, List.mem_cons_self, by rw [hf, z]⟩)
    have nF : a ∉ X.fs := fun hm => by
      obtain ⟨e, he, q⟩ := List.mem_filterMap.mp hm
      exact nfr (List.mem_filterMap.mpr ⟨e, List.mem_cons_of_mem _ he, q⟩)
    have S3 := J3.suite he3 hd3 na nL nF
    have go : ∀ {hds' : List ExceptHandler} {l' : List (Value × (Addr → Value → Option Addr → TS))}, HdA X hds' l' → wMany X.K Wout D l' cls d σ' H' →
        wpAny (model X.prog X.w) X.A (handleBy (.ref a) X.env hds') (SP X pins D) X.xe { s' with heap := h3 } := by
      intro hds' l' hk
      induction hk with
      | nil =>
        intro w
        refine wpAny_handleBy_nil ?_
        obtain ⟨k1, k2, k3, oe, vs, T, oT, ts', he, hz, hd, h1, hr⟩ := id fl3
        unfold PySem.passOn
        refine wpAny_bind (wpAny_field he hd h1 ?_)
        rw [if_neg (show ¬ ((Value.ref T == Value.none) = true) from by simp)]
        have fin : wpAny (model X.prog X.w) X.A (setFlight (.ref a) X.env.frame) (fun _ s4 => wpAny (model X.prog X.w) X.A (throw (.ref a) : Sem Flow) (SP X pins D) X.xe s4) X.xe { s' with heap := h3 } := by
          rw [hf]
          refine HandSPX.setFlight_upZ fl3 fun h4 hh4 up4 => wpAny_throw (tk _ _ ?_)
          exact ⟨a, B, sI, pins, σ', H', cls, d, rfl, J, nb, (up.trans up3).trans up4, .inr (.inr (by rw [hs]; exact hh4)), na, os, ag, w⟩
        first
          | exact wpAny_bind (wpAny_pure (wpAny_bind fin))
          | exact wpAny_bind fin
      | @cons x c ts b₀ suite np pos' hds2 l2 hc hsu r ih =>
        intro w
        obtain ⟨b, hb1, hyes, hno⟩ := w
        refine wpAny_handleBy_cons (codeAny_handlers_test ?_) (by intro q; cases q)
        have LT : PySem.W.Looks (model X.prog X.w) h3 (typeOf (.ref a)) cls := fun A Q E s k q => wpAny_typeOf_ref (k _ _ he3) (by rw [hz3.1]; exact q)
        have LM := PySem.W.exm_one (M := model X.prog X.w) (J3.kIn) LT hb1
        have test : ∀ {Q : Value → Shared → Prop} {E : Value → Shared → Prop}, Q c { s' with heap := h3 } → wpAny (model X.prog X.w) (X.A.mark (some (.ref a))) (eval (.Name x np) X.env) Q E { s' with heap := h3 } := fun {Q E} q => by
          obtain ⟨hg, hdbg, hm | ⟨hm, hv, hnn⟩⟩ := hc
          · exact ld_glob (X := X.suite a ((a, oe3) :: (X.pn ++ pins))) S3 hg hm q hdbg
          · exact ld_blt (X := X.suite a ((a, oe3) :: (X.pn ++ pins))) S3 hg hm hv q hnn hdbg
        refine test (LM.here ?_)
        cases b with
        | true =>
          refine codeAny_handlers_suite ?_
          refine HandSPX.lands_againZ fl3 fun h4 fl4 up4 => ?_
          have J4 : Inv X pins σ' H' { s' with heap := h4 } := J.landed nb fl4.1 ((up.trans up3).trans up4) os ag
          obtain ⟨oe4, vs4, he4, hz4, hd4⟩ := fl4.there
          have S4 := J4.suite he4 hd4 na nL nF
          refine wpAny_mono ((hsu a oe4 cls d (X.pn ++ pins) hz4 ⟨_, hd4⟩).run [] _ _ H' _ S4 (hyes rfl a na)) (fun f s6 hsp => ?_) (fun _ _ z => False.elim z)
          cases f with
          | next =>
            obtain ⟨σ6, H6, S6, q6⟩ := hsp
            exact ⟨_, _, S6.unsuite ok, q6⟩
          | brk =>
            obtain ⟨σ6, H6, S6, q6⟩ := hsp
            exact ⟨_, _, S6.unsuite ok, q6⟩
          | cont =>
            obtain ⟨σ6, H6, S6, q6⟩ := hsp
            exact ⟨_, _, S6.unsuite ok, q6⟩
          | ret u =>
            obtain ⟨v6, σ6, H6, S6, r6, q6⟩ := hsp
            exact ⟨_, _, _, S6.unsuite ok, r6, q6⟩
        | false =>
          show wpAny _ X.A (handleBy (.ref a) X.env hds2) _ _ _
          exact ih (hno rfl)
      | @as x n i c ts b₀ suite np pos' hds2 l2 hN hi hln hc hsu r ih =>
        intro w
        have hloc : Loc X.env.scope n := .inl hln
        obtain ⟨b, hb1, hyes, hno⟩ := w
        refine wpAny_handleBy_cons (codeAny_handlers_test ?_) (by intro q; cases q)
        have LT : PySem.W.Looks (model X.prog X.w) h3 (typeOf (.ref a)) cls := fun A Q E s k q => wpAny_typeOf_ref (k _ _ he3) (by rw [hz3.1]; exact q)
        have LM := PySem.W.exm_one (M := model X.prog X.w) (J3.kIn) LT hb1
        have test : ∀ {Q : Value → Shared → Prop} {E : Value → Shared → Prop}, Q c { s' with heap := h3 } → wpAny (model X.prog X.w) (X.A.mark (some (.ref a))) (eval (.Name x np) X.env) Q E { s' with heap := h3 } := fun {Q E} q => by
          obtain ⟨hg, hdbg, hm | ⟨hm, hv, hnn⟩⟩ := hc
          · exact ld_glob (X := X.suite a ((a, oe3) :: (X.pn ++ pins))) S3 hg hm q hdbg
          · exact ld_blt (X := X.suite a ((a, oe3) :: (X.pn ++ pins))) S3 hg hm hv q hnn hdbg
        refine test (LM.here ?_)
        cases b with
        | true =>
          refine codeAny_handlers_suite_as ?_
          refine HandSPX.lands_againZ fl3 fun h4 fl4 up4 => ?_
          have J4 : Inv X pins σ' H' { s' with heap := h4 } := J.landed nb fl4.1 ((up.trans up3).trans up4) os ag
          obtain ⟨oe4, vs4, he4, hz4, hd4⟩ := fl4.there
          have S4 := J4.suite he4 hd4 na nL nF
          refine store_ok (X := X.suite a ((a, oe4) :: (X.pn ++ pins))) (v := .ref a) S4 hN hi hloc rfl (fun s5 S5 => ?_) (.inr hln)
          refine wpAny_mono ((hsu a oe4 cls d (X.pn ++ pins) hz4 ⟨_, hd4⟩).run [] s5 _ H' _ S5 (hyes rfl a na)) (fun f s6 hsp => ?_) (fun _ _ z => False.elim z)
          have end_ : ∀ {σ6 : L2.St} {H6 : Hp} {Q : Shared → Prop}, Inv (X.suite a ((a, oe4) :: (X.pn ++ pins))) [] σ6 H6 s6 → (∀ s7, Inv X pins (σ6.set i none) H6 s7 → Q s7) →
              wpAny (model X.prog X.w) X.A (do bindName X.env n .none; unbindBehindTheSuite X.env n pos') (fun _ s7 => Q s7) X.xe s6 := fun {σ6 H6 Q} S6 hq => gone_ok (S6.unsuite ok) hN hi hln hq
          cases f with
          | next =>
            obtain ⟨σ6, H6, S6, q6⟩ := hsp
            exact end_ S6 fun s7 J7 => ⟨_, _, J7, q6⟩
          | brk =>
            obtain ⟨σ6, H6, S6, q6⟩ := hsp
            exact end_ S6 fun s7 J7 => ⟨_, _, J7, q6⟩
          | cont =>
            obtain ⟨σ6, H6, S6, q6⟩ := hsp
            exact end_ S6 fun s7 J7 => ⟨_, _, J7, q6⟩
          | ret u =>
            obtain ⟨v6, σ6, H6, S6, r6, q6⟩ := hsp
            exact end_ S6 fun s7 J7 => ⟨_, _, _, J7, r6, q6⟩
        | false =>
          show wpAny _ X.A (handleBy (.ref a) X.env hds2) _ _ _
          exact ih (hno rfl)
    exact go hh w
  · cases f with
    | next =>
      obtain ⟨σ', H', J', q⟩ := hsp
      exact ho.run pins s1 σ' H' D (J'.ofTry ok) q
    | brk =>
      obtain ⟨σ', H', J', q⟩ := hsp
      exact ⟨σ', H', J'.ofTry ok, q⟩
    | cont =>
      obtain ⟨σ', H', J', q⟩ := hsp
      exact ⟨σ', H', J'.ofTry ok, q⟩
    | ret u =>
      obtain ⟨v, σ', H', J', r, q⟩ := hsp
      exact ⟨v, σ', H', J'.ofTry ok, r, q⟩
end
end Fk

set_option maxHeartbeats 4000000
namespace Fk
open PySem PySem.Spec PyProof.Rows L2
def top (i : Nat) : Stmt := PySem.Challenge.pw_forkhaul_k13_whole_disks.main.body.getD i (.Pass ⟨0, 0, 0, 0⟩)
abbrev s_ForkError_init : Stmt := inClass (top 1) 0
theorem sc_ForkError_init : FnScope ["self", "why"] ["self", "why"] (C8.fnScope s_ForkError_init) := C8.fnScope_by (by decide +kernel)

abbrev s_NoObject_init : Stmt := inClass (top 5) 0
theorem sc_NoObject_init : FnScope ["self", "name"] ["self", "name"] (C8.fnScope s_NoObject_init) := C8.fnScope_by (by decide +kernel)

abbrev s_is_id : Stmt := top 14
theorem sc_is_id : FnScope ["thing"] ["thing"] (C8.fnScope s_is_id) := C8.fnScope_by (by decide +kernel)

abbrev s_is_segment : Stmt := top 15
theorem sc_is_segment : FnScope ["thing"] ["thing"] (C8.fnScope s_is_segment) := C8.fnScope_by (by decide +kernel)

abbrev s_is_author : Stmt := top 16
theorem sc_is_author : FnScope ["thing"] ["thing"] (C8.fnScope s_is_author) := C8.fnScope_by (by decide +kernel)

abbrev s_is_text : Stmt := top 17
theorem sc_is_text : FnScope ["thing"] ["thing"] (C8.fnScope s_is_text) := C8.fnScope_by (by decide +kernel)

abbrev s_is_message : Stmt := top 18
theorem sc_is_message : FnScope ["thing"] ["thing"] (C8.fnScope s_is_message) := C8.fnScope_by (by decide +kernel)

abbrev s_is_time : Stmt := top 19
theorem sc_is_time : FnScope ["thing"] ["thing"] (C8.fnScope s_is_time) := C8.fnScope_by (by decide +kernel)

abbrev s_is_count : Stmt := top 20
theorem sc_is_count : FnScope ["thing"] ["thing"] (C8.fnScope s_is_count) := C8.fnScope_by (by decide +kernel)

abbrev s_is_limit : Stmt := top 21
theorem sc_is_limit : FnScope ["thing"] ["thing"] (C8.fnScope s_is_limit) := C8.fnScope_by (by decide +kernel)

abbrev s_are_ids : Stmt := top 22
theorem sc_are_ids : FnScope ["thing", "name"] ["thing"] (C8.fnScope s_are_ids) := C8.fnScope_by (by decide +kernel)

abbrev s_ascending : Stmt := top 23
theorem sc_ascending : FnScope ["names", "name"] ["names"] (C8.fnScope s_ascending) := C8.fnScope_by (by decide +kernel)

abbrev s__is_word : Stmt := top 24
theorem sc__is_word : FnScope ["thing", "signs"] ["thing", "signs"] (C8.fnScope s__is_word) := C8.fnScope_by (by decide +kernel)

abbrev s_Disk_init : Stmt := inClass (top 26) 0
theorem sc_Disk_init : FnScope ["self", "left"] ["self", "left"] (C8.fnScope s_Disk_init) := C8.fnScope_by (by decide +kernel)

abbrev s_Disk_left : Stmt := inClass (top 26) 1
theorem sc_Disk_left : FnScope ["self"] ["self"] (C8.fnScope s_Disk_left) := C8.fnScope_by (by decide +kernel)

abbrev s_Disk_limit : Stmt := inClass (top 26) 2
theorem sc_Disk_limit : FnScope ["self", "left"] ["self", "left"] (C8.fnScope s_Disk_limit) := C8.fnScope_by (by decide +kernel)

abbrev s_Disk_write : Stmt := inClass (top 26) 3
theorem sc_Disk_write : FnScope ["self", "name", "data", "safe"] ["self", "name", "data"] (C8.fnScope s_Disk_write) := C8.fnScope_by (by decide +kernel)

abbrev s_Disk_sync : Stmt := inClass (top 26) 4
theorem sc_Disk_sync : FnScope ["self", "name", "content"] ["self", "name"] (C8.fnScope s_Disk_sync) := C8.fnScope_by (by decide +kernel)

abbrev s_Disk_rename : Stmt := inClass (top 26) 5
theorem sc_Disk_rename : FnScope ["self", "old", "new"] ["self", "old", "new"] (C8.fnScope s_Disk_rename) := C8.fnScope_by (by decide +kernel)

abbrev s_Disk_remove : Stmt := inClass (top 26) 6
theorem sc_Disk_remove : FnScope ["self", "name"] ["self", "name"] (C8.fnScope s_Disk_remove) := C8.fnScope_by (by decide +kernel)

abbrev s_Disk_read : Stmt := inClass (top 26) 7
theorem sc_Disk_read : FnScope ["self", "name"] ["self", "name"] (C8.fnScope s_Disk_read) := C8.fnScope_by (by decide +kernel)

abbrev s_Disk_names : Stmt := inClass (top 26) 8
theorem sc_Disk_names : FnScope ["self"] ["self"] (C8.fnScope s_Disk_names) := C8.fnScope_by (by decide +kernel)

abbrev s_Disk_crashed : Stmt := inClass (top 26) 9
theorem sc_Disk_crashed : FnScope ["self", "mask", "other", "name", "content", "safe", "is_unsafe", "outcomes"] ["self", "mask"] (C8.fnScope s_Disk_crashed) := C8.fnScope_by (by decide +kernel)

abbrev s_Diskcheck_is_there : Stmt := inClass (top 26) 10
theorem sc_Diskcheck_is_there : FnScope ["self", "name"] ["self", "name"] (C8.fnScope s_Diskcheck_is_there) := C8.fnScope_by (by decide +kernel)

abbrev s_Diskcount_step : Stmt := inClass (top 26) 11
theorem sc_Diskcount_step : FnScope ["self"] ["self"] (C8.fnScope s_Diskcount_step) := C8.fnScope_by (by decide +kernel)

abbrev s__check_name : Stmt := top 27
theorem sc__check_name : FnScope ["name"] ["name"] (C8.fnScope s__check_name) := C8.fnScope_by (by decide +kernel)

abbrev s__checked_left : Stmt := top 28
theorem sc__checked_left : FnScope ["left"] ["left"] (C8.fnScope s__checked_left) := C8.fnScope_by (by decide +kernel)

abbrev s_is_value : Stmt := top 33
theorem sc_is_value : FnScope ["thing", "kinds", "kind", "name"] ["thing", "kinds"] (C8.fnScope s_is_value) := C8.fnScope_by (by decide +kernel)

abbrev s_Blob_init : Stmt := inClass (top 34) 0
theorem sc_Blob_init : FnScope ["self", "text"] ["self", "text"] (C8.fnScope s_Blob_init) := C8.fnScope_by (by decide +kernel)

abbrev s_Blob_eq : Stmt := inClass (top 34) 1
theorem sc_Blob_eq : FnScope ["self", "other"] ["self", "other"] (C8.fnScope s_Blob_eq) := C8.fnScope_by (by decide +kernel)

abbrev s_Blob_text : Stmt := inClass (top 34) 2
theorem sc_Blob_text : FnScope ["self"] ["self"] (C8.fnScope s_Blob_text) := C8.fnScope_by (by decide +kernel)

abbrev s_Tree_init : Stmt := inClass (top 35) 0
theorem sc_Tree_init : FnScope ["self", "entries", "segment"] ["self", "entries"] (C8.fnScope s_Tree_init) := C8.fnScope_by (by decide +kernel)

abbrev s_Tree_eq : Stmt := inClass (top 35) 1
theorem sc_Tree_eq : FnScope ["self", "other"] ["self", "other"] (C8.fnScope s_Tree_eq) := C8.fnScope_by (by decide +kernel)

abbrev s_Tree_entries : Stmt := inClass (top 35) 2
theorem sc_Tree_entries : FnScope ["self"] ["self"] (C8.fnScope s_Tree_entries) := C8.fnScope_by (by decide +kernel)

abbrev s_Commit_init : Stmt := inClass (top 36) 0
theorem sc_Commit_init : FnScope ["self", "tree", "parents", "author", "time", "message"] ["self", "tree", "parents", "author", "time", "message"] (C8.fnScope s_Commit_init) := C8.fnScope_by (by decide +kernel)

abbrev s_Commit_eq : Stmt := inClass (top 36) 1
theorem sc_Commit_eq : FnScope ["self", "other"] ["self", "other"] (C8.fnScope s_Commit_eq) := C8.fnScope_by (by decide +kernel)

abbrev s_Commit_tree : Stmt := inClass (top 36) 2
theorem sc_Commit_tree : FnScope ["self"] ["self"] (C8.fnScope s_Commit_tree) := C8.fnScope_by (by decide +kernel)

abbrev s_Commit_parents : Stmt := inClass (top 36) 3
theorem sc_Commit_parents : FnScope ["self"] ["self"] (C8.fnScope s_Commit_parents) := C8.fnScope_by (by decide +kernel)

abbrev s_Commit_author : Stmt := inClass (top 36) 4
theorem sc_Commit_author : FnScope ["self"] ["self"] (C8.fnScope s_Commit_author) := C8.fnScope_by (by decide +kernel)

abbrev s_Commit_time : Stmt := inClass (top 36) 5
theorem sc_Commit_time : FnScope ["self"] ["self"] (C8.fnScope s_Commit_time) := C8.fnScope_by (by decide +kernel)

abbrev s_Commit_message : Stmt := inClass (top 36) 6
theorem sc_Commit_message : FnScope ["self"] ["self"] (C8.fnScope s_Commit_message) := C8.fnScope_by (by decide +kernel)

abbrev s_Tag_init : Stmt := inClass (top 37) 0
theorem sc_Tag_init : FnScope ["self", "target", "label", "message"] ["self", "target", "label", "message"] (C8.fnScope s_Tag_init) := C8.fnScope_by (by decide +kernel)

abbrev s_Tag_eq : Stmt := inClass (top 37) 1
theorem sc_Tag_eq : FnScope ["self", "other"] ["self", "other"] (C8.fnScope s_Tag_eq) := C8.fnScope_by (by decide +kernel)

abbrev s_Tag_target : Stmt := inClass (top 37) 2
theorem sc_Tag_target : FnScope ["self"] ["self"] (C8.fnScope s_Tag_target) := C8.fnScope_by (by decide +kernel)

abbrev s_Tag_label : Stmt := inClass (top 37) 3
theorem sc_Tag_label : FnScope ["self"] ["self"] (C8.fnScope s_Tag_label) := C8.fnScope_by (by decide +kernel)

abbrev s_Tag_message : Stmt := inClass (top 37) 4
theorem sc_Tag_message : FnScope ["self"] ["self"] (C8.fnScope s_Tag_message) := C8.fnScope_by (by decide +kernel)

abbrev s_encode : Stmt := top 39
theorem sc_encode : FnScope ["thing", "lines", "segment", "kind", "name", "parents", "head"] ["thing"] (C8.fnScope s_encode) := C8.fnScope_by (by decide +kernel)

abbrev s_l_cell_at : Stmt := top 41
theorem sc_l_cell_at : FnScope ["_law_script", "_law_k"] ["_law_script", "_law_k"] (C8.fnScope s_l_cell_at) := C8.fnScope_by (by decide +kernel)

abbrev s_l_well : Stmt := top 42
theorem sc_l_well : FnScope ["_law_cell"] ["_law_cell"] (C8.fnScope s_l_well) := C8.fnScope_by (by decide +kernel)

abbrev s_l_draw : Stmt := top 43
theorem sc_l_draw : FnScope ["_law_well_here", "_law_size", "_law_found", "_law_seed", "_law_mixed"] ["_law_well_here", "_law_size"] (C8.fnScope s_l_draw) := C8.fnScope_by (by decide +kernel)

abbrev s_l_pick : Stmt := top 44
theorem sc_l_pick : FnScope ["_law_well_here", "_law_some"] ["_law_well_here", "_law_some"] (C8.fnScope s_l_pick) := C8.fnScope_by (by decide +kernel)

abbrev s_l_did : Stmt := top 45
theorem sc_l_did : FnScope ["_law_disk", "_law_deed_here", "_law_word", "_law_one", "_law_other", "e"] ["_law_disk", "_law_deed_here"] (C8.fnScope s_l_did) := C8.fnScope_by (by decide +kernel)

abbrev s_l_due : Stmt := top 46
theorem sc_l_due : FnScope ["_law_m", "_law_deed_here", "_law_word", "_law_one", "_law_other", "_law_files", "_law_had"] ["_law_m", "_law_deed_here"] (C8.fnScope s_l_due) := C8.fnScope_by (by decide +kernel)

abbrev s_l_after : Stmt := top 47
theorem sc_l_after : FnScope ["_law_m", "_law_mask", "_law_found", "_law_name", "_law_data", "_law_safe", "_law_is_safe", "_law_digit"] ["_law_m", "_law_mask"] (C8.fnScope s_l_after) := C8.fnScope_by (by decide +kernel)

abbrev s_l_same : Stmt := top 48
theorem sc_l_same : FnScope ["_law_disk", "_law_m", "_law_told", "_law_name"] ["_law_disk", "_law_m"] (C8.fnScope s_l_same) := C8.fnScope_by (by decide +kernel)

abbrev s_l_refused : Stmt := top 49
theorem sc_l_refused : FnScope ["_law_ask"] ["_law_ask"] (C8.fnScope s_l_refused) := C8.fnScope_by (by decide +kernel)

abbrev s_l_error : Stmt := top 50
theorem sc_l_error : FnScope ["_law_ask", "e"] ["_law_ask"] (C8.fnScope s_l_error) := C8.fnScope_by (by decide +kernel)

abbrev s_l_refusals_right : Stmt := top 51
theorem sc_l_refusals_right : FnScope ["_law_well_here", "_law_disk", "_law_m", "_law_odd", "_law_data", "_law_asks", "_law_name", "_law_ask", "_law_bad"] ["_law_well_here", "_law_disk", "_law_m"] (C8.fnScope s_l_refusals_right) := C8.fnScope_by (by decide +kernel)

abbrev s_l_deed : Stmt := top 52
theorem sc_l_deed : FnScope ["_law_well_here", "_law_names", "_law_word", "_law_other"] ["_law_well_here"] (C8.fnScope s_l_deed) := C8.fnScope_by (by decide +kernel)

abbrev s_law : Stmt := top 53
theorem sc_law : FnScope ["_law_script", "_law_cell", "_law_well_here", "_law_room", "_law_disk", "_law_m", "_law_step", "_law_deed_here", "_law_way", "_law_mask", "_law_other", "_law_after_here", "_law_bad"] ["_law_script"] (C8.fnScope s_law) := C8.fnScope_by (by decide +kernel)

structure Top (K : PySem.W.Frag) (mg : Str → Option Value) : Prop where
  d_is_id : IsDef K mg "is_id" s_is_id
  d_is_segment : IsDef K mg "is_segment" s_is_segment
  d_is_author : IsDef K mg "is_author" s_is_author
  d_is_text : IsDef K mg "is_text" s_is_text
  d_is_message : IsDef K mg "is_message" s_is_message
  d_is_time : IsDef K mg "is_time" s_is_time
  d_is_count : IsDef K mg "is_count" s_is_count
  d_is_limit : IsDef K mg "is_limit" s_is_limit
  d_are_ids : IsDef K mg "are_ids" s_are_ids
  d_ascending : IsDef K mg "ascending" s_ascending
  d__is_word : IsDef K mg "_is_word" s__is_word
  d__check_name : IsDef K mg "_check_name" s__check_name
  d__checked_left : IsDef K mg "_checked_left" s__checked_left
  d_is_value : IsDef K mg "is_value" s_is_value
  d_encode : IsDef K mg "encode" s_encode
  d_l_cell_at : IsDef K mg "_law_cell_at" s_l_cell_at
  d_l_well : IsDef K mg "_law_well" s_l_well
  d_l_draw : IsDef K mg "_law_draw" s_l_draw
  d_l_pick : IsDef K mg "_law_pick" s_l_pick
  d_l_did : IsDef K mg "_law_did" s_l_did
  d_l_due : IsDef K mg "_law_due" s_l_due
  d_l_after : IsDef K mg "_law_after" s_l_after
  d_l_same : IsDef K mg "_law_same" s_l_same
  d_l_refused : IsDef K mg "_law_refused" s_l_refused
  d_l_error : IsDef K mg "_law_error" s_l_error
  d_l_refusals_right : IsDef K mg "_law_refusals_right" s_l_refusals_right
  d_l_deed : IsDef K mg "_law_deed" s_l_deed
  d_law : IsDef K mg "law" s_law
  z_KeyError : mg "KeyError" = none
  z_ValueError : mg "ValueError" = none
  z_all : mg "all" = none
  z_bool : mg "bool" = none
  z_bytes : mg "bytes" = none
  z_dict : mg "dict" = none
  z_int : mg "int" = none
  z_isinstance : mg "isinstance" = none
  z_len : mg "len" = none
  z_list : mg "list" = none
  z_range : mg "range" = none
  z_set : mg "set" = none
  z_sorted : mg "sorted" = none
  z_str : mg "str" = none
  z_tuple : mg "tuple" = none
  g_HEX_DIGITS : ∃ u, mg "HEX_DIGITS" = some u ∧ RelV (V.str (Str.ofString "0123456789abcdef")) u
  g_LETTERS : ∃ u, mg "LETTERS" = some u ∧ RelV (V.str (Str.ofString "abcdefghijklmnopqrstuvwxyz")) u
  g_SEGMENT_SIGNS : ∃ u, mg "SEGMENT_SIGNS" = some u ∧ RelV (V.str (Str.ofString "abcdefghijklmnopqrstuvwxyz0123456789._-")) u
  g_LONGEST_WORD : ∃ u, mg "LONGEST_WORD" = some u ∧ RelV (V.int 12) u
  g_LONGEST_TEXT : ∃ u, mg "LONGEST_TEXT" = some u ∧ RelV (V.int 2000) u
  g_LONGEST_MESSAGE : ∃ u, mg "LONGEST_MESSAGE" = some u ∧ RelV (V.int 200) u
  g_LATEST : ∃ u, mg "LATEST" = some u ∧ RelV (V.int 1000000000000) u
  g_MOST_ENTRIES : ∃ u, mg "MOST_ENTRIES" = some u ∧ RelV (V.int 30) u
  g_MOST_PARENTS : ∃ u, mg "MOST_PARENTS" = some u ∧ RelV (V.int 6) u
section
variable {P : Program} {w : World} {K : PySem.W.Frag} {mg : Str → Option Value} {base : Heap}
theorem c_is_text (T : Top K mg) : C8.Cal P w K mg base 1 "is_text" (spWord isTextF) [] := by
  refine cal_ofT T.d_is_text sc_is_text (by decide +kernel) (by decide) (fun _ _ _ _ _ _ us hl => match us, hl with | [_], _ => rfl) (fun vs H Q E h => ?_) (fun f cdv A outer s H vs Q E hr h => ?_)
  · obtain ⟨x, rfl, _⟩ := h
    rfl
  · obtain ⟨v, rfl, t, q⟩ := h
    refine ⟨_, (psst_cons (PST.of (ps_if (PW.pt (pw_or (pt_not (pt_val (pe_callB call_isi (by rfl) T.z_isinstance (by decide +kernel) (pa_cons (pv 0) (pa_cons (pe_bltn (v := .ty "str") (by rfl) T.z_str (by decide +kernel) rfl) pa_nil))))) (pw_or1 (pt_cmpR op_gt (pe_callB call_len_str (by rfl) T.z_len (by decide +kernel) (pa_cons (pv 0) pa_nil)) (C8.pe_gc (by rfl) T.g_LONGEST_TEXT) (nomark _)))))
      (pss_one (ps_ret pe_bl))
      pss_nil))
      (CwR.psst_one (CwR.pst_ret (pet_and (pe_bm0 PySem.F.plainAttrs_str PySem.F.slot_str_isascii PySem.F.type_str_isascii mt_isascii (pv 0)) (pet_one (pet_bm0 PySem.F.plainAttrs_str PySem.F.slot_str_isprintable PySem.F.type_str_isprintable mt_isprintable (CwR.pet_replC (pv 0)))))))), ?_⟩
    refine ⟨v, rfl, ?_⟩
    dsimp only [tCons, tC, tNil]
    refine t.isi ?_
    refine ⟨_, rfl, ?_⟩
    rcases t.cases with ⟨x, rfl, hx, ho⟩ | hn
    · refine iteF ⟨.str x, rfl, x, rfl, small_line (by omega), _, _, rfl, rfl, _, rfl, ite2 (fun h1 => ?_) (fun h1 => ?_)⟩
      · have h1 := of_decide_eq_true h1
        refine of_ev (q _ (Same.refl _)) ?_
        unfold isTextF
        rw [decide_eq_false (by omega), Bool.false_and]
      · have h1 : x.length ≤ 2000 := by
          have : ¬ (2000 : Int) < (x.length : Nat) := fun z => h1 (decide_eq_true z)
          omega
        have key : isTextF x = plainT x := by
          unfold isTextF
          rw [decide_eq_true h1, plain_text]
          rfl
        refine ⟨.str x, rfl, rfl, x, rfl, rfl, trivial, _, rfl, ite2 (fun h2 => ?_) (fun h2 => ?_)⟩
        · refine ⟨.str x, rfl, x, rfl, by have : (Str.ofString "").length = 0 := by decide +kernel
                                          rw [this]; omega, rfl, _, rfl, rfl, trivial, of_ev (q _ (Same.refl _)) ?_⟩
          rw [key]
          unfold plainT
          rw [h2, Bool.true_and]
        · refine of_ev (q _ (Same.refl _)) ?_
          rw [key]
          unfold plainT
          rw [Bool.eq_false_iff.mpr h2, Bool.false_and]
    · rw [hn]
      exact iteT (of_ev0 hn (q _ (Same.refl _)))
def spAsc : Sp := fun vs H Q _ => ∃ (a : Addr) (t : Tab), vs = [.ref a] ∧ H a = some (.dK (kT t)) ∧ t.length < 64 ∧ ∀ (ys : List Str) (p : Addr) (H' : Hp), ys.Perm (t.map (·.1)) → sortedS ys = true → H p = none → Same H H' → H' p = some (.tup (ys.map V.str)) → Q (.ref p) H'
theorem c_ascending (T : Top K mg) : C8.Cal P w K mg base 1 "ascending" spAsc [] := by
  refine cal_of T.d_ascending sc_ascending (fun _ _ _ _ _ _ us hl => match us, hl with | [_], _ => rfl) (fun vs H Q E h => ?_) (fun f cdv A outer s H vs Q E hr h => ?_)
  · obtain ⟨a, t, rfl, _⟩ := h
    rfl
  · obtain ⟨a, t, rfl, ha, hl, q⟩ := h
    refine ⟨_, (pss_one (ps_ret (pe_callTy call_tuple_of (by rfl) T.z_tuple (by decide +kernel) (pa_cons (pe_callB (cr_sortedS) (by rfl) T.z_sorted (by decide +kernel) (pa_cons (pe_lock (pe_lc (own := [("name", 1)]) (g := gName 1) (by rfl) sc_ascending.nd (pi_keys (pv 0)) (blkOk_by (own := [("name", 1)]) (N := ["names", "name"]) (sc := C8.fnScope s_ascending) (by decide +kernel)) (fun _ _ _ _ _ => (pg_name (i := 1) sc_ascending.nd rfl (Or.inl rfl))) (fun _ _ _ _ _ => pts_nil) (fun _ _ _ _ _ => (pe_callTy SkE.call_str_str (by rfl) T.z_str (by decide +kernel) (pa_cons (pv 1) pa_nil))))) pa_nil)) pa_nil)))), ?_⟩
    refine ⟨a, _, ha, trivial, fun od => ⟨.ref a, rfl, a, od, rfl, .inl ⟨kT t, upd_same, fun D hD => ?_⟩⟩⟩
    have na : D ≠ a := fun z => by
      rw [z, upd_same] at hD
      cases hD
    have Y : Yields (Itk a od (kT t)) ((t.map (·.1)).map V.str) (fun H => H a = some (.frz od (.dK (kT t)))) := by
      rw [← kV_kT]
      exact yields_keys
    refine lc_pure (i := 1) (us := t.map (·.1)) (g := V.str) Y V.str (fun _ => true) hD (fun H s => s _ _ upd_same) (fun H u _ hu R r => r H (Same.refl H))
      (fun H u _ hu _ R r => ⟨_, rfl, u, rfl, r H (Same.refl H)⟩) (by rw [List.length_map]; omega) (fun H2 s2 h2 => ?_)
    rw [filt_all] at h2
    have sm : Same H (upd H2 a (.dK (kT t))) := fun b o e => by
      by_cases hb : b = a
      · rw [hb, upd_same, ← ha, ← hb, e]
      · rw [upd_ne hb]
        exact s2 _ _ (by rw [upd_ne hb]; exact e)
    have hD' : H D = none := by rw [upd_ne na] at hD; exact hD
    refine ⟨s2 _ _ upd_same, D, t.map (·.1), rfl, .inl (.inl ?_), by rw [List.length_map]; exact hl, fun ys p hp hs hn => ?_⟩
    · rw [upd_ne na]
      exact h2
    · refine ⟨p, _, rfl, .inl ⟨.inl (.inl upd_same), fun l hl => ?_⟩⟩
      have np : H p = none := sm.free hn
      have nl : H l = none := (sm.trans (same_new hn)).free hl
      exact q ys l _ hp hs nl ((sm.trans (same_new hn)).trans (same_new hl)) upd_same
theorem isi_intC {n : Int} {C : String} {b : Bool} {Q : VK} {H : Hp} (hk : (PySem.W.kitOne K (.type "int") (.type C)) = some b) (k : Q (.bl b) H) : rIsi K [.int n, .ty C] H Q :=
  ⟨_, _, .type "int", .type C, b, rfl, .ty C, .base (.int n), hk, k⟩
def OTN : List String := ["NoneType", "bool", "str", "tuple", "list", "dict"]
/-- no whole number -/
def NoInt (K : PySem.W.Frag) (H : Hp) (v : V) : Prop := ∃ T ∈ OTN, TyX K H v (.type T)
def spLimit (K : PySem.W.Frag) : Sp := fun vs H Q _ => ∃ v : V, vs = [v] ∧ ((v = .non ∧ Q (.bl true) H) ∨ (v ≠ .non ∧ ((∃ n : Int, v = .int n ∧ Q (.bl (decide (0 ≤ n))) H) ∨ (NoInt K H v ∧ Q (.bl false) H))))
def spCount (K : PySem.W.Frag) : Sp := fun vs H Q _ => ∃ v : V, vs = [v] ∧ ((∃ n : Int, v = .int n ∧ Q (.bl (decide (0 ≤ n))) H) ∨ (NoInt K H v ∧ Q (.bl false) H))
theorem c_is_count (T : Top K mg) : C8.Cal P w K mg base 1 "is_count" (spCount K) [] := by
  refine cal_of T.d_is_count sc_is_count (fun _ _ _ _ _ _ us hl => match us, hl with | [_], _ => rfl) (fun vs H Q E h => ?_) (fun f cdv A outer s H vs Q E hr h => ?_)
  · obtain ⟨x, rfl, _⟩ := h
    rfl
  · obtain ⟨v, rfl, h⟩ := h
    refine ⟨_, (pss_one (ps_ret (pe_and (pe_callB call_isi (by rfl) T.z_isinstance (by decide +kernel) (pa_cons (pv 0) (pa_cons (pe_bltn (v := .ty "int") (by rfl) T.z_int (by decide +kernel) rfl) pa_nil))) (pe_and (pe_not (pe_callB call_isi (by rfl) T.z_isinstance (by decide +kernel) (pa_cons (pv 0) (pa_cons (pe_bltn (v := .ty "bool") (by rfl) T.z_bool (by decide +kernel) rfl) pa_nil)))) (pe_one (pe_cmpR op_ge (pv 0) pe_int (nomark _))))))), ?_⟩
    refine ⟨v, rfl, ?_⟩
    dsimp only [tCons, tC, tNil]
    rcases h with ⟨n, rfl, q⟩ | ⟨⟨T, hT, ty⟩, q⟩
    · refine isi_intC (b := true) (kit_ty (by decide +kernel)) ⟨_, rfl, iteT ?_⟩
      refine ⟨.int n, rfl, ?_⟩
      dsimp only [tCons, tC, tNil]
      exact isi_intC (b := false) (kit_ty (by decide +kernel)) ⟨_, rfl, _, rfl, iteT ⟨_, rfl, _, _, rfl, rfl, q⟩⟩
    · have no : ∀ T' : String, T = T' → (PySem.W.kitOne K (.type T') (.type "int")) = some false → ∀ R : VK, R (.bl false) H → rIsi K [v, .ty "int"] H R := fun T' e hk R r => by
        subst e
        exact ⟨_, _, .type T, .type "int", false, rfl, .ty "int", ty, hk, r⟩
      simp only [OTN, List.mem_cons, List.not_mem_nil, or_false] at hT
      rcases hT with e | e | e | e | e | e
      · exact no _ e (kit_ty (by decide +kernel)) _ ⟨_, rfl, iteF q⟩
      · subst e
        refine ⟨_, _, .type "bool", .type "int", true, rfl, .ty "int", ty, kit_ty (by decide +kernel), _, rfl, iteT ⟨v, rfl, ?_⟩⟩
        dsimp only [tCons, tC, tNil]
        exact ⟨_, _, .type "bool", .type "bool", true, rfl, .ty "bool", ty, kit_ty (by decide +kernel), _, rfl, _, rfl, iteF q⟩
      · exact no _ e (kit_ty (by decide +kernel)) _ ⟨_, rfl, iteF q⟩
      · exact no _ e (kit_ty (by decide +kernel)) _ ⟨_, rfl, iteF q⟩
      · exact no _ e (kit_ty (by decide +kernel)) _ ⟨_, rfl, iteF q⟩
      · exact no _ e (kit_ty (by decide +kernel)) _ ⟨_, rfl, iteF q⟩
theorem c_is_limit (T : Top K mg) : C8.Cal P w K mg base 2 "is_limit" (spLimit K) [] := by
  refine cal_of T.d_is_limit sc_is_limit (fun _ _ _ _ _ _ us hl => match us, hl with | [_], _ => rfl) (fun vs H Q E h => ?_) (fun f cdv A outer s H vs Q E hr h => ?_)
  · obtain ⟨x, rfl, _⟩ := h
    rfl
  · obtain ⟨v, rfl, h⟩ := h
    refine ⟨_, (pss_one (ps_ret (pe_or (pe_cmpR op_isN (pv 0) pe_non (nomark _)) (pe_one (C8.pe_c (c_is_count T) hr (by decide) (by rfl) (pa_cons (pv 0) pa_nil)))))), ?_⟩
    refine ⟨v, rfl, rfl, _, rfl, ?_⟩
    rcases h with ⟨rfl, q⟩ | ⟨n, h⟩
    · exact iteT q
    · rw [decide_eq_false n]
      exact iteF ⟨v, rfl, v, rfl, h⟩
end

end Fk

set_option maxHeartbeats 4000000
namespace Fk
open PySem PySem.Spec PyProof.Rows L2
theorem passNo {X : Cx} {P : Program} {w : World} {σ : L2.St} : PassesAt (L2.CX P w) X σ (fun _ _ _ => False) := fun _ _ _ _ _ _ h => by
  obtain ⟨_, _, _, _, _, _, _, _, _, _, _, _, z⟩ := h
  exact z.elim
/-- the errors' classes -/
structure E4 where
  N : Addr
  M : Addr
  X : Addr
  O : Addr
def E4.at (e : E4) : Nat → Addr
  | 0 => e.N
  | 1 => e.M
  | 2 => e.X
  | _ => e.O
/-- the disk's class, the blob's, the errors -/
structure TopD (K : PySem.W.Frag) (mg : Str → Option Value) (cD cB : Addr) (e : E4) (iF iO : Addr) : Prop extends Top K mg where
  insD : C8.InsC K cD
  mgD : mg "Disk" = some (.ref cD)
  kD1 : IniK K cD "Disk.__init__" s_Disk_init ["self", "left"] 1 ["left"] (fun vs zs => vs ++ zs)
  iniD : ∃ f fd ds, Mk K cD f ∧ C8.Fun K "__init__" "Disk.__init__" s_Disk_init f fd ∧ Vals [V.non] ds ∧ Binds K fd ["self", "left"] ds
  pDleft : PDef K cD "left" "Disk.left" s_Disk_left
  d_limit : MDef K cD "limit" "Disk.limit" s_Disk_limit
  d_write : MDef K cD "write" "Disk.write" s_Disk_write
  d_sync : MDef K cD "sync" "Disk.sync" s_Disk_sync
  d_rename : MDef K cD "rename" "Disk.rename" s_Disk_rename
  d_remove : MDef K cD "remove" "Disk.remove" s_Disk_remove
  d_read : MDef K cD "read" "Disk.read" s_Disk_read
  d_names : MDef K cD "names" "Disk.names" s_Disk_names
  d_crashed : MDef K cD "crashed" "Disk.crashed" s_Disk_crashed
  d_check : MDef K cD "_check_is_there" "Disk._check_is_there" s_Diskcheck_is_there
  d_count : MDef K cD "_count_step" "Disk._count_step" s_Diskcount_step
  nF : NoAttr K cD "_files"
  nL : NoAttr K cD "_steps_left"
  insB : C8.InsC K cB
  mgB : mg "Blob" = some (.ref cB)
  kBB : PySem.W.kitOne K (.ref cB) (.ref cB) = some true
  iniB : ∃ f fd, Mk K cB f ∧ C8.Fun K "__init__" "Blob.__init__" s_Blob_init f fd ∧ fd.defaults = .none
  pBtext : PDef K cB "text" "Blob.text" s_Blob_text
  nT : NoAttr K cB "_text"
  eN : ErrC K mg "BadName" "why" e.N iF
  eM : ErrC K mg "BadCommand" "why" e.M iF
  eX : ErrC K mg "Crash" "why" e.X iF
  eO : ErrC K mg "NoObject" "name" e.O iO
  ex : ∀ i j, i < 4 → j < 4 → PySem.W.exmOne K (.ref (e.at i)) (.ref (e.at j)) = some (decide (i = j))
section
variable {P : Program} {w : World} {K : PySem.W.Frag} {mg : Str → Option Value} {base : Heap} {cD cB iF iO : Addr} {e : E4}
theorem TopD.cl (T : TopD K mg cD cB e iF iO) : Cls K cD := T.insD.cl
theorem TopD.g_Blob (T : TopD K mg cD cB e iF iO) : ∃ u, mg "Blob" = some u ∧ RelV (.ref cB) u := ⟨_, T.mgB, rfl⟩
theorem calX_of {x : Str} {st : Stmt} {N ps : List Str} {k : Nat} {sp : Sp} (D : IsDef K mg x st) (S : FnScope N ps (C8.fnScope st))
    (hb : ∀ (kV doc pm : Value) (an : Option Addr) (cdv ct : Value) (us : List Value), us.length = ps.length → bindArgs (PySem.W.fnOf x x (C8.fnArgs st) (C8.fnBody st) (C8.fnScope st) .none kV doc pm an cdv ct) ⟨us, []⟩ = pure (ps.zip us))
    (len : ∀ vs H Q E, sp vs H Q E → vs.length = ps.length)
    (hbody : ∀ (f : Addr) (cdv : Value) (A : Around) (outer : List Env) (s : Shared) (H : Hp) (vs : List V) (Q : VK) (E : XK), Room k (A.deeper (envOfC x (C8.fnScope st) s.heap.objs.size f cdv)) → sp vs H Q E →
      ∃ t, PSs (cxOf (L2.CX P w) P w K mg base N x (C8.fnScope st) f cdv A outer s H E) (C8.fnBody st) t ∧ t { nx := fun _ H' => Q .non H', rt := Q } (start N vs) H) : CalX P w K mg base (L2.CX P w) (k + 1) x sp [] := by
  obtain ⟨f, fd, D, df⟩ := D
  obtain ⟨oc, od, dV, kV, doc, pm, an, cdv, ct, osl, rfl, lk, hcd⟩ := D.fn.ex
  exact ⟨f, _, ps, [], fn_of lk hcd S len fun A outer s H vs Q E hr hsp => hbody f cdv A outer s H vs Q E hr hsp, D.mgf, D.kp, D.fn.binds df hb, .nil⟩
def OTB : List String := ["NoneType", "bool", "int", "tuple", "list", "dict"]
/-- no text -/
def NoStr (K : PySem.W.Frag) (H : Hp) (v : V) : Prop := ∃ T ∈ OTB, TyX K H v (.type T)
theorem noStr_kit {T : String} (h : T ∈ OTB) : PySem.W.kitOne K (.type T) (.type "str") = some false := by
  simp only [OTB, List.mem_cons, List.not_mem_nil, or_false] at h
  rcases h with rfl | rfl | rfl | rfl | rfl | rfl <;> exact kit_ty (by decide +kernel)
theorem noStr_isi {H : Hp} {v : V} (h : NoStr K H v) {R : VK} (r : R (.bl false) H) : rIsi K [v, .ty "str"] H R := by
  obtain ⟨T, hT, ty⟩ := h
  exact ⟨_, _, .type T, .type "str", false, rfl, .ty "str", ty, noStr_kit hT, r⟩
theorem str_isi {H : Hp} {x : Str} {R : VK} (r : R (.bl true) H) : rIsi K [.str x, .ty "str"] H R := ⟨_, _, .type "str", .type "str", true, rfl, .ty "str", .base (.str x), kit_ty (by decide +kernel), r⟩
/-- told of a wrong argument -/
def Bad (c : Addr) (H : Hp) (E : XK) : Prop := ∀ (dd : Addr) (y : V) (H' : Hp), Same H H' → H' dd = some (.xd [("why", y)]) → E (.ref c) (some dd) H'
theorem Bad.same {c : Addr} {H H1 : Hp} {E : XK} (b : Bad c H E) (s : Same H H1) : Bad c H1 E := fun dd y H' s' h => b dd y H' (s.trans s') h
def spName (K : PySem.W.Frag) (e : E4) : Sp := fun vs H Q E => ∃ v : V, vs = [v] ∧ ((∃ x : Str, v = .str x ∧ Q .non H) ∨ (NoStr K H v ∧ Bad e.N H E))
theorem cx__check_name (T : TopD K mg cD cB e iF iO) : CalX P w K mg base (L2.CX P w) 3 "_check_name" (spName K e) [] := by
  refine calX_of T.d__check_name sc__check_name (fun _ _ _ _ _ _ us hl => match us, hl with | [_], _ => rfl) (fun vs H Q E h => ?_) (fun f cdv A outer s H vs Q E hr h => ?_)
  · obtain ⟨v, rfl, _⟩ := h
    rfl
  · obtain ⟨v, rfl, h⟩ := h
    refine ⟨_, (pss_one (ps_if (pt_not (pt_val (pe_callB call_isi (by rfl) T.z_isinstance (by decide +kernel) (pa_cons (pv 0) (pa_cons (pe_bltn (v := .ty "str") (by rfl) T.z_str (by decide +kernel) rfl) pa_nil)))))
      (pss_one (ps_raise rfl (takes_of rfl rfl rfl rfl) (rs_of T.eN (hr.mono (by decide)) (by rfl) (pa_cons pe_str pa_nil))))
      pss_nil)), ?_⟩
    refine ⟨v, rfl, ?_⟩
    dsimp only [tCons, tC, tNil]
    rcases h with ⟨x, rfl, q⟩ | ⟨n, q⟩
    · exact str_isi ⟨_, rfl, iteF q⟩
    · exact noStr_isi n ⟨_, rfl, iteT ⟨(by show 1 ≤ 1000; decide), do_raise T.eN fun dd H3 s3 _ h3 => q dd _ H3 s3 h3⟩⟩
def spLeft (K : PySem.W.Frag) (e : E4) : Sp := fun vs H Q E => ∃ v : V, vs = [v] ∧ ((∃ l : Option Int, v = optI l ∧ (∀ n, l = some n → 0 ≤ n) ∧ Q v H) ∨ (((∃ n : Int, v = .int n ∧ n < 0) ∨ NoInt K H v) ∧ v ≠ .non ∧ Bad e.M H E))
theorem cx__checked_left (T : TopD K mg cD cB e iF iO) : CalX P w K mg base (L2.CX P w) 3 "_checked_left" (spLeft K e) [] := by
  refine calX_of T.d__checked_left sc__checked_left (fun _ _ _ _ _ _ us hl => match us, hl with | [_], _ => rfl) (fun vs H Q E h => ?_) (fun f cdv A outer s H vs Q E hr h => ?_)
  · obtain ⟨v, rfl, _⟩ := h
    rfl
  · obtain ⟨v, rfl, h⟩ := h
    refine ⟨_, (pss_cons (ps_if (pt_not (pt_val (C8.pe_c (c_is_limit T.toTop) hr (by decide) (by rfl) (pa_cons (pv 0) pa_nil))))
      (pss_one (ps_raise rfl (takes_of rfl rfl rfl rfl) (rs_of T.eM (hr.mono (by decide)) (by rfl) (pa_cons pe_str pa_nil))))
      pss_nil)
      (pss_one (ps_ret (pv 0)))), ?_⟩
    refine ⟨v, rfl, v, rfl, ?_⟩
    rcases h with ⟨l, rfl, hn, q⟩ | ⟨h, hv, q⟩
    · cases l with
      | none => exact .inl ⟨rfl, _, rfl, iteF ⟨_, rfl, q⟩⟩
      | some n => exact .inr ⟨(fun z => nomatch z), .inl ⟨n, rfl, _, rfl, by rw [decide_eq_true (hn n rfl)]; exact iteF ⟨_, rfl, q⟩⟩⟩
    · have fin : ∀ H, Bad e.M H E → _ := fun H q => do_raise T.eM (Hc := H) (y := .str "the steps that are left are None or a whole number of at least 0") (Q := E) fun dd H3 s3 _ h3 => q dd _ H3 s3 h3
      rcases h with ⟨n, rfl, hn⟩ | h
      · exact .inr ⟨hv, .inl ⟨n, rfl, _, rfl, by rw [decide_eq_false (by omega)]; exact iteT ⟨(by show 1 ≤ 1000; decide), fin _ q⟩⟩⟩
      · exact .inr ⟨hv, .inr ⟨h, _, rfl, iteT ⟨(by show 1 ≤ 1000; decide), fin _ q⟩⟩⟩
end

end Fk

set_option maxHeartbeats 4000000
namespace Fk
open PySem PySem.Spec PyProof.Rows L2
def dkF (d : Addr) (l : Option Int) : List (Str × V) := [("_files", .ref d), ("_steps_left", optI l)]
/-- a disk at a -/
def DkAt (cD : Addr) (H : Hp) (a dx d : Addr) (k : Dk) : Prop := H a = some (.ins cD dx (dkF d k.left)) ∧ ∃ t, H d = some (.dK (kT t)) ∧ FlsAt false H t k.fs
theorem DkAt.ne {cD : Addr} {H : Hp} {a dx d : Addr} {k : Dk} (h : DkAt cD H a dx d k) : a ≠ d := fun z => by
  obtain ⟨h1, t, h2, _⟩ := h
  rw [z, h2] at h1
  cases h1
theorem DkAt.same {cD : Addr} {H H' : Hp} {a dx d : Addr} {k : Dk} (h : DkAt cD H a dx d k) (s : Same H H') : DkAt cD H' a dx d k := by
  obtain ⟨h1, t, h2, h3⟩ := h
  exact ⟨s _ _ h1, t, s _ _ h2, h3.keep (TupKeep.of s)⟩
section
variable {P : Program} {w : World} {K : PySem.W.Frag} {mg : Str → Option Value} {base : Heap} {cD cB iF iO : Addr} {e : E4}
def spCnt (cD : Addr) (e : E4) : Sp := fun vs H Q E => ∃ (a dx d : Addr) (l : Option Int), vs = [.ref a] ∧ H a = some (.ins cD dx (dkF d l)) ∧ (l = some 0 → Bad e.X H E) ∧ (l ≠ some 0 → ∀ H', Fr a H H' → H' a = some (.ins cD dx (dkF d (l.map (· - 1)))) → Q .non H')
theorem optI_eq (l : Option Int) (n : Int) : decide (optI l = V.int n) = decide (l = some n) := by
  cases l with
  | none => rfl
  | some m =>
    refine decide_eq_decide.mpr ⟨fun h => by cases h; rfl, fun h => by cases h; rfl⟩
theorem m_Disk_count_step (T : TopD K mg cD cB e iF iO) : MetX P w K mg base (L2.CX P w) 3 cD "_count_step" (spCnt cD e) [] := by
  refine metX_of T.cl T.d_count sc_Diskcount_step (fun _ _ _ _ _ _ us hl => match us, hl with | [_], _ => rfl) (fun vs H Q E h => ?_) (fun f cdv A outer s H vs Q E hr h => ?_)
  · obtain ⟨a, dx, d, l, rfl, _⟩ := h
    rfl
  · obtain ⟨a, dx, d, l, rfl, ha, q1, q2⟩ := h
    refine ⟨_, (pss_cons (ps_if (pt_cmpR op_eq (pe_fld (pv 0) rfl) pe_int (nomark _))
      (pss_one (ps_raise rfl (takes_of rfl rfl rfl rfl) (rs_of T.eX (hr.mono (by decide)) (by rfl) (pa_cons pe_str pa_nil))))
      pss_nil)
      (pss_one (ps_if (pt_cmpR op_notN (pe_fld (pv 0) rfl) pe_non (nomark _))
      (pss_one (ps_fldaug (pv 0) pe_int in_sub))
      pss_nil))), ?_⟩
    cases l with
    | none =>
      refine ⟨.ref a, rfl, a, cD, dx, _, _, rfl, ha, T.cl, T.nL, rfl, rfl, _, rfl, iteF ?_⟩
      exact ⟨.ref a, rfl, a, cD, dx, _, _, rfl, ha, T.cl, T.nL, rfl, rfl, _, rfl, iteF (q2 (fun z => nomatch z) H (Fr.refl _ _) ha)⟩
    | some n =>
      refine ⟨.ref a, rfl, a, cD, dx, _, _, rfl, ha, T.cl, T.nL, rfl, rfl, _, rfl, ite2 (fun z => ?_) (fun z => ?_)⟩
      · have z := V.int.inj (of_decide_eq_true z)
        subst z
        exact ⟨(by show 1 ≤ 1000; decide), do_raise T.eX fun dd H3 s3 _ h3 => q1 rfl dd _ H3 s3 h3⟩
      · refine ⟨.ref a, rfl, a, cD, dx, _, _, rfl, ha, T.cl, T.nL, rfl, rfl, _, rfl, iteT ?_⟩
        have nz : some n ≠ some (0 : Int) := fun w => z (decide_eq_true (by cases w; rfl))
        exact ⟨.ref a, rfl, a, cD, dx, _, _, rfl, ha, T.cl, T.nL, rfl, n, 1, rfl, rfl, _, _, ha, (by show 2 < 1000; decide), q2 nz _ Fr.at upd_same⟩
end

end Fk

set_option maxHeartbeats 4000000
namespace Fk
open PySem PySem.Spec PyProof.Rows L2
section
variable {P : Program} {w : World} {K : PySem.W.Frag} {mg : Str → Option Value} {base : Heap} {cD cB iF iO : Addr} {e : E4}
/-- told that it is not there -/
def Gone (c : Addr) (x : Str) (H : Hp) (E : XK) : Prop := ∀ (dd : Addr) (H' : Hp), Same H H' → H' dd = some (.xd [("name", .str x)]) → E (.ref c) (some dd) H'
theorem Gone.same {c : Addr} {x : Str} {H H1 : Hp} {E : XK} (b : Gone c x H E) (s : Same H H1) : Gone c x H1 E := fun dd H' s' h => b dd H' (s.trans s') h
def spThere (K : PySem.W.Frag) (cD : Addr) (e : E4) : Sp := fun vs H Q E => ∃ (a dx d : Addr) (k : Dk) (v : V), vs = [.ref a, v] ∧ DkAt cD H a dx d k ∧ ((∃ x : Str, v = .str x ∧ (lookF k.fs x = none → Gone e.O x H E) ∧ (∀ f, lookF k.fs x = some f → Q .non H)) ∨ (NoStr K H v ∧ Bad e.N H E))
theorem m_Disk_check_is_there (T : TopD K mg cD cB e iF iO) : MetX P w K mg base (L2.CX P w) 4 cD "_check_is_there" (spThere K cD e) [] := by
  refine metX_of T.cl T.d_check sc_Diskcheck_is_there (fun _ _ _ _ _ _ us hl => match us, hl with | [_, _], _ => rfl) (fun vs H Q E h => ?_) (fun f cdv A outer s H vs Q E hr h => ?_)
  · obtain ⟨a, dx, d, k, v, rfl, _⟩ := h
    rfl
  · obtain ⟨a, dx, d, k, v, rfl, hk, h⟩ := h
    obtain ⟨h1, t, h2, h3⟩ := id hk
    refine ⟨_, (pss_cons (ps_expr (pe_cx (cx__check_name T) hr (by decide) (fun _ => passAt (takes_of rfl rfl rfl rfl) _) (by rfl) (pa_cons (pv 1) pa_nil)))
      (pss_one (ps_if (pt_cmp (pc_dnotin (hu_of hr) (pv 1) (pe_fld (pv 0) rfl)))
      (pss_one (ps_raise rfl (takes_of rfl rfl rfl rfl) (rs_of T.eO (hr.mono (by decide)) (by rfl) (pa_cons (pv 1) pa_nil))))
      pss_nil))), ?_⟩
    refine ⟨v, rfl, v, rfl, ?_⟩
    rcases h with ⟨x, rfl, q1, q2⟩ | ⟨n, q⟩
    · refine .inl ⟨x, rfl, ?_⟩
      refine ⟨.str x, rfl, .ref a, rfl, a, cD, dx, _, _, rfl, h1, T.cl, T.nF, rfl, d, _, rfl, dget_kT (.inl h2) x, _, rfl, ?_⟩
      rcases h3.val x with ⟨l1, l2⟩ | ⟨f, q, l1, l2, _⟩
      · rw [l2]
        exact iteT ⟨_, rfl, (by show 1 ≤ 1000; decide), do_raise T.eO fun dd H3 s3 _ h3 => q1 l1 dd H3 s3 h3⟩
      · rw [l2]
        exact iteF (q2 f l1)
    · exact .inr ⟨n, q⟩
/-- behind a deed -/
def After (cD : Addr) (e : E4) (a dx d : Addr) (H : Hp) (r : Out × Dk) (Q : VK) (E : XK) : Prop :=
  (∀ o, r.1 = .told o → ∀ H', FrL [a, d] H H' → DkAt cD H' a dx d r.2 → Q (optB o) H') ∧ (r.1 = .crash → Bad e.X H E) ∧ ∀ x, r.1 = .absent x → Gone e.O x H E
theorem After.step {a dx d : Addr} {H : Hp} {k : Dk} {fs : Fls} {Q : VK} {E : XK} (h : After cD e a dx d H (stepD k fs) Q E) : (k.left = some 0 → Bad e.X H E) ∧ (k.left ≠ some 0 → ∀ H', FrL [a, d] H H' → DkAt cD H' a dx d (spent k fs) → Q .non H') := by
  obtain ⟨h1, h2, _⟩ := h
  unfold stepD at h1 h2
  refine ⟨fun z => ?_, fun z => ?_⟩
  · rw [if_pos z] at h2
    exact h2 rfl
  · rw [if_neg z] at h1
    exact h1 none rfl
/-- a file is put -/
theorem DkAt.set {H H1 : Hp} {a dx d q : Addr} {l : Option Int} {t : Tab} {fs : Fls} {x : Str} {f : Fl} (n : a ≠ d) (f1 : Fr a H H1) (h1 : H1 a = some (.ins cD dx (dkF d l))) (h2 : H1 d = some (.dK (kT t))) (h3 : FlsAt false H1 t fs) (hq : H1 q = some (.tup (flL false f))) :
    FrL [a, d] H (upd H1 d (.dK (kT (putK t x (.ref q))))) ∧ DkAt cD (upd H1 d (.dK (kT (putK t x (.ref q))))) a dx d ⟨putF fs x f, l⟩ := by
  have kt : TupKeep H1 (upd H1 d (.dK (kT (putK t x (.ref q))))) := TupKeep.at fun xs z => by rw [h2] at z; cases z
  refine ⟨fun b o nb e => ?_, by rw [upd_ne n]; exact h1, _, upd_same, (h3.put hq).keep kt⟩
  simp only [List.mem_cons, List.not_mem_nil, or_false, not_or] at nb
  rw [upd_ne nb.2]
  exact f1 _ _ nb.1 e
def spWrite (cD : Addr) (e : E4) : Sp := fun vs H Q E => ∃ (a dx d : Addr) (k : Dk) (x : Str) (b : Byt), vs = [.ref a, .str x, .byt b] ∧ DkAt cD H a dx d k ∧ k.fs.length < 1000 ∧ After cD e a dx d H (doDeed (.write x b) k) Q E
theorem m_Disk_write (T : TopD K mg cD cB e iF iO) : MetX P w K mg base (L2.CX P w) 4 cD "write" (spWrite cD e) [] := by
  refine metX_of T.cl T.d_write sc_Disk_write (fun _ _ _ _ _ _ us hl => match us, hl with | [_, _, _], _ => rfl) (fun vs H Q E h => ?_) (fun f cdv A outer s H vs Q E hr h => ?_)
  · obtain ⟨a, dx, d, k, x, b, rfl, _⟩ := h
    rfl
  · obtain ⟨a, dx, d, k, x, b, rfl, hk, hl, q⟩ := h
    have nad := hk.ne
    obtain ⟨h1, t, h2, h3⟩ := id hk
    obtain ⟨q1, q2⟩ := q.step
    refine ⟨_, (pss_cons (ps_expr (pe_cx (cx__check_name T) hr (by decide) (fun _ => passAt (takes_of rfl rfl rfl rfl) _) (by rfl) (pa_cons (pv 1) pa_nil)))
      (pss_cons (ps_if (pt_not (pt_val (pe_callB call_isi (by rfl) T.z_isinstance (by decide +kernel) (pa_cons (pv 2) (pa_cons (pe_bltn (v := .ty "bytes") (by rfl) T.z_bytes (by decide +kernel) rfl) pa_nil)))))
      (pss_one (ps_raise rfl (takes_of rfl rfl rfl rfl) (rs_of T.eN (hr.mono (by decide)) (by rfl) (pa_cons pe_str pa_nil))))
      pss_nil)
      (pss_cons (ps_expr (pe_mx0 (m_Disk_count_step T) hr (by decide) (fun _ => passAt (takes_of rfl rfl rfl rfl) _) (pv 0)))
      (pss_cons (ps_set (i := 3) sc_Disk_write.nd rfl (Or.inl rfl) (pe_ifExp (pt_cmp (pc_din (hu_of hr) (pv 1) (pe_fld (pv 0) rfl))) (pe_ix ix_tup (pe_dget (hu_of hr) (pe_fld (pv 0) rfl) (pv 1) (fun _ _ => rfl)) pe_int (fun _ _ => rfl)) pe_non))
      (pss_one (ps_dput (hu_of hr) (pe_fld (pv 0) rfl) (pv 1) (pe_tup (pa_cons (pv 2) (pa_cons (pv 3) (pa_cons pe_bl pa_nil)))) rfl)))))), ?_⟩
    refine ⟨.str x, rfl, _, rfl, .inl ⟨x, rfl, ?_⟩⟩
    refine ⟨.byt b, rfl, ?_⟩
    dsimp only [tCons, tC, tNil]
    refine ⟨_, _, .type "bytes", .type "bytes", true, rfl, .ty "bytes", .byt b, kit_ty (by decide +kernel), _, rfl, iteF ?_⟩
    refine ⟨.ref a, rfl, a, dx, _, rfl, h1, rfl, a, dx, d, k.left, rfl, h1, q1, fun hz H1 f1 i1 => ?_⟩
    have hd1 : H1 d = some (.dK (kT t)) := f1 _ _ nad.symm h2
    have k1 : TupKeep H H1 := fun c xs z => f1 _ _ (fun y => by rw [y, h1] at z; cases z) z
    have g := dget_kT (.inl hd1) x
    have h31 := h3.keep k1
    refine ⟨.str x, rfl, .ref a, rfl, a, cD, dx, _, _, rfl, i1, T.cl, T.nF, rfl, d, _, rfl, g, _, rfl, ?_⟩
    -- the end, for each safe content
    have put : ∀ sv : Option Byt, (lookF k.fs x).bind (·.s) = sv → ∀ p, H1 p = none → ∃ H2, H2 = upd H1 p (.tup [.byt b, optB sv, .bl true]) ∧ H2 a = some (.ins cD dx (dkF d (k.left.map (· - 1)))) ∧ H2 d = some (.dK (kT t)) ∧ Q .non (upd H2 d (.dK (kT (putK t x (.ref p))))) := fun sv es p hp => by
      subst es
      have s2 := same_new (o := .tup [.byt b, optB ((lookF k.fs x).bind (·.s)), .bl true]) hp
      refine ⟨_, rfl, s2 _ _ i1, s2 _ _ hd1, ?_⟩
      have := DkAt.set (x := x) (f := ⟨b, (lookF k.fs x).bind (·.s), true⟩) (q := p) nad (f1.trans (Fr.same s2)) (s2 _ _ i1) (s2 _ _ hd1) (h31.keep (TupKeep.of s2)) upd_same
      exact q2 hz _ this.1 this.2
    have small : (kT t).length < sizeLine := small_lt (by rw [len_kT, h3.len]; omega)
    rcases h31.val x with ⟨l1, l2⟩ | ⟨f, qq, l1, l2, l3⟩
    · rw [l2]
      refine iteF ?_
      refine ⟨.byt b, rfl, .non, rfl, (by show 3 ≤ sizeLine; decide), fun p hp => ?_⟩
      obtain ⟨H2, e2, i2, d2, q3⟩ := put none (by rw [l1]; rfl) p hp
      rw [show optB none = V.non from rfl] at e2
      rw [← e2]
      refine ⟨.ref a, rfl, a, cD, dx, _, _, rfl, i2, T.cl, T.nF, rfl, .str x, rfl, d, _, rfl, .inl ⟨kT t, .inr x, d2, rfl, small, rfl⟩, ?_⟩
      rw [putK_kT]
      exact q3
    · rw [l2]
      refine iteT ?_
      refine ⟨.ref a, rfl, a, cD, dx, _, _, rfl, i1, T.cl, T.nF, rfl, .str x, rfl, d, _, rfl, (by rw [l2] at g; exact g), ?_⟩
      refine ⟨qq, _, 1, _, rfl, rfl, SqT.of l3, rfl, ?_⟩
      refine ⟨.byt b, rfl, optB f.s, rfl, (by show 3 ≤ sizeLine; decide), fun p hp => ?_⟩
      obtain ⟨H2, e2, i2, d2, q3⟩ := put f.s (by rw [l1]; rfl) p hp
      rw [← e2]
      refine ⟨.ref a, rfl, a, cD, dx, _, _, rfl, i2, T.cl, T.nF, rfl, .str x, rfl, d, _, rfl, .inl ⟨kT t, .inr x, d2, rfl, small, rfl⟩, ?_⟩
      rw [putK_kT]
      exact q3
/-- what stands there is asked and a step is done -/
def spSync (cD : Addr) (e : E4) : Sp := fun vs H Q E => ∃ (a dx d : Addr) (k : Dk) (x : Str), vs = [.ref a, .str x] ∧ DkAt cD H a dx d k ∧ k.fs.length < 1000 ∧ After cD e a dx d H (doDeed (.sync x) k) Q E
theorem m_Disk_sync (T : TopD K mg cD cB e iF iO) : MetX P w K mg base (L2.CX P w) 5 cD "sync" (spSync cD e) [] := by
  refine metX_of T.cl T.d_sync sc_Disk_sync (fun _ _ _ _ _ _ us hl => match us, hl with | [_, _], _ => rfl) (fun vs H Q E h => ?_) (fun f cdv A outer s H vs Q E hr h => ?_)
  · obtain ⟨a, dx, d, k, x, rfl, _⟩ := h
    rfl
  · obtain ⟨a, dx, d, k, x, rfl, hk, hl, q⟩ := h
    have nad := hk.ne
    obtain ⟨h1, t, h2, h3⟩ := id hk
    refine ⟨_, (pss_cons (ps_expr (pe_mx (m_Disk_check_is_there T) hr (by decide) (fun _ => passAt (takes_of rfl rfl rfl rfl) _) (pv 0) (pa_cons (pv 1) pa_nil)))
      (pss_cons (ps_expr (pe_mx0 (m_Disk_count_step T) hr (by decide) (fun _ => passAt (takes_of rfl rfl rfl rfl) _) (pv 0)))
      (pss_cons (ps_set (i := 2) sc_Disk_sync.nd rfl (Or.inl rfl) (pe_ix ix_tup (pe_dget (hu_of hr) (pe_fld (pv 0) rfl) (pv 1) (fun _ _ => rfl)) pe_int (fun _ _ => rfl)))
      (pss_one (ps_dput (hu_of hr) (pe_fld (pv 0) rfl) (pv 1) (pe_tup (pa_cons (pv 2) (pa_cons (pv 2) (pa_cons pe_bl pa_nil)))) rfl))))), ?_⟩
    unfold doDeed at q
    cases l1 : lookF k.fs x with
    | none =>
      simp only [l1] at q
      exact ⟨.ref a, rfl, a, dx, _, rfl, h1, rfl, .str x, rfl, a, dx, d, k, _, rfl, hk, .inl ⟨x, rfl, (fun _ => q.2.2 x rfl), (fun f z => by rw [l1] at z; cases z)⟩⟩
    | some f =>
      simp only [l1] at q
      obtain ⟨q1, q2⟩ := After.step q
      refine ⟨.ref a, rfl, a, dx, _, rfl, h1, rfl, .str x, rfl, a, dx, d, k, _, rfl, hk, .inl ⟨x, rfl, (fun z => by rw [l1] at z; cases z), fun _ _ => ?_⟩⟩
      refine ⟨.ref a, rfl, a, dx, _, rfl, h1, rfl, a, dx, d, k.left, rfl, h1, q1, fun hz H1 f1 i1 => ?_⟩
      have hd1 : H1 d = some (.dK (kT t)) := f1 _ _ nad.symm h2
      have k1 : TupKeep H H1 := fun c xs z => f1 _ _ (fun y => by rw [y, h1] at z; cases z) z
      have g := dget_kT (.inl hd1) x
      have h31 := h3.keep k1
      rcases h31.val x with ⟨l0, _⟩ | ⟨f', qq, l1', l2, l3⟩
      · rw [l1] at l0
        cases l0
      rw [l1] at l1'
      cases l1'
      refine ⟨.ref a, rfl, a, cD, dx, _, _, rfl, i1, T.cl, T.nF, rfl, .str x, rfl, d, _, rfl, (by rw [l2] at g; exact g), ?_⟩
      refine ⟨qq, _, 0, _, rfl, rfl, SqT.of l3, rfl, ?_⟩
      refine ⟨.byt f.c, rfl, .byt f.c, rfl, (by show 3 ≤ sizeLine; decide), fun p hp => ?_⟩
      have s2 := same_new (o := .tup [.byt f.c, .byt f.c, .bl false]) hp
      have := DkAt.set (x := x) (f := ⟨f.c, some f.c, false⟩) (q := p) nad (f1.trans (Fr.same s2)) (s2 _ _ i1) (s2 _ _ hd1) (h31.keep (TupKeep.of s2)) upd_same
      refine ⟨.ref a, rfl, a, cD, dx, _, _, rfl, s2 _ _ i1, T.cl, T.nF, rfl, .str x, rfl, d, _, rfl, .inl ⟨kT t, .inr x, s2 _ _ hd1, rfl, small_lt (by rw [len_kT, h3.len]; omega), rfl⟩, ?_⟩
      rw [putK_kT]
      exact q2 hz _ this.1 this.2
def spRead (cD : Addr) (e : E4) : Sp := fun vs H Q E => ∃ (a dx d : Addr) (k : Dk) (x : Str), vs = [.ref a, .str x] ∧ DkAt cD H a dx d k ∧ (lookF k.fs x = none → Gone e.O x H E) ∧ ∀ f, lookF k.fs x = some f → Q (.byt f.c) H
theorem m_Disk_read (T : TopD K mg cD cB e iF iO) : MetX P w K mg base (L2.CX P w) 5 cD "read" (spRead cD e) [] := by
  refine metX_of T.cl T.d_read sc_Disk_read (fun _ _ _ _ _ _ us hl => match us, hl with | [_, _], _ => rfl) (fun vs H Q E h => ?_) (fun f cdv A outer s H vs Q E hr h => ?_)
  · obtain ⟨a, dx, d, k, x, rfl, _⟩ := h
    rfl
  · obtain ⟨a, dx, d, k, x, rfl, hk, q1, q2⟩ := h
    obtain ⟨h1, t, h2, h3⟩ := id hk
    refine ⟨_, (pss_cons (ps_expr (pe_mx (m_Disk_check_is_there T) hr (by decide) (fun _ => passAt (takes_of rfl rfl rfl rfl) _) (pv 0) (pa_cons (pv 1) pa_nil)))
      (pss_one (ps_ret (pe_ix ix_tup (pe_dget (hu_of hr) (pe_fld (pv 0) rfl) (pv 1) (fun _ _ => rfl)) pe_int (fun _ _ => rfl))))), ?_⟩
    refine ⟨.ref a, rfl, a, dx, _, rfl, h1, rfl, .str x, rfl, a, dx, d, k, _, rfl, hk, .inl ⟨x, rfl, q1, fun f z => ?_⟩⟩
    have g := dget_kT (.inl h2) x
    rcases h3.val x with ⟨l0, _⟩ | ⟨f', qq, l1', l2, l3⟩
    · rw [z] at l0
      cases l0
    rw [z] at l1'
    cases l1'
    refine ⟨.ref a, rfl, a, cD, dx, _, _, rfl, h1, T.cl, T.nF, rfl, .str x, rfl, d, _, rfl, (by rw [l2] at g; exact g), ?_⟩
    exact ⟨qq, _, 0, _, rfl, rfl, SqT.of l3, rfl, q2 f z⟩
end

end Fk

set_option maxHeartbeats 4000000
namespace Fk
open PySem PySem.Spec PyProof.Rows L2
section
variable {P : Program} {w : World} {K : PySem.W.Frag} {mg : Str → Option Value} {base : Heap} {cD cB iF iO : Addr} {e : E4}
theorem fr_two {a d : Addr} {H H1 : Hp} (f : Fr a H H1) (o : HO) : FrL [a, d] H (upd H1 d o) := fun b u nb z => by
  simp only [List.mem_cons, List.not_mem_nil, or_false, not_or] at nb
  rw [upd_ne nb.2]
  exact f _ _ nb.1 z
def spRemove (cD : Addr) (e : E4) : Sp := fun vs H Q E => ∃ (a dx d : Addr) (k : Dk) (x : Str), vs = [.ref a, .str x] ∧ DkAt cD H a dx d k ∧ After cD e a dx d H (doDeed (.remove x) k) Q E
theorem m_Disk_remove (T : TopD K mg cD cB e iF iO) : MetX P w K mg base (L2.CX P w) 5 cD "remove" (spRemove cD e) [] := by
  refine metX_of T.cl T.d_remove sc_Disk_remove (fun _ _ _ _ _ _ us hl => match us, hl with | [_, _], _ => rfl) (fun vs H Q E h => ?_) (fun f cdv A outer s H vs Q E hr h => ?_)
  · obtain ⟨a, dx, d, k, x, rfl, _⟩ := h
    rfl
  · obtain ⟨a, dx, d, k, x, rfl, hk, q⟩ := h
    have nad := hk.ne
    obtain ⟨h1, t, h2, h3⟩ := id hk
    refine ⟨_, (pss_cons (ps_expr (pe_mx (m_Disk_check_is_there T) hr (by decide) (fun _ => passAt (takes_of rfl rfl rfl rfl) _) (pv 0) (pa_cons (pv 1) pa_nil)))
      (pss_cons (ps_expr (pe_mx0 (m_Disk_count_step T) hr (by decide) (fun _ => passAt (takes_of rfl rfl rfl rfl) _) (pv 0)))
      (pss_one (ps_ddel (pe_fld (pv 0) rfl) (pv 1))))), ?_⟩
    unfold doDeed at q
    cases l1 : lookF k.fs x with
    | none =>
      simp only [l1] at q
      exact ⟨.ref a, rfl, a, dx, _, rfl, h1, rfl, .str x, rfl, a, dx, d, k, _, rfl, hk, .inl ⟨x, rfl, (fun _ => q.2.2 x rfl), (fun f z => by rw [l1] at z; cases z)⟩⟩
    | some f =>
      simp only [l1] at q
      obtain ⟨q1, q2⟩ := After.step q
      refine ⟨.ref a, rfl, a, dx, _, rfl, h1, rfl, .str x, rfl, a, dx, d, k, _, rfl, hk, .inl ⟨x, rfl, (fun z => by rw [l1] at z; cases z), fun _ _ => ?_⟩⟩
      refine ⟨.ref a, rfl, a, dx, _, rfl, h1, rfl, a, dx, d, k.left, rfl, h1, q1, fun hz H1 f1 i1 => ?_⟩
      have hd1 : H1 d = some (.dK (kT t)) := f1 _ _ nad.symm h2
      have k1 : TupKeep H H1 := fun c xs z => f1 _ _ (fun y => by rw [y, h1] at z; cases z) z
      have h31 := h3.keep k1
      rcases h31.val x with ⟨l0, _⟩ | ⟨f', qq, l1', l2, l3⟩
      · rw [l1] at l0
        cases l0
      refine ⟨.ref a, rfl, a, cD, dx, _, _, rfl, i1, T.cl, T.nF, rfl, .str x, rfl, d, kT t, .inr x, rfl, hd1, rfl, (by rw [valV_kT, l2]; rfl), ?_⟩
      rw [dropK_kT]
      have kt : TupKeep H1 (upd H1 d (.dK (kT (dropK t x)))) := TupKeep.at fun xs z => by rw [hd1] at z; cases z
      exact q2 hz _ (fr_two f1 _) ⟨by rw [upd_ne nad]; exact i1, _, upd_same, (h31.drop x).keep kt⟩
def spRename (cD : Addr) (e : E4) : Sp := fun vs H Q E => ∃ (a dx d : Addr) (k : Dk) (x y : Str), vs = [.ref a, .str x, .str y] ∧ DkAt cD H a dx d k ∧ k.fs.length < 1000 ∧ After cD e a dx d H (doDeed (.rename x y) k) Q E
theorem m_Disk_rename (T : TopD K mg cD cB e iF iO) : MetX P w K mg base (L2.CX P w) 5 cD "rename" (spRename cD e) [] := by
  refine metX_of T.cl T.d_rename sc_Disk_rename (fun _ _ _ _ _ _ us hl => match us, hl with | [_, _, _], _ => rfl) (fun vs H Q E h => ?_) (fun f cdv A outer s H vs Q E hr h => ?_)
  · obtain ⟨a, dx, d, k, x, y, rfl, _⟩ := h
    rfl
  · obtain ⟨a, dx, d, k, x, y, rfl, hk, hl, q⟩ := h
    have nad := hk.ne
    obtain ⟨h1, t, h2, h3⟩ := id hk
    refine ⟨_, (pss_cons (ps_expr (pe_cx (cx__check_name T) hr (by decide) (fun _ => passAt (takes_of rfl rfl rfl rfl) _) (by rfl) (pa_cons (pv 2) pa_nil)))
      (pss_cons (ps_expr (pe_mx (m_Disk_check_is_there T) hr (by decide) (fun _ => passAt (takes_of rfl rfl rfl rfl) _) (pv 0) (pa_cons (pv 1) pa_nil)))
      (pss_cons (ps_expr (pe_mx0 (m_Disk_count_step T) hr (by decide) (fun _ => passAt (takes_of rfl rfl rfl rfl) _) (pv 0)))
      (pss_one (ps_dput (hu_of hr) (pe_fld (pv 0) rfl) (pv 2) (pe_dpop1 (pe_fld (pv 0) rfl) (pv 1) ⟨rfl, rfl, rfl, rfl⟩) rfl))))), ?_⟩
    unfold doDeed at q
    refine ⟨.str y, rfl, _, rfl, .inl ⟨y, rfl, ?_⟩⟩
    cases l1 : lookF k.fs x with
    | none =>
      simp only [l1] at q
      exact ⟨.ref a, rfl, a, dx, _, rfl, h1, rfl, .str x, rfl, a, dx, d, k, _, rfl, hk, .inl ⟨x, rfl, (fun _ => q.2.2 x rfl), (fun f z => by rw [l1] at z; cases z)⟩⟩
    | some f =>
      simp only [l1] at q
      obtain ⟨q1, q2⟩ := After.step q
      refine ⟨.ref a, rfl, a, dx, _, rfl, h1, rfl, .str x, rfl, a, dx, d, k, _, rfl, hk, .inl ⟨x, rfl, (fun z => by rw [l1] at z; cases z), fun _ _ => ?_⟩⟩
      refine ⟨.ref a, rfl, a, dx, _, rfl, h1, rfl, a, dx, d, k.left, rfl, h1, q1, fun hz H1 f1 i1 => ?_⟩
      have hd1 : H1 d = some (.dK (kT t)) := f1 _ _ nad.symm h2
      have k1 : TupKeep H H1 := fun c xs z => f1 _ _ (fun y => by rw [y, h1] at z; cases z) z
      have h31 := h3.keep k1
      rcases h31.val x with ⟨l0, _⟩ | ⟨f', qq, l1', l2, l3⟩
      · rw [l1] at l0
        cases l0
      rw [l1] at l1'
      cases l1'
      refine ⟨.ref a, rfl, a, cD, dx, _, _, rfl, i1, T.cl, T.nF, rfl, d, rfl, .inl ⟨_, .inl hd1⟩, .str x, rfl, kT t, .inr x, .ref qq, hd1, rfl, (by rw [valV_kT, l2]), ?_⟩
      rw [dropK_kT]
      have kt : TupKeep H1 (upd H1 d (.dK (kT (dropK t x)))) := TupKeep.at fun xs z => by rw [hd1] at z; cases z
      have h5 : FlsAt false (upd H1 d (.dK (kT (dropK t x)))) (dropK t x) (dropF k.fs x) := (h31.drop x).keep kt
      have i2 : (upd H1 d (.dK (kT (dropK t x)))) a = some (.ins cD dx (dkF d (k.left.map (· - 1)))) := by rw [upd_ne nad]; exact i1
      refine ⟨.ref a, rfl, a, cD, dx, _, _, rfl, i2, T.cl, T.nF, rfl, .str y, rfl, d, _, rfl, .inl ⟨kT (dropK t x), .inr y, upd_same, rfl, small_lt ?_, rfl⟩, ?_⟩
      · rw [len_kT]
        have z1 : (dropK t x).length ≤ t.length := List.length_filter_le _ _
        have := h3.len
        omega
      rw [putK_kT, upd_upd]
      have kt2 : TupKeep H1 (upd H1 d (.dK (kT (putK (dropK t x) y (.ref qq))))) := TupKeep.at fun xs z => by rw [hd1] at z; cases z
      exact q2 hz _ (fr_two f1 _) ⟨by rw [upd_ne nad]; exact i1, _, upd_same, ((h31.drop x).put l3).keep kt2⟩
def spLim (cD : Addr) : Sp := fun vs H Q _ => ∃ (a dx d : Addr) (l l' : Option Int), vs = [.ref a, optI l'] ∧ H a = some (.ins cD dx (dkF d l)) ∧ (∀ n, l' = some n → 0 ≤ n) ∧ ∀ H', Fr a H H' → H' a = some (.ins cD dx (dkF d l')) → Q .non H'
theorem m_Disk_limit (T : TopD K mg cD cB e iF iO) : MetX P w K mg base (L2.CX P w) 4 cD "limit" (spLim cD) [] := by
  refine metX_of T.cl T.d_limit sc_Disk_limit (fun _ _ _ _ _ _ us hl => match us, hl with | [_, _], _ => rfl) (fun vs H Q E h => ?_) (fun f cdv A outer s H vs Q E hr h => ?_)
  · obtain ⟨a, dx, d, l, l', rfl, _⟩ := h
    rfl
  · obtain ⟨a, dx, d, l, l', rfl, h1, hn, q⟩ := h
    refine ⟨_, (pss_one (ps_fld (pv 0) (pe_cx (cx__checked_left T) hr (by decide) (fun _ => passAt (takes_of rfl rfl rfl rfl) _) (by rfl) (pa_cons (pv 1) pa_nil)) rfl)), ?_⟩
    exact ⟨_, rfl, _, rfl, .inl ⟨l', rfl, hn, .ref a, rfl, a, cD, dx, _, rfl, h1, T.cl, T.nL, (by show 2 < 1000; decide), q _ Fr.at upd_same⟩⟩
theorem getSp_len {C : Addr} {f : Str} (vs : List V) (H : Hp) (Q : VK) (E : XK) (h : getSp C f vs H Q E) : vs.length = 1 := by
  obtain ⟨a, dx, fs, v, rfl, _⟩ := h
  rfl
theorem p_Disk_left (T : TopD K mg cD cB e iF iO) : Prp P w K mg base 1 cD "left" (getSp cD "_steps_left") := by
  refine prp_of T.cl T.pDleft sc_Disk_left (fun _ _ _ _ _ _ us hl => match us, hl with | [_], _ => rfl) getSp_len (fun f cdv A outer s H vs Q E hr h => ?_)
  obtain ⟨a, dx, fs, v, rfl, ha, hl, q⟩ := h
  refine ⟨_, (pss_one (ps_ret (pe_fld (pv 0) rfl))), ?_⟩
  exact ⟨.ref a, rfl, a, cD, dx, fs, v, rfl, ha, T.cl, T.nL, hl, q⟩
def spNames (cD : Addr) : Sp := fun vs H Q _ => ∃ (a dx d : Addr) (k : Dk), vs = [.ref a] ∧ DkAt cD H a dx d k ∧ k.fs.length < 64 ∧ ∀ (ys : List Str) (p : Addr) (H' : Hp), ys.Perm (k.fs.map (·.1)) → sortedS ys = true → H p = none → Same H H' → H' p = some (.tup (ys.map V.str)) → Q (.ref p) H'
theorem m_Disk_names (T : TopD K mg cD cB e iF iO) : C8.Met P w K mg base 2 cD "names" (spNames cD) [] := by
  refine met_of T.cl T.d_names sc_Disk_names (fun _ _ _ _ _ _ us hl => match us, hl with | [_], _ => rfl) (fun vs H Q E h => ?_) (fun f cdv A outer s H vs Q E hr h => ?_)
  · obtain ⟨a, dx, d, k, rfl, _⟩ := h
    rfl
  · obtain ⟨a, dx, d, k, rfl, hk, hl, q⟩ := h
    obtain ⟨h1, t, h2, h3⟩ := id hk
    refine ⟨_, (pss_one (ps_ret (C8.pe_c (c_ascending T.toTop) hr (by decide) (by rfl) (pa_cons (pe_fld (pv 0) rfl) pa_nil)))), ?_⟩
    exact ⟨.ref a, rfl, a, cD, dx, _, _, rfl, h1, T.cl, T.nF, rfl, d, t, rfl, h2, (by rw [h3.len]; exact hl), fun ys p H' hp hs n s' hq => q ys p H' (by rw [← h3.keys]; exact hp) hs n s' hq⟩
end

end Fk

set_option maxHeartbeats 4000000
namespace Fk
open PySem PySem.Spec PyProof.Rows L2
open LamX
theorem pe_mk0 {X : Cx} {k j : Nat} {C : Addr} {x : Str} {sp : Sp} {dvs : List V} {p pos : Pos} (c : C8.Mak X.prog X.w X.K X.mg X.base k x C sp dvs) (hr : Room j X.A) (hk : k + 1 ≤ j) (hg : Gl X x)
    (hdb : (x == ("__debug__" : Str)) = false := by decide) : PE X (.Call (.Name x p) [] [] pos) (tMake C sp dvs C8.E0 tNil) := by
  obtain ⟨f, fd, ps, ds, M, F, hm, b, d⟩ := c.ex
  exact pe_make0 M F (hr.mono hk) hg hm b d C8.pass0 hdb
theorem pss_vac {X : Cx} {sts : List Stmt} : PSs X sts (fun _ _ _ => False) := ⟨fun _ _ _ _ _ _ h => h.elim⟩
/-- a class whose making may let an error out, by keywords -/
structure MakKX (P : Program) (w : World) (K : PySem.W.Frag) (mg : Str → Option Value) (base : Heap) (k : Nat) (x : Str) (C : Addr) (sp : Sp) (n : Nat) (ks : List Str) (gV : List V → List V → List V) : Prop where
  ex : ∃ (f : Addr) (fd : FuncData) (ps : List Str) (g : List Value → List Value → List Value), Mk K C f ∧ FnOk P w K mg base (L2.CX P w) k f fd ps sp ∧ mg x = some (.ref C) ∧ KBn K fd ps n ks g gV
theorem pe_mkKX0 {X : Cx} {k j : Nat} {C : Addr} {x : Str} {sp : Sp} {ks : List Str} {gV : List V → List V → List V} {E : XK} {kws : List Keyword} {tk : TA} {p pos : Pos} (c : MakKX X.prog X.w X.K X.mg X.base k x C sp 1 ks gV) (hr : Room j X.A) (hk : k + 1 ≤ j) (hg : Gl X x) (hx : Passes (L2.CX X.prog X.w) X E) (hkw : PK X kws tk)
    (hall : (backToKw pos (keywordEach kws X.env)).all (·.1.isSome) = true := by rfl) (hks : (backToKw pos (keywordEach kws X.env)).filterMap (·.1) = ks := by rfl) (hdb : (x == ("__debug__" : Str)) = false := by decide)
    (hpl : ((backTo pos (starEach [] X.env)).any (·.1) || (backToKw pos (keywordEach kws X.env)).any (·.1.isNone)) = false := by rfl) :
    PE X (.Call (.Name x p) [] kws pos) (tMakeK C 0 ks.length sp gV E tNil tk) := by
  obtain ⟨f, fd, ps, g, M, F, hm, b⟩ := c.ex
  exact pe_makeK0 M F (hr.mono hk) hg hm b hx hkw hall hks hdb hpl
section
variable {P : Program} {w : World} {K : PySem.W.Frag} {mg : Str → Option Value} {base : Heap} {cD cB iF iO : Addr} {e : E4}
def spLeftOk : Sp := fun vs H Q _ => ∃ l : Option Int, vs = [optI l] ∧ (∀ n, l = some n → 0 ≤ n) ∧ Q (optI l) H
theorem c__checked_left (T : TopD K mg cD cB e iF iO) : C8.Cal P w K mg base 3 "_checked_left" spLeftOk [] := by
  refine cal_of T.d__checked_left sc__checked_left (fun _ _ _ _ _ _ us hl => match us, hl with | [_], _ => rfl) (fun vs H Q E h => ?_) (fun f cdv A outer s H vs Q E hr h => ?_)
  · obtain ⟨v, rfl, _⟩ := h
    rfl
  · obtain ⟨l, rfl, hn, q⟩ := h
    refine ⟨_, (pss_cons (ps_if (pt_not (pt_val (C8.pe_c (c_is_limit T.toTop) hr (by decide) (by rfl) (pa_cons (pv 0) pa_nil))))
      (pss_one ps_never)
      pss_nil)
      (pss_one (ps_ret (pv 0)))), ?_⟩
    refine ⟨_, rfl, _, rfl, ?_⟩
    cases l with
    | none => exact .inl ⟨rfl, _, rfl, iteF ⟨_, rfl, q⟩⟩
    | some n => exact .inr ⟨(fun z => nomatch z), .inl ⟨n, rfl, _, rfl, by rw [decide_eq_true (hn n rfl)]; exact iteF ⟨_, rfl, q⟩⟩⟩
def spDiskI (cD : Addr) : Sp := fun vs H Q _ => ∃ (a dx : Addr) (l : Option Int), vs = [.ref a, optI l] ∧ H a = some (.ins cD dx []) ∧ (∀ n, l = some n → 0 ≤ n) ∧ ∀ d H', H d = none → Fr a H H' → DkAt cD H' a dx d ⟨[], l⟩ → Q .non H'
theorem disk_done {H : Hp} {a dx d : Addr} {l : Option Int} (ha : H a = some (.ins cD dx [])) (hd : H d = none) {H1 H2 : Hp} (e1 : H1 = upd H d (.dK [])) (e2 : H2 = upd H1 a (.ins cD dx (dkF d l))) : Fr a H H2 ∧ DkAt cD H2 a dx d ⟨[], l⟩ := by
  have nad : a ≠ d := ne_of_none ha hd
  subst e1 e2
  refine ⟨(Fr.new hd).trans Fr.at, upd_same, [], ?_, .nil⟩
  rw [upd_ne nad.symm, upd_same]
  rfl
theorem iniF_Disk (T : TopD K mg cD cB e iF iO) : ∀ f fd, C8.Fun K "__init__" "Disk.__init__" s_Disk_init f fd → FnOk P w K mg base C8.CX0 4 f fd ["self", "left"] (spDiskI cD) := fun f fd F => by
  refine C8.fn0 F sc_Disk_init (fun vs H Q E h => ?_) (fun cdv A outer s H vs Q E hr h => ?_)
  · obtain ⟨a, dx, l, rfl, _⟩ := h
    rfl
  · obtain ⟨a, dx, l, rfl, ha, hn, q⟩ := h
    refine ⟨_, (pss_cons (ps_fld (pv 0) pe_dnewK rfl)
      (pss_one (ps_fld (pv 0) (C8.pe_c (c__checked_left T) hr (by decide) (by rfl) (pa_cons (pv 1) pa_nil)) rfl))), ?_⟩
    intro d hd
    have nad : a ≠ d := ne_of_none ha hd
    refine ⟨.ref a, rfl, a, cD, dx, _, rfl, (by rw [upd_ne nad]; exact ha), T.cl, T.nF, (by decide), ?_⟩
    refine ⟨_, rfl, l, rfl, hn, ?_⟩
    refine ⟨.ref a, rfl, a, cD, dx, _, rfl, upd_same, T.cl, T.nL, (by show 1 < 1000; decide), ?_⟩
    rw [upd_upd]
    have := disk_done (l := l) ha hd rfl rfl
    exact q d _ hd this.1 this.2
theorem k_Disk_0_left (T : TopD K mg cD cB e iF iO) : MakK P w K mg base 4 "Disk" cD (spDiskI cD) 1 ["left"] (fun vs zs => vs ++ zs) := makK T.kD1 T.mgD (iniF_Disk T)
theorem k_Disk (T : TopD K mg cD cB e iF iO) : C8.Mak P w K mg base 4 "Disk" cD (spDiskI cD) [V.non] := by
  obtain ⟨f, fd, ds, M, F, d, b⟩ := T.iniD
  exact ⟨f, fd, ["self", "left"], ds, M, iniF_Disk T f fd F, T.mgD, b, d⟩
/-- refused -/
def spDiskN (K : PySem.W.Frag) (cD : Addr) (e : E4) : Sp := fun vs H Q E => ∃ (a dx : Addr) (v : V), vs = [.ref a, v] ∧ H a = some (.ins cD dx []) ∧ ∀ H', Fr a H H' → ((∃ n : Int, v = .int n ∧ n < 0) ∨ NoInt K H' v) ∧ v ≠ .non ∧ Bad e.M H' E
theorem k_DiskX (T : TopD K mg cD cB e iF iO) : MakKX P w K mg base 5 "Disk" cD (spDiskN K cD e) 1 ["left"] (fun vs zs => vs ++ zs) := by
  obtain ⟨f, fd, g, M, F, b⟩ := T.kD1
  refine ⟨f, fd, _, g, M, ?_, T.mgD, b⟩
  obtain ⟨oc, od, dV, kV, doc, pm, an, cdv, ct, osl, rfl, lk, hcd⟩ := F.ex
  refine fn_of lk hcd sc_Disk_init (fun vs H Q E h => ?_) (fun A outer s H vs Q E hr h => ?_)
  · obtain ⟨a, dx, v, rfl, _⟩ := h
    rfl
  · obtain ⟨a, dx, v, rfl, ha, q⟩ := h
    refine ⟨_, (pss_cons (ps_fld (pv 0) pe_dnewK rfl)
      (pss_one (ps_fld (pv 0) (pe_cx (cx__checked_left T) hr (by decide) (fun _ => passAt (takes_of rfl rfl rfl rfl) _) (by rfl) (pa_cons (pv 1) pa_nil)) rfl))), ?_⟩
    intro d hd
    have nad : a ≠ d := ne_of_none ha hd
    refine ⟨.ref a, rfl, a, cD, dx, _, rfl, (by rw [upd_ne nad]; exact ha), T.cl, T.nF, (by decide), ?_⟩
    have z := q (upd (upd H d (.dK [])) a (.ins cD dx (L2.putF "_files" (.ref d) []))) ((Fr.new hd).trans Fr.at)
    exact ⟨v, rfl, v, rfl, .inr z⟩
end

end Fk

set_option maxHeartbeats 4000000
namespace Fk
open PySem PySem.Spec PyProof.Rows L2
section
variable {P : Program} {w : World} {K : PySem.W.Frag} {mg : Str → Option Value} {base : Heap} {cD cB iF iO : Addr} {e : E4}
/-! ### refusals -/
def spOne (K : PySem.W.Frag) (cD : Addr) (e : E4) : Sp := fun vs H Q E => ∃ (a dx d : Addr) (k : Dk) (v : V), vs = [.ref a, v] ∧ DkAt cD H a dx d k ∧ NoStr K H v ∧ Bad e.N H E
theorem m_Disk_syncN (T : TopD K mg cD cB e iF iO) : MetX P w K mg base (L2.CX P w) 5 cD "sync" (spOne K cD e) [] := by
  refine metX_of T.cl T.d_sync sc_Disk_sync (fun _ _ _ _ _ _ us hl => match us, hl with | [_, _], _ => rfl) (fun vs H Q E h => ?_) (fun f cdv A outer s H vs Q E hr h => ?_)
  · obtain ⟨a, dx, d, k, v, rfl, _⟩ := h
    rfl
  · obtain ⟨a, dx, d, k, v, rfl, hk, hv, q⟩ := h
    refine ⟨_, (pss_cons (ps_expr (pe_mx (m_Disk_check_is_there T) hr (by decide) (fun _ => passAt (takes_of rfl rfl rfl rfl) _) (pv 0) (pa_cons (pv 1) pa_nil)))
      (pss_cons (ps_expr (pe_mx0 (m_Disk_count_step T) hr (by decide) (fun _ => passAt (takes_of rfl rfl rfl rfl) _) (pv 0)))
      (pss_cons (ps_set (i := 2) sc_Disk_sync.nd rfl (Or.inl rfl) (pe_ix ix_tup (pe_dget (hu_of hr) (pe_fld (pv 0) rfl) (pv 1) (fun _ _ => rfl)) pe_int (fun _ _ => rfl)))
      (pss_one (ps_dput (hu_of hr) (pe_fld (pv 0) rfl) (pv 1) (pe_tup (pa_cons (pv 2) (pa_cons (pv 2) (pa_cons pe_bl pa_nil)))) rfl))))), ?_⟩
    exact ⟨.ref a, rfl, a, dx, _, rfl, hk.1, rfl, v, rfl, a, dx, d, k, _, rfl, hk, .inr ⟨hv, q⟩⟩
theorem m_Disk_removeN (T : TopD K mg cD cB e iF iO) : MetX P w K mg base (L2.CX P w) 5 cD "remove" (spOne K cD e) [] := by
  refine metX_of T.cl T.d_remove sc_Disk_remove (fun _ _ _ _ _ _ us hl => match us, hl with | [_, _], _ => rfl) (fun vs H Q E h => ?_) (fun f cdv A outer s H vs Q E hr h => ?_)
  · obtain ⟨a, dx, d, k, v, rfl, _⟩ := h
    rfl
  · obtain ⟨a, dx, d, k, v, rfl, hk, hv, q⟩ := h
    refine ⟨_, (pss_cons (ps_expr (pe_mx (m_Disk_check_is_there T) hr (by decide) (fun _ => passAt (takes_of rfl rfl rfl rfl) _) (pv 0) (pa_cons (pv 1) pa_nil)))
      (pss_cons (ps_expr (pe_mx0 (m_Disk_count_step T) hr (by decide) (fun _ => passAt (takes_of rfl rfl rfl rfl) _) (pv 0)))
      (pss_one (ps_ddel (pe_fld (pv 0) rfl) (pv 1))))), ?_⟩
    exact ⟨.ref a, rfl, a, dx, _, rfl, hk.1, rfl, v, rfl, a, dx, d, k, _, rfl, hk, .inr ⟨hv, q⟩⟩
theorem m_Disk_readN (T : TopD K mg cD cB e iF iO) : MetX P w K mg base (L2.CX P w) 5 cD "read" (spOne K cD e) [] := by
  refine metX_of T.cl T.d_read sc_Disk_read (fun _ _ _ _ _ _ us hl => match us, hl with | [_, _], _ => rfl) (fun vs H Q E h => ?_) (fun f cdv A outer s H vs Q E hr h => ?_)
  · obtain ⟨a, dx, d, k, v, rfl, _⟩ := h
    rfl
  · obtain ⟨a, dx, d, k, v, rfl, hk, hv, q⟩ := h
    refine ⟨_, (pss_cons (ps_expr (pe_mx (m_Disk_check_is_there T) hr (by decide) (fun _ => passAt (takes_of rfl rfl rfl rfl) _) (pv 0) (pa_cons (pv 1) pa_nil)))
      (pss_one (ps_ret (pe_ix ix_tup (pe_dget (hu_of hr) (pe_fld (pv 0) rfl) (pv 1) (fun _ _ => rfl)) pe_int (fun _ _ => rfl))))), ?_⟩
    exact ⟨.ref a, rfl, a, dx, _, rfl, hk.1, rfl, v, rfl, a, dx, d, k, _, rfl, hk, .inr ⟨hv, q⟩⟩
def spTwo (K : PySem.W.Frag) (cD : Addr) (e : E4) : Sp := fun vs H Q E => ∃ (a dx d : Addr) (k : Dk) (v u : V), vs = [.ref a, v, u] ∧ DkAt cD H a dx d k ∧ (NoStr K H u ∨ ((∃ y : Str, u = .str y) ∧ NoStr K H v)) ∧ Bad e.N H E
theorem m_Disk_renameN (T : TopD K mg cD cB e iF iO) : MetX P w K mg base (L2.CX P w) 5 cD "rename" (spTwo K cD e) [] := by
  refine metX_of T.cl T.d_rename sc_Disk_rename (fun _ _ _ _ _ _ us hl => match us, hl with | [_, _, _], _ => rfl) (fun vs H Q E h => ?_) (fun f cdv A outer s H vs Q E hr h => ?_)
  · obtain ⟨a, dx, d, k, v, u, rfl, _⟩ := h
    rfl
  · obtain ⟨a, dx, d, k, v, u, rfl, hk, hv, q⟩ := h
    refine ⟨_, (pss_cons (ps_expr (pe_cx (cx__check_name T) hr (by decide) (fun _ => passAt (takes_of rfl rfl rfl rfl) _) (by rfl) (pa_cons (pv 2) pa_nil)))
      (pss_cons (ps_expr (pe_mx (m_Disk_check_is_there T) hr (by decide) (fun _ => passAt (takes_of rfl rfl rfl rfl) _) (pv 0) (pa_cons (pv 1) pa_nil)))
      (pss_cons (ps_expr (pe_mx0 (m_Disk_count_step T) hr (by decide) (fun _ => passAt (takes_of rfl rfl rfl rfl) _) (pv 0)))
      (pss_one (ps_dput (hu_of hr) (pe_fld (pv 0) rfl) (pv 2) (pe_dpop1 (pe_fld (pv 0) rfl) (pv 1) ⟨rfl, rfl, rfl, rfl⟩) rfl))))), ?_⟩
    refine ⟨u, rfl, u, rfl, ?_⟩
    rcases hv with hu | ⟨⟨y, rfl⟩, hv⟩
    · exact .inr ⟨hu, q⟩
    · exact .inl ⟨y, rfl, .ref a, rfl, a, dx, _, rfl, hk.1, rfl, v, rfl, a, dx, d, k, _, rfl, hk, .inr ⟨hv, q⟩⟩
def OTY8 : List String := ["NoneType", "str", "int", "list", "tuple"]
/-- no bytes -/
def NoByt (K : PySem.W.Frag) (H : Hp) (v : V) : Prop := ∃ T ∈ OTY8, TyX K H v (.type T)
theorem noByt_isi {H : Hp} {v : V} (h : NoByt K H v) {R : VK} (r : R (.bl false) H) : rIsi K [v, .ty "bytes"] H R := by
  obtain ⟨T, hT, ty⟩ := h
  refine ⟨_, _, .type T, .type "bytes", false, rfl, .ty "bytes", ty, ?_, r⟩
  simp only [OTY8, List.mem_cons, List.not_mem_nil, or_false] at hT
  rcases hT with rfl | rfl | rfl | rfl | rfl <;> exact kit_ty (by decide +kernel)
def spWrN (K : PySem.W.Frag) (cD : Addr) (e : E4) : Sp := fun vs H Q E => ∃ (a : Addr) (v u : V), vs = [.ref a, v, u] ∧ (NoStr K H v ∨ ((∃ y : Str, v = .str y) ∧ NoByt K H u)) ∧ Bad e.N H E
theorem m_Disk_writeN (T : TopD K mg cD cB e iF iO) : MetX P w K mg base (L2.CX P w) 4 cD "write" (spWrN K cD e) [] := by
  refine metX_of T.cl T.d_write sc_Disk_write (fun _ _ _ _ _ _ us hl => match us, hl with | [_, _, _], _ => rfl) (fun vs H Q E h => ?_) (fun f cdv A outer s H vs Q E hr h => ?_)
  · obtain ⟨a, v, u, rfl, _⟩ := h
    rfl
  · obtain ⟨a, v, u, rfl, hv, q⟩ := h
    refine ⟨_, (pss_cons (ps_expr (pe_cx (cx__check_name T) hr (by decide) (fun _ => passAt (takes_of rfl rfl rfl rfl) _) (by rfl) (pa_cons (pv 1) pa_nil)))
      (pss_cons (ps_if (pt_not (pt_val (pe_callB call_isi (by rfl) T.z_isinstance (by decide +kernel) (pa_cons (pv 2) (pa_cons (pe_bltn (v := .ty "bytes") (by rfl) T.z_bytes (by decide +kernel) rfl) pa_nil)))))
      (pss_one (ps_raise rfl (takes_of rfl rfl rfl rfl) (rs_of T.eN (hr.mono (by decide)) (by rfl) (pa_cons pe_str pa_nil))))
      pss_nil)
      (pss_cons (ps_expr (pe_mx0 (m_Disk_count_step T) hr (by decide) (fun _ => passAt (takes_of rfl rfl rfl rfl) _) (pv 0)))
      (pss_cons (ps_set (i := 3) sc_Disk_write.nd rfl (Or.inl rfl) (pe_ifExp (pt_cmp (pc_din (hu_of hr) (pv 1) (pe_fld (pv 0) rfl))) (pe_ix ix_tup (pe_dget (hu_of hr) (pe_fld (pv 0) rfl) (pv 1) (fun _ _ => rfl)) pe_int (fun _ _ => rfl)) pe_non))
      (pss_one (ps_dput (hu_of hr) (pe_fld (pv 0) rfl) (pv 1) (pe_tup (pa_cons (pv 2) (pa_cons (pv 3) (pa_cons pe_bl pa_nil)))) rfl)))))), ?_⟩
    refine ⟨v, rfl, v, rfl, ?_⟩
    rcases hv with hv | ⟨⟨y, rfl⟩, hu⟩
    · exact .inr ⟨hv, q⟩
    · refine .inl ⟨y, rfl, u, rfl, ?_⟩
      dsimp only [tCons, tC, tNil]
      exact noByt_isi hu ⟨_, rfl, iteT ⟨(by show 1 ≤ 1000; decide), do_raise T.eN fun dd H3 s3 _ h3 => q dd _ H3 s3 h3⟩⟩
def spLimN (K : PySem.W.Frag) (e : E4) : Sp := fun vs H Q E => ∃ (a : Addr) (v : V), vs = [.ref a, v] ∧ ((∃ n : Int, v = .int n ∧ n < 0) ∨ NoInt K H v) ∧ v ≠ .non ∧ Bad e.M H E
theorem m_Disk_limitN (T : TopD K mg cD cB e iF iO) : MetX P w K mg base (L2.CX P w) 4 cD "limit" (spLimN K e) [] := by
  refine metX_of T.cl T.d_limit sc_Disk_limit (fun _ _ _ _ _ _ us hl => match us, hl with | [_, _], _ => rfl) (fun vs H Q E h => ?_) (fun f cdv A outer s H vs Q E hr h => ?_)
  · obtain ⟨a, v, rfl, _⟩ := h
    rfl
  · obtain ⟨a, v, rfl, hv, q⟩ := h
    refine ⟨_, (pss_one (ps_fld (pv 0) (pe_cx (cx__checked_left T) hr (by decide) (fun _ => passAt (takes_of rfl rfl rfl rfl) _) (by rfl) (pa_cons (pv 1) pa_nil)) rfl)), ?_⟩
    exact ⟨v, rfl, v, rfl, .inr ⟨hv, q⟩⟩
def spCrN (K : PySem.W.Frag) (e : E4) : Sp := fun vs H Q E => ∃ (a : Addr) (v : V), vs = [.ref a, v] ∧ ((∃ n : Int, v = .int n ∧ n < 0) ∨ NoInt K H v) ∧ Bad e.M H E
theorem m_Disk_crashedN (T : TopD K mg cD cB e iF iO) : MetX P w K mg base (L2.CX P w) 6 cD "crashed" (spCrN K e) [] := by
  refine metX_of T.cl T.d_crashed sc_Disk_crashed (fun _ _ _ _ _ _ us hl => match us, hl with | [_, _], _ => rfl) (fun vs H Q E h => ?_) (fun f cdv A outer s H vs Q E hr h => ?_)
  · obtain ⟨a, v, rfl, _⟩ := h
    rfl
  · obtain ⟨a, v, rfl, hv, q⟩ := h
    refine ⟨_, (pss_cons (ps_if (pt_not (pt_val (C8.pe_c (c_is_count T.toTop) hr (by decide) (by rfl) (pa_cons (pv 1) pa_nil))))
      (pss_one (ps_raise rfl (takes_of rfl rfl rfl rfl) (rs_of T.eM (hr.mono (by decide)) (by rfl) (pa_cons pe_str pa_nil))))
      pss_nil)
      (pss_cons (ps_set (i := 2) sc_Disk_crashed.nd rfl (Or.inl rfl) (pe_mk0 (k_Disk T) hr (by decide) (by rfl)))
      (pss_cons (ps_for (passes_of rfl) rfl (pi_tup (C8.pe_mt0 (m_Disk_names T) hr (by decide) (pv 0))) (pg_name (i := 3) sc_Disk_crashed.nd rfl (Or.inl rfl))
      (pss_cons (ps_asg (pe_dget (hu_of hr) (pe_fld (pv 0) rfl) (pv 3) (fun _ _ => rfl)) (pg_tup rfl (pgs_cons (pg_name (i := 4) sc_Disk_crashed.nd rfl (Or.inl rfl)) (pgs_cons (pg_name (i := 5) sc_Disk_crashed.nd rfl (Or.inl rfl)) (pgs_cons (pg_name (i := 6) sc_Disk_crashed.nd rfl (Or.inl rfl)) pgs_nil)))))
      (pss_cons (ps_if (pt_val (pv 6))
      (pss_cons (ps_set (i := 7) sc_Disk_crashed.nd rfl (Or.inl rfl) (pe_tup (pa_cons (pv 5) (pa_cons (pe_slice sl_byt (pv 4) po_none (po_some (pe_op op_fdivW (pe_callB call_len (by rfl) T.z_len (by decide +kernel) (pa_cons (pv 4) pa_nil)) pe_int))) (pa_cons (pv 4) pa_nil)))))
      (pss_cons (ps_set (i := 4) sc_Disk_crashed.nd rfl (Or.inl rfl) (pe_ix ix_tup (pv 7) (pe_op op_mod (pe_callTy call_int1 (by rfl) T.z_int (by decide +kernel) (pa_cons (pv 1) pa_nil)) pe_int) (fun _ _ => rfl)))
      (pss_one (ps_set (i := 1) sc_Disk_crashed.nd rfl (Or.inl rfl) (pe_op op_fdivW (pv 1) pe_int)))))
      pss_nil)
      (pss_one (ps_if (pt_cmpR op_notN (pv 4) pe_non (nomark _))
      (pss_one (ps_dput (hu_of hr) (pe_fld (pv 2) rfl) (pv 3) (pe_tup (pa_cons (pv 4) (pa_cons (pv 4) (pa_cons pe_bl pa_nil)))) rfl))
      pss_nil)))))
      (pss_one (ps_ret (pv 2)))))), ?_⟩
    refine ⟨v, rfl, v, rfl, ?_⟩
    rcases hv with ⟨n, rfl, hn⟩ | hv
    · exact .inl ⟨n, rfl, _, rfl, by rw [decide_eq_false (by omega)]; exact iteT ⟨(by show 1 ≤ 1000; decide), do_raise T.eM fun dd H3 s3 _ h3 => q dd _ H3 s3 h3⟩⟩
    · exact .inr ⟨hv, _, rfl, iteT ⟨(by show 1 ≤ 1000; decide), do_raise T.eM fun dd H3 s3 _ h3 => q dd _ H3 s3 h3⟩⟩
/-! ### a blob's bytes -/
def spBlobI (cB : Addr) : Sp := fun vs H Q _ => ∃ (a dx : Addr) (x : Str), vs = [.ref a, .str x] ∧ H a = some (.ins cB dx []) ∧ isTextF x = true ∧ ∀ H', Fr a H H' → H' a = some (.ins cB dx [("_text", .str x)]) → Q .non H'
theorem text_len {x : Str} (h : isTextF x = true) : x.length ≤ 2000 := by
  unfold isTextF at h
  exact of_decide_eq_true (Bool.and_eq_true_iff.mp h).1
theorem k_Blob (T : TopD K mg cD cB e iF iO) : C8.Mak P w K mg base 3 "Blob" cB (spBlobI cB) [] := by
  obtain ⟨f, fd, M, F, df⟩ := T.iniB
  refine C8.mak0 M T.mgB F (F.binds (ps := ["self", "text"]) df fun _ _ _ _ _ _ us hl => match us, hl with | [_, _], _ => rfl) .nil sc_Blob_init (fun vs H Q E h => ?_) (fun cdv A outer s H vs Q E hr h => ?_)
  · obtain ⟨a, dx, x, rfl, _⟩ := h
    rfl
  · obtain ⟨a, dx, x, rfl, ha, hx, q⟩ := h
    have T := T
    refine ⟨_, (pss_cons (ps_if (pt_not (pt_val (C8.pe_c (c_is_text T.toTop) hr (by decide) (by rfl) (pa_cons (pv 1) pa_nil))))
      (pss_one ps_never)
      pss_nil)
      (pss_one (ps_fld (pv 0) (pv 1) rfl))), ?_⟩
    refine ⟨.str x, rfl, .str x, rfl, .str x (by have := text_len hx; omega) (ok_text hx), fun H1 s1 => ⟨_, rfl, ?_⟩⟩
    rw [show evalV isTextF (.str x) = true from hx]
    exact iteF ⟨.str x, rfl, .ref a, rfl, a, cB, dx, _, rfl, s1 _ _ ha, T.insB.cl, T.nT, (by decide), q _ ((Fr.same s1).trans Fr.at) upd_same⟩
theorem p_Blob_text (T : TopD K mg cD cB e iF iO) : Prp P w K mg base 1 cB "text" (getSp cB "_text") := by
  refine prp_of T.insB.cl T.pBtext sc_Blob_text (fun _ _ _ _ _ _ us hl => match us, hl with | [_], _ => rfl) getSp_len (fun f cdv A outer s H vs Q E hr h => ?_)
  obtain ⟨a, dx, fs, v, rfl, ha, hl, q⟩ := h
  refine ⟨_, (pss_one (ps_ret (pe_fld (pv 0) rfl))), ?_⟩
  exact ⟨.ref a, rfl, a, cB, dx, fs, v, rfl, ha, T.insB.cl, T.nT, hl, q⟩
def spEncB (cB : Addr) : Sp := fun vs H Q _ => ∃ (a dx : Addr) (x : Str), vs = [.ref a] ∧ H a = some (.ins cB dx [("_text", .str x)]) ∧ isTextF x = true ∧ Q (.byt (byts (("blob\n" : Str) ++ x))) H
theorem c_encode (T : TopD K mg cD cB e iF iO) : C8.Cal P w K mg base 3 "encode" (spEncB cB) [] := by
  refine cal_of T.d_encode sc_encode (fun _ _ _ _ _ _ us hl => match us, hl with | [_], _ => rfl) (fun vs H Q E h => ?_) (fun f cdv A outer s H vs Q E hr h => ?_)
  · obtain ⟨a, dx, x, rfl, _⟩ := h
    rfl
  · obtain ⟨a, dx, x, rfl, ha, hx, q⟩ := h
    have ax := enc_ax (o := .blob x) hx
    have ln : (("blob\n" : Str) ++ x).length ≤ 3000 := by
      have := text_len hx
      rw [len_app]
      have z : (("blob\n" : Str)).length = 5 := by decide +kernel
      omega
    rw [len_app] at ln
    refine ⟨_, (pss_cons (ps_if (pt_val (pe_callB call_isi (by rfl) T.z_isinstance (by decide +kernel) (pa_cons (pv 0) (pa_cons (C8.pe_gc (by rfl) T.g_Blob) pa_nil))))
      (pss_one (ps_ret (pe_bm PySem.F.plainAttrs_str PySem.F.slot_str_encode PySem.F.type_str_encode mt_ascii (pe_op op_add_str pe_str (pe_pr (p_Blob_text T) hr (by decide) (pv 0))) (pa_cons pe_str pa_nil))))
      pss_nil)
      pss_vac), ?_⟩
    refine ⟨.ref a, rfl, ?_⟩
    dsimp only [tCons, tC, tNil]
    have I := T.insB
    refine ⟨_, _, .ref cB, .ref cB, true, rfl, .own _, .base (.ins ha I.cl I.ha I.hn I.htk I.hm), T.kBB, _, rfl, iteT ?_⟩
    exact ⟨.ref a, rfl, a, dx, _, rfl, ha, a, dx, _, .str x, rfl, ha, rfl, _, _, rfl, rfl, small_line (by omega), rfl, _, rfl, rfl, ax, by rw [len_app]; omega, q⟩
end

end Fk

set_option maxHeartbeats 4000000
namespace Fk
open PySem PySem.Spec PyProof.Rows L2
/-- half of it -/
def halfB (b : Byt) : Byt := PySem.W.KBy.picked b none (some ((b.size : Int) / 2))
def pick3 (f : Fl) (m : Int) : Option Byt := if m % 3 = 0 then f.s else if m % 3 = 1 then some (halfB f.c) else some f.c
def outc (f : Fl) (m : Int) : Option Byt × Int := if f.u then (pick3 f m, m / 3) else (some f.c, m)
theorem pick3_at (f : Fl) (m : Int) : atI [optB f.s, .byt (halfB f.c), .byt f.c] (m % 3) = some (optB (pick3 f m)) := by
  unfold pick3
  have h : m % 3 = 0 ∨ m % 3 = 1 ∨ m % 3 = 2 := by omega
  rcases h with h | h | h <;> rw [h] <;> rfl
def crStep (fs : Fls) (st : Int × Fls) (y : Str) : Int × Fls := match lookF fs y with
  | none => st
  | some f => ((outc f st.1).2, match (outc f st.1).1 with | none => st.2 | some b => putF st.2 y ⟨b, some b, false⟩)
def crashG (fs : Fls) (ys : List Str) (m : Int) : Fls := (ys.foldl (crStep fs) (m, [])).2
theorem outc_nn {f : Fl} {m : Int} (h : 0 ≤ m) : 0 ≤ (outc f m).2 := by
  unfold outc
  split
  · exact Int.ediv_nonneg h (by decide)
  · exact h
theorem putF_len (fs : Fls) (x : Str) (f : Fl) : (putF fs x f).length ≤ fs.length + 1 := by
  unfold putF
  split
  · rw [List.length_map]
    exact Nat.le_succ _
  · rw [List.length_append]
    exact Nat.le_refl _
theorem crStep_nn {fs : Fls} {st : Int × Fls} {y : Str} (h : 0 ≤ st.1) : 0 ≤ (crStep fs st y).1 := by
  unfold crStep
  split
  · exact h
  · exact outc_nn h
theorem crStep_len (fs : Fls) (st : Int × Fls) (y : Str) : (crStep fs st y).2.length ≤ st.2.length + 1 := by
  unfold crStep
  split
  · exact Nat.le_succ _
  · split
    · exact Nat.le_succ _
    · exact putF_len _ _ _
theorem cr_nn {fs : Fls} : ∀ {ys : List Str} {st : Int × Fls}, 0 ≤ st.1 → 0 ≤ (ys.foldl (crStep fs) st).1
  | [], _, h => h
  | y :: ys, st, h => cr_nn (ys := ys) (st := crStep fs st y) (crStep_nn h)
theorem cr_len {fs : Fls} : ∀ {ys : List Str} {st : Int × Fls}, (ys.foldl (crStep fs) st).2.length ≤ st.2.length + ys.length
  | [], _ => Nat.le_refl _
  | y :: ys, st => by
    have h1 := cr_len (fs := fs) (ys := ys) (st := crStep fs st y)
    have h2 := crStep_len fs st y
    rw [List.foldl_cons, List.length_cons]
    omega
theorem fold_take {α β : Type} (g : β → α → β) (b : β) {l : List α} {i : Nat} {x : α} (h : l[i]? = some x) : (l.take (i + 1)).foldl g b = g ((l.take i).foldl g b) x := by
  rw [List.take_succ, h]
  simp
/-- sizes -/
def SzF (fs : Fls) : Prop := ∀ p ∈ fs, p.2.c.size ≤ 10000
theorem look_in {fs : Fls} {x : Str} {f : Fl} (h : lookF fs x = some f) : ∃ p ∈ fs, p.2 = f := by
  unfold lookF at h
  cases e : fs.find? fun p => decide (p.1 = x) with
  | none => rw [e] at h; cases h
  | some p =>
    rw [e] at h
    exact ⟨p, List.mem_of_find?_eq_some e, Option.some.inj h⟩
theorem key_in {fs : Fls} {x : Str} (h : x ∈ fs.map (·.1)) : ∃ f, lookF fs x = some f := by
  obtain ⟨p, hp, e⟩ := List.mem_map.mp h
  unfold lookF
  cases q : fs.find? fun p => decide (p.1 = x) with
  | none => exact absurd (decide_eq_true e) (by simpa using List.find?_eq_none.mp q p hp)
  | some r => exact ⟨r.2, rfl⟩
section
variable {P : Program} {w : World} {K : PySem.W.Frag} {mg : Str → Option Value} {base : Heap} {cD cB iF iO : Addr} {e : E4}
def spCrash (cD : Addr) : Sp := fun vs H Q _ => ∃ (a dx d : Addr) (k : Dk) (m : Int), vs = [.ref a, .int m] ∧ DkAt cD H a dx d k ∧ 0 ≤ m ∧ k.fs.length < 64 ∧ SzF k.fs ∧ ∀ (ys : List Str), ys.Perm (k.fs.map (·.1)) → sortedS ys = true → ∀ a' dx' d' H', H a' = none → H d' = none → Same H H' → DkAt cD H' a' dx' d' ⟨crashG k.fs ys m, none⟩ → Q (.ref a') H'
theorem m_Disk_crashed (T : TopD K mg cD cB e iF iO) : C8.Met P w K mg base 6 cD "crashed" (spCrash cD) [] := by
  refine met_of T.cl T.d_crashed sc_Disk_crashed (fun _ _ _ _ _ _ us hl => match us, hl with | [_, _], _ => rfl) (fun vs H Q E h => ?_) (fun f cdv A outer s H vs Q E hr h => ?_)
  · obtain ⟨a, dx, d, k, m, rfl, _⟩ := h
    rfl
  · obtain ⟨a, dx, d, k, m, rfl, hk, h0, hl, hz, q⟩ := h
    refine ⟨_, (pss_cons (ps_if (pt_not (pt_val (C8.pe_c (c_is_count T.toTop) hr (by decide) (by rfl) (pa_cons (pv 1) pa_nil))))
      (pss_one ps_never)
      pss_nil)
      (pss_cons (ps_set (i := 2) sc_Disk_crashed.nd rfl (Or.inl rfl) (pe_mk0 (k_Disk T) hr (by decide) (by rfl)))
      (pss_cons (ps_for PassesOwn.never rfl (pi_tup (C8.pe_mt0 (m_Disk_names T) hr (by decide) (pv 0))) (pg_name (i := 3) sc_Disk_crashed.nd rfl (Or.inl rfl))
      (pss_cons (ps_asg (pe_dget (hu_of hr) (pe_fld (pv 0) rfl) (pv 3) (fun _ _ => rfl)) (pg_tup rfl (pgs_cons (pg_name (i := 4) sc_Disk_crashed.nd rfl (Or.inl rfl)) (pgs_cons (pg_name (i := 5) sc_Disk_crashed.nd rfl (Or.inl rfl)) (pgs_cons (pg_name (i := 6) sc_Disk_crashed.nd rfl (Or.inl rfl)) pgs_nil)))))
      (pss_cons (ps_if (pt_val (pv 6))
      (pss_cons (ps_set (i := 7) sc_Disk_crashed.nd rfl (Or.inl rfl) (pe_tup (pa_cons (pv 5) (pa_cons (pe_slice sl_byt (pv 4) po_none (po_some (pe_op op_fdivW (pe_callB call_len (by rfl) T.z_len (by decide +kernel) (pa_cons (pv 4) pa_nil)) pe_int))) (pa_cons (pv 4) pa_nil)))))
      (pss_cons (ps_set (i := 4) sc_Disk_crashed.nd rfl (Or.inl rfl) (pe_ix ix_tup (pv 7) (pe_op op_mod (pe_callTy call_int1 (by rfl) T.z_int (by decide +kernel) (pa_cons (pv 1) pa_nil)) pe_int) (fun _ _ => rfl)))
      (pss_one (ps_set (i := 1) sc_Disk_crashed.nd rfl (Or.inl rfl) (pe_op op_fdivW (pv 1) pe_int)))))
      pss_nil)
      (pss_one (ps_if (pt_cmpR op_notN (pv 4) pe_non (nomark _))
      (pss_one (ps_dput (hu_of hr) (pe_fld (pv 2) rfl) (pv 3) (pe_tup (pa_cons (pv 4) (pa_cons (pv 4) (pa_cons pe_bl pa_nil)))) rfl))
      pss_nil)))))
      (pss_one (ps_ret (pv 2)))))), ?_⟩
    refine ⟨.int m, rfl, .int m, rfl, .inl ⟨m, rfl, _, rfl, ?_⟩⟩
    rw [decide_eq_true h0]
    refine iteF ?_
    intro a' dx' ha' hdx' nd'
    refine ⟨a', dx', none, rfl, upd_same, (fun n z => nomatch z), fun d' H1 hd' f1 k1 => ⟨rfl, ?_⟩⟩
    have s1 : Same H H1 := fun b o z => by
      have n1 := ne_of_none z ha'
      exact f1 b o n1 (by rw [upd_ne n1, upd_ne (ne_of_none z hdx')]; exact z)
    have hk1 := hk.same s1
    have n0 : Dk := k
    have hA1 := hk1.1
    have nad' : a' ≠ d' := k1.ne
    have hda : d' ≠ a ∧ d' ≠ d := by
      have z : H d' = none := by
        have z1 : d' ≠ a' := nad'.symm
        have := hd'
        rw [upd_ne z1] at this
        by_cases z2 : d' = dx'
        · rw [z2]; exact hdx'
        · rw [upd_ne z2] at this; exact this
      obtain ⟨g1, t, g2, _⟩ := hk
      exact ⟨fun y => (by rw [y, g1] at z; cases z), fun y => (by rw [y, g2] at z; cases z)⟩
    have zd' : H d' = none := by
      have z1 : d' ≠ a' := nad'.symm
      have := hd'
      rw [upd_ne z1] at this
      by_cases z2 : d' = dx'
      · rw [z2]; exact hdx'
      · rw [upd_ne z2] at this; exact this
    refine ⟨.ref a, rfl, a, dx, _, rfl, hA1, rfl, a, dx, d, k, rfl, hk1, hl, fun ys p H2 hp hs np s2 hq => ⟨p, rfl, ⟨_, SqT.of hq⟩, ?_⟩⟩
    have k2 := k1.same s2
    have hk2 := hk1.same s2
    have npd : p ≠ d' := fun z => by
      obtain ⟨_, t, z2, _⟩ := k1
      rw [z, z2] at np
      cases np
    have lys : ys.length = k.fs.length := by
      have := hp.length_eq
      rwa [List.length_map] at this
    refine forG (items := ys.map V.str) yields_tup (fun i σ H' => Fr d' H2 H' ∧ TupKeep H2 H' ∧ DkAt cD H' a' dx' d' ⟨((ys.take i).foldl (crStep k.fs) (m, [])).2, none⟩ ∧ ∃ z3 z4 z5 z6 z7, σ = [some (.ref a), some (.int ((ys.take i).foldl (crStep k.fs) (m, [])).1), some (.ref a'), z3, z4, z5, z6, z7]) ⟨Fr.refl _ _, TupKeep.refl _, k2, none, none, none, none, none, rfl⟩
      (fun i σ H' I => SqT.of (I.1 _ _ npd hq)) (fun i v σ H' hv I => ?_) (fun σ H' I => ?_)
    · obtain ⟨f3, kt3, k3, z3, z4, z5, z6, z7, rfl⟩ := I
      obtain ⟨y, hy, rfl⟩ : ∃ y, ys[i]? = some y ∧ v = .str y := by
        rw [List.getElem?_map] at hv
        cases e0 : ys[i]? with
        | none => rw [e0] at hv; cases hv
        | some y => rw [e0] at hv; exact ⟨y, rfl, (Option.some.inj hv).symm⟩
      have hym : y ∈ k.fs.map (·.1) := hp.mem_iff.mp (List.mem_of_getElem? hy)
      obtain ⟨f, hf⟩ := key_in hym
      have ft := fold_take (crStep k.fs) (m, []) hy
      generalize hst : (ys.take i).foldl (crStep k.fs) (m, []) = st at ft k3
      have st0 : 0 ≤ st.1 := by rw [← hst]; exact cr_nn h0
      have stl : st.2.length ≤ i := by
        rw [← hst]
        have := cr_len (fs := k.fs) (ys := ys.take i) (st := (m, []))
        rw [List.length_take] at this
        simp only [List.length_nil] at this
        omega
      have il : i < ys.length := (List.getElem?_eq_some_iff.mp hy).1
      obtain ⟨hA, t, hD, hF⟩ := id hk2
      have hA3 : H' a = some (.ins cD dx (dkF d k.left)) := f3 _ _ hda.1.symm hA
      have hD3 : H' d = some (.dK (kT t)) := f3 _ _ hda.2.symm hD
      have hF3 := hF.keep kt3
      rcases hF3.val y with ⟨l0, _⟩ | ⟨f', qq, l1, l2, l3⟩
      · rw [hf] at l0
        cases l0
      rw [hf] at l1
      cases l1
      have g := dget_kT (.inl hD3) y
      rw [l2] at g
      refine ⟨.ref a, rfl, a, cD, dx, _, _, rfl, hA3, T.cl, T.nF, rfl, .str y, rfl, d, _, rfl, g, ?_⟩
      refine ⟨qq, _, rfl, SqT.of l3, rfl, .byt f.c, _, rfl, optB f.s, _, rfl, .bl f.u, _, rfl, rfl, ?_⟩
      have szf0 : f.c.size ≤ 10000 := by
        obtain ⟨pp, hpp, epp⟩ := look_in hf
        have := hz pp hpp
        rwa [epp] at this
      have szf : f.c.size ≤ 16777216 := by omega
      have ecr : crStep k.fs st y = ((outc f st.1).2, match (outc f st.1).1 with | none => st.2 | some b => putF st.2 y ⟨b, some b, false⟩) := by
        unfold crStep
        rw [hf]
      obtain ⟨hA', t', hD', hF'⟩ := id k3
      have small : (kT t').length < sizeLine := small_lt (by rw [len_kT, hF'.len]; show st.2.length ≤ 1000000; omega)
      have endN : ∀ (H4 : Hp), Same H' H4 → (outc f st.1).1 = none → Fr d' H2 H4 ∧ TupKeep H2 H4 ∧ DkAt cD H4 a' dx' d' ⟨(crStep k.fs st y).2, none⟩ := fun H4 s4 eo => by
        rw [ecr, eo]
        exact ⟨f3.trans (Fr.same s4), kt3.trans (TupKeep.of s4), k3.same s4⟩
      have endS : ∀ (H4 : Hp) (b : Byt) (pp : Addr), Same H' H4 → H4 pp = none → (outc f st.1).1 = some b → (upd H4 pp (.tup [.byt b, .byt b, .bl false])) a' = some (.ins cD dx' (dkF d' none)) ∧ (upd H4 pp (.tup [.byt b, .byt b, .bl false])) d' = some (.dK (kT t')) ∧
          Fr d' H2 (upd (upd H4 pp (.tup [.byt b, .byt b, .bl false])) d' (.dK (kT (putK t' y (.ref pp))))) ∧ TupKeep H2 (upd (upd H4 pp (.tup [.byt b, .byt b, .bl false])) d' (.dK (kT (putK t' y (.ref pp))))) ∧ DkAt cD (upd (upd H4 pp (.tup [.byt b, .byt b, .bl false])) d' (.dK (kT (putK t' y (.ref pp))))) a' dx' d' ⟨(crStep k.fs st y).2, none⟩ := fun H4 b pp s4 hpp eo => by
        have s5 := s4.trans (same_new (o := .tup [.byt b, .byt b, .bl false]) hpp)
        have hp5 : (upd H4 pp (.tup [.byt b, .byt b, .bl false])) pp = some (.tup [.byt b, .byt b, .bl false]) := upd_same
        generalize upd H4 pp (.tup [.byt b, .byt b, .bl false]) = H5 at s5 hp5 ⊢
        have kt : TupKeep H5 (upd H5 d' (.dK (kT (putK t' y (.ref pp))))) := TupKeep.at fun xs z => by rw [s5 _ _ hD'] at z; cases z
        rw [ecr, eo]
        refine ⟨s5 _ _ hA', s5 _ _ hD', (f3.trans (Fr.same s5)).trans Fr.at, (kt3.trans (TupKeep.of s5)).trans kt, by rw [upd_ne nad']; exact s5 _ _ hA', _, upd_same, FlsAt.keep (FlsAt.put (hF'.keep (TupKeep.of s5)) (f := ⟨b, some b, false⟩) hp5) kt⟩
      refine ⟨.bl f.u, rfl, _, rfl, ?_⟩
      cases hu : f.u with
      | true =>
        refine iteT ?_
        refine ⟨optB f.s, rfl, .byt f.c, rfl, .byt f.c, rfl, .byt f.c, _, rfl, ⟨small_line (by omega), rfl⟩, _, 2, rfl, rfl, ⟨by decide, by decide⟩, _, rfl, f.c, rfl, szf, .byt f.c, rfl, (by show 3 ≤ sizeLine; decide), fun p1 hp1 => ?_⟩
        have sq := same_new (o := .tup [optB f.s, .byt (halfB f.c), .byt f.c]) hp1
        have hq1 : (upd H' p1 (.tup [optB f.s, .byt (halfB f.c), .byt f.c])) p1 = some (.tup [optB f.s, .byt (halfB f.c), .byt f.c]) := upd_same
        refine ⟨.ref p1, rfl, .int st.1, rfl, .inl ⟨_, rfl, _, 3, rfl, rfl, (by show (0 : Int) < 3; decide), p1, _, _, _, rfl, rfl, SqT.of hq1, pick3_at f st.1, ?_⟩⟩
        refine ⟨.int st.1, rfl, _, 3, rfl, rfl, ⟨by decide, by decide⟩, ?_⟩
        have eo : (outc f st.1).1 = pick3 f st.1 := by unfold outc; rw [if_pos hu]
        have em : (outc f st.1).2 = st.1 / 3 := by unfold outc; rw [if_pos hu]
        cases hp3 : pick3 f st.1 with
        | none =>
          refine ⟨.non, rfl, rfl, _, rfl, iteF ?_⟩
          obtain ⟨q1, q2, q3⟩ := endN _ sq (by rw [eo, hp3])
          refine ⟨q1, q2, by rw [ft]; exact q3, some (.str y), some (optB none), some (optB f.s), some (.bl true), some (.ref p1), ?_⟩
          rw [ft, ecr, em]
          rfl
        | some b =>
          refine ⟨.byt b, rfl, rfl, _, rfl, iteT ?_⟩
          refine ⟨.byt b, rfl, .byt b, rfl, (by show 3 ≤ sizeLine; decide), fun p2 hp2 => ?_⟩
          obtain ⟨r1, r2, q1, q2, q3⟩ := endS _ b p2 sq hp2 (by rw [eo, hp3])
          refine ⟨.ref a', rfl, a', cD, dx', _, _, rfl, r1, T.cl, T.nF, rfl, .str y, rfl, d', _, rfl, .inl ⟨kT t', .inr y, r2, rfl, small, rfl⟩, ?_⟩
          rw [putK_kT]
          refine ⟨q1, q2, by rw [ft]; exact q3, some (.str y), some (optB (some b)), some (optB f.s), some (.bl true), some (.ref p1), ?_⟩
          rw [ft, ecr, em]
          rfl
      | false =>
        refine iteF ?_
        have eo : (outc f st.1).1 = some f.c := by unfold outc; rw [hu]; rfl
        have em : (outc f st.1).2 = st.1 := by unfold outc; rw [hu]; rfl
        refine ⟨.byt f.c, rfl, rfl, _, rfl, iteT ?_⟩
        refine ⟨.byt f.c, rfl, .byt f.c, rfl, (by show 3 ≤ sizeLine; decide), fun p2 hp2 => ?_⟩
        obtain ⟨r1, r2, q1, q2, q3⟩ := endS _ f.c p2 (Same.refl _) hp2 eo
        refine ⟨.ref a', rfl, a', cD, dx', _, _, rfl, r1, T.cl, T.nF, rfl, .str y, rfl, d', _, rfl, .inl ⟨kT t', .inr y, r2, rfl, small, rfl⟩, ?_⟩
        rw [putK_kT]
        refine ⟨q1, q2, by rw [ft]; exact q3, some (.str y), some (.byt f.c), some (optB f.s), some (.bl false), z7, ?_⟩
        rw [ft, ecr, em]
        rfl
    · obtain ⟨f3, kt3, k3, z3, z4, z5, z6, z7, rfl⟩ := I
      rw [List.length_map, List.take_length] at k3
      refine ⟨.ref a', rfl, ?_⟩
      have s3 : Same H H' := fun b o z => f3 b o (ne_of_none z zd') (s2 _ _ (s1 _ _ z))
      exact q ys hp hs a' dx' d' H' ha' zd' s3 k3
end

end Fk

set_option maxHeartbeats 4000000
namespace Fk
open PySem PySem.Spec PyProof.Rows L2
section
variable {P : Program} {w : World} {K : PySem.W.Frag} {mg : Str → Option Value} {base : Heap}
/-! ### the wells -/
def spCellAt (K : PySem.W.Frag) : Sp := fun vs H Q _ => ∃ (a : Addr) (ns : List Int) (k : Nat), vs = [.ref a, .int k] ∧ SqL K H a (ns.map V.int) ∧ ∀ v : Int, Q (.int v) H
theorem c_l_cell_at (T : Top K mg) : C8.Cal P w K mg base 1 "_law_cell_at" (spCellAt K) [] := by
  refine cal_of T.d_l_cell_at sc_l_cell_at (fun _ _ _ _ _ _ us hl => match us, hl with | [_, _], _ => rfl) (fun vs H Q E h => ?_) (fun f cdv A outer s H vs Q E hr h => ?_)
  · obtain ⟨a, ns, k, rfl, _⟩ := h
    rfl
  · obtain ⟨a, ns, k, rfl, hS, q⟩ := h
    refine ⟨_, (pss_cons (ps_if (pt_cmpR op_lt (pv 1) (pe_callB call_len_seq (by rfl) T.z_len (by decide +kernel) (pa_cons (pv 0) pa_nil)) (nomark _))
      (pss_one (ps_ret (pe_ix ix_list (pv 0) (pv 1) (fun _ _ => rfl))))
      pss_nil)
      (pss_one (ps_ret pe_int))), ?_⟩
    refine ⟨.int k, rfl, .ref a, rfl, a, _, rfl, .inl hS, _, _, rfl, rfl, _, rfl, ite2 (fun h1 => ?_) (fun h1 => ?_)⟩
    · have h1 := of_decide_eq_true h1
      rw [List.length_map] at h1
      have h2 : k < ns.length := by omega
      exact ⟨.ref a, rfl, .int k, rfl, a, _, k, .int ns[k], rfl, rfl, hS, atI_nat (by rw [List.getElem?_map, List.getElem?_eq_getElem h2]; rfl), q _⟩
    · exact q _
def spWell : Sp := fun vs H Q _ => ∃ (x : Int), vs = [.int x] ∧ ∀ H' a, H a = none → Same H H' → Wl H' a 0 → Q (.ref a) H'
theorem c_l_well (T : Top K mg) : C8.Cal P w K mg base 1 "_law_well" spWell [] := by
  refine cal_of T.d_l_well sc_l_well (fun _ _ _ _ _ _ us hl => match us, hl with | [_], _ => rfl) (fun vs H Q E h => ?_) (fun f cdv A outer s H vs Q E hr h => ?_)
  · obtain ⟨x, rfl, _⟩ := h
    rfl
  · obtain ⟨x, rfl, q⟩ := h
    refine ⟨_, (pss_one (ps_ret (pe_lst (pa_cons (pe_op op_mul (pv 0) (pe_callTy call_int1 (by rfl) T.z_int (by decide +kernel) (pa_cons (pe_cmpR op_ge (pv 0) (pe_op op_pow pe_int pe_int) (nomark _)) pa_nil))) (pa_cons (pv 0) (pa_cons pe_int pa_nil)))))), ?_⟩
    refine ⟨.int x, rfl, .int x, rfl, 10, 18, rfl, rfl, ⟨by decide, by decide, by decide⟩, _, _, rfl, rfl, .inr ⟨_, rfl, _, _, rfl, rfl, .inr ?_, .int x, rfl, (by show 3 ≤ sizeLine; decide), fun p hp => ?_⟩⟩
    · split <;> exact ⟨by decide, by decide⟩
    · exact q _ p hp (same_new hp) ⟨Int.le_refl _, _, _, upd_same⟩
/-- the number that is drawn; the well behind it -/
def Drawn (H : Hp) (a : Addr) (n c : Int) (Q : VK) : Prop := ∀ r x y c', 0 ≤ r → r < n → c ≤ c' → c' ≤ c + 1 → Q (.int r) (upd H a (.lst [.int x, .int y, .int c']))
def spDraw : Sp := fun vs H Q _ => ∃ (a : Addr) (n c : Int), vs = [.ref a, .int n] ∧ Wl H a c ∧ 0 < n ∧ n < 2000000000 ∧ c < 2 ^ 40 ∧ Drawn H a n c Q
theorem at3 (x y c : Int) : atI [V.int x, .int y, .int c] 0 = some (.int x) ∧ atI [V.int x, .int y, .int c] 1 = some (.int y) ∧ atI [V.int x, .int y, .int c] 2 = some (.int c) := ⟨rfl, rfl, rfl⟩
theorem pow_small {i : Int} (h0 : 0 ≤ i) (h : i < 2 ^ 62) : i.natAbs < 2 ^ 64 := by omega
theorem c_l_draw (T : Top K mg) : C8.Cal P w K mg base 1 "_law_draw" spDraw [] := by
  refine cal_of T.d_l_draw sc_l_draw (fun _ _ _ _ _ _ us hl => match us, hl with | [_, _], _ => rfl) (fun vs H Q E h => ?_) (fun f cdv A outer s H vs Q E hr h => ?_)
  · obtain ⟨a, n, c, rfl, _⟩ := h
    rfl
  · obtain ⟨a, n, c, rfl, ⟨hc0, x, y, hw⟩, hn0, hn1, hc, q⟩ := h
    refine ⟨_, (pss_cons (ps_if (pt_cmpR op_gt (pe_ix ix_list (pv 0) pe_int (fun _ _ => rfl)) pe_int (nomark _))
      (pss_cons (ps_set (i := 2) sc_l_draw.nd rfl (Or.inl rfl) (pe_op op_mod (pe_callTy call_int1 (by rfl) T.z_int (by decide +kernel) (pa_cons (pe_ix ix_list (pv 0) pe_int (fun _ _ => rfl)) pa_nil)) (pv 1)))
      (pss_cons (ps_asg (pe_op op_fdivW (pe_ix ix_list (pv 0) pe_int (fun _ _ => rfl)) (pv 1)) (pg_sub (pv 0) pe_int set_list))
      (pss_one (ps_ret (pv 2)))))
      pss_nil)
      (pss_cons (ps_asg (pe_op op_add (pe_ix ix_list (pv 0) pe_int (fun _ _ => rfl)) pe_int) (pg_sub (pv 0) pe_int set_list))
      (pss_cons (ps_set (i := 3) sc_l_draw.nd rfl (Or.inl rfl) (pe_op op_add (pe_op op_mod (pe_callTy call_int1 (by rfl) T.z_int (by decide +kernel) (pa_cons (pe_ix ix_list (pv 0) pe_int (fun _ _ => rfl)) pa_nil)) pe_int) (pe_op op_mul (pe_op op_mod (pe_callTy call_int1 (by rfl) T.z_int (by decide +kernel) (pa_cons (pe_op op_fdivW (pe_ix ix_list (pv 0) pe_int (fun _ _ => rfl)) pe_int) pa_nil)) pe_int) pe_int)))
      (pss_cons (ps_set (i := 4) sc_l_draw.nd rfl (Or.inl rfl) (pe_op op_mod (pe_callTy call_int1 (by rfl) T.z_int (by decide +kernel) (pa_cons (pe_op op_pow (pe_op op_add (pe_op op_add (pv 3) (pe_op op_mul pe_int (pe_ix ix_list (pv 0) pe_int (fun _ _ => rfl)))) pe_int) pe_int) pa_nil)) pe_int))
      (pss_cons (ps_set (i := 4) sc_l_draw.nd rfl (Or.inl rfl) (pe_op op_mod (pe_callTy call_int1 (by rfl) T.z_int (by decide +kernel) (pa_cons (pe_op op_mul (pv 4) (pe_op op_add (pe_op op_add (pe_op op_fdivW (pv 4) pe_int) pe_int) (pe_ix ix_list (pv 0) pe_int (fun _ _ => rfl)))) pa_nil)) pe_int))
      (pss_one (ps_ret (pe_op op_mod (pe_callTy call_int1 (by rfl) T.z_int (by decide +kernel) (pa_cons (pe_op op_mod (pe_callTy call_int1 (by rfl) T.z_int (by decide +kernel) (pa_cons (pe_op op_mul (pv 4) (pe_op op_add (pe_op op_fdivW (pv 4) pe_int) pe_int)) pa_nil)) pe_int) pa_nil)) (pv 1))))))))), ?_⟩
    refine ⟨.ref a, rfl, a, _, 0, _, rfl, rfl, SqL.of hw, rfl, _, _, rfl, rfl, _, rfl, ite2 (fun h1 => ?_) (fun h1 => ?_)⟩
    · refine ⟨.ref a, rfl, a, _, 0, _, rfl, rfl, SqL.of hw, rfl, .inl ⟨_, rfl, .int n, rfl, _, _, rfl, rfl, hn0, ?_⟩⟩
      refine ⟨.ref a, rfl, a, _, 0, _, rfl, rfl, SqL.of hw, rfl, .int n, rfl, _, _, rfl, rfl, wide_div (b := 31) hn0 (by omega) (by decide) (by decide), .ref a, rfl, a, _, 0, 0, rfl, rfl, hw, rfl, .int (x % n), rfl, ?_⟩
      exact q _ _ _ _ (Int.emod_nonneg _ (by omega)) (Int.emod_lt_of_pos _ hn0) (Int.le_refl _) (by omega)
    · refine ⟨.ref a, rfl, a, _, 2, _, rfl, rfl, SqL.of hw, rfl, _, _, rfl, rfl, .ref a, rfl, a, _, 2, 2, rfl, rfl, hw, rfl, ?_⟩
      have hw2 : (upd H a (.lst [V.int x, .int y, .int (c + 1)])) a = some (.lst [V.int x, .int y, .int (c + 1)]) := upd_same
      have b1 : ∀ z m : Int, 0 < m → 0 ≤ z % m ∧ z % m < m := fun z m h => ⟨Int.emod_nonneg _ (by omega), Int.emod_lt_of_pos _ h⟩
      have y1 := b1 y 2147483549 (by decide)
      have y2 := b1 (y / 2147483549) 80021 (by decide)
      refine ⟨.ref a, rfl, a, _, 1, _, rfl, rfl, SqL.of hw2, rfl, .inl ⟨_, rfl, _, _, rfl, rfl, (by show (0 : Int) < _; decide), .ref a, rfl, a, _, 1, _, rfl, rfl, SqL.of hw2, rfl, _, _, rfl, rfl, wide_div (b := 40) (by decide) (by decide) (by decide) (by decide), .inl ⟨_, rfl, _, _, rfl, rfl, (by show (0 : Int) < _; decide), _, _, rfl, rfl, .inr (by decide), _, _, rfl, rfl, ?_⟩⟩⟩
      refine ⟨_, rfl, .ref a, rfl, a, _, 2, _, rfl, rfl, SqL.of hw2, rfl, _, _, rfl, rfl, .inl (by decide), _, _, rfl, rfl, _, _, rfl, rfl, _, _, rfl, rfl, ⟨by decide, by decide, pow_small (by omega) (by omega)⟩, .inl ⟨_, rfl, _, _, rfl, rfl, (by show (0 : Int) < _; decide), ?_⟩⟩
      generalize ((y % 2147483549 + y / 2147483549 % 80021 * 37 + 5843 * (c + 1) + 17) ^ Int.toNat 5) = big
      have m1 := b1 big 2147483647 (by decide)
      refine ⟨_, rfl, _, rfl, _, _, rfl, rfl, wide_div (b := 40) (by decide) (by decide) (by decide) (by decide), _, _, rfl, rfl, .ref a, rfl, a, _, 2, _, rfl, rfl, SqL.of hw2, rfl, _, _, rfl, rfl, _, _, rfl, rfl, .inl (by omega), .inl ⟨_, rfl, _, _, rfl, rfl, (by show (0 : Int) < _; decide), ?_⟩⟩
      generalize (big % 2147483647 * (big % 2147483647 / 953 + 40993 + (c + 1))) = big2
      have m2 := b1 big2 2147483629 (by decide)
      refine ⟨_, rfl, _, rfl, _, _, rfl, rfl, wide_div (b := 40) (by decide) (by decide) (by decide) (by decide), _, _, rfl, rfl, _, _, rfl, rfl, .inl (by omega), .inl ⟨_, rfl, _, _, rfl, rfl, (by show (0 : Int) < _; decide), .inl ⟨_, rfl, .int n, rfl, _, _, rfl, rfl, hn0, ?_⟩⟩⟩
      exact q _ _ _ _ (Int.emod_nonneg _ (by omega)) (Int.emod_lt_of_pos _ hn0) (by omega) (Int.le_refl _)
def spPick (K : PySem.W.Frag) : Sp := fun vs H Q _ => ∃ (a b : Addr) (xs : List V) (c : Int), vs = [.ref a, .ref b] ∧ Wl H a c ∧ SqL K H b xs ∧ b ≠ a ∧ 0 < xs.length ∧ xs.length < 1000000 ∧ c < 2 ^ 40 ∧ ∀ v ∈ xs, Aft a c 1 H (Q v)
theorem c_l_pick (T : Top K mg) : C8.Cal P w K mg base 2 "_law_pick" (spPick K) [] := by
  refine cal_of T.d_l_pick sc_l_pick (fun _ _ _ _ _ _ us hl => match us, hl with | [_, _], _ => rfl) (fun vs H Q E h => ?_) (fun f cdv A outer s H vs Q E hr h => ?_)
  · obtain ⟨a, b, xs, c, rfl, _⟩ := h
    rfl
  · obtain ⟨a, b, xs, c, rfl, hw, hS, nb, h0, h1, hc, q⟩ := h
    refine ⟨_, (pss_one (ps_ret (pe_ix ix_list (pv 1) (C8.pe_c (c_l_draw T) hr (by decide) (by rfl) (pa_cons (pv 0) (pa_cons (pe_callB call_len_seq (by rfl) T.z_len (by decide +kernel) (pa_cons (pv 1) pa_nil)) pa_nil))) (fun _ _ => rfl)))), ?_⟩
    refine ⟨.ref b, rfl, .ref a, rfl, .ref b, rfl, b, xs, rfl, .inl hS, a, xs.length, c, rfl, hw, by omega, by omega, hc, fun r x y c' hr0 hr1 hc1 hc2 => ?_⟩
    obtain ⟨v, hv, _, e⟩ := atI_int hr0 hr1
    exact ⟨b, xs, r, v, rfl, rfl, sql_fr hS nb Fr.at, e, q v hv _ c' Fr.at (Wl.upd (by have := hw.1; omega)) hc1 hc2⟩
theorem menu {xs : List Int} {v : V} (h : v ∈ xs.map V.int) : ∃ m ∈ xs, v = .int m := by
  obtain ⟨m, hm, rfl⟩ := List.mem_map.mp h
  exact ⟨m, hm, rfl⟩
theorem do_draw {H : Hp} {a : Addr} {n k : Int} {Q : VK} (hw : Wl H a k) (h0 : 0 < n) (h1 : n < 2000000000) (hk : k < 2 ^ 39) (q : ∀ r : Nat, (r : Int) < n → ∀ H' k', Fr a H H' → Wl H' a k' → k ≤ k' → k' ≤ k + 1 → Q (.int r) H') : spDraw [.ref a, .int n] H Q C8.E0 := by
  refine ⟨a, n, k, rfl, hw, h0, h1, by omega, fun r x y k' r0 r1 k1 k2 => ?_⟩
  obtain ⟨m, rfl⟩ := Int.eq_ofNat_of_zero_le r0
  exact q m r1 _ k' Fr.at (Wl.upd (by have := hw.1; omega)) k1 k2
theorem do_pick {H : Hp} {a b : Addr} {xs : List V} {k : Int} {Q : VK} (hw : Wl H a k) (hS : H b = some (.lst xs)) (nb : b ≠ a) (h0 : 0 < xs.length) (h1 : xs.length < 1000000) (hk : k < 2 ^ 39) (q : ∀ v ∈ xs, ∀ H' k', Fr a H H' → Wl H' a k' → k ≤ k' → k' ≤ k + 1 → Q v H') : spPick K [.ref a, .ref b] H Q C8.E0 :=
  ⟨a, b, xs, k, rfl, hw, SqL.of hS, nb, h0, h1, by omega, q⟩
end

end Fk

set_option maxHeartbeats 4000000
namespace Fk
open PySem PySem.Spec PyProof.Rows L2
open LamX
section
variable {P : Program} {w : World} {K : PySem.W.Frag} {mg : Str → Option Value} {base : Heap} {cD cB iF iO : Addr} {e : E4}
theorem xf_of {C fI : Addr} (T : XC K C fI) : XfC K C := ⟨T.ga, T.gg, T.su, T.hd⟩
def NM : List Str := ["a", "b", "b/c", "x.new", "d"]
/-- how a deed is told -/
def DeedL : Deed → List V → Prop
  | .write x b, l => l = [.str "write", .str x, .byt b] ∧ b.size ≤ 100
  | .sync x, l => ∃ y, l = [.str "sync", .str x, .str y]
  | .rename x y, l => l = [.str "rename", .str x, .str y]
  | .remove x, l => ∃ y, l = [.str "remove", .str x, .str y]
  | .read x, l => ∃ y, l = [.str "read", .str x, .str y]
def outL : Out → List V
  | .told b => [.str "told", optB b]
  | .crash => [.str "crash", .non]
  | .absent x => [.str "absent", .str x]
def spDid (K : PySem.W.Frag) (cD : Addr) : Sp := fun vs H Q _ => ∃ (a dx d p : Addr) (k : Dk) (dd : Deed) (l : List V), vs = [.ref a, .ref p] ∧ DkAt cD H a dx d k ∧ k.fs.length < 1000 ∧ H p = some (.tup l) ∧ DeedL dd l ∧
  ∀ q H', H q = none → FrL [a, d] H H' → DkAt cD H' a dx d (doDeed dd k).2 → H' q = some (.tup (outL (doDeed dd k).1)) → Q (.ref q) H'
theorem TopD.xXX (T : TopD K mg cD cB e iF iO) : PySem.W.exmOne K (.ref e.X) (.ref e.X) = some true := T.ex 2 2 (by decide) (by decide)
theorem TopD.xOX (T : TopD K mg cD cB e iF iO) : PySem.W.exmOne K (.ref e.O) (.ref e.X) = some false := T.ex 3 2 (by decide) (by decide)
theorem TopD.xOO (T : TopD K mg cD cB e iF iO) : PySem.W.exmOne K (.ref e.O) (.ref e.O) = some true := T.ex 3 3 (by decide) (by decide)
theorem step_told {k : Dk} {fs : Fls} {o : Option Byt} (h : (stepD k fs).1 = .told o) : o = none := by
  unfold stepD at h
  split at h
  · cases h
  · exact (Out.told.inj h).symm
theorem step_crash {k : Dk} {fs : Fls} (h : (stepD k fs).1 = .crash) : (stepD k fs).2 = k := by
  unfold stepD at h ⊢
  split
  · rfl
  · rename_i n
    rw [if_neg n] at h
    cases h
theorem step_absent {k : Dk} {fs : Fls} {x : Str} (h : (stepD k fs).1 = .absent x) : False := by
  unfold stepD at h
  split at h <;> cases h
theorem dk_none {H H' : Hp} {a dx d q : Addr} {k : Dk} (f : FrL [a, d] H H') (h : DkAt cD H' a dx d k) (n : H' q = none) : H q = none := by
  cases z : H q with
  | none => rfl
  | some o =>
    have nq : q ∉ [a, d] := fun m => by
      obtain ⟨h1, t, h2, _⟩ := h
      simp only [List.mem_cons, List.not_mem_nil, or_false] at m
      rcases m with rfl | rfl
      · rw [h1] at n; cases n
      · rw [h2] at n; cases n
    rw [f _ _ nq z] at n
    cases n
theorem c_l_did (T : TopD K mg cD cB e iF iO) : C8.Cal P w K mg base 7 "_law_did" (spDid K cD) [] := by
  refine cal_of T.d_l_did sc_l_did (fun _ _ _ _ _ _ us hl => match us, hl with | [_, _], _ => rfl) (fun vs H Q E h => ?_) (fun f cdv A outer s H vs Q E hr h => ?_)
  · obtain ⟨a, dx, d, p, k, dd, l, rfl, _⟩ := h
    rfl
  · obtain ⟨a, dx, d, p, k, dd, l, rfl, hk, hl, hp, hd, q⟩ := h
    have fin : ∀ (o : Out) (k' : Dk) (H' : Hp), (doDeed dd k).1 = o → (doDeed dd k).2 = k' → FrL [a, d] H H' → DkAt cD H' a dx d k' → ∀ q1, H' q1 = none → Q (.ref q1) (upd H' q1 (.tup (outL o))) := fun o k' H' e1 e2 f h q1 n => by
      subst e1 e2
      have s1 := same_new (o := .tup (outL (doDeed dd k).1)) n
      exact q q1 _ (dk_none f h n) (f.trans (FrL.same s1)) (h.same s1) upd_same
    have crash : ∀ {H' : Hp}, (doDeed dd k).1 = .crash → (doDeed dd k).2 = k → Same H H' → ∀ q1, H' q1 = none → Q (.ref q1) (upd H' q1 (.tup [.str "crash", .non])) := fun e1 e2 s q1 n => fin _ _ _ e1 e2 (FrL.same s) (hk.same s) q1 n
    have absent : ∀ {H' : Hp} {x : Str}, (doDeed dd k).1 = .absent x → (doDeed dd k).2 = k → Same H H' → ∀ q1, H' q1 = none → Q (.ref q1) (upd H' q1 (.tup [.str "absent", .str x])) := fun e1 e2 s q1 n => fin _ _ _ e1 e2 (FrL.same s) (hk.same s) q1 n
    refine ⟨_, (pss_cons (ps_asg (pv 1) (pg_tup rfl (pgs_cons (pg_name (i := 2) sc_l_did.nd rfl (Or.inl rfl)) (pgs_cons (pg_name (i := 3) sc_l_did.nd rfl (Or.inl rfl)) (pgs_cons (pg_name (i := 4) sc_l_did.nd rfl (Or.inl rfl)) pgs_nil)))))
      (pss_cons (ps_tryA rfl rfl takes_none5 (fun W pn xe tk _ =>
      (pss_one (ps_if (pt_cmpR op_eq (pv 2) pe_str (nomark _))
      (pss_one (ps_expr (pe_mx (m_Disk_write T) hr (by decide) (fun _ => passAt tk _) (pv 0) (pa_cons (pv 3) (pa_cons (pv 4) pa_nil)))))
      (pss_one (ps_if (pt_cmpR op_eq (pv 2) pe_str (nomark _))
      (pss_one (ps_expr (pe_mx (m_Disk_sync T) hr (by decide) (fun _ => passAt tk _) (pv 0) (pa_cons (pv 3) pa_nil))))
      (pss_one (ps_if (pt_cmpR op_eq (pv 2) pe_str (nomark _))
      (pss_one (ps_expr (pe_mx (m_Disk_rename T) hr (by decide) (fun _ => passAt tk _) (pv 0) (pa_cons (pv 3) (pa_cons (pv 4) pa_nil)))))
      (pss_one (ps_if (pt_cmpR op_eq (pv 2) pe_str (nomark _))
      (pss_one (ps_expr (pe_mx (m_Disk_remove T) hr (by decide) (fun _ => passAt tk _) (pv 0) (pa_cons (pv 3) pa_nil))))
      (pss_one (ps_ret (pe_tup (pa_cons pe_str (pa_cons (pe_mx (m_Disk_read T) hr (by decide) (fun _ => passAt tk _) (pv 0) (pa_cons (pv 3) pa_nil)) pa_nil)))))))))))))) (HdA.cons ⟨rfl, by decide, .inl T.eX.mgc⟩ (fun a oe cls d pn hz hf =>
      (pss_one (ps_ret (pe_tup (pa_cons pe_str (pa_cons pe_non pa_nil)))))) (HdA.as (i := 5) sc_l_did.nd rfl rfl ⟨rfl, by decide, .inl T.eO.mgc⟩ (fun a oe cls d pn hz hf =>
      (pss_one (ps_ret (pe_tup (pa_cons pe_str (pa_cons (pe_xf (xf_of T.eO.xc) T.eO.nf hz hf (pv 5)) pa_nil)))))) HdA.nil)))
      (pss_one (ps_ret (pe_tup (pa_cons pe_str (pa_cons pe_non pa_nil))))))), ?_⟩
    cases dd with
    | write x b =>
      obtain ⟨rfl, _⟩ := hd
      refine ⟨.ref p, rfl, p, _, rfl, SqT.of hp, rfl, .str "write", _, rfl, .str x, _, rfl, .byt b, _, rfl, rfl, ?_⟩
      refine ⟨.str "write", rfl, rfl, _, rfl, iteT ?_⟩
      refine ⟨.ref a, rfl, a, dx, _, rfl, hk.1, rfl, .str x, rfl, .byt b, rfl, a, dx, d, k, x, b, rfl, hk, hl, fun o eo H' f h => ?_, fun ec dd y H' s h => ?_, fun x' ex => (step_absent ex).elim⟩
      · have eo' : (doDeed (.write x b) k).1 = .told o := eo
        obtain rfl := step_told eo
        exact ⟨(by show 2 ≤ sizeLine; decide), fun q1 n => fin (.told none) _ H' eo' rfl f h q1 n⟩
      · exact ⟨true, T.xXX, fun _ ae na => ⟨(by show 2 ≤ sizeLine; decide), fun q1 n => crash ec (step_crash ec) s q1 n⟩, fun z => Bool.noConfusion z⟩
    | sync x =>
      obtain ⟨y, rfl⟩ := hd
      refine ⟨.ref p, rfl, p, _, rfl, SqT.of hp, rfl, .str "sync", _, rfl, .str x, _, rfl, .str y, _, rfl, rfl, ?_⟩
      refine ⟨.str "sync", rfl, rfl, _, rfl, iteF ⟨.str "sync", rfl, rfl, _, rfl, iteT ?_⟩⟩
      refine ⟨.ref a, rfl, a, dx, _, rfl, hk.1, rfl, .str x, rfl, a, dx, d, k, x, rfl, hk, hl, fun o eo H' f h => ?_, fun ec dd y H' s h => ?_, fun x' ex dd H' s h => ?_⟩
      · have eo' : (doDeed (.sync x) k).1 = .told none := by
          unfold doDeed at eo ⊢
          cases z : lookF k.fs x with
          | none => simp only [z] at eo; cases eo
          | some g => simp only [z] at eo ⊢; rw [eo, step_told eo]
        exact ⟨(by show 2 ≤ sizeLine; decide), fun q1 n => fin (.told none) _ H' eo' rfl f h q1 n⟩
      · have e2 : (doDeed (.sync x) k).2 = k := by
          unfold doDeed at ec ⊢
          cases z : lookF k.fs x with
          | none => simp only [z]
          | some g => simp only [z] at ec ⊢; exact step_crash ec
        exact ⟨true, T.xXX, fun _ ae na => ⟨(by show 2 ≤ sizeLine; decide), fun q1 n => crash ec e2 s q1 n⟩, fun z => Bool.noConfusion z⟩
      · have e2 : (doDeed (.sync x) k).2 = k := by
          unfold doDeed at ex ⊢
          cases z : lookF k.fs x with
          | none => simp only [z]
          | some g => simp only [z] at ex; exact (step_absent ex).elim
        exact ⟨false, T.xOX, fun z => Bool.noConfusion z, fun _ => ⟨true, T.xOO, fun _ ae na => ⟨.ref ae, rfl, rfl, rfl, dd, _, _, rfl, h, rfl, (by show 2 ≤ sizeLine; decide), fun q1 n => absent ex e2 s q1 n⟩, fun z => Bool.noConfusion z⟩⟩
    | rename x y =>
      obtain rfl := hd
      refine ⟨.ref p, rfl, p, _, rfl, SqT.of hp, rfl, .str "rename", _, rfl, .str x, _, rfl, .str y, _, rfl, rfl, ?_⟩
      refine ⟨.str "rename", rfl, rfl, _, rfl, iteF ⟨.str "rename", rfl, rfl, _, rfl, iteF ⟨.str "rename", rfl, rfl, _, rfl, iteT ?_⟩⟩⟩
      refine ⟨.ref a, rfl, a, dx, _, rfl, hk.1, rfl, .str x, rfl, .str y, rfl, a, dx, d, k, x, y, rfl, hk, hl, fun o eo H' f h => ?_, fun ec dd y' H' s h => ?_, fun x' ex dd H' s h => ?_⟩
      · have eo' : (doDeed (.rename x y) k).1 = .told none := by
          unfold doDeed at eo ⊢
          cases z : lookF k.fs x with
          | none => simp only [z] at eo; cases eo
          | some g => simp only [z] at eo ⊢; rw [eo, step_told eo]
        exact ⟨(by show 2 ≤ sizeLine; decide), fun q1 n => fin (.told none) _ H' eo' rfl f h q1 n⟩
      · have e2 : (doDeed (.rename x y) k).2 = k := by
          unfold doDeed at ec ⊢
          cases z : lookF k.fs x with
          | none => simp only [z]
          | some g => simp only [z] at ec ⊢; exact step_crash ec
        exact ⟨true, T.xXX, fun _ ae na => ⟨(by show 2 ≤ sizeLine; decide), fun q1 n => crash ec e2 s q1 n⟩, fun z => Bool.noConfusion z⟩
      · have e2 : (doDeed (.rename x y) k).2 = k := by
          unfold doDeed at ex ⊢
          cases z : lookF k.fs x with
          | none => simp only [z]
          | some g => simp only [z] at ex; exact (step_absent ex).elim
        exact ⟨false, T.xOX, fun z => Bool.noConfusion z, fun _ => ⟨true, T.xOO, fun _ ae na => ⟨.ref ae, rfl, rfl, rfl, dd, _, _, rfl, h, rfl, (by show 2 ≤ sizeLine; decide), fun q1 n => absent ex e2 s q1 n⟩, fun z => Bool.noConfusion z⟩⟩
    | remove x =>
      obtain ⟨y, rfl⟩ := hd
      refine ⟨.ref p, rfl, p, _, rfl, SqT.of hp, rfl, .str "remove", _, rfl, .str x, _, rfl, .str y, _, rfl, rfl, ?_⟩
      refine ⟨.str "remove", rfl, rfl, _, rfl, iteF ⟨.str "remove", rfl, rfl, _, rfl, iteF ⟨.str "remove", rfl, rfl, _, rfl, iteF ⟨.str "remove", rfl, rfl, _, rfl, iteT ?_⟩⟩⟩⟩
      refine ⟨.ref a, rfl, a, dx, _, rfl, hk.1, rfl, .str x, rfl, a, dx, d, k, x, rfl, hk, fun o eo H' f h => ?_, fun ec dd y' H' s h => ?_, fun x' ex dd H' s h => ?_⟩
      · have eo' : (doDeed (.remove x) k).1 = .told none := by
          unfold doDeed at eo ⊢
          cases z : lookF k.fs x with
          | none => simp only [z] at eo; cases eo
          | some g => simp only [z] at eo ⊢; rw [eo, step_told eo]
        exact ⟨(by show 2 ≤ sizeLine; decide), fun q1 n => fin (.told none) _ H' eo' rfl f h q1 n⟩
      · have e2 : (doDeed (.remove x) k).2 = k := by
          unfold doDeed at ec ⊢
          cases z : lookF k.fs x with
          | none => simp only [z]
          | some g => simp only [z] at ec ⊢; exact step_crash ec
        exact ⟨true, T.xXX, fun _ ae na => ⟨(by show 2 ≤ sizeLine; decide), fun q1 n => crash ec e2 s q1 n⟩, fun z => Bool.noConfusion z⟩
      · have e2 : (doDeed (.remove x) k).2 = k := by
          unfold doDeed at ex ⊢
          cases z : lookF k.fs x with
          | none => simp only [z]
          | some g => simp only [z] at ex; exact (step_absent ex).elim
        exact ⟨false, T.xOX, fun z => Bool.noConfusion z, fun _ => ⟨true, T.xOO, fun _ ae na => ⟨.ref ae, rfl, rfl, rfl, dd, _, _, rfl, h, rfl, (by show 2 ≤ sizeLine; decide), fun q1 n => absent ex e2 s q1 n⟩, fun z => Bool.noConfusion z⟩⟩
    | read x =>
      obtain ⟨y, rfl⟩ := hd
      refine ⟨.ref p, rfl, p, _, rfl, SqT.of hp, rfl, .str "read", _, rfl, .str x, _, rfl, .str y, _, rfl, rfl, ?_⟩
      refine ⟨.str "read", rfl, rfl, _, rfl, iteF ⟨.str "read", rfl, rfl, _, rfl, iteF ⟨.str "read", rfl, rfl, _, rfl, iteF ⟨.str "read", rfl, rfl, _, rfl, iteF ?_⟩⟩⟩⟩
      refine ⟨.ref a, rfl, a, dx, _, rfl, hk.1, rfl, .str x, rfl, a, dx, d, k, x, rfl, hk, fun l1 dd H' s h => ?_, fun f l1 => ?_⟩
      · have e1 : (doDeed (.read x) k).1 = .absent x := by unfold doDeed; simp only [l1]
        have e2 : (doDeed (.read x) k).2 = k := by unfold doDeed; simp only [l1]
        exact ⟨false, T.xOX, fun z => Bool.noConfusion z, fun _ => ⟨true, T.xOO, fun _ ae na => ⟨.ref ae, rfl, rfl, rfl, dd, _, _, rfl, h, rfl, (by show 2 ≤ sizeLine; decide), fun q1 n => absent e1 e2 s q1 n⟩, fun z => Bool.noConfusion z⟩⟩
      · have e1 : (doDeed (.read x) k).1 = .told (some f.c) := by unfold doDeed; simp only [l1]
        have e2 : (doDeed (.read x) k).2 = k := by unfold doDeed; simp only [l1]
        exact ⟨(by show 2 ≤ sizeLine; decide), fun q1 n => fin _ _ H e1 e2 (FrL.same (Same.refl H)) hk q1 n⟩
end

end Fk

set_option maxHeartbeats 4000000
namespace Fk
open PySem PySem.Spec PyProof.Rows L2
theorem cut8 (r : Nat) (h : r < 8) : isTextF (cutS ("abcdefg" : Str) none (some (r : Int))) = true ∧ (cutS ("abcdefg" : Str) none (some (r : Int))).length ≤ 7 := by
  have : ∀ r : Fin 8, isTextF (cutS ("abcdefg" : Str) none (some ((r : Nat) : Int))) = true ∧ (cutS ("abcdefg" : Str) none (some ((r : Nat) : Int))).length ≤ 7 := by decide +kernel
  exact this ⟨r, h⟩
section
variable {P : Program} {w : World} {K : PySem.W.Frag} {mg : Str → Option Value} {base : Heap} {cD cB iF iO : Addr} {e : E4}
def spDeed : Sp := fun vs H Q _ => ∃ (a : Addr) (k : Int), vs = [.ref a] ∧ Wl H a k ∧ k < 2 ^ 36 ∧ ∀ (p : Addr) (dd : Deed) (l : List V) (H' : Hp) (k' : Int), Fr a H H' → Wl H' a k' → k ≤ k' → k' ≤ k + 4 → p ≠ a → H' p = some (.tup l) → DeedL dd l → (∀ x y, dd = .rename x y → y ∈ NM) → (∀ x b, dd = .write x b → x ∈ NM) → Q (.ref p) H'
theorem c_l_deed (T : TopD K mg cD cB e iF iO) : C8.Cal P w K mg base 5 "_law_deed" spDeed [] := by
  refine cal_of T.d_l_deed sc_l_deed (fun _ _ _ _ _ _ us hl => match us, hl with | [_], _ => rfl) (fun vs H Q E h => ?_) (fun f cdv A outer s H vs Q E hr h => ?_)
  · obtain ⟨a, k, rfl, _⟩ := h
    rfl
  · obtain ⟨a, k, rfl, hw, hk, q⟩ := h
    have hk0 := hw.1
    refine ⟨_, (pss_cons (ps_set (i := 1) sc_l_deed.nd rfl (Or.inl rfl) (pe_lst (pa_cons pe_str (pa_cons pe_str (pa_cons pe_str (pa_cons pe_str (pa_cons pe_str pa_nil)))))))
      (pss_cons (ps_set (i := 2) sc_l_deed.nd rfl (Or.inl rfl) (C8.pe_c (c_l_pick T.toTop) hr (by decide) (by rfl) (pa_cons (pv 0) (pa_cons (pe_lst (pa_cons pe_str (pa_cons pe_str (pa_cons pe_str (pa_cons pe_str (pa_cons pe_str (pa_cons pe_str pa_nil))))))) pa_nil))))
      (pss_cons (ps_set (i := 3) sc_l_deed.nd rfl (Or.inl rfl) (C8.pe_c (c_l_pick T.toTop) hr (by decide) (by rfl) (pa_cons (pv 0) (pa_cons (pv 1) pa_nil))))
      (pss_cons (ps_if (pt_cmpR op_eq (pv 2) pe_str (nomark _))
      (pss_one (ps_set (i := 3) sc_l_deed.nd rfl (Or.inl rfl) (C8.pe_c (c_encode T) hr (by decide) (by rfl) (pa_cons (C8.pe_mk (k_Blob T) hr (by decide) (by rfl) (pa_cons (pe_slice sl_str pe_str po_none (po_some (C8.pe_c (c_l_draw T.toTop) hr (by decide) (by rfl) (pa_cons (pv 0) (pa_cons pe_int pa_nil))))) pa_nil)) pa_nil))))
      pss_nil)
      (pss_one (ps_ret (pe_tup (pa_cons (pv 2) (pa_cons (C8.pe_c (c_l_pick T.toTop) hr (by decide) (by rfl) (pa_cons (pv 0) (pa_cons (pv 1) pa_nil))) (pa_cons (pv 3) pa_nil)))))))))), ?_⟩
    refine ⟨(by show 5 ≤ sizeLine; decide), fun n1 hn1 => ?_⟩
    have s1 := same_new (o := .lst (NM.map V.str)) hn1
    have g1 : (upd H n1 (.lst (NM.map V.str))) n1 = some (.lst (NM.map V.str)) := upd_same
    have w1 := hw.same s1
    have n1a := hw.ne hn1
    refine ⟨.ref a, rfl, (by show 6 ≤ sizeLine; decide), fun b hb => do_pick (w1.new hb) upd_same (w1.ne hb) (by decide) (by decide) (by omega) fun v hv H2 k2 f2 w2 l2 m2 => ?_⟩
    have F2 : Fr a H H2 := (Fr.same s1).trans ((Fr.new (a := a) hb).trans f2)
    have g2 : H2 n1 = some (.lst (NM.map V.str)) := f2 _ _ n1a ((same_new hb) _ _ g1)
    refine ⟨.ref a, rfl, .ref n1, rfl, do_pick w2 g2 n1a (by decide) (by decide) (by omega) fun u hu H3 k3 f3 w3 l3 m3 => ?_⟩
    obtain ⟨y, hy, rfl⟩ := List.mem_map.mp hu
    have F3 := F2.trans f3
    have g3 := f3 _ _ n1a g2
    have other : ∀ wd : Str, (∀ x, x ∈ NM → ∃ dd, DeedL dd [.str wd, .str x, .str y] ∧ (∀ x y, dd = .rename x y → y ∈ NM) ∧ (∀ x b, dd = .write x b → x ∈ NM)) → ∀ u ∈ NM.map V.str, ∀ H5 k5, Fr a H3 H5 → Wl H5 a k5 → k3 ≤ k5 → k5 ≤ k3 + 1 → ∀ p, H5 p = none → Q (.ref p) (upd H5 p (.tup [.str wd, u, .str y])) := fun wd hd u hu H5 k5 f5 w5 l5 m5 p hp => by
      obtain ⟨x, hx, rfl⟩ := List.mem_map.mp hu
      obtain ⟨dd, h1, h2, h3⟩ := hd x hx
      exact q p dd _ _ k5 ((F3.trans f5).trans (Fr.new hp)) (w5.new hp) (by omega) (by omega) (w5.ne hp) upd_same h1 h2 h3
    have wr : ∀ z : Str, z.length ≤ 7 → ∀ H4 k4, Fr a H H4 → Wl H4 a k4 → k ≤ k4 → k4 ≤ k + 3 → ∀ u ∈ NM.map V.str, ∀ H5 k5, Fr a H4 H5 → Wl H5 a k5 → k4 ≤ k5 → k5 ≤ k4 + 1 → ∀ p, H5 p = none → Q (.ref p) (upd H5 p (.tup [.str "write", u, .byt (byts (("blob\n" : Str) ++ z))])) := fun z hz H4 k4 f4 w4 l4 m4 u hu H5 k5 f5 w5 l5 m5 p hp => by
      obtain ⟨x, hx, rfl⟩ := List.mem_map.mp hu
      refine q p (.write x (byts (("blob\n" : Str) ++ z))) _ _ k5 ((f4.trans f5).trans (Fr.new hp)) (w5.new hp) (by omega) (by omega) (w5.ne hp) upd_same ⟨rfl, ?_⟩ (fun x y z => by cases z) (fun x b z => by cases z; exact hx)
      rw [byts_size, len_app]
      have z5 : (("blob\n" : Str)).length = 5 := by decide +kernel
      omega
    simp only [List.mem_cons, List.not_mem_nil, or_false] at hv
    rcases hv with rfl | rfl | rfl | rfl | rfl | rfl
    · refine ⟨.str "write", rfl, rfl, _, rfl, iteT ?_⟩
      refine ⟨.ref a, rfl, do_draw w3 (by decide) (by decide) (by omega) fun r hr8 H4 k4 f4 w4 l4 m4 => ⟨_, rfl, _, rfl, small_line (by decide), ?_⟩⟩
      obtain ⟨c1, c2⟩ := cut8 r (by omega)
      refine fun b0 dx hb0 hdx ndx => ⟨b0, dx, _, rfl, upd_same, c1, fun H5 f5 e5 => ⟨rfl, ?_⟩⟩
      have s5 : Same H4 H5 := fun b o z => by
        have n1 := ne_of_none z hb0
        exact f5 b o n1 (by rw [upd_ne n1, upd_ne (ne_of_none z hdx)]; exact z)
      refine ⟨b0, dx, _, rfl, e5, c1, ?_⟩
      refine ⟨.str "write", rfl, .ref a, rfl, .ref n1, rfl, do_pick (w4.same s5) (s5 _ _ (f4 _ _ n1a g3)) n1a (by decide) (by decide) (by omega) fun u hu H6 k6 f6 w6 l6 m6 => ?_⟩
      exact ⟨_, rfl, (by show 3 ≤ sizeLine; decide), fun p hp => wr _ c2 H5 k4 ((F3.trans f4).trans (Fr.same s5)) (w4.same s5) (by omega) (by omega) u hu H6 k6 f6 w6 l6 m6 p hp⟩
    · refine ⟨.str "write", rfl, rfl, _, rfl, iteT ?_⟩
      refine ⟨.ref a, rfl, do_draw w3 (by decide) (by decide) (by omega) fun r hr8 H4 k4 f4 w4 l4 m4 => ⟨_, rfl, _, rfl, small_line (by decide), ?_⟩⟩
      obtain ⟨c1, c2⟩ := cut8 r (by omega)
      refine fun b0 dx hb0 hdx ndx => ⟨b0, dx, _, rfl, upd_same, c1, fun H5 f5 e5 => ⟨rfl, ?_⟩⟩
      have s5 : Same H4 H5 := fun b o z => by
        have n1 := ne_of_none z hb0
        exact f5 b o n1 (by rw [upd_ne n1, upd_ne (ne_of_none z hdx)]; exact z)
      refine ⟨b0, dx, _, rfl, e5, c1, ?_⟩
      refine ⟨.str "write", rfl, .ref a, rfl, .ref n1, rfl, do_pick (w4.same s5) (s5 _ _ (f4 _ _ n1a g3)) n1a (by decide) (by decide) (by omega) fun u hu H6 k6 f6 w6 l6 m6 => ?_⟩
      exact ⟨_, rfl, (by show 3 ≤ sizeLine; decide), fun p hp => wr _ c2 H5 k4 ((F3.trans f4).trans (Fr.same s5)) (w4.same s5) (by omega) (by omega) u hu H6 k6 f6 w6 l6 m6 p hp⟩
    · refine ⟨.str "sync", rfl, rfl, _, rfl, iteF ?_⟩
      exact ⟨.str "sync", rfl, .ref a, rfl, .ref n1, rfl, do_pick w3 g3 n1a (by decide) (by decide) (by omega) fun u hu H6 k6 f6 w6 l6 m6 => ⟨.str y, rfl, (by show 3 ≤ sizeLine; decide), fun p hp => other "sync" (fun x hx => ⟨.sync x, ⟨y, rfl⟩, (fun x y z => by cases z), (fun x b z => by cases z)⟩) u hu H6 k6 f6 w6 l6 m6 p hp⟩⟩
    · refine ⟨.str "rename", rfl, rfl, _, rfl, iteF ?_⟩
      exact ⟨.str "rename", rfl, .ref a, rfl, .ref n1, rfl, do_pick w3 g3 n1a (by decide) (by decide) (by omega) fun u hu H6 k6 f6 w6 l6 m6 => ⟨.str y, rfl, (by show 3 ≤ sizeLine; decide), fun p hp => other "rename" (fun x hx => ⟨.rename x y, rfl, (fun x y z => by cases z; exact hy), (fun x b z => by cases z)⟩) u hu H6 k6 f6 w6 l6 m6 p hp⟩⟩
    · refine ⟨.str "remove", rfl, rfl, _, rfl, iteF ?_⟩
      exact ⟨.str "remove", rfl, .ref a, rfl, .ref n1, rfl, do_pick w3 g3 n1a (by decide) (by decide) (by omega) fun u hu H6 k6 f6 w6 l6 m6 => ⟨.str y, rfl, (by show 3 ≤ sizeLine; decide), fun p hp => other "remove" (fun x hx => ⟨.remove x, ⟨y, rfl⟩, (fun x y z => by cases z), (fun x b z => by cases z)⟩) u hu H6 k6 f6 w6 l6 m6 p hp⟩⟩
    · refine ⟨.str "read", rfl, rfl, _, rfl, iteF ?_⟩
      exact ⟨.str "read", rfl, .ref a, rfl, .ref n1, rfl, do_pick w3 g3 n1a (by decide) (by decide) (by omega) fun u hu H6 k6 f6 w6 l6 m6 => ⟨.str y, rfl, (by show 3 ≤ sizeLine; decide), fun p hp => other "read" (fun x hx => ⟨.read x, ⟨y, rfl⟩, (fun x y z => by cases z), (fun x b z => by cases z)⟩) u hu H6 k6 f6 w6 l6 m6 p hp⟩⟩
end

end Fk

set_option maxHeartbeats 4000000
namespace Fk
open PySem PySem.Spec PyProof.Rows L2
def mT (df : Addr) (l : Option Int) : Tab := [("files", .ref df), ("left", optI l)]
/-- the law's books at m -/
def MdAt (H : Hp) (m df : Addr) (k : Dk) : Prop := H m = some (.dK (kT (mT df k.left))) ∧ ∃ t, H df = some (.dK (kT t)) ∧ FlsAt true H t k.fs ∧ m ≠ df
theorem MdAt.same {H H' : Hp} {m df : Addr} {k : Dk} (h : MdAt H m df k) (s : Same H H') : MdAt H' m df k := by
  obtain ⟨h1, t, h2, h3, n⟩ := h
  exact ⟨s _ _ h1, t, s _ _ h2, h3.keep (TupKeep.of s), n⟩
theorem files_left : ¬ ("files" : Str) = ("left" : Str) := by decide +kernel
theorem valF (df : Addr) (l : Option Int) : valV (mT df l) ("files" : Str) = some (.ref df) := by unfold mT; rw [valV_pos rfl]
theorem valL (df : Addr) (l : Option Int) : valV (mT df l) ("left" : Str) = some (optI l) := by
  unfold mT
  rw [valV_neg (show ¬ ("files" : Str) = "left" from files_left), valV_pos rfl]
theorem putL (df : Addr) (l l' : Option Int) : putK (mT df l) ("left" : Str) (optI l') = mT df l' := by
  unfold mT putK
  simp [files_left]
section
variable {P : Program} {w : World} {K : PySem.W.Frag} {mg : Str → Option Value} {base : Heap} {cD cB iF iO : Addr} {e : E4}
def spDue (K : PySem.W.Frag) : Sp := fun vs H Q _ => ∃ (m df p : Addr) (k : Dk) (dd : Deed) (l : List V), vs = [.ref m, .ref p] ∧ MdAt H m df k ∧ k.fs.length < 1000 ∧ (∀ n, k.left = some n → 0 ≤ n) ∧ H p = some (.tup l) ∧ DeedL dd l ∧
  ∀ q H', H q = none → FrL [m, df] H H' → MdAt H' m df (doDeed dd k).2 → H' q = some (.tup (outL (doDeed dd k).1)) → Q (.ref q) H'
theorem c_l_due (T : TopD K mg cD cB e iF iO) : C8.Cal P w K mg base 1 "_law_due" (spDue K) [] := by
  refine cal_of T.d_l_due sc_l_due (fun _ _ _ _ _ _ us hl => match us, hl with | [_, _], _ => rfl) (fun vs H Q E h => ?_) (fun f cdv A outer s H vs Q E hr h => ?_)
  · obtain ⟨m, df, p, k, dd, l, rfl, _⟩ := h
    rfl
  · obtain ⟨m, df, p, k, dd, l, rfl, hm, hl, hn, hp, hd, q⟩ := h
    obtain ⟨h1, t, h2, h3, nmd⟩ := id hm
    have gf := dget_kT (.inl h1) ("files" : Str)
    rw [valF] at gf
    have gl := dget_kT (.inl h1) ("left" : Str)
    rw [valL] at gl
    refine ⟨_, (pss_cons (ps_asg (pv 1) (pg_tup rfl (pgs_cons (pg_name (i := 2) sc_l_due.nd rfl (Or.inl rfl)) (pgs_cons (pg_name (i := 3) sc_l_due.nd rfl (Or.inl rfl)) (pgs_cons (pg_name (i := 4) sc_l_due.nd rfl (Or.inl rfl)) pgs_nil)))))
      (pss_cons (ps_set (i := 5) sc_l_due.nd rfl (Or.inl rfl) (pe_dget (hu_of hr) (pv 0) pe_str (fun _ _ => rfl)))
      (pss_cons (ps_if (PW.pt (pw_and (pt_cmpR op_ne (pv 2) pe_str (nomark _)) (pw_and1 (pt_cmp (pc_dnotin (hu_of hr) (pv 3) (pv 5))))))
      (pss_one (ps_ret (pe_tup (pa_cons pe_str (pa_cons (pv 3) pa_nil)))))
      pss_nil)
      (pss_cons (ps_if (pt_cmpR op_eq (pv 2) pe_str (nomark _))
      (pss_one (ps_ret (pe_tup (pa_cons pe_str (pa_cons (pe_ix ix_tup (pe_dget (hu_of hr) (pv 5) (pv 3) (fun _ _ => rfl)) pe_int (fun _ _ => rfl)) pa_nil)))))
      pss_nil)
      (C8.pss_cut (ps_if (pt_cmpR op_eq (pe_dget (hu_of hr) (pv 0) pe_str (fun _ _ => rfl)) pe_int (nomark _))
      (pss_one (ps_ret (pe_tup (pa_cons pe_str (pa_cons pe_non pa_nil)))))
      pss_nil)
      (C8.pss_cut (ps_if (pt_cmpR op_notN (pe_dget (hu_of hr) (pv 0) pe_str (fun _ _ => rfl)) pe_non (nomark _))
      (pss_one (ps_dput (hu_of hr) (pv 0) pe_str (pe_op op_sub (pe_dget (hu_of hr) (pv 0) pe_str (fun _ _ => rfl)) pe_int) rfl))
      pss_nil)
      (pss_cons (ps_if (pt_cmpR op_eq (pv 2) pe_str (nomark _))
      (pss_one (ps_dput (hu_of hr) (pv 5) (pv 3) (pe_tup (pa_cons (pv 4) (pa_cons (pe_ix ix_tup (pe_dget2 (hu_of hr) (pv 5) (pv 3) (pe_tup (pa_cons pe_non (pa_cons pe_non (pa_cons pe_bl pa_nil)))) ⟨rfl, rfl, rfl, rfl⟩) pe_int (fun _ _ => rfl)) (pa_cons pe_bl pa_nil)))) rfl))
      (pss_one (ps_if (pt_cmpR op_eq (pv 2) pe_str (nomark _))
      (pss_one (ps_dput (hu_of hr) (pv 5) (pv 3) (pe_tup (pa_cons (pe_ix ix_tup (pe_dget (hu_of hr) (pv 5) (pv 3) (fun _ _ => rfl)) pe_int (fun _ _ => rfl)) (pa_cons (pe_ix ix_tup (pe_dget (hu_of hr) (pv 5) (pv 3) (fun _ _ => rfl)) pe_int (fun _ _ => rfl)) (pa_cons pe_bl pa_nil)))) rfl))
      (pss_cons (ps_set (i := 6) sc_l_due.nd rfl (Or.inl rfl) (pe_dpop1 (pv 5) (pv 3) ⟨rfl, rfl, rfl, rfl⟩))
      (pss_one (ps_if (pt_cmpR op_eq (pv 2) pe_str (nomark _))
      (pss_one (ps_dput (hu_of hr) (pv 5) (pv 4) (pv 6) rfl))
      pss_nil))))))
      (pss_one (ps_ret (pe_tup (pa_cons pe_str (pa_cons pe_non pa_nil)))))))))))), ?_⟩
    have put : ∀ (o : Out) (k' : Dk) (H' : Hp), (doDeed dd k).1 = o → (doDeed dd k).2 = k' → FrL [m, df] H H' → MdAt H' m df k' → ∀ q1, H' q1 = none → Q (.ref q1) (upd H' q1 (.tup (outL o))) := fun o k' H' e1 e2 f h q1 n => by
      subst e1 e2
      have s1 := same_new (o := .tup (outL (doDeed dd k).1)) n
      refine q q1 _ ?_ (f.trans (FrL.same s1)) (h.same s1) upd_same
      cases z : H q1 with
      | none => rfl
      | some o =>
        have nq : q1 ∉ [m, df] := fun y => by
          obtain ⟨g1, _, g2, _⟩ := h
          simp only [List.mem_cons, List.not_mem_nil, or_false] at y
          rcases y with rfl | rfl
          · rw [g1] at n; cases n
          · rw [g2] at n; cases n
        rw [f _ _ nq z] at n
        cases n
    have absent : ∀ {x : Str}, (doDeed dd k).1 = .absent x → (doDeed dd k).2 = k → ∀ q1, H q1 = none → Q (.ref q1) (upd H q1 (.tup [.str "absent", .str x])) := fun e1 e2 q1 n => put _ _ H e1 e2 (FrL.same (Same.refl H)) hm q1 n
    cases dd with
    | read x =>
      obtain ⟨y, rfl⟩ := hd
      refine ⟨.ref p, rfl, p, _, rfl, SqT.of hp, rfl, .str "read", _, rfl, .str x, _, rfl, .str y, _, rfl, rfl, ?_⟩
      refine ⟨.ref m, rfl, m, _, rfl, gf, ?_⟩
      refine ⟨.str "read", rfl, rfl, _, rfl, ifT rfl ?_⟩
      have g := dget_kT (.inl h2) x
      refine ⟨.str x, rfl, .ref df, rfl, df, _, rfl, g, ?_⟩
      rcases h3.val x with ⟨l1, l2⟩ | ⟨f, qq, l1, l2, l3⟩
      · rw [l2]
        refine ⟨_, rfl, iteT ⟨.str x, rfl, (by show 2 ≤ sizeLine; decide), fun q1 n => ?_⟩⟩
        have e1 : (doDeed (.read x) k).1 = .absent x := by unfold doDeed; simp only [l1]
        have e2 : (doDeed (.read x) k).2 = k := by unfold doDeed; simp only [l1]
        exact absent e1 e2 q1 n
      rw [l2]
      refine ⟨_, rfl, iteF ?_⟩
      rw [l2] at g
      refine ⟨.str "read", rfl, rfl, _, rfl, iteT ?_⟩
      have e1 : (doDeed (.read x) k).1 = .told (some f.c) := by unfold doDeed; simp only [l1]
      have e2 : (doDeed (.read x) k).2 = k := by unfold doDeed; simp only [l1]
      exact ⟨.ref df, rfl, .str x, rfl, df, _, rfl, g, qq, _, 0, _, rfl, rfl, SqT.of l3, rfl, (by show 2 ≤ sizeLine; decide), fun q1 n => put _ _ H e1 e2 (FrL.same (Same.refl H)) hm q1 n⟩
    | write x b =>
      obtain ⟨rfl, _⟩ := hd
      refine ⟨.ref p, rfl, p, _, rfl, SqT.of hp, rfl, .str "write", _, rfl, .str x, _, rfl, .byt b, _, rfl, rfl, ?_⟩
      refine ⟨.ref m, rfl, m, _, rfl, gf, ?_⟩
      refine ⟨.str "write", rfl, rfl, _, rfl, ifF (fun z => by cases z) ?_⟩
      have ed : doDeed (.write x b) k = stepD k (putF k.fs x ⟨b, (lookF k.fs x).bind (·.s), true⟩) := rfl
      refine ⟨.str "write", rfl, rfl, _, rfl, iteF ?_⟩
      refine ⟨fun σ' H' => σ' = [some (.ref m), some (.ref p), some (.str "write"), some (.str x), some (.byt b), some (.ref df), none] ∧ H' = H ∧ k.left ≠ some 0, ?_, ?_⟩
      · cases hkl : k.left with
        | none =>
          rw [hkl] at gl
          exact ⟨.ref m, rfl, m, _, rfl, gl, rfl, _, rfl, iteF ⟨rfl, rfl, (fun z => nomatch z)⟩⟩
        | some n =>
          rw [hkl] at gl
          refine ⟨.ref m, rfl, m, _, rfl, gl, rfl, _, rfl, ite2 (fun z => ?_) (fun z => ⟨rfl, rfl, (fun w => z (by cases w; exact decide_eq_true rfl))⟩)⟩
          have z := V.int.inj (of_decide_eq_true z)
          subst z
          refine ⟨(by show 2 ≤ sizeLine; decide), fun q1 n1 => put .crash k H ?_ ?_ (FrL.same (Same.refl H)) hm q1 n1⟩
          · rw [ed]; unfold stepD; rw [if_pos hkl]
          · rw [ed]; unfold stepD; rw [if_pos hkl]
      rintro σ' H' ⟨rfl, rfl, hz⟩
      refine ⟨fun σ' H1 => σ' = [some (.ref m), some (.ref p), some (.str "write"), some (.str x), some (.byt b), some (.ref df), none] ∧ Fr m H' H1 ∧ H1 m = some (.dK (kT (mT df (k.left.map (· - 1))))), ?_, ?_⟩
      · cases hkl : k.left with
        | none =>
          rw [hkl] at gl h1
          exact ⟨.ref m, rfl, m, _, rfl, gl, rfl, _, rfl, iteF ⟨rfl, Fr.refl _ _, h1⟩⟩
        | some n =>
          rw [hkl] at gl h1
          refine ⟨.ref m, rfl, m, _, rfl, gl, rfl, _, rfl, iteT ?_⟩
          refine ⟨.ref m, rfl, m, _, rfl, gl, n, 1, rfl, rfl, .ref m, rfl, m, _, rfl, .inl ⟨_, .inr "left", h1, rfl, small_lt (by rw [len_kT]; show 2 ≤ _; omega), rfl⟩, rfl, Fr.at, ?_⟩
          rw [upd_same, putK_kT]
          exact congrArg (fun z => some (HO.dK (kT z))) (putL df (some n) (some (n - 1)))
      rintro σ' H1 ⟨rfl, f1, hm1⟩
      have hd1 : H1 df = some (.dK (kT t)) := f1 _ _ nmd.symm h2
      have kt1 : TupKeep H' H1 := fun c xs z => f1 _ _ (fun y => by rw [y, h1] at z; cases z) z
      have h31 := h3.keep kt1
      have g1 := dget_kT (.inl hd1) x
      have fin : ∀ (H2 : Hp) (t2 : Tab), TupKeep H1 H2 → (∀ xs, H2 df ≠ some (.tup xs)) → Fr m H' H2 → H2 m = some (.dK (kT (mT df (k.left.map (· - 1))))) → FlsAt true H2 t2 (putF k.fs x ⟨b, (lookF k.fs x).bind (·.s), true⟩) → ∀ q1, (upd H2 df (.dK (kT t2))) q1 = none → Q (.ref q1) (upd (upd H2 df (.dK (kT t2))) q1 (.tup [.str "told", .non])) := fun H2 t2 kk nt ff m2 h4 q1 n1 => by
        refine put (.told none) (spent k (putF k.fs x ⟨b, (lookF k.fs x).bind (·.s), true⟩)) _ (by rw [ed]; unfold stepD; rw [if_neg hz]) (by rw [ed]; unfold stepD; rw [if_neg hz]) (fr_two ff _) ⟨by rw [upd_ne nmd]; exact m2, t2, upd_same, h4.keep (TupKeep.at nt), nmd⟩ q1 n1
      refine ⟨.str "write", rfl, rfl, _, rfl, iteT ?_⟩
      refine ⟨.byt b, rfl, .ref df, rfl, df, rfl, .inl ⟨_, .inl hd1⟩, .str x, rfl, (by show 3 ≤ sizeLine; decide), fun p0 hp0 => ?_⟩
      have s0 := same_new (o := .tup [.non, .non, .bl true]) hp0
      have g2 := dget_kT (.inl (s0 _ _ hd1)) x
      have hp00 : (upd H1 p0 (.tup [.non, .non, .bl true])) p0 = some (.tup [.non, .non, .bl true]) := upd_same
      generalize upd H1 p0 (.tup [.non, .non, .bl true]) = H3 at s0 g2 hp00
      have endw : ∀ (sv : Option Byt), (lookF k.fs x).bind (·.s) = sv → ∀ p1, H3 p1 = none → ∀ q1, (upd (upd H3 p1 (.tup [.byt b, optB sv, .bl false])) df (.dK (kT (putK t x (.ref p1))))) q1 = none → Q (.ref q1) (upd (upd (upd H3 p1 (.tup [.byt b, optB sv, .bl false])) df (.dK (kT (putK t x (.ref p1))))) q1 (.tup [.str "told", .non])) := fun sv es p1 hp1 => by
        subst es
        have s1 := s0.trans (same_new (o := .tup [.byt b, optB ((lookF k.fs x).bind (·.s)), .bl false]) hp1)
        have hp11 : (upd H3 p1 (.tup [.byt b, optB ((lookF k.fs x).bind (·.s)), .bl false])) p1 = some (.tup [.byt b, optB ((lookF k.fs x).bind (·.s)), .bl false]) := upd_same
        exact fin _ _ (TupKeep.of s1) (fun xs z => by rw [s1 _ _ hd1] at z; cases z) (f1.trans (Fr.same s1)) (s1 _ _ hm1) (FlsAt.put (h31.keep (TupKeep.of s1)) (f := ⟨b, (lookF k.fs x).bind (·.s), true⟩) hp11)
      rcases (h31.keep (TupKeep.of s0)).val x with ⟨l1, l2⟩ | ⟨f, qq, l1, l2, l3⟩
      · rw [l2] at g2
        refine ⟨none, g2, p0, _, 1, .non, rfl, rfl, SqT.of hp00, rfl, (by show 3 ≤ sizeLine; decide), fun p1 hp1 => ?_⟩
        refine ⟨.ref df, rfl, .str x, rfl, df, _, rfl, .inl ⟨kT t, .inr x, (same_new hp1) _ _ (s0 _ _ hd1), rfl, small_lt (by rw [len_kT, h3.len]; omega), rfl⟩, ?_⟩
        rw [putK_kT]
        exact ⟨(by show 2 ≤ sizeLine; decide), endw none (by rw [l1]; rfl) p1 hp1⟩
      · rw [l2] at g2
        refine ⟨some (.ref qq), g2, qq, _, 1, optB f.s, rfl, rfl, SqT.of l3, rfl, (by show 3 ≤ sizeLine; decide), fun p1 hp1 => ?_⟩
        refine ⟨.ref df, rfl, .str x, rfl, df, _, rfl, .inl ⟨kT t, .inr x, (same_new hp1) _ _ (s0 _ _ hd1), rfl, small_lt (by rw [len_kT, h3.len]; omega), rfl⟩, ?_⟩
        rw [putK_kT]
        exact ⟨(by show 2 ≤ sizeLine; decide), endw f.s (by rw [l1]; rfl) p1 hp1⟩
    | sync x =>
      obtain ⟨y, rfl⟩ := hd
      refine ⟨.ref p, rfl, p, _, rfl, SqT.of hp, rfl, .str "sync", _, rfl, .str x, _, rfl, .str y, _, rfl, rfl, ?_⟩
      refine ⟨.ref m, rfl, m, _, rfl, gf, ?_⟩
      refine ⟨.str "sync", rfl, rfl, _, rfl, ifT rfl ?_⟩
      have g := dget_kT (.inl h2) x
      refine ⟨.str x, rfl, .ref df, rfl, df, _, rfl, g, ?_⟩
      rcases h3.val x with ⟨l1, l2⟩ | ⟨f, qq, l1, l2, l3⟩
      · rw [l2]
        refine ⟨_, rfl, iteT ⟨.str x, rfl, (by show 2 ≤ sizeLine; decide), fun q1 n => ?_⟩⟩
        have e1 : (doDeed (.sync x) k).1 = .absent x := by unfold doDeed; simp only [l1]
        have e2 : (doDeed (.sync x) k).2 = k := by unfold doDeed; simp only [l1]
        exact absent e1 e2 q1 n
      rw [l2]
      refine ⟨_, rfl, iteF ?_⟩
      have ed : doDeed (.sync x) k = stepD k (putF k.fs x ⟨f.c, some f.c, false⟩) := by unfold doDeed; simp only [l1]
      refine ⟨.str "sync", rfl, rfl, _, rfl, iteF ?_⟩
      refine ⟨fun σ' H' => σ' = [some (.ref m), some (.ref p), some (.str "sync"), some (.str x), some (.str y), some (.ref df), none] ∧ H' = H ∧ k.left ≠ some 0, ?_, ?_⟩
      · cases hkl : k.left with
        | none =>
          rw [hkl] at gl
          exact ⟨.ref m, rfl, m, _, rfl, gl, rfl, _, rfl, iteF ⟨rfl, rfl, (fun z => nomatch z)⟩⟩
        | some n =>
          rw [hkl] at gl
          refine ⟨.ref m, rfl, m, _, rfl, gl, rfl, _, rfl, ite2 (fun z => ?_) (fun z => ⟨rfl, rfl, (fun w => z (by cases w; exact decide_eq_true rfl))⟩)⟩
          have z := V.int.inj (of_decide_eq_true z)
          subst z
          refine ⟨(by show 2 ≤ sizeLine; decide), fun q1 n1 => put .crash k H ?_ ?_ (FrL.same (Same.refl H)) hm q1 n1⟩
          · rw [ed]; unfold stepD; rw [if_pos hkl]
          · rw [ed]; unfold stepD; rw [if_pos hkl]
      rintro σ' H' ⟨rfl, rfl, hz⟩
      refine ⟨fun σ' H1 => σ' = [some (.ref m), some (.ref p), some (.str "sync"), some (.str x), some (.str y), some (.ref df), none] ∧ Fr m H' H1 ∧ H1 m = some (.dK (kT (mT df (k.left.map (· - 1))))), ?_, ?_⟩
      · cases hkl : k.left with
        | none =>
          rw [hkl] at gl h1
          exact ⟨.ref m, rfl, m, _, rfl, gl, rfl, _, rfl, iteF ⟨rfl, Fr.refl _ _, h1⟩⟩
        | some n =>
          rw [hkl] at gl h1
          refine ⟨.ref m, rfl, m, _, rfl, gl, rfl, _, rfl, iteT ?_⟩
          refine ⟨.ref m, rfl, m, _, rfl, gl, n, 1, rfl, rfl, .ref m, rfl, m, _, rfl, .inl ⟨_, .inr "left", h1, rfl, small_lt (by rw [len_kT]; show 2 ≤ _; omega), rfl⟩, rfl, Fr.at, ?_⟩
          rw [upd_same, putK_kT]
          exact congrArg (fun z => some (HO.dK (kT z))) (putL df (some n) (some (n - 1)))
      rintro σ' H1 ⟨rfl, f1, hm1⟩
      have hd1 : H1 df = some (.dK (kT t)) := f1 _ _ nmd.symm h2
      have kt1 : TupKeep H' H1 := fun c xs z => f1 _ _ (fun y => by rw [y, h1] at z; cases z) z
      have h31 := h3.keep kt1
      have g1 := dget_kT (.inl hd1) x
      have fin : ∀ (H2 : Hp) (t2 : Tab), TupKeep H1 H2 → (∀ xs, H2 df ≠ some (.tup xs)) → Fr m H' H2 → H2 m = some (.dK (kT (mT df (k.left.map (· - 1))))) → FlsAt true H2 t2 (putF k.fs x ⟨f.c, some f.c, false⟩) → ∀ q1, (upd H2 df (.dK (kT t2))) q1 = none → Q (.ref q1) (upd (upd H2 df (.dK (kT t2))) q1 (.tup [.str "told", .non])) := fun H2 t2 kk nt ff m2 h4 q1 n1 => by
        refine put (.told none) (spent k (putF k.fs x ⟨f.c, some f.c, false⟩)) _ (by rw [ed]; unfold stepD; rw [if_neg hz]) (by rw [ed]; unfold stepD; rw [if_neg hz]) (fr_two ff _) ⟨by rw [upd_ne nmd]; exact m2, t2, upd_same, h4.keep (TupKeep.at nt), nmd⟩ q1 n1
      refine ⟨.str "sync", rfl, rfl, _, rfl, iteF ⟨.str "sync", rfl, rfl, _, rfl, iteT ?_⟩⟩
      rw [l2] at g1
      have l31 := kt1 _ _ l3
      refine ⟨.ref df, rfl, .str x, rfl, df, _, rfl, g1, qq, _, 0, _, rfl, rfl, SqT.of l31, rfl, .ref df, rfl, .str x, rfl, df, _, rfl, g1, qq, _, 0, _, rfl, rfl, SqT.of l31, rfl, (by show 3 ≤ sizeLine; decide), fun p1 hp1 => ?_⟩
      have s1 := same_new (o := .tup [.byt f.c, .byt f.c, .bl true]) hp1
      refine ⟨.ref df, rfl, .str x, rfl, df, _, rfl, .inl ⟨kT t, .inr x, s1 _ _ hd1, rfl, small_lt (by rw [len_kT, h3.len]; omega), rfl⟩, ?_⟩
      rw [putK_kT]
      exact ⟨(by show 2 ≤ sizeLine; decide), fin _ _ (TupKeep.of s1) (fun xs z => by rw [s1 _ _ hd1] at z; cases z) (f1.trans (Fr.same s1)) (s1 _ _ hm1) (FlsAt.put (h31.keep (TupKeep.of s1)) (f := ⟨f.c, some f.c, false⟩) upd_same)⟩
    | rename x y =>
      obtain rfl := hd
      refine ⟨.ref p, rfl, p, _, rfl, SqT.of hp, rfl, .str "rename", _, rfl, .str x, _, rfl, .str y, _, rfl, rfl, ?_⟩
      refine ⟨.ref m, rfl, m, _, rfl, gf, ?_⟩
      refine ⟨.str "rename", rfl, rfl, _, rfl, ifT rfl ?_⟩
      have g := dget_kT (.inl h2) x
      refine ⟨.str x, rfl, .ref df, rfl, df, _, rfl, g, ?_⟩
      rcases h3.val x with ⟨l1, l2⟩ | ⟨f, qq, l1, l2, l3⟩
      · rw [l2]
        refine ⟨_, rfl, iteT ⟨.str x, rfl, (by show 2 ≤ sizeLine; decide), fun q1 n => ?_⟩⟩
        have e1 : (doDeed (.rename x y) k).1 = .absent x := by unfold doDeed; simp only [l1]
        have e2 : (doDeed (.rename x y) k).2 = k := by unfold doDeed; simp only [l1]
        exact absent e1 e2 q1 n
      rw [l2]
      refine ⟨_, rfl, iteF ?_⟩
      have ed : doDeed (.rename x y) k = stepD k (putF (dropF k.fs x) y f) := by unfold doDeed; simp only [l1]
      refine ⟨.str "rename", rfl, rfl, _, rfl, iteF ?_⟩
      refine ⟨fun σ' H' => σ' = [some (.ref m), some (.ref p), some (.str "rename"), some (.str x), some (.str y), some (.ref df), none] ∧ H' = H ∧ k.left ≠ some 0, ?_, ?_⟩
      · cases hkl : k.left with
        | none =>
          rw [hkl] at gl
          exact ⟨.ref m, rfl, m, _, rfl, gl, rfl, _, rfl, iteF ⟨rfl, rfl, (fun z => nomatch z)⟩⟩
        | some n =>
          rw [hkl] at gl
          refine ⟨.ref m, rfl, m, _, rfl, gl, rfl, _, rfl, ite2 (fun z => ?_) (fun z => ⟨rfl, rfl, (fun w => z (by cases w; exact decide_eq_true rfl))⟩)⟩
          have z := V.int.inj (of_decide_eq_true z)
          subst z
          refine ⟨(by show 2 ≤ sizeLine; decide), fun q1 n1 => put .crash k H ?_ ?_ (FrL.same (Same.refl H)) hm q1 n1⟩
          · rw [ed]; unfold stepD; rw [if_pos hkl]
          · rw [ed]; unfold stepD; rw [if_pos hkl]
      rintro σ' H' ⟨rfl, rfl, hz⟩
      refine ⟨fun σ' H1 => σ' = [some (.ref m), some (.ref p), some (.str "rename"), some (.str x), some (.str y), some (.ref df), none] ∧ Fr m H' H1 ∧ H1 m = some (.dK (kT (mT df (k.left.map (· - 1))))), ?_, ?_⟩
      · cases hkl : k.left with
        | none =>
          rw [hkl] at gl h1
          exact ⟨.ref m, rfl, m, _, rfl, gl, rfl, _, rfl, iteF ⟨rfl, Fr.refl _ _, h1⟩⟩
        | some n =>
          rw [hkl] at gl h1
          refine ⟨.ref m, rfl, m, _, rfl, gl, rfl, _, rfl, iteT ?_⟩
          refine ⟨.ref m, rfl, m, _, rfl, gl, n, 1, rfl, rfl, .ref m, rfl, m, _, rfl, .inl ⟨_, .inr "left", h1, rfl, small_lt (by rw [len_kT]; show 2 ≤ _; omega), rfl⟩, rfl, Fr.at, ?_⟩
          rw [upd_same, putK_kT]
          exact congrArg (fun z => some (HO.dK (kT z))) (putL df (some n) (some (n - 1)))
      rintro σ' H1 ⟨rfl, f1, hm1⟩
      have hd1 : H1 df = some (.dK (kT t)) := f1 _ _ nmd.symm h2
      have kt1 : TupKeep H' H1 := fun c xs z => f1 _ _ (fun y => by rw [y, h1] at z; cases z) z
      have h31 := h3.keep kt1
      have g1 := dget_kT (.inl hd1) x
      have fin : ∀ (H2 : Hp) (t2 : Tab), TupKeep H1 H2 → (∀ xs, H2 df ≠ some (.tup xs)) → Fr m H' H2 → H2 m = some (.dK (kT (mT df (k.left.map (· - 1))))) → FlsAt true H2 t2 (putF (dropF k.fs x) y f) → ∀ q1, (upd H2 df (.dK (kT t2))) q1 = none → Q (.ref q1) (upd (upd H2 df (.dK (kT t2))) q1 (.tup [.str "told", .non])) := fun H2 t2 kk nt ff m2 h4 q1 n1 => by
        refine put (.told none) (spent k (putF (dropF k.fs x) y f)) _ (by rw [ed]; unfold stepD; rw [if_neg hz]) (by rw [ed]; unfold stepD; rw [if_neg hz]) (fr_two ff _) ⟨by rw [upd_ne nmd]; exact m2, t2, upd_same, h4.keep (TupKeep.at nt), nmd⟩ q1 n1
      refine ⟨.str "rename", rfl, rfl, _, rfl, iteF ⟨.str "rename", rfl, rfl, _, rfl, iteF ?_⟩⟩
      refine ⟨.ref df, rfl, df, rfl, .inl ⟨_, .inl hd1⟩, .str x, rfl, kT t, .inr x, .ref qq, hd1, rfl, (by rw [valV_kT, l2]), ?_⟩
      rw [dropK_kT]
      have hd2 : (upd H1 df (.dK (kT (dropK t x)))) df = some (.dK (kT (dropK t x))) := upd_same
      refine ⟨.str "rename", rfl, rfl, _, rfl, iteT ⟨.ref qq, rfl, .ref df, rfl, .str y, rfl, df, _, rfl, .inl ⟨kT (dropK t x), .inr y, hd2, rfl, small_lt ?_, rfl⟩, ?_⟩⟩
      · rw [len_kT]
        have z1 : (dropK t x).length ≤ t.length := List.length_filter_le _ _
        have := h3.len
        omega
      rw [putK_kT, upd_upd]
      exact ⟨(by show 2 ≤ sizeLine; decide), fin H1 _ (TupKeep.refl _) (fun xs z => by rw [hd1] at z; cases z) f1 hm1 ((h31.drop x).put (kt1 _ _ l3))⟩
    | remove x =>
      obtain ⟨y, rfl⟩ := hd
      refine ⟨.ref p, rfl, p, _, rfl, SqT.of hp, rfl, .str "remove", _, rfl, .str x, _, rfl, .str y, _, rfl, rfl, ?_⟩
      refine ⟨.ref m, rfl, m, _, rfl, gf, ?_⟩
      refine ⟨.str "remove", rfl, rfl, _, rfl, ifT rfl ?_⟩
      have g := dget_kT (.inl h2) x
      refine ⟨.str x, rfl, .ref df, rfl, df, _, rfl, g, ?_⟩
      rcases h3.val x with ⟨l1, l2⟩ | ⟨f, qq, l1, l2, l3⟩
      · rw [l2]
        refine ⟨_, rfl, iteT ⟨.str x, rfl, (by show 2 ≤ sizeLine; decide), fun q1 n => ?_⟩⟩
        have e1 : (doDeed (.remove x) k).1 = .absent x := by unfold doDeed; simp only [l1]
        have e2 : (doDeed (.remove x) k).2 = k := by unfold doDeed; simp only [l1]
        exact absent e1 e2 q1 n
      rw [l2]
      refine ⟨_, rfl, iteF ?_⟩
      have ed : doDeed (.remove x) k = stepD k (dropF k.fs x) := by unfold doDeed; simp only [l1]
      refine ⟨.str "remove", rfl, rfl, _, rfl, iteF ?_⟩
      refine ⟨fun σ' H' => σ' = [some (.ref m), some (.ref p), some (.str "remove"), some (.str x), some (.str y), some (.ref df), none] ∧ H' = H ∧ k.left ≠ some 0, ?_, ?_⟩
      · cases hkl : k.left with
        | none =>
          rw [hkl] at gl
          exact ⟨.ref m, rfl, m, _, rfl, gl, rfl, _, rfl, iteF ⟨rfl, rfl, (fun z => nomatch z)⟩⟩
        | some n =>
          rw [hkl] at gl
          refine ⟨.ref m, rfl, m, _, rfl, gl, rfl, _, rfl, ite2 (fun z => ?_) (fun z => ⟨rfl, rfl, (fun w => z (by cases w; exact decide_eq_true rfl))⟩)⟩
          have z := V.int.inj (of_decide_eq_true z)
          subst z
          refine ⟨(by show 2 ≤ sizeLine; decide), fun q1 n1 => put .crash k H ?_ ?_ (FrL.same (Same.refl H)) hm q1 n1⟩
          · rw [ed]; unfold stepD; rw [if_pos hkl]
          · rw [ed]; unfold stepD; rw [if_pos hkl]
      rintro σ' H' ⟨rfl, rfl, hz⟩
      refine ⟨fun σ' H1 => σ' = [some (.ref m), some (.ref p), some (.str "remove"), some (.str x), some (.str y), some (.ref df), none] ∧ Fr m H' H1 ∧ H1 m = some (.dK (kT (mT df (k.left.map (· - 1))))), ?_, ?_⟩
      · cases hkl : k.left with
        | none =>
          rw [hkl] at gl h1
          exact ⟨.ref m, rfl, m, _, rfl, gl, rfl, _, rfl, iteF ⟨rfl, Fr.refl _ _, h1⟩⟩
        | some n =>
          rw [hkl] at gl h1
          refine ⟨.ref m, rfl, m, _, rfl, gl, rfl, _, rfl, iteT ?_⟩
          refine ⟨.ref m, rfl, m, _, rfl, gl, n, 1, rfl, rfl, .ref m, rfl, m, _, rfl, .inl ⟨_, .inr "left", h1, rfl, small_lt (by rw [len_kT]; show 2 ≤ _; omega), rfl⟩, rfl, Fr.at, ?_⟩
          rw [upd_same, putK_kT]
          exact congrArg (fun z => some (HO.dK (kT z))) (putL df (some n) (some (n - 1)))
      rintro σ' H1 ⟨rfl, f1, hm1⟩
      have hd1 : H1 df = some (.dK (kT t)) := f1 _ _ nmd.symm h2
      have kt1 : TupKeep H' H1 := fun c xs z => f1 _ _ (fun y => by rw [y, h1] at z; cases z) z
      have h31 := h3.keep kt1
      have g1 := dget_kT (.inl hd1) x
      have fin : ∀ (H2 : Hp) (t2 : Tab), TupKeep H1 H2 → (∀ xs, H2 df ≠ some (.tup xs)) → Fr m H' H2 → H2 m = some (.dK (kT (mT df (k.left.map (· - 1))))) → FlsAt true H2 t2 (dropF k.fs x) → ∀ q1, (upd H2 df (.dK (kT t2))) q1 = none → Q (.ref q1) (upd (upd H2 df (.dK (kT t2))) q1 (.tup [.str "told", .non])) := fun H2 t2 kk nt ff m2 h4 q1 n1 => by
        refine put (.told none) (spent k (dropF k.fs x)) _ (by rw [ed]; unfold stepD; rw [if_neg hz]) (by rw [ed]; unfold stepD; rw [if_neg hz]) (fr_two ff _) ⟨by rw [upd_ne nmd]; exact m2, t2, upd_same, h4.keep (TupKeep.at nt), nmd⟩ q1 n1
      refine ⟨.str "remove", rfl, rfl, _, rfl, iteF ⟨.str "remove", rfl, rfl, _, rfl, iteF ?_⟩⟩
      refine ⟨.ref df, rfl, df, rfl, .inl ⟨_, .inl hd1⟩, .str x, rfl, kT t, .inr x, .ref qq, hd1, rfl, (by rw [valV_kT, l2]), ?_⟩
      rw [dropK_kT]
      refine ⟨.str "remove", rfl, rfl, _, rfl, iteF ?_⟩
      exact ⟨(by show 2 ≤ sizeLine; decide), fin H1 _ (TupKeep.refl _) (fun xs z => by rw [hd1] at z; cases z) f1 hm1 (h31.drop x)⟩
end

end Fk

set_option maxHeartbeats 4000000
namespace Fk
open PySem PySem.Spec PyProof.Rows L2
theorem merge_m (df : Addr) : mergeK [] [((.inr "files" : Key), V.ref df), ((.inr "left" : Key), V.non)] = kT (mT df none) := by
  have e : ((.inr "files" : Key)) ≠ (.inr "left" : Key) := fun z => files_left (Sum.inr.inj z)
  simp [mergeK, kT, mT, putK, e, optI]
section
variable {P : Program} {w : World} {K : PySem.W.Frag} {mg : Str → Option Value} {base : Heap} {cD cB iF iO : Addr} {e : E4}
def spAfter : Sp := fun vs H Q _ => ∃ (m df : Addr) (k : Dk) (mk : Int), vs = [.ref m, .int mk] ∧ MdAt H m df k ∧ 0 ≤ mk ∧ k.fs.length < 64 ∧ SzF k.fs ∧ ∀ (ys : List Str), ys.Perm (k.fs.map (·.1)) → sortedS ys = true → ∀ m' df' H', H m' = none → H df' = none → Same H H' → MdAt H' m' df' ⟨crashG k.fs ys mk, none⟩ → Q (.ref m') H'
theorem c_l_after (T : TopD K mg cD cB e iF iO) : C8.Cal P w K mg base 1 "_law_after" spAfter [] := by
  refine cal_of T.d_l_after sc_l_after (fun _ _ _ _ _ _ us hl => match us, hl with | [_, _], _ => rfl) (fun vs H Q E h => ?_) (fun f cdv A outer s H vs Q E hr h => ?_)
  · obtain ⟨m, df, k, mk, rfl, _⟩ := h
    rfl
  · obtain ⟨m, df, k, mk, rfl, hm, h0, hl, hz, q⟩ := h
    refine ⟨_, (pss_cons (ps_set (i := 2) sc_l_after.nd rfl (Or.inl rfl) pe_dnewK)
      (pss_cons (ps_for PassesOwn.never rfl (pi_list (pe_callB (call_sortedD (by rfl)) (by rfl) T.z_sorted (by decide +kernel) (pa_cons (pe_dget (hu_of hr) (pv 0) pe_str (fun _ _ => rfl)) pa_nil))) (pg_name (i := 3) sc_l_after.nd rfl (Or.inl rfl))
      (pss_cons (ps_asg (pe_dget (hu_of hr) (pe_dget (hu_of hr) (pv 0) pe_str (fun _ _ => rfl)) (pv 3) (fun _ _ => rfl)) (pg_tup rfl (pgs_cons (pg_name (i := 4) sc_l_after.nd rfl (Or.inl rfl)) (pgs_cons (pg_name (i := 5) sc_l_after.nd rfl (Or.inl rfl)) (pgs_cons (pg_name (i := 6) sc_l_after.nd rfl (Or.inl rfl)) pgs_nil)))))
      (pss_cons (ps_if (pt_not (pt_val (pv 6)))
      (pss_cons (ps_set (i := 7) sc_l_after.nd rfl (Or.inl rfl) (pe_op op_mod (pe_callTy call_int1 (by rfl) T.z_int (by decide +kernel) (pa_cons (pv 1) pa_nil)) pe_int))
      (pss_cons (ps_set (i := 1) sc_l_after.nd rfl (Or.inl rfl) (pe_op op_fdivW (pv 1) pe_int))
      (pss_one (ps_set (i := 4) sc_l_after.nd rfl (Or.inl rfl) (pe_ix ix_list (pe_lst (pa_cons (pv 5) (pa_cons (pe_slice sl_byt (pv 4) po_none (po_some (pe_op op_fdivW (pe_callB call_len (by rfl) T.z_len (by decide +kernel) (pa_cons (pv 4) pa_nil)) pe_int))) (pa_cons (pv 4) pa_nil)))) (pv 7) (fun _ _ => rfl))))))
      pss_nil)
      (pss_one (ps_if (pt_cmpR op_notN (pv 4) pe_non (nomark _))
      (pss_one (ps_dput (hu_of hr) (pv 2) (pv 3) (pe_tup (pa_cons (pv 4) (pa_cons (pv 4) (pa_cons pe_bl pa_nil)))) rfl))
      pss_nil)))))
      (pss_one (ps_ret (pe_disp (pps_cons pe_str (pv 2) (pps_cons pe_str pe_non pps_nil)) (by rfl) (by rfl) (fun z => by cases z) (by decide)))))), ?_⟩
    intro d' zd'
    have s1 := same_new (o := .dK []) zd'
    have hd1 : (upd H d' (.dK [])) d' = some (.dK (kT [])) := upd_same
    generalize upd H d' (.dK []) = H1 at s1 hd1 ⊢
    have hm1 := hm.same s1
    obtain ⟨g1, t, g2, g3, nmd⟩ := id hm1
    have gf := dget_kT (.inl g1) ("files" : Str)
    rw [valF] at gf
    refine ⟨.ref m, rfl, m, _, rfl, gf, df, kT t, t.map (·.1), rfl, .inl g2, keys_kT t, (by rw [List.length_map, g3.len]; exact hl), fun ys p hp hs np => ?_⟩
    have s2 := same_new (o := .lst (ys.map V.str)) np
    have hq : (upd H1 p (.lst (ys.map V.str))) p = some (.lst (ys.map V.str)) := upd_same
    generalize upd H1 p (.lst (ys.map V.str)) = H2 at s2 hq ⊢
    rw [g3.keys] at hp
    have npd : p ≠ d' := fun z => by
      rw [z, hd1] at np
      cases np
    have ndm : d' ≠ m := fun z => by
      obtain ⟨y1, _⟩ := hm
      rw [← z, zd'] at y1
      cases y1
    have ndf : d' ≠ df := fun z => by
      obtain ⟨_, _, y2, _⟩ := hm
      rw [← z, zd'] at y2
      cases y2
    have lys : ys.length = k.fs.length := by
      have := hp.length_eq
      rwa [List.length_map] at this
    refine ⟨p, rfl, ⟨_, SqL.of hq⟩, ?_⟩
    refine forG (items := ys.map V.str) yields_list (fun i σ H' => Fr d' H2 H' ∧ TupKeep H2 H' ∧ (∃ t', H' d' = some (.dK (kT t')) ∧ FlsAt true H' t' ((ys.take i).foldl (crStep k.fs) (mk, [])).2) ∧ ∃ z3 z4 z5 z6 z7, σ = [some (.ref m), some (.int ((ys.take i).foldl (crStep k.fs) (mk, [])).1), some (.ref d'), z3, z4, z5, z6, z7]) ⟨Fr.refl _ _, TupKeep.refl _, ⟨[], s2 _ _ hd1, .nil⟩, none, none, none, none, none, rfl⟩
      (fun i σ H' I => SqL.of (I.1 _ _ npd hq)) (fun i v σ H' hv I => ?_) (fun σ H' I => ?_)
    · obtain ⟨f3, kt3, ⟨t', hD', hF'⟩, z3, z4, z5, z6, z7, rfl⟩ := I
      obtain ⟨y, hy, rfl⟩ : ∃ y, ys[i]? = some y ∧ v = .str y := by
        rw [List.getElem?_map] at hv
        cases e0 : ys[i]? with
        | none => rw [e0] at hv; cases hv
        | some y => rw [e0] at hv; exact ⟨y, rfl, (Option.some.inj hv).symm⟩
      have hym : y ∈ k.fs.map (·.1) := hp.mem_iff.mp (List.mem_of_getElem? hy)
      obtain ⟨f, hf⟩ := key_in hym
      have ft := fold_take (crStep k.fs) (mk, []) hy
      generalize hst : (ys.take i).foldl (crStep k.fs) (mk, []) = st at ft hF'
      have stl : st.2.length ≤ i := by
        rw [← hst]
        have := cr_len (fs := k.fs) (ys := ys.take i) (st := (mk, []))
        rw [List.length_take] at this
        simp only [List.length_nil] at this
        omega
      have il : i < ys.length := (List.getElem?_eq_some_iff.mp hy).1
      have hm3 : H' m = some (.dK (kT (mT df k.left))) := f3 _ _ ndm.symm (s2 _ _ g1)
      have hD3 : H' df = some (.dK (kT t)) := f3 _ _ ndf.symm (s2 _ _ g2)
      have hF3 := (g3.keep (TupKeep.of s2)).keep kt3
      rcases hF3.val y with ⟨l0, _⟩ | ⟨f', qq, l1, l2, l3⟩
      · rw [hf] at l0
        cases l0
      rw [hf] at l1
      cases l1
      have g := dget_kT (.inl hD3) y
      rw [l2] at g
      have gm := dget_kT (.inl hm3) ("files" : Str)
      rw [valF] at gm
      refine ⟨.ref m, rfl, m, _, rfl, gm, .str y, rfl, df, _, rfl, g, ?_⟩
      refine ⟨qq, _, rfl, SqT.of l3, rfl, .byt f.c, _, rfl, optB f.s, _, rfl, .bl (!f.u), _, rfl, rfl, ?_⟩
      have szf0 : f.c.size ≤ 10000 := by
        obtain ⟨pp, hpp, epp⟩ := look_in hf
        have := hz pp hpp
        rwa [epp] at this
      have szf : f.c.size ≤ 16777216 := by omega
      have ecr : crStep k.fs st y = ((outc f st.1).2, match (outc f st.1).1 with | none => st.2 | some b => putF st.2 y ⟨b, some b, false⟩) := by
        unfold crStep
        simp only [hf] <;> (cases (outc f st.1).1 <;> rfl)
      have small : (kT t').length < sizeLine := small_lt (by rw [len_kT, hF'.len]; omega)
      have endN : ∀ (H4 : Hp), Same H' H4 → (outc f st.1).1 = none → Fr d' H2 H4 ∧ TupKeep H2 H4 ∧ ∃ t', H4 d' = some (.dK (kT t')) ∧ FlsAt true H4 t' (crStep k.fs st y).2 := fun H4 s4 eo => by
        rw [ecr, eo]
        exact ⟨f3.trans (Fr.same s4), kt3.trans (TupKeep.of s4), t', s4 _ _ hD', hF'.keep (TupKeep.of s4)⟩
      have endS : ∀ (H4 : Hp) (b : Byt) (pp : Addr), Same H' H4 → H4 pp = none → (outc f st.1).1 = some b → (upd H4 pp (.tup [.byt b, .byt b, .bl true])) d' = some (.dK (kT t')) ∧
          Fr d' H2 (upd (upd H4 pp (.tup [.byt b, .byt b, .bl true])) d' (.dK (kT (putK t' y (.ref pp))))) ∧ TupKeep H2 (upd (upd H4 pp (.tup [.byt b, .byt b, .bl true])) d' (.dK (kT (putK t' y (.ref pp))))) ∧ ∃ t'', (upd (upd H4 pp (.tup [.byt b, .byt b, .bl true])) d' (.dK (kT (putK t' y (.ref pp))))) d' = some (.dK (kT t'')) ∧ FlsAt true (upd (upd H4 pp (.tup [.byt b, .byt b, .bl true])) d' (.dK (kT (putK t' y (.ref pp))))) t'' (crStep k.fs st y).2 := fun H4 b pp s4 hpp eo => by
        have s5 := s4.trans (same_new (o := .tup [.byt b, .byt b, .bl true]) hpp)
        have hp5 : (upd H4 pp (.tup [.byt b, .byt b, .bl true])) pp = some (.tup [.byt b, .byt b, .bl true]) := upd_same
        generalize upd H4 pp (.tup [.byt b, .byt b, .bl true]) = H5 at s5 hp5 ⊢
        have kt : TupKeep H5 (upd H5 d' (.dK (kT (putK t' y (.ref pp))))) := TupKeep.at fun xs z => by rw [s5 _ _ hD'] at z; cases z
        rw [ecr, eo]
        exact ⟨s5 _ _ hD', (f3.trans (Fr.same s5)).trans Fr.at, (kt3.trans (TupKeep.of s5)).trans kt, _, upd_same, FlsAt.keep (FlsAt.put (hF'.keep (TupKeep.of s5)) (f := ⟨b, some b, false⟩) hp5) kt⟩
      refine ⟨.bl (!f.u), rfl, _, rfl, ?_⟩
      cases hu : f.u with
      | true =>
        refine iteT ?_
        have eo : (outc f st.1).1 = pick3 f st.1 := by unfold outc; rw [if_pos hu]
        have em : (outc f st.1).2 = st.1 / 3 := by unfold outc; rw [if_pos hu]
        refine ⟨.int st.1, rfl, .inl ⟨_, rfl, _, 3, rfl, rfl, (by show (0 : Int) < 3; decide), ?_⟩⟩
        refine ⟨.int st.1, rfl, _, 3, rfl, rfl, ⟨by decide, by decide⟩, ?_⟩
        refine ⟨optB f.s, rfl, .byt f.c, rfl, .byt f.c, rfl, .byt f.c, _, rfl, ⟨small_line (by omega), rfl⟩, _, 2, rfl, rfl, ⟨by decide, by decide⟩, _, rfl, f.c, rfl, szf, .byt f.c, rfl, (by show 3 ≤ sizeLine; decide), fun p1 hp1 => ?_⟩
        have sq := same_new (o := .lst [optB f.s, .byt (halfB f.c), .byt f.c]) hp1
        have hq1 : (upd H' p1 (.lst [optB f.s, .byt (halfB f.c), .byt f.c])) p1 = some (.lst [optB f.s, .byt (halfB f.c), .byt f.c]) := upd_same
        refine ⟨.int (st.1 % 3), rfl, p1, _, _, _, rfl, rfl, SqL.of hq1, pick3_at f st.1, ?_⟩
        cases hp3 : pick3 f st.1 with
        | none =>
          refine ⟨.non, rfl, rfl, _, rfl, iteF ?_⟩
          obtain ⟨q1, q2, q3⟩ := endN _ sq (by rw [eo, hp3])
          refine ⟨q1, q2, by rw [ft]; exact q3, some (.str y), some (optB none), some (optB f.s), some (.bl (!true)), some (.int (st.1 % 3)), ?_⟩
          rw [ft, ecr, em]
          rfl
        | some b =>
          refine ⟨.byt b, rfl, rfl, _, rfl, iteT ?_⟩
          refine ⟨.byt b, rfl, .byt b, rfl, (by show 3 ≤ sizeLine; decide), fun p2 hp2 => ?_⟩
          obtain ⟨r2, q1, q2, q3⟩ := endS _ b p2 sq hp2 (by rw [eo, hp3])
          refine ⟨.ref d', rfl, .str y, rfl, d', _, rfl, .inl ⟨kT t', .inr y, r2, rfl, small, rfl⟩, ?_⟩
          rw [putK_kT]
          refine ⟨q1, q2, by rw [ft]; exact q3, some (.str y), some (optB (some b)), some (optB f.s), some (.bl (!true)), some (.int (st.1 % 3)), ?_⟩
          rw [ft, ecr, em]
          rfl
      | false =>
        refine iteF ?_
        have eo : (outc f st.1).1 = some f.c := by unfold outc; rw [hu]; rfl
        have em : (outc f st.1).2 = st.1 := by unfold outc; rw [hu]; rfl
        refine ⟨.byt f.c, rfl, rfl, _, rfl, iteT ?_⟩
        refine ⟨.byt f.c, rfl, .byt f.c, rfl, (by show 3 ≤ sizeLine; decide), fun p2 hp2 => ?_⟩
        obtain ⟨r2, q1, q2, q3⟩ := endS _ f.c p2 (Same.refl _) hp2 eo
        refine ⟨.ref d', rfl, .str y, rfl, d', _, rfl, .inl ⟨kT t', .inr y, r2, rfl, small, rfl⟩, ?_⟩
        rw [putK_kT]
        refine ⟨q1, q2, by rw [ft]; exact q3, some (.str y), some (.byt f.c), some (optB f.s), some (.bl (!false)), z7, ?_⟩
        rw [ft, ecr, em]
        rfl
    · obtain ⟨f3, kt3, ⟨t', k1, k2⟩, z3, z4, z5, z6, z7, rfl⟩ := I
      rw [List.length_map, List.take_length] at k2
      intro m' hm'
      refine ⟨.ref d', rfl, upd_same, [(.inr "files", .ref d'), (.inr "left", .non)], rfl, (by show 2 ≤ 15; decide), ?_⟩
      rw [merge_m, upd_upd]
      have s3 : Same H H' := fun b o z => f3 b o (ne_of_none z zd') (s2 _ _ (s1 _ _ z))
      have s4 := same_new (o := .dK (kT (mT d' none))) hm'
      have nmd' : m' ≠ d' := fun z => by rw [z, k1] at hm'; cases hm'
      exact q ys hp hs m' d' _ (s3.free hm') zd' (s3.trans s4) ⟨upd_same, t', s4 _ _ k1, k2.keep (TupKeep.of s4), nmd'⟩
end

end Fk

set_option maxHeartbeats 4000000
/-! a != b of two tuples with the same flat items (also bytes). -/
namespace Fk
open PySem PySem.Spec PyProof.Rows L2
def rNeTF (K : PySem.W.Frag) : R2 := fun x y H Q => ∃ a b l, x = .ref a ∧ y = .ref b ∧ SqT K H a l ∧ SqT K H b l ∧ (∀ v ∈ l, flatB v = true) ∧ Q (.bl false) H
theorem vals_eqat {A : Around} {s : Shared} : ∀ {l : List V} {us ws : List Value}, Vals l us → Vals l ws → (∀ v ∈ l, flatB v = true) → ∀ j (h1 : j < us.length) (h2 : j < ws.length), SeqAt.EqAt A s us[j] ws[j] true
  | _, _, _, .nil, .nil, _, j, h1, _ => absurd h1 (Nat.not_lt_zero j)
  | _, _, _, .cons r1 t1, .cons r2 t2, f, 0, _, _ => eqAt_same r1 r2 (f _ List.mem_cons_self)
  | _, _, _, .cons r1 t1, .cons r2 t2, f, j + 1, h1, h2 => by
    have := vals_eqat (A := A) (s := s) t1 t2 (fun v hv => f v (List.mem_cons_of_mem _ hv)) j (by simpa using h1) (by simpa using h2)
    simpa using this
theorem op_neTF {X : Cx} (hu : X.A.units < cLine) : OpR X (compareOp .NotEq) (rNeTF X.K) := by
  intro pins s σ H x y v u Q I rx ry h
  obtain ⟨a, b, l, rfl, rfl, ha, hb, f, q⟩ := h
  obtain rfl : v = Value.ref a := rx
  obtain rfl : u = Value.ref b := ry
  obtain ⟨us, r1, p1, _⟩ := I.tuple ha
  obtain ⟨ws, r2, p2, _⟩ := I.tuple hb
  have l1 := r1.length
  have l2 := r2.length
  refine SeqAt.RcNeAt.tuples (e := fun _ => true) p1 p2 hu (fun j h1 h2 => ?_) _ _ _ _ ?_
  · have := vals_eqat (A := X.A.in1) (s := s) r1 r2 f j (by simpa using h1) (by simpa using h2)
    simpa using this
  · have e : (us.toArray.size == ws.toArray.size) = true := by simp; omega
    rw [e, show ((List.range (min us.toArray.size ws.toArray.size)).all fun _ => true) = true from List.all_eq_true.mpr fun _ _ => rfl]
    exact ⟨.bl false, H, I, rfl, q⟩
end Fk
namespace Fk
open PySem PySem.Spec PyProof.Rows L2
theorem op_neTFK {X : Cx} {K : PySem.W.Frag} (h : X.K = K) (hu : X.A.units + 64 < cLine) : OpR X (compareOp .NotEq) (rNeTF K) := h ▸ op_neTF (Nat.lt_of_le_of_lt (Nat.le_add_right _ 64) hu)
end Fk

set_option maxHeartbeats 4000000
namespace Fk
open PySem PySem.Spec PyProof.Rows L2
section
variable {P : Program} {w : World} {K : PySem.W.Frag} {mg : Str → Option Value} {base : Heap} {cD cB iF iO : Addr} {e : E4}
theorem nm_ok : ∀ x ∈ NM, OkS x := by
  have h : ∀ x ∈ NM, ∀ u ∈ TL.tl x, u < 1114112 := by decide +kernel
  exact h
theorem eqv_self : ∀ ys : List Str, PyData.eqvAll (ys.map PyData.str) (ys.map PyData.str) = true
  | [] => rfl
  | y :: ys => by
    show (y == y && PyData.eqvAll _ _) = true
    rw [eqv_self ys, Bool.and_true]
    exact beq_self_eq_true y
def spSame (cD : Addr) : Sp := fun vs H Q _ => ∃ (a dx d m df : Addr) (k : Dk), vs = [.ref a, .ref m] ∧ DkAt cD H a dx d k ∧ MdAt H m df k ∧ k.fs.length < 64 ∧ (∀ p ∈ k.fs, p.1 ∈ NM) ∧ ∀ H', Same H H' → Q (.bl true) H'
theorem c_l_same (T : TopD K mg cD cB e iF iO) : C8.Cal P w K mg base 6 "_law_same" (spSame cD) [] := by
  refine cal_of T.d_l_same sc_l_same (fun _ _ _ _ _ _ us hl => match us, hl with | [_, _], _ => rfl) (fun vs H Q E h => ?_) (fun f cdv A outer s H vs Q E hr h => ?_)
  · obtain ⟨a, dx, d, m, df, k, rfl, _⟩ := h
    rfl
  · obtain ⟨a, dx, d, m, df, k, rfl, hk, hm, hl, hn, q⟩ := h
    refine ⟨_, (pss_cons (ps_set (i := 2) sc_l_same.nd rfl (Or.inl rfl) (C8.pe_mt0 (m_Disk_names T) hr (by decide) (pv 0)))
      (C8.pss_cut (ps_if (PW.pt (pw_or (pt_not (pt_val (pe_callB call_isi (by rfl) T.z_isinstance (by decide +kernel) (pa_cons (pv 2) (pa_cons (pe_bltn (v := .ty "tuple") (by rfl) T.z_tuple (by decide +kernel) rfl) pa_nil))))) (pw_or (pt_cmpR (op_neD hr.units) (pe_callTy call_list_of (by rfl) T.z_list (by decide +kernel) (pa_cons (pv 2) pa_nil)) (pe_callB (call_sortedD (by rfl)) (by rfl) T.z_sorted (by decide +kernel) (pa_cons (pe_dget (hu_of hr) (pv 1) pe_str (fun _ _ => rfl)) pa_nil)) (nomark _)) (pw_or1 (pt_cmpR op_ne (pe_pr (p_Disk_left T) hr (by decide) (pv 0)) (pe_dget (hu_of hr) (pv 1) pe_str (fun _ _ => rfl)) (nomark _))))))
      (pss_one (ps_ret pe_bl))
      pss_nil)
      (pss_one (ps_ret (pe_cmpR (op_eqD hr.units) (pe_lc (own := [("_law_name", 3)]) (g := gName 3) (by rfl) sc_l_same.nd (pi_tup (pv 2)) (blkOk_by (own := [("_law_name", 3)]) (N := ["_law_disk", "_law_m", "_law_told", "_law_name"]) (sc := C8.fnScope s_l_same) (by decide +kernel)) (fun _ _ _ _ _ => (pg_name (i := 3) sc_l_same.nd rfl (Or.inl rfl))) (fun _ _ _ _ _ => pts_one (pt_cmpR op_ne (pe_mx (E := fun _ _ _ _ => False) (m_Disk_read T) hr (by decide) (fun _ => passNo) (pv 0) (pa_cons (pv 3) pa_nil)) (pe_ix (ixK_tup (K := K) rfl) (pe_dget (hu_of hr) (pe_dget (hu_of hr) (pv 1) pe_str (fun _ _ => rfl)) (pv 3) (fun _ _ => rfl)) pe_int (fun _ _ => rfl)) (nomark _))) (fun _ _ _ _ _ => (pv 3))) (pe_lst pa_nil) (nomark _)))))), ?_⟩
    refine ⟨.ref a, rfl, a, dx, _, rfl, hk.1, rfl, a, dx, d, k, rfl, hk, hl, fun ys p H1 hp hs np s1 hq => ?_⟩
    have hk1 := hk.same s1
    have hm1 := hm.same s1
    refine ⟨fun σ H' => σ = [some (.ref a), some (.ref m), some (.ref p), none] ∧ Same H H' ∧ H' p = some (.tup (ys.map V.str)), ?first, ?rest⟩
    case rest =>
      rintro σ' H3 ⟨rfl, s13, hp3⟩
      have hk3 := hk.same s13
      have hm3 := hm.same s13
      refine ⟨.ref p, rfl, p, rfl, ⟨_, SqT.of hp3⟩, fun D hD => ?_⟩
      refine lc_pure (i := 3) (us := ys) (g := V.str) yields_tup (fun y => .str y) (fun _ => false) hD (fun H s => SqT.of (s _ _ hp3)) (fun H4 y s4 hy R r => ?_) (fun H u s hu hf R r => by cases hf) (by have := hp.length_eq; rw [List.length_map] at this; omega) (fun H4 s4 h4 => ?_)
      · have hk4 := hk3.same s4
        obtain ⟨g1, t, g2, g3, _⟩ := hm3.same s4
        have gf := dget_kT (.inl g1) ("files" : Str)
        rw [valF] at gf
        obtain ⟨f, hf⟩ := key_in (hp.mem_iff.mp hy)
        rcases g3.val y with ⟨l0, _⟩ | ⟨f', qq, l1, l2, l3⟩
        · rw [hf] at l0
          cases l0
        rw [hf] at l1
        cases l1
        have g := dget_kT (.inl g2) y
        rw [l2] at g
        refine ⟨.ref a, rfl, a, dx, _, rfl, hk4.1, rfl, .str y, rfl, a, dx, d, k, y, rfl, hk4, (fun z => by rw [hf] at z; cases z), fun f0 hf0 => ?_⟩
        rw [hf] at hf0
        cases hf0
        refine ⟨.ref m, rfl, m, _, rfl, gf, .str y, rfl, df, _, rfl, g, qq, _, 0, _, rfl, rfl, SqT.of l3, rfl, rfl, _, rfl, ?_⟩
        rw [decide_eq_true rfl]
        exact r H4 (Same.refl H4)
      · have e0 : (ys.filter fun _ => false).map V.str = [] := by
          rw [List.filter_eq_nil_iff.mpr fun _ _ z => by cases z]
          rfl
        rw [e0] at h4
        refine ⟨(by show 0 ≤ sizeLine; decide), fun q3 n3 => ?_⟩
        have s5 := same_new (o := .lst []) n3
        refine ⟨_, _, .lst (SqL.of (s5 _ _ h4)) .nil, .lst (SqL.of upd_same) .nil, shaped_nil, shaped_nil, ?_⟩
        exact q _ ((s13.trans s4).trans s5)
    refine ⟨.ref p, rfl, ?_⟩
    dsimp only [tCons, tC, tNil]
    refine ⟨_, _, .type "tuple", .type "tuple", true, rfl, .ty "tuple", .base (.tup hq), kit_ty (by decide +kernel), _, rfl, ifF (fun z => by cases z) ?_⟩
    refine ⟨.ref p, rfl, p, _, rfl, .inr (SqT.of hq), fun q1 n1 => ?_⟩
    have s2 := same_new (o := .lst (ys.map V.str)) n1
    have hq1 : (upd H1 q1 (.lst (ys.map V.str))) q1 = some (.lst (ys.map V.str)) := upd_same
    generalize upd H1 q1 (.lst (ys.map V.str)) = H2 at s2 hq1 ⊢
    obtain ⟨g1, t, g2, g3, _⟩ := hm1.same s2
    have gf := dget_kT (.inl g1) ("files" : Str)
    rw [valF] at gf
    refine ⟨.ref m, rfl, m, _, rfl, gf, df, kT t, t.map (·.1), rfl, .inl g2, keys_kT t, (by rw [List.length_map, g3.len]; exact hl), fun zs q2 hz hsz n2 => ?_⟩
    have s3 := same_new (o := .lst (zs.map V.str)) n2
    have hq2 : (upd H2 q2 (.lst (zs.map V.str))) q2 = some (.lst (zs.map V.str)) := upd_same
    generalize upd H2 q2 (.lst (zs.map V.str)) = H3 at s3 hq2 ⊢
    rw [g3.keys] at hz
    obtain rfl : ys = zs := sort_uniq hs hsz (hp.trans hz.symm)
    have ok : ∀ y ∈ ys, OkS y := fun y hy => by
      obtain ⟨p0, hp0, e0⟩ := List.mem_map.mp (hp.mem_iff.mp hy)
      rw [← e0]
      exact nm_ok _ (hn p0 hp0)
    refine ⟨_, _, .lst (SqL.of (s3 _ _ hq1)) (dp_strs ys), .lst (SqL.of hq2) (dp_strs ys), shaped_strs ys ok, shaped_strs ys ok, _, rfl, ?_⟩
    rw [show PyData.eqv (.list (ys.map PyData.str)) (.list (ys.map PyData.str)) = true from eqv_self ys]
    refine ifF (fun z => by cases z) ?_
    have s13 := (s1.trans s2).trans s3
    have hk3 := hk.same s13
    have hm3 := hm.same s13
    have hp3 : H3 p = some (.tup (ys.map V.str)) := s3 _ _ (s2 _ _ hq)
    have gl := dget_kT (.inl hm3.1) ("left" : Str)
    rw [valL] at gl
    refine ⟨.ref a, rfl, a, dx, _, rfl, hk3.1, a, dx, _, optI k.left, rfl, hk3.1, rfl, .ref m, rfl, m, _, rfl, gl, ?_⟩
    cases hkl : k.left with
    | none => exact ⟨rfl, _, rfl, iteF ⟨rfl, s13, hp3⟩⟩
    | some n =>
      refine ⟨rfl, _, rfl, ?_⟩
      rw [decide_eq_true (rfl : optI (some n) = optI (some n))]
      exact iteF ⟨rfl, s13, hp3⟩
end

end Fk

set_option maxHeartbeats 4000000
namespace Fk
open PySem PySem.Spec PyProof.Rows L2
/-- what the defs make of a question -/
def TRefM (cM : Addr) : (XK → Hp → VK → Prop) → Hp → VK → Prop := fun tl H Q => tl (fun cls d H' => cls = .ref cM ∧ Q (.bl true) H') H fun v H' => Q (.bl false) H'
def TErr (e : E4) : (XK → Hp → VK → Prop) → Hp → VK → Prop := fun tl H Q => tl (fun cls d H' => (cls = .ref e.N ∧ ∀ p, H' p = none → Q (.ref p) (upd H' p (.tup [.str "name", .non]))) ∨ (cls = .ref e.M ∧ ∀ p, H' p = none → Q (.ref p) (upd H' p (.tup [.str "command", .non])))) H fun v H' => Q .non H'
theorem refused_gives {X : Cx} {cD cB iF iO g : Addr} {e : E4} {cdg : Value} (T : TopD X.K X.mg cD cB e iF iO) : GivesR X ["_law_ask"] "_law_refused" (C8.fnScope s_l_refused) g cdg (C8.fnBody s_l_refused) "_law_ask" (TRefM e.M) := by
  intro R f s H Q tl act hc h
  refine' ⟨_, (pss_cons (ps_tryA (tb := fun W D σ H => ∃ Ech : XK, (∀ cls d (σ' : L2.St) H', σ'.length = 1 → Ech cls d H' → W cls d σ' H') ∧ σ[0]? = some (some (.ref f)) ∧ R H ∧ tl Ech H fun v H' => D.nx σ H') rfl rfl takes_none5 (fun W pn xe tk _ => ?B) (HdA.cons ⟨rfl, by decide, .inl T.eM.mgc⟩ (fun a oe cls d pn hz hf => ?S) HdA.nil)) (pss_one (ps_ret pe_bl))), ?_⟩
  case B =>
    refine ⟨fun pins s' σ H' D I h' => ?_⟩
    obtain ⟨Ech, hW, h1, h2, h3⟩ := h'
    exact (pss_one (ps_expr (act _ pn xe Ech _ _ (takes_len tk) (fun cls d σ' H' e n => hW cls d σ' H' n e)))).run pins s' σ H' D I ⟨h1, h2, h3⟩
  case S => exact (pss_one (ps_ret pe_bl))
  refine ⟨fun cls d H' => cls = .ref e.M ∧ Q (.bl true) H', fun cls d σ' H' n h => ?_, rfl, hc, h⟩
  obtain ⟨rfl, k⟩ := h
  exact ⟨true, T.ex 1 1 (by decide) (by decide), fun _ a na => k, fun z => Bool.noConfusion z⟩
theorem error_gives {X : Cx} {cD cB iF iO g : Addr} {e : E4} {cdg : Value} (T : TopD X.K X.mg cD cB e iF iO) : GivesR X ["_law_ask", "e"] "_law_error" (C8.fnScope s_l_error) g cdg (C8.fnBody s_l_error) "_law_ask" (TErr e) := by
  intro R f s H Q tl act hc h
  refine' ⟨_, (pss_cons (ps_tryA (tb := fun W D σ H => ∃ Ech : XK, (∀ cls d (σ' : L2.St) H', σ'.length = 2 → Ech cls d H' → W cls d σ' H') ∧ σ[0]? = some (some (.ref f)) ∧ R H ∧ tl Ech H fun v H' => D.nx σ H') rfl rfl takes_none5 (fun W pn xe tk _ => ?B)
    (HdA.cons ⟨rfl, by decide, .inl T.eM.mgc⟩ (fun a oe cls d pn hz hf => ?S1) (HdA.cons ⟨rfl, by decide, .inl T.eN.mgc⟩ (fun a oe cls d pn hz hf => ?S2) (HdA.as (i := 1) sc_l_error.nd rfl rfl ⟨rfl, by decide, .inl T.eO.mgc⟩ (fun a oe cls d pn hz hf => ?S3) (HdA.cons ⟨rfl, by decide, .inl T.eX.mgc⟩ (fun a oe cls d pn hz hf => ?S4) HdA.nil))))) (pss_one (ps_ret pe_non))), ?_⟩
  case B =>
    refine ⟨fun pins s' σ H' D I h' => ?_⟩
    obtain ⟨Ech, hW, h1, h2, h3⟩ := h'
    exact (pss_one (ps_expr (act _ pn xe Ech _ _ (takes_len tk) (fun cls d σ' H' e n => hW cls d σ' H' n e)))).run pins s' σ H' D I ⟨h1, h2, h3⟩
  case S1 => exact (pss_one (ps_ret (pe_tup (pa_cons pe_str (pa_cons pe_non pa_nil)))))
  case S2 => exact (pss_one (ps_ret (pe_tup (pa_cons pe_str (pa_cons pe_non pa_nil)))))
  case S3 => exact (pss_one (ps_ret (pe_tup (pa_cons pe_str (pa_cons (pe_xf (xf_of T.eO.xc) T.eO.nf hz hf (pv 1)) pa_nil)))))
  case S4 => exact (pss_one (ps_ret (pe_tup (pa_cons pe_str (pa_cons pe_non pa_nil)))))
  refine ⟨fun cls d H' => (cls = .ref e.N ∧ ∀ p, H' p = none → Q (.ref p) (upd H' p (.tup [.str "name", .non]))) ∨ (cls = .ref e.M ∧ ∀ p, H' p = none → Q (.ref p) (upd H' p (.tup [.str "command", .non]))), fun cls d σ' H' n h => ?_, rfl, hc, h⟩
  rcases h with ⟨rfl, k⟩ | ⟨rfl, k⟩
  · exact ⟨false, T.ex 0 1 (by decide) (by decide), fun z => Bool.noConfusion z, fun _ => ⟨true, T.ex 0 0 (by decide) (by decide), fun _ a na => ⟨(by show 2 ≤ sizeLine; decide), fun p hp => k p hp⟩, fun z => Bool.noConfusion z⟩⟩
  · exact ⟨true, T.ex 1 1 (by decide) (by decide), fun _ a na => ⟨(by show 2 ≤ sizeLine; decide), fun p hp => k p hp⟩, fun z => Bool.noConfusion z⟩

end Fk

set_option maxHeartbeats 4000000
namespace Fk
open PySem PySem.Spec PyProof.Rows L2
open LamX
abbrev Q1L : Str := Str.ofString "_law_refusals_right" ++ ".<locals>." ++ "<lambda>"
abbrev Q2L : Str := Str.ofString "law" ++ ".<locals>." ++ "<lambda>"
/-- the names of the code objects, by their lines -/
def qfL (n : Nat) : Str := bif Nat.ble n 357 then Q1L else Q2L
theorem cutV_to {α : Type} (l : List α) (g : α → V) (k : Nat) : cutV (l.map g) none (some (k : Int)) = (l.take k).map g := by
  unfold cutV
  rw [HT.sIx_none, HT.sIx_nat, List.drop_zero, Nat.sub_zero, List.map_take]
  rcases Nat.le_total k (l.map g).length with h | h
  · rw [Nat.min_eq_left h]
  · rw [Nat.min_eq_right h, List.take_length, List.take_of_length_le h]
/-- what is kept -/
def Kq (W : Addr) (H H' : Hp) : Prop := ∀ b o, b ≠ W → (∀ ps, o ≠ .tbl ps) → H b = some o → H' b = some o
theorem Kq.refl (W : Addr) (H : Hp) : Kq W H H := fun _ _ _ _ e => e
theorem Kq.trans {W : Addr} {H H1 H2 : Hp} (x : Kq W H H1) (y : Kq W H1 H2) : Kq W H H2 := fun b o n t e => y b o n t (x b o n t e)
theorem Kq.same {W : Addr} {H H' : Hp} (s : Same H H') : Kq W H H' := fun b o _ _ e => s b o e
theorem Kq.fr {W : Addr} {H H' : Hp} (s : Fr W H H') : Kq W H H' := fun b o n _ e => s b o n e
theorem Kq.extN {W : Addr} {H H' : Hp} (s : ExtN H H') : Kq W H H' := fun b o _ t e => s b o e t
theorem dk_kq {cD W : Addr} {H H' : Hp} {a dx d : Addr} {k : Dk} {c : Int} (h : DkAt cD H a dx d k) (w : Wl H W c) (s : Kq W H H') : DkAt cD H' a dx d k := by
  obtain ⟨h1, t, h2, h3⟩ := h
  obtain ⟨_, x, y, hw⟩ := w
  have n : ∀ b o, H b = some o → (∀ l, o ≠ .lst l) → b ≠ W := fun b o e nl z => by
    rw [z, hw] at e
    exact nl _ (Option.some.inj e).symm
  exact ⟨s _ _ (n _ _ h1 fun l z => nomatch z) (fun ps z => nomatch z) h1, t, s _ _ (n _ _ h2 fun l z => nomatch z) (fun ps z => nomatch z) h2, h3.keep fun b xs e => s _ _ (n _ _ e fun l z => nomatch z) (fun ps z => nomatch z) e⟩
theorem md_kq {W : Addr} {H H' : Hp} {m df : Addr} {k : Dk} {c : Int} (h : MdAt H m df k) (w : Wl H W c) (s : Kq W H H') : MdAt H' m df k := by
  obtain ⟨h1, t, h2, h3, nn⟩ := h
  obtain ⟨_, x, y, hw⟩ := w
  have n : ∀ b o, H b = some o → (∀ l, o ≠ .lst l) → b ≠ W := fun b o e nl z => by
    rw [z, hw] at e
    exact nl _ (Option.some.inj e).symm
  exact ⟨s _ _ (n _ _ h1 fun l z => nomatch z) (fun ps z => nomatch z) h1, t, s _ _ (n _ _ h2 fun l z => nomatch z) (fun ps z => nomatch z) h2, h3.keep fun b xs e => s _ _ (n _ _ e fun l z => nomatch z) (fun ps z => nomatch z) e, nn⟩
theorem ask_kq {X : Cx} {kk : Nat} {f : Addr} {t : XK → TE} {W : Addr} {H H' : Hp} {c : Int} (h : AskOf X kk f t H) (w : Wl H W c) (s : Kq W H H') : AskOf X kk f t H' := by
  obtain ⟨_, x, y, hw⟩ := w
  have n : ∀ b φ, H b = some (.ext φ) → b ≠ W := fun b φ e z => by rw [z, hw] at e; cases e
  obtain ⟨params, body, scope, c', h1, h2, h3⟩ := h
  exact ⟨params, body, scope, c', s _ _ (n _ _ h1) lamE_ne h1, s _ _ (n _ _ h2) codeO_ne h2, h3⟩
theorem Wl.ext {W : Addr} {H H' : Hp} {c : Int} (h : Wl H W c) (e : ExtN H H') : Wl H' W c := by
  obtain ⟨h0, x, y, hw⟩ := h
  exact ⟨h0, x, y, e _ _ hw fun ps z => nomatch z⟩
/-- an odd value -/
def OddS (W : Addr) (H : Hp) (v : V) : Prop := v = .non ∨ v = .int 3 ∨ v = .bl true ∨ ∃ q o, v = .ref q ∧ q ≠ W ∧ H q = some o ∧ (o = .tup [] ∨ o = .tup [.str "a"] ∨ o = .lst [] ∨ o = .dK [])
theorem OddS.kq {W : Addr} {H H' : Hp} {v : V} (h : OddS W H v) (s : Kq W H H') : OddS W H' v := by
  rcases h with h | h | h | ⟨q, o, e, n, ho, c⟩
  · exact .inl h
  · exact .inr (.inl h)
  · exact .inr (.inr (.inl h))
  · refine .inr (.inr (.inr ⟨q, o, e, n, s q o n (fun ps z => ?_) ho, c⟩))
    rcases c with c | c | c | c <;> rw [c] at z <;> cases z
theorem OddS.noStr {K : PySem.W.Frag} {W : Addr} {H : Hp} {v : V} (h : OddS W H v) : NoStr K H v := by
  rcases h with rfl | rfl | rfl | ⟨q, o, rfl, n, ho, c⟩
  · exact ⟨"NoneType", by decide, .base .non⟩
  · exact ⟨"int", by decide, .base (.int 3)⟩
  · exact ⟨"bool", by decide, .base (.bl true)⟩
  · rcases c with rfl | rfl | rfl | rfl
    · exact ⟨"tuple", by decide, .base (.tup ho)⟩
    · exact ⟨"tuple", by decide, .base (.tup ho)⟩
    · exact ⟨"list", by decide, .base (.lst ho)⟩
    · exact ⟨"dict", by decide, .base (.dK ho)⟩
section
variable {P : Program} {w : World} {K : PySem.W.Frag} {mg : Str → Option Value} {base : Heap} {cD cB iF iO : Addr} {e : E4}
def spRefu (K : PySem.W.Frag) (cD P1 P2 : Addr) : Sp := fun vs H Q _ => ∃ (W a dx d m df : Addr) (k : Dk) (c : Int), vs = [.ref W, .ref a, .ref m] ∧ Wl H W c ∧ c < 2 ^ 36 ∧ DkAt cD H a dx d k ∧ MdAt H m df k ∧ k.fs.length < 64 ∧ (∀ p ∈ k.fs, p.1 ∈ NM) ∧ TabsL qfL [P1, P2] H ∧
  ∀ H' c', (∀ b o, b ≠ W → (∀ ps, o ≠ .tbl ps) → H b = some o → H' b = some o) → Wl H' W c' → c ≤ c' → c' ≤ c + 20 → TabsL qfL [P1, P2] H' → Q (.bl true) H'
set_option pp.maxSteps 300 in
theorem c_l_refusals_right (T : TopD K mg cD cB e iF iO) {cd P1 P2 : Addr} (TB : TabB base mg cd P1) (D : IsDefC K mg "_law_refusals_right" s_l_refusals_right cd) : C8.Cal P w K mg base 9 "_law_refusals_right" (spRefu K cD P1 P2) [] := by
  refine cal_ofC D sc_l_refusals_right (fun _ _ _ _ _ _ us hl => match us, hl with | [_, _, _], _ => rfl) (fun vs H Q E h => ?_) (fun f A outer s H vs Q E hr h => ?_)
  · obtain ⟨W, a, dx, d, m, df, k, c, rfl, _⟩ := h
    rfl
  · obtain ⟨W, a, dx, d, m, df, k, c, rfl, hw, hc, hk, hm, hl, hn, tb, q⟩ := h
    refine ⟨_, (pss_cons (ps_set (i := 3) sc_l_refusals_right.nd rfl (Or.inr rfl) (C8.pe_c (c_l_pick T.toTop) hr (by decide) (by rfl) (pa_cons (pv 0) (pa_cons (pe_lst (pa_cons pe_non (pa_cons pe_int (pa_cons (pe_tup pa_nil) (pa_cons (pe_tup (pa_cons pe_str pa_nil)) (pa_cons (pe_lst pa_nil) (pa_cons pe_dnewK (pa_cons pe_bl pa_nil)))))))) pa_nil))))
      (pss_cons (ps_set (i := 4) sc_l_refusals_right.nd rfl (Or.inr rfl) (C8.pe_c (c_encode T) hr (by decide) (by rfl) (pa_cons (C8.pe_mk (k_Blob T) hr (by decide) (by rfl) (pa_cons pe_str pa_nil)) pa_nil)))
      (pss_cons (ps_set (i := 5) sc_l_refusals_right.nd rfl (Or.inl rfl) (pe_lst (pa_cons (pe_lamL (qf := qfL) (Ps := [P1, P2]) (k := 6) TB rfl List.mem_cons_self rfl (show LamS (C8.fnScope s_l_refusals_right) _ from lamS_by (by decide +kernel)) rfl (fun _ _ _ _ _ => rfl) (fun A outer s H E f c2 hr2 => (pe_mx (m_Disk_writeN T) hr2 (by decide) (fun _ => passAt takes_lam _) (pv 1) (pa_cons (pv 3) (pa_cons (pv 4) pa_nil))))) pa_nil)))
      (pss_cons (ps_expr (pe_bm PySem.F.plainAttrs_list PySem.F.slot_list_append PySem.F.type_list_append mt_append (pv 5) (pa_cons (pe_lamL (qf := qfL) (Ps := [P1, P2]) (k := 6) TB rfl List.mem_cons_self rfl (show LamS (C8.fnScope s_l_refusals_right) _ from lamS_by (by decide +kernel)) rfl (fun _ _ _ _ _ => rfl) (fun A outer s H E f c2 hr2 => (pe_mx (m_Disk_writeN T) hr2 (by decide) (fun _ => passAt takes_lam _) (pv 1) (pa_cons pe_str (pa_cons (C8.pe_c (c_l_pick T.toTop) hr2 (by decide) (by rfl) (pa_cons (pv 0) (pa_cons (pe_lst (pa_cons pe_non (pa_cons pe_str (pa_cons pe_int (pa_cons (pe_lst (pa_cons pe_int pa_nil)) (pa_cons (pe_tup (pa_cons pe_int pa_nil)) pa_nil)))))) pa_nil))) pa_nil))))) pa_nil)))
      (pss_cons (ps_for PassesOwn.never rfl (pi_list (pe_slice sl_list (pe_callB (call_sortedD (by rfl)) (by rfl) T.z_sorted (by decide +kernel) (pa_cons (pe_dget (hu_of hr) (pv 2) pe_str (fun _ _ => rfl)) pa_nil)) po_none (po_some pe_int))) (pg_name (i := 6) sc_l_refusals_right.nd rfl (Or.inr rfl))
      (pss_one (ps_expr (pe_bm PySem.F.plainAttrs_list PySem.F.slot_list_append PySem.F.type_list_append mt_append (pv 5) (pa_cons (pe_lamL (qf := qfL) (Ps := [P1, P2]) (k := 6) TB rfl List.mem_cons_self rfl (show LamS (C8.fnScope s_l_refusals_right) _ from lamS_by (by decide +kernel)) rfl (fun _ _ _ _ _ => rfl) (fun A outer s H E f c2 hr2 => (pe_mx (m_Disk_renameN T) hr2 (by decide) (fun _ => passAt takes_lam _) (pv 1) (pa_cons (pv 6) (pa_cons (pv 3) pa_nil))))) pa_nil)))))
      (pss_cons (ps_expr (pe_bm PySem.F.plainAttrs_list PySem.F.slot_list_append PySem.F.type_list_append mt_append (pv 5) (pa_cons (pe_lamL (qf := qfL) (Ps := [P1, P2]) (k := 6) TB rfl List.mem_cons_self rfl (show LamS (C8.fnScope s_l_refusals_right) _ from lamS_by (by decide +kernel)) rfl (fun _ _ _ _ _ => rfl) (fun A outer s H E f c2 hr2 => (pe_mx (m_Disk_syncN T) hr2 (by decide) (fun _ => passAt takes_lam _) (pv 1) (pa_cons (pv 3) pa_nil)))) pa_nil)))
      (pss_cons (ps_expr (pe_bm PySem.F.plainAttrs_list PySem.F.slot_list_append PySem.F.type_list_append mt_append (pv 5) (pa_cons (pe_lamL (qf := qfL) (Ps := [P1, P2]) (k := 6) TB rfl List.mem_cons_self rfl (show LamS (C8.fnScope s_l_refusals_right) _ from lamS_by (by decide +kernel)) rfl (fun _ _ _ _ _ => rfl) (fun A outer s H E f c2 hr2 => (pe_mx (m_Disk_removeN T) hr2 (by decide) (fun _ => passAt takes_lam _) (pv 1) (pa_cons (pv 3) pa_nil)))) pa_nil)))
      (pss_cons (ps_expr (pe_bm PySem.F.plainAttrs_list PySem.F.slot_list_append PySem.F.type_list_append mt_append (pv 5) (pa_cons (pe_lamL (qf := qfL) (Ps := [P1, P2]) (k := 6) TB rfl List.mem_cons_self rfl (show LamS (C8.fnScope s_l_refusals_right) _ from lamS_by (by decide +kernel)) rfl (fun _ _ _ _ _ => rfl) (fun A outer s H E f c2 hr2 => (pe_mx (m_Disk_readN T) hr2 (by decide) (fun _ => passAt takes_lam _) (pv 1) (pa_cons (pv 3) pa_nil)))) pa_nil)))
      (pss_cons (ps_expr (pe_bm PySem.F.plainAttrs_list PySem.F.slot_list_append PySem.F.type_list_append mt_append (pv 5) (pa_cons (pe_lamL (qf := qfL) (Ps := [P1, P2]) (k := 6) TB rfl List.mem_cons_self rfl (show LamS (C8.fnScope s_l_refusals_right) _ from lamS_by (by decide +kernel)) rfl (fun _ _ _ _ _ => rfl) (fun A outer s H E f c2 hr2 => (pe_mx (m_Disk_renameN T) hr2 (by decide) (fun _ => passAt takes_lam _) (pv 1) (pa_cons (pv 3) (pa_cons pe_str pa_nil))))) pa_nil)))
      (C8.pss_cut (ps_if (pt_cmpR (op_neD hr.units) (pe_lcI (own := [("_law_ask", 7)]) (g := gName 7) (by rfl) sc_l_refusals_right.nd (pi_list (pv 5)) (blkOk_by (own := [("_law_ask", 7)]) (N := ["_law_well_here", "_law_disk", "_law_m", "_law_odd", "_law_data", "_law_asks", "_law_name", "_law_ask", "_law_bad"]) (sc := C8.fnScope s_l_refusals_right) (by decide +kernel)) (fun _ _ _ _ _ => (pg_name (i := 7) sc_l_refusals_right.nd rfl (Or.inl rfl))) (fun pins σ s H C cl fp B => pts_one (pt_cmpR (op_neTFK (K := K) rfl hr.units) (pe_askY (k := 6) B T.d_l_error sc_l_error (fun _ _ _ _ _ _ us hl => match us, hl with | [_], _ => rfl) (by rfl) rfl (.inl rfl) (fun g cdg => error_gives T) hr (by decide) (pv 7)) (pe_tup (pa_cons pe_str (pa_cons pe_non pa_nil))) (nomark _))) (fun pins σ s H C cl fp B => (pv 7))) (pe_lst pa_nil) (nomark _))
      (pss_one (ps_ret pe_bl))
      pss_nil)
      (pss_cons (ps_set (i := 8) sc_l_refusals_right.nd rfl (Or.inr rfl) (C8.pe_c (c_l_pick T.toTop) hr (by decide) (by rfl) (pa_cons (pv 0) (pa_cons (pe_lst (pa_cons (pe_un un_neg pe_int) (pa_cons pe_bl (pa_cons pe_str (pa_cons (pe_tup (pa_cons pe_int pa_nil)) (pa_cons (pe_lst pa_nil) (pa_cons pe_dnewK pa_nil))))))) pa_nil))))
      (pss_one (ps_ret (pe_and (pe_cmpR (op_eqD hr.units) (pe_askX (k := 6) T.d_l_error sc_l_error (fun _ _ _ _ _ _ us hl => match us, hl with | [_], _ => rfl) (by rfl) rfl (.inl rfl) (fun g cdg => error_gives T) hr (by decide) (pe_lamL (qf := qfL) (Ps := [P1, P2]) (k := 6) TB rfl List.mem_cons_self rfl (show LamS (C8.fnScope s_l_refusals_right) _ from lamS_by (by decide +kernel)) rfl (fun _ _ _ _ _ => rfl) (fun A outer s H E f c2 hr2 => (pe_mx (m_Disk_limitN T) hr2 (by decide) (fun _ => passAt takes_lam _) (pv 1) (pa_cons (pv 8) pa_nil))))) (pe_tup (pa_cons pe_str (pa_cons pe_non pa_nil))) (nomark _)) (pe_one (C8.pe_c (c_l_same T) hr (by decide) (by rfl) (pa_cons (pv 1) (pa_cons (pv 2) pa_nil)))))))))))))))))), ?_⟩
    refine ⟨.ref W, rfl, (by show 0 ≤ sizeLine; decide), fun p1 h1 => ⟨(by show 1 ≤ sizeLine; decide), fun p2 h2 => ⟨(by show 0 ≤ sizeLine; decide), fun p3 h3 => fun p4 h4 => ⟨(by show 7 ≤ sizeLine; decide), fun b hb => ?_⟩⟩⟩⟩
    have t1 := same_new (o := .tup []) h1
    have t2 := same_new (o := .tup [.str "a"]) h2
    have t3 := same_new (o := .lst []) h3
    have t4 := same_new (o := .dK []) h4
    have t5 := same_new (o := .lst [V.non, .int 3, .ref p1, .ref p2, .ref p3, .ref p4, .bl true]) hb
    have tall := t1.trans (t2.trans (t3.trans t4))
    have a1 := (t2.trans (t3.trans (t4.trans t5))) p1 (.tup []) upd_same
    have a2 := (t3.trans (t4.trans t5)) p2 (.tup [.str "a"]) upd_same
    have a3 := (t4.trans t5) p3 (.lst []) upd_same
    have a4 := t5 p4 (.dK []) upd_same
    have w4 := hw.same tall
    have w5 := w4.same t5
    have n3 : p3 ≠ W := ((hw.same (t1.trans t2)).ne h3)
    have n1 : p1 ≠ W := hw.ne h1
    have n2 : p2 ≠ W := (hw.same t1).ne h2
    have n4 : p4 ≠ W := (hw.same (t1.trans (t2.trans t3))).ne h4
    refine do_pick w5 upd_same (w4.ne hb) (by show 0 < 7; decide) (by show 7 < 1000000; decide) (by omega) fun odd hodd H1 c1 f1 w1 l1 m1 => ?_
    have K1 : Kq W H H1 := (Kq.same (tall.trans t5)).trans (Kq.fr f1)
    have od1 : OddS W H1 odd := by
      simp only [List.mem_cons, List.not_mem_nil, or_false] at hodd
      rcases hodd with rfl | rfl | rfl | rfl | rfl | rfl | rfl
      · exact .inl rfl
      · exact .inr (.inl rfl)
      · exact .inr (.inr (.inr ⟨p1, _, rfl, n1, f1 _ _ n1 a1, .inl rfl⟩))
      · exact .inr (.inr (.inr ⟨p2, _, rfl, n2, f1 _ _ n2 a2, .inr (.inl rfl)⟩))
      · exact .inr (.inr (.inr ⟨p3, _, rfl, n3, f1 _ _ n3 a3, .inr (.inr (.inl rfl))⟩))
      · exact .inr (.inr (.inr ⟨p4, _, rfl, n4, f1 _ _ n4 a4, .inr (.inr (.inr rfl))⟩))
      · exact .inr (.inr (.inl rfl))
    have tb1 : TabsL qfL [P1, P2] H1 := (tb.same (tall.trans t5)).ext fun b o nl _ e => f1 b o (fun z => by
      obtain ⟨_, x, y, hW⟩ := w5
      rw [z, hW] at e
      exact nl _ (Option.some.inj e).symm) e
    have tx : isTextF ("x" : Str) = true := by decide +kernel
    refine fun b0 dx0 hb0 hdx ndx => ⟨b0, dx0, _, rfl, upd_same, tx, fun H2 f2 e2 => ⟨rfl, ?_⟩⟩
    have s2 : Same H1 H2 := fun b o z => by
      have n1 := ne_of_none z hb0
      exact f2 b o n1 (by rw [upd_ne n1, upd_ne (ne_of_none z hdx)]; exact z)
    refine ⟨b0, dx0, _, rfl, e2, tx, ?_⟩
    refine ⟨tb1.same s2, fun f1' H3 eN3 tb3 nf1 af1 => ⟨(by show 1 ≤ sizeLine; decide), fun p hp => ?_⟩⟩
    have K3 : Kq W H H3 := (K1.trans (Kq.same s2)).trans (Kq.extN eN3)
    have sp := same_new (o := .lst [V.ref f1']) hp
    have hp4 : (upd H3 p (.lst [V.ref f1'])) p = some (.lst [V.ref f1']) := upd_same
    have K4 : Kq W H (upd H3 p (.lst [V.ref f1'])) := K3.trans (Kq.same sp)
    have w4' : Wl (upd H3 p (.lst [V.ref f1'])) W c1 := ((w1.same s2).ext eN3).same sp
    have npW : p ≠ W := ((w1.same s2).ext eN3).ne hp
    have tb4 := tb3.same sp
    have af1' := ask_kq af1 ((w1.same s2).ext eN3) (Kq.same sp)
    have K14 : Kq W H1 (upd H3 p (.lst [V.ref f1'])) := ((Kq.same s2).trans (Kq.extN eN3)).trans (Kq.same sp)
    generalize upd H3 p (.lst [V.ref f1']) = H4 at hp4 K4 K14 w4' tb4 af1' ⊢
    have wlp : ∀ {Ha : Hp} {o' : HO} {z : Int}, Wl Ha W z → Wl (upd Ha p o') W z := fun h => by
      obtain ⟨y0, y1, y2, y3⟩ := h
      exact ⟨y0, y1, y2, by rw [upd_ne (Ne.symm npW)]; exact y3⟩
    have tbp : ∀ {Ha : Hp} {l l' : List V}, TabsL qfL [P1, P2] Ha → Ha p = some (.lst l) → TabsL qfL [P1, P2] (upd Ha p (.lst l')) := fun h hl => h.ext fun b o nl _ z => by
      rw [upd_ne (fun y => by rw [y, hl] at z; exact nl _ (Option.some.inj z).symm)]
      exact z
    have kqp1 : ∀ {Ha : Hp} {o' : HO}, Kq W H1 Ha → Kq W H1 (upd Ha p o') := fun {Ha o'} h b o nW nt z => by
      have np : b ≠ p := fun y => by
        have := (((Kq.same s2).trans (Kq.extN eN3)) : Kq W H1 H3) b o nW nt z
        rw [y, hp] at this
        cases this
      rw [upd_ne np]
      exact h b o nW nt z
    refine ⟨.ref p, rfl, .inl ⟨rfl, _, SqL.of hp4⟩, tb4, fun f2' H5 eN5 tb5 nf2 af2 => ⟨p, [V.ref f1'], .ref f2', rfl, rfl, eN5 _ _ hp4 (fun ps z => nomatch z), (by show 1 < sizeLine; decide), ?_⟩⟩
    -- the asks grow: a frame that leaves out the list
    have Fp : ∀ {Ha Hb : Hp} {l l' : List V}, Ha p = some (.lst l) → Hb = upd Ha p (.lst l') → (∀ b o, b ≠ p → Ha b = some o → Hb b = some o) := fun h e b o n z => by rw [e, upd_ne n]; exact z
    have w5' : Wl H5 W c1 := w4'.ext eN5
    have af15 := ask_kq af1' w4' (Kq.extN eN5)
    have hp5 : (upd H5 p (.lst ([V.ref f1'] ++ [.ref f2']))) p = some (.lst [V.ref f1', .ref f2']) := upd_same
    -- what stands, but for the well and the asks
    have askp : ∀ {f : Addr} {t : XK → TE} {X : Cx} {Ha : Hp} {l l' : List V}, AskOf X 6 f t Ha → Ha p = some (.lst l) → AskOf X 6 f t (upd Ha p (.lst l')) := fun h hl => by
      obtain ⟨params, body, scope, c', h1, h2, h3⟩ := h
      refine ⟨params, body, scope, c', ?_, ?_, h3⟩
      · rw [upd_ne (fun z => by rw [z, hl] at h1; cases h1)]; exact h1
      · rw [upd_ne (fun z => by rw [z, hl] at h2; cases h2)]; exact h2
    have hpH5 : H5 p = some (.lst [V.ref f1']) := eN5 _ _ hp4 (fun ps z => nomatch z)
    have af16 := askp (l' := [V.ref f1'] ++ [.ref f2']) af15 hpH5
    have af26 := askp (l' := [V.ref f1'] ++ [.ref f2']) af2 hpH5
    have kqp : ∀ {Ha : Hp} {o' : HO}, Kq W H Ha → Kq W H (upd Ha p o') := fun {Ha o'} h b o nW nt z => by
      have np : b ≠ p := fun y => by
        have := K3 b o nW nt z
        rw [y, hp] at this
        cases this
      rw [upd_ne np]
      exact h b o nW nt z
    have K6 := kqp (o' := .lst ([V.ref f1'] ++ [.ref f2'])) (K4.trans (Kq.extN eN5))
    have w6 : Wl (upd H5 p (.lst ([V.ref f1'] ++ [.ref f2']))) W c1 := by
      obtain ⟨y0, y1, y2, y3⟩ := w5'
      exact ⟨y0, y1, y2, by rw [upd_ne (Ne.symm npW)]; exact y3⟩
    have tb6 : TabsL qfL [P1, P2] (upd H5 p (.lst ([V.ref f1'] ++ [.ref f2']))) := tb5.ext fun b o nl _ z => by
      rw [upd_ne (fun y => by rw [y, hpH5] at z; exact nl _ (Option.some.inj z).symm)]
      exact z
    have K16 := kqp1 (o' := .lst ([V.ref f1'] ++ [.ref f2'])) (K14.trans (Kq.extN eN5))
    generalize upd H5 p (.lst ([V.ref f1'] ++ [.ref f2'])) = H6 at hp5 af16 af26 K6 K16 w6 tb6 ⊢
    have hm6 := md_kq hm hw K6
    obtain ⟨g1, t, g2, g3, _⟩ := id hm6
    have gf := dget_kT (.inl g1) ("files" : Str)
    rw [valF] at gf
    refine ⟨.ref m, rfl, m, _, rfl, gf, df, kT t, t.map (·.1), rfl, .inl g2, keys_kT t, (by rw [List.length_map, g3.len]; exact hl), fun zs q2 hz hsz nq2 => ⟨1, rfl, q2, zs.map V.str, rfl, SqL.of upd_same, fun p5 hp5n => ?_⟩⟩
    have s7 : Same H6 (upd (upd H6 q2 (.lst (zs.map V.str))) p5 (.lst (cutV (zs.map V.str) none (some 1)))) := (same_new nq2).trans (same_new hp5n)
    have h57 : (upd (upd H6 q2 (.lst (zs.map V.str))) p5 (.lst (cutV (zs.map V.str) none (some 1)))) p5 = some (.lst (cutV (zs.map V.str) none (some 1))) := upd_same
    generalize upd (upd H6 q2 (.lst (zs.map V.str))) p5 (.lst (cutV (zs.map V.str) none (some 1))) = H7 at s7 h57 ⊢
    refine ⟨p5, rfl, ⟨_, SqL.of h57⟩, ?_⟩
    have e1c : cutV (zs.map V.str) none (some 1) = (zs.take 1).map V.str := cutV_to zs V.str 1
    rw [e1c] at h57
    have w7 := w6.same s7
    have np5 : p5 ≠ p := fun z => by
      have := s7 _ _ hp5
      rw [← z, h57] at this
      have e := congrArg (fun o : Option HO => match o with | some (.lst l) => l.length | _ => 0) this
      have l1 : ((zs.take 1).map V.str).length = 2 := e
      rw [List.length_map, List.length_take] at l1
      omega
    have np5W : p5 ≠ W := fun z => by
      obtain ⟨_, y1, y2, y3⟩ := w7
      rw [← z, h57] at y3
      have e := congrArg (fun o : Option HO => match o with | some (.lst l) => l.length | _ => 0) y3
      have l1 : ((zs.take 1).map V.str).length = 3 := e
      rw [List.length_map, List.length_take] at l1
      omega
    have K17 : Kq W H1 H7 := K16.trans (Kq.same s7)
    refine forG (items := (zs.take 1).map V.str) yields_list (fun i σ H' => ∃ (nm : Option V) (fs3 : List V), σ = [some (.ref W), some (.ref a), some (.ref m), some odd, some (.byt (byts (("blob\n" : Str) ++ ("x" : Str)))), some (.ref p), nm, none, none] ∧ Kq W H H' ∧ Kq W H1 H' ∧ Wl H' W c1 ∧ TabsL qfL [P1, P2] H' ∧ H' p = some (.lst ([V.ref f1', .ref f2'] ++ fs3)) ∧ H' p5 = some (.lst ((zs.take 1).map V.str)) ∧ (i = 0 → fs3 = []) ∧ (∀ g t, AskOf (cxOf C8.CX0 P w K mg base ["_law_well_here", "_law_disk", "_law_m", "_law_odd", "_law_data", "_law_asks", "_law_name", "_law_ask", "_law_bad"] "_law_refusals_right" (C8.fnScope s_l_refusals_right) f (.ref cd) A outer s H E).nox 6 g t H6 → AskOf (cxOf C8.CX0 P w K mg base ["_law_well_here", "_law_disk", "_law_m", "_law_odd", "_law_data", "_law_asks", "_law_name", "_law_ask", "_law_bad"] "_law_refusals_right" (C8.fnScope s_l_refusals_right) f (.ref cd) A outer s H E).nox 6 g t H') ∧
        (fs3 = [] ∨ ∃ (f3 : Addr) (y : Str) (t3 : XK → TE), fs3 = [.ref f3] ∧ nm = some (.str y) ∧ AskOf (cxOf C8.CX0 P w K mg base ["_law_well_here", "_law_disk", "_law_m", "_law_odd", "_law_data", "_law_asks", "_law_name", "_law_ask", "_law_bad"] "_law_refusals_right" (C8.fnScope s_l_refusals_right) f (.ref cd) A outer s H E).nox 6 f3 t3 H' ∧
          ∀ (H9 : Hp) (Q9 : VK), DkAt cD H9 a dx d k → OddS W H9 odd → (∀ H'' q1, Same H9 H'' → H'' q1 = some (.tup [.str "name", .non]) → Q9 (.ref q1) H'') → TErr e (fun E1 H1 Q' => t3 E1 [some (.ref W), some (.ref a), some (.ref m), some odd, some (.byt (byts (("blob\n" : Str) ++ ("x" : Str)))), some (.ref p), nm, none, none] H1 Q') H9 Q9))
      ⟨none, [], rfl, K6.trans (Kq.same s7), K17, w7, tb6.same s7, s7 _ _ hp5, h57, (fun _ => rfl), (fun g t h => ask_kq h w6 (Kq.same s7)), .inl rfl⟩ (fun i σ H' I => ?_) (fun i v σ H' hv I => ?_) (fun σ H' I => ?_)
    · obtain ⟨_, _, _, _, _, _, _, _, h, _⟩ := I
      exact SqL.of h
    · obtain ⟨nm, fs3, rfl, KH, K1', w', tb', hp', hp5', i0, CA, I⟩ := I
      have il := (List.getElem?_eq_some_iff.mp hv).1
      rw [List.length_map, List.length_take] at il
      have iz : i = 0 := by omega
      obtain rfl := i0 iz
      obtain ⟨y, rfl⟩ : ∃ y, v = .str y := by
        obtain ⟨y, _, e⟩ := List.mem_map.mp (List.mem_of_getElem? hv)
        exact ⟨y, e.symm⟩
      refine ⟨.ref p, rfl, .inl ⟨rfl, _, SqL.of hp'⟩, tb', fun f3 H8 eN8 tb8 nf3 af3 => ⟨p, _, .ref f3, rfl, rfl, eN8 _ _ hp' (fun ps z => nomatch z), (by show 2 < sizeLine; decide), ?_⟩⟩
      have hp8 := eN8 _ _ hp' (fun ps z => nomatch z)
      refine ⟨some (.str y), [.ref f3], rfl, kqp (KH.trans (Kq.extN eN8)), kqp1 (K1'.trans (Kq.extN eN8)), wlp (w'.ext eN8), tbp tb8 hp8, upd_same, by rw [upd_ne np5]; exact eN8 _ _ hp5' (fun ps z => nomatch z), (fun z => absurd z (Nat.succ_ne_zero i)), (fun g t h => askp (ask_kq (CA g t h) w' (Kq.extN eN8)) hp8), .inr ⟨f3, y, _, rfl, rfl, askp af3 hp8, fun H9 Q9 hk9 od9 q9 => ?_⟩⟩
      refine ⟨.ref a, rfl, a, dx, _, rfl, hk9.1, rfl, .str y, rfl, odd, rfl, a, dx, d, k, .str y, odd, rfl, hk9, .inl od9.noStr, fun dd y' H'' s9 h9 => ?_⟩
      exact .inl ⟨rfl, fun q1 hq1 => q9 _ q1 (s9.trans (same_new hq1)) upd_same⟩
    · obtain ⟨nm, fs3, rfl, KH, K1', w', tb', hp', hp5', i0, CA, I0⟩ := I
      have l3 : fs3.length ≤ 1 := by
        rcases I0 with rfl | ⟨f3, y, t3, rfl, _⟩
        · exact Nat.zero_le _
        · exact Nat.le_refl _
      have a1A := CA _ _ af16
      have a2A := CA _ _ af26
      refine ⟨.ref p, rfl, .inl ⟨rfl, _, SqL.of hp'⟩, tb', fun f4 G4 eG4 tg4 ng4 ag4 => ⟨p, _, .ref f4, rfl, rfl, eG4 _ _ hp' (fun ps z => nomatch z), small_lt (by simp only [List.length_append, List.length_cons, List.length_nil]; omega), ?_⟩⟩
      have hg4 := eG4 _ _ hp' (fun ps z => nomatch z)
      have K40 := kqp (o' := .lst (([V.ref f1', .ref f2'] ++ fs3) ++ [.ref f4])) (KH.trans (Kq.extN eG4))
      have K41 := kqp1 (o' := .lst (([V.ref f1', .ref f2'] ++ fs3) ++ [.ref f4])) (K1'.trans (Kq.extN eG4))
      have wg4 := wlp (o' := .lst (([V.ref f1', .ref f2'] ++ fs3) ++ [.ref f4])) (w'.ext eG4)
      have tk4 := tbp (l' := ([V.ref f1', .ref f2'] ++ fs3) ++ [.ref f4]) tg4 hg4
      have cr4 : ∀ (g : Addr) (t : XK → TE), AskOf (cxOf C8.CX0 P w K mg base ["_law_well_here", "_law_disk", "_law_m", "_law_odd", "_law_data", "_law_asks", "_law_name", "_law_ask", "_law_bad"] "_law_refusals_right" (C8.fnScope s_l_refusals_right) f (.ref cd) A outer s H E).nox 6 g t H' → AskOf (cxOf C8.CX0 P w K mg base ["_law_well_here", "_law_disk", "_law_m", "_law_odd", "_law_data", "_law_asks", "_law_name", "_law_ask", "_law_bad"] "_law_refusals_right" (C8.fnScope s_l_refusals_right) f (.ref cd) A outer s H E).nox 6 g t (upd G4 p (.lst (([V.ref f1', .ref f2'] ++ fs3) ++ [.ref f4]))) := fun g t h => askp (ask_kq h w' (Kq.extN eG4)) hg4
      have ar4 := askp (l' := ([V.ref f1', .ref f2'] ++ fs3) ++ [.ref f4]) ag4 hg4
      have hr4 : (upd G4 p (.lst (([V.ref f1', .ref f2'] ++ fs3) ++ [.ref f4]))) p = some (.lst (([V.ref f1', .ref f2'] ++ fs3) ++ [.ref f4])) := upd_same
      generalize upd G4 p (.lst (([V.ref f1', .ref f2'] ++ fs3) ++ [.ref f4])) = J4 at K40 K41 wg4 tk4 cr4 ar4 hr4 ⊢
      refine ⟨.ref p, rfl, .inl ⟨rfl, _, SqL.of hr4⟩, tk4, fun f5 G5 eG5 tg5 ng5 ag5 => ⟨p, _, .ref f5, rfl, rfl, eG5 _ _ hr4 (fun ps z => nomatch z), small_lt (by simp only [List.length_append, List.length_cons, List.length_nil]; omega), ?_⟩⟩
      have hg5 := eG5 _ _ hr4 (fun ps z => nomatch z)
      have K50 := kqp (o' := .lst ((([V.ref f1', .ref f2'] ++ fs3) ++ [.ref f4]) ++ [.ref f5])) (K40.trans (Kq.extN eG5))
      have K51 := kqp1 (o' := .lst ((([V.ref f1', .ref f2'] ++ fs3) ++ [.ref f4]) ++ [.ref f5])) (K41.trans (Kq.extN eG5))
      have wg5 := wlp (o' := .lst ((([V.ref f1', .ref f2'] ++ fs3) ++ [.ref f4]) ++ [.ref f5])) (wg4.ext eG5)
      have tk5 := tbp (l' := (([V.ref f1', .ref f2'] ++ fs3) ++ [.ref f4]) ++ [.ref f5]) tg5 hg5
      have cr5 : ∀ (g : Addr) (t : XK → TE), AskOf (cxOf C8.CX0 P w K mg base ["_law_well_here", "_law_disk", "_law_m", "_law_odd", "_law_data", "_law_asks", "_law_name", "_law_ask", "_law_bad"] "_law_refusals_right" (C8.fnScope s_l_refusals_right) f (.ref cd) A outer s H E).nox 6 g t J4 → AskOf (cxOf C8.CX0 P w K mg base ["_law_well_here", "_law_disk", "_law_m", "_law_odd", "_law_data", "_law_asks", "_law_name", "_law_ask", "_law_bad"] "_law_refusals_right" (C8.fnScope s_l_refusals_right) f (.ref cd) A outer s H E).nox 6 g t (upd G5 p (.lst ((([V.ref f1', .ref f2'] ++ fs3) ++ [.ref f4]) ++ [.ref f5]))) := fun g t h => askp (ask_kq h wg4 (Kq.extN eG5)) hg5
      have ar5 := askp (l' := (([V.ref f1', .ref f2'] ++ fs3) ++ [.ref f4]) ++ [.ref f5]) ag5 hg5
      have hr5 : (upd G5 p (.lst ((([V.ref f1', .ref f2'] ++ fs3) ++ [.ref f4]) ++ [.ref f5]))) p = some (.lst ((([V.ref f1', .ref f2'] ++ fs3) ++ [.ref f4]) ++ [.ref f5])) := upd_same
      generalize upd G5 p (.lst ((([V.ref f1', .ref f2'] ++ fs3) ++ [.ref f4]) ++ [.ref f5])) = J5 at K50 K51 wg5 tk5 cr5 ar5 hr5 ⊢
      refine ⟨.ref p, rfl, .inl ⟨rfl, _, SqL.of hr5⟩, tk5, fun f6 G6 eG6 tg6 ng6 ag6 => ⟨p, _, .ref f6, rfl, rfl, eG6 _ _ hr5 (fun ps z => nomatch z), small_lt (by simp only [List.length_append, List.length_cons, List.length_nil]; omega), ?_⟩⟩
      have hg6 := eG6 _ _ hr5 (fun ps z => nomatch z)
      have K60 := kqp (o' := .lst (((([V.ref f1', .ref f2'] ++ fs3) ++ [.ref f4]) ++ [.ref f5]) ++ [.ref f6])) (K50.trans (Kq.extN eG6))
      have K61 := kqp1 (o' := .lst (((([V.ref f1', .ref f2'] ++ fs3) ++ [.ref f4]) ++ [.ref f5]) ++ [.ref f6])) (K51.trans (Kq.extN eG6))
      have wg6 := wlp (o' := .lst (((([V.ref f1', .ref f2'] ++ fs3) ++ [.ref f4]) ++ [.ref f5]) ++ [.ref f6])) (wg5.ext eG6)
      have tk6 := tbp (l' := ((([V.ref f1', .ref f2'] ++ fs3) ++ [.ref f4]) ++ [.ref f5]) ++ [.ref f6]) tg6 hg6
      have cr6 : ∀ (g : Addr) (t : XK → TE), AskOf (cxOf C8.CX0 P w K mg base ["_law_well_here", "_law_disk", "_law_m", "_law_odd", "_law_data", "_law_asks", "_law_name", "_law_ask", "_law_bad"] "_law_refusals_right" (C8.fnScope s_l_refusals_right) f (.ref cd) A outer s H E).nox 6 g t J5 → AskOf (cxOf C8.CX0 P w K mg base ["_law_well_here", "_law_disk", "_law_m", "_law_odd", "_law_data", "_law_asks", "_law_name", "_law_ask", "_law_bad"] "_law_refusals_right" (C8.fnScope s_l_refusals_right) f (.ref cd) A outer s H E).nox 6 g t (upd G6 p (.lst (((([V.ref f1', .ref f2'] ++ fs3) ++ [.ref f4]) ++ [.ref f5]) ++ [.ref f6]))) := fun g t h => askp (ask_kq h wg5 (Kq.extN eG6)) hg6
      have ar6 := askp (l' := ((([V.ref f1', .ref f2'] ++ fs3) ++ [.ref f4]) ++ [.ref f5]) ++ [.ref f6]) ag6 hg6
      have hr6 : (upd G6 p (.lst (((([V.ref f1', .ref f2'] ++ fs3) ++ [.ref f4]) ++ [.ref f5]) ++ [.ref f6]))) p = some (.lst (((([V.ref f1', .ref f2'] ++ fs3) ++ [.ref f4]) ++ [.ref f5]) ++ [.ref f6])) := upd_same
      generalize upd G6 p (.lst (((([V.ref f1', .ref f2'] ++ fs3) ++ [.ref f4]) ++ [.ref f5]) ++ [.ref f6])) = J6 at K60 K61 wg6 tk6 cr6 ar6 hr6 ⊢
      refine ⟨.ref p, rfl, .inl ⟨rfl, _, SqL.of hr6⟩, tk6, fun f7 G7 eG7 tg7 ng7 ag7 => ⟨p, _, .ref f7, rfl, rfl, eG7 _ _ hr6 (fun ps z => nomatch z), small_lt (by simp only [List.length_append, List.length_cons, List.length_nil]; omega), ?_⟩⟩
      have hg7 := eG7 _ _ hr6 (fun ps z => nomatch z)
      have K70 := kqp (o' := .lst ((((([V.ref f1', .ref f2'] ++ fs3) ++ [.ref f4]) ++ [.ref f5]) ++ [.ref f6]) ++ [.ref f7])) (K60.trans (Kq.extN eG7))
      have K71 := kqp1 (o' := .lst ((((([V.ref f1', .ref f2'] ++ fs3) ++ [.ref f4]) ++ [.ref f5]) ++ [.ref f6]) ++ [.ref f7])) (K61.trans (Kq.extN eG7))
      have wg7 := wlp (o' := .lst ((((([V.ref f1', .ref f2'] ++ fs3) ++ [.ref f4]) ++ [.ref f5]) ++ [.ref f6]) ++ [.ref f7])) (wg6.ext eG7)
      have tk7 := tbp (l' := (((([V.ref f1', .ref f2'] ++ fs3) ++ [.ref f4]) ++ [.ref f5]) ++ [.ref f6]) ++ [.ref f7]) tg7 hg7
      have cr7 : ∀ (g : Addr) (t : XK → TE), AskOf (cxOf C8.CX0 P w K mg base ["_law_well_here", "_law_disk", "_law_m", "_law_odd", "_law_data", "_law_asks", "_law_name", "_law_ask", "_law_bad"] "_law_refusals_right" (C8.fnScope s_l_refusals_right) f (.ref cd) A outer s H E).nox 6 g t J6 → AskOf (cxOf C8.CX0 P w K mg base ["_law_well_here", "_law_disk", "_law_m", "_law_odd", "_law_data", "_law_asks", "_law_name", "_law_ask", "_law_bad"] "_law_refusals_right" (C8.fnScope s_l_refusals_right) f (.ref cd) A outer s H E).nox 6 g t (upd G7 p (.lst ((((([V.ref f1', .ref f2'] ++ fs3) ++ [.ref f4]) ++ [.ref f5]) ++ [.ref f6]) ++ [.ref f7]))) := fun g t h => askp (ask_kq h wg6 (Kq.extN eG7)) hg7
      have ar7 := askp (l' := (((([V.ref f1', .ref f2'] ++ fs3) ++ [.ref f4]) ++ [.ref f5]) ++ [.ref f6]) ++ [.ref f7]) ag7 hg7
      have hr7 : (upd G7 p (.lst ((((([V.ref f1', .ref f2'] ++ fs3) ++ [.ref f4]) ++ [.ref f5]) ++ [.ref f6]) ++ [.ref f7]))) p = some (.lst ((((([V.ref f1', .ref f2'] ++ fs3) ++ [.ref f4]) ++ [.ref f5]) ++ [.ref f6]) ++ [.ref f7])) := upd_same
      generalize upd G7 p (.lst ((((([V.ref f1', .ref f2'] ++ fs3) ++ [.ref f4]) ++ [.ref f5]) ++ [.ref f6]) ++ [.ref f7])) = J7 at K70 K71 wg7 tk7 cr7 ar7 hr7 ⊢
      refine ⟨fun σ H' => σ = [some (.ref W), some (.ref a), some (.ref m), some odd, some (.byt (byts (("blob\n" : Str) ++ ("x" : Str)))), some (.ref p), nm, none, none] ∧ Kq W H H' ∧ (∃ c', Wl H' W c' ∧ c1 ≤ c' ∧ c' ≤ c1 + 8) ∧ TabsL qfL [P1, P2] H', ?first, ?rest⟩
      case rest =>
        rintro σ' J8 ⟨rfl, K80, ⟨c8, w8, l8, m8⟩, tb8⟩
        refine ⟨.ref W, rfl, _, rfl, (by show 1 ≤ sizeLine; decide), fun p8 h8 => ⟨(by show 0 ≤ sizeLine; decide), fun p9 h9 => fun p10 h10 => ⟨(by show 6 ≤ sizeLine; decide), fun b8 hb8 => ?_⟩⟩⟩
        have u8 := same_new (o := .tup [.int 1]) h8
        have u9 := same_new (o := .lst []) h9
        have u10 := same_new (o := .dK []) h10
        have ub := same_new (o := .lst [V.int (-1), .bl true, .str "1", .ref p8, .ref p9, .ref p10]) hb8
        have x8 := (u9.trans (u10.trans ub)) p8 (.tup [.int 1]) upd_same
        have x9 := (u10.trans ub) p9 (.lst []) upd_same
        have x10 := ub p10 (.dK []) upd_same
        have ua := u8.trans (u9.trans u10)
        have w9 := w8.same ua
        have n8 : p8 ≠ W := w8.ne h8
        have n9 : p9 ≠ W := (w8.same u8).ne h9
        have n10 : p10 ≠ W := (w8.same (u8.trans u9)).ne h10
        refine do_pick (w9.same ub) upd_same (w9.ne hb8) (by show 0 < 6; decide) (by show 6 < 1000000; decide) (by omega) fun bad hbad J9 c9 f9 w10 l9 m9 => ?_
        have KB : Kq W J8 J9 := (Kq.same (ua.trans ub)).trans (Kq.fr f9)
        have tb9 : TabsL qfL [P1, P2] J9 := (tb8.same (ua.trans ub)).ext fun b o nl _ e => f9 b o (fun z => by
          obtain ⟨_, y1, y2, y3⟩ := w9.same ub
          rw [z, y3] at e
          exact nl _ (Option.some.inj e).symm) e
        refine ⟨tb9, fun f8 H8 eN8 tb10 nf8 af8 => ⟨f8, _, rfl, af8, ?_⟩⟩
        have K88 : Kq W H H8 := (K80.trans KB).trans (Kq.extN eN8)
        have w88 : Wl H8 W c9 := w10.ext eN8
        have hk8 := dk_kq hk hw K88
        have hm8 := md_kq hm hw K88
        have kx : Kq W J9 H8 := Kq.extN eN8
        have nb : ((∃ n : Int, bad = .int n ∧ n < 0) ∨ NoInt K H8 bad) ∧ bad ≠ .non := by
          simp only [List.mem_cons, List.not_mem_nil, or_false] at hbad
          rcases hbad with rfl | rfl | rfl | rfl | rfl | rfl
          · exact ⟨.inl ⟨-1, rfl, by decide⟩, (fun z => nomatch z)⟩
          · exact ⟨.inr ⟨"bool", by decide, .base (.bl _)⟩, (fun z => nomatch z)⟩
          · exact ⟨.inr ⟨"str", by decide, .base (.str _)⟩, (fun z => nomatch z)⟩
          · exact ⟨.inr ⟨"tuple", by decide, .base (.tup (kx _ _ n8 (fun ps z => nomatch z) (f9 _ _ n8 x8)))⟩, (fun z => nomatch z)⟩
          · exact ⟨.inr ⟨"list", by decide, .base (.lst (kx _ _ n9 (fun ps z => nomatch z) (f9 _ _ n9 x9)))⟩, (fun z => nomatch z)⟩
          · exact ⟨.inr ⟨"dict", by decide, .base (.dK (kx _ _ n10 (fun ps z => nomatch z) (f9 _ _ n10 x10)))⟩, (fun z => nomatch z)⟩
        refine ⟨.ref a, rfl, a, dx, _, rfl, hk8.1, rfl, bad, rfl, a, bad, rfl, nb.1, nb.2, fun dd y' H'' s9 h9 => .inr ⟨rfl, fun q1 hq1 => ⟨(by show 2 ≤ sizeLine; decide), fun q2 n2 => ?_⟩⟩⟩
        have sE : Same H8 (upd (upd H'' q1 (.tup [.str "command", .non])) q2 (.tup [.str "command", .non])) := (s9.trans (same_new hq1)).trans (same_new n2)
        have e1 := (same_new (o := .tup [.str "command", .non]) n2) q1 (.tup [.str "command", .non]) upd_same
        have cok : OkS ("command" : Str) := by
          have h : ∀ u ∈ TL.tl ("command" : Str), u < 1114112 := by decide +kernel
          exact h
        have sh : SeqAt.shaped (.tuple [.str "command", .none]) = true := by decide +kernel
        refine ⟨.tuple [.str "command", .none], .tuple [.str "command", .none], .tup (SqT.of e1) (.cons (.str _) (.cons .non .nil)), .tup (SqT.of upd_same) (.cons (.str _) (.cons .non .nil)), sh, sh, _, rfl, ?_⟩
        rw [show PyData.eqv (.tuple [.str "command", .none]) (.tuple [.str "command", .none]) = true by decide +kernel]
        refine iteT ⟨.ref a, rfl, .ref m, rfl, a, dx, d, m, df, k, rfl, hk8.same sE, hm8.same sE, hl, hn, fun H9 s10 => ?_⟩
        have sF := sE.trans s10
        exact q H9 c9 (K88.trans (Kq.same sF)) (w88.same sF) (by omega) (by omega) (tb10.same sF)
      refine ⟨.ref p, rfl, p, rfl, ⟨_, SqL.of hr7⟩, fun D hD => ?_⟩
      have sD := same_new (o := .lst []) hD
      refine lc_inv (i := 7) yields_list (fun j acc H' => acc = [] ∧ Kq W J7 H' ∧ (∃ c', Wl H' W c' ∧ c1 ≤ c' ∧ c' ≤ c1 + j) ∧ TabsL qfL [P1, P2] H') (fun j acc H' I _ => SqL.of (I.2.1 _ _ npW (fun ps z => nomatch z) hr7)) ⟨rfl, Kq.same sD, ⟨c1, wg7.same sD, Int.le_refl _, by omega⟩, tk7.same sD⟩ (fun j acc H' x I hDD hx hacc hj => ?_) (by simp only [List.length_append, List.length_cons, List.length_nil]; omega) (fun acc H' I hDD hacc => ?_)
      · obtain ⟨rfl, KJ, ⟨c', w', l', m'⟩, tb'⟩ := I
        have flat2 : ∀ v ∈ [V.str "name", V.non], flatB v = true := fun v hv => by
          simp only [List.mem_cons, List.not_mem_nil, or_false] at hv
          rcases hv with rfl | rfl <;> rfl
        have hm7 := List.mem_of_getElem? hx
        simp only [List.mem_append, List.mem_cons, List.not_mem_nil, or_false] at hm7
        rcases hm7 with (((((rfl | rfl) | h3) | rfl) | rfl) | rfl) | rfl
        · refine ⟨.ref f1', rfl, f1', _, rfl, ask_kq (cr7 _ _ (cr6 _ _ (cr5 _ _ (cr4 _ _ (a1A))))) wg7 KJ, ?_⟩
          exact ⟨.ref a, rfl, a, dx, _, rfl, (dk_kq (dk_kq hk hw K70) wg7 KJ).1, rfl, odd, rfl, .byt (byts (("blob\n" : Str) ++ ("x" : Str))), rfl, a, odd, .byt (byts (("blob\n" : Str) ++ ("x" : Str))), rfl, .inl ((od1.kq K71).kq KJ).noStr, fun dd y' H'' s9 h9 => .inl ⟨rfl, fun q1 hq1 => ⟨(by show 2 ≤ sizeLine; decide), fun q2 n2 => ⟨q1, q2, [.str "name", .non], rfl, rfl, SqT.of ((same_new n2) _ _ upd_same), SqT.of upd_same, flat2, _, rfl, iteF ⟨[], (same_new n2) _ _ ((s9.trans (same_new hq1)) _ _ hDD), Nat.zero_le _, rfl, (KJ.trans (Kq.same (s9.trans (same_new hq1)))).trans (Kq.same (same_new n2)), ⟨c', (w'.same (s9.trans (same_new hq1))).same (same_new n2), l', by push_cast; omega⟩, (tb'.same (s9.trans (same_new hq1))).same (same_new n2)⟩⟩⟩⟩⟩
        · refine ⟨.ref f2', rfl, f2', _, rfl, ask_kq (cr7 _ _ (cr6 _ _ (cr5 _ _ (cr4 _ _ (a2A))))) wg7 KJ, ?_⟩
          have nDW : D ≠ W := fun z => by
            obtain ⟨_, y1, y2, y3⟩ := w'
            rw [← z, hDD] at y3
            cases y3
          refine ⟨.ref a, rfl, a, dx, _, rfl, (dk_kq (dk_kq hk hw K70) wg7 KJ).1, rfl, .ref W, rfl, (by show 1 ≤ sizeLine; decide), fun p8 h8 => ⟨(by show 1 ≤ sizeLine; decide), fun p9 h9 => ⟨(by show 5 ≤ sizeLine; decide), fun b8 hb8 => ?_⟩⟩⟩
          have u8 := same_new (o := .lst [.int 1]) h8
          have u9 := same_new (o := .tup [.int 1]) h9
          have ub := same_new (o := .lst [V.non, .str "text", .int 3, .ref p8, .ref p9]) hb8
          have x8 := (u9.trans ub) p8 (.lst [.int 1]) upd_same
          have x9 := ub p9 (.tup [.int 1]) upd_same
          have w9 := w'.same (u8.trans u9)
          have n8 : p8 ≠ W := w'.ne h8
          have n9 : p9 ≠ W := (w'.same u8).ne h9
          refine do_pick (w9.same ub) upd_same (w9.ne hb8) (by show 0 < 5; decide) (by show 5 < 1000000; decide) (by simp only [List.length_append, List.length_cons, List.length_nil] at *; omega) fun u hu H8 c8 f8 w8 l8 m8 => ?_
          have KB : Kq W H' H8 := (Kq.same (u8.trans (u9.trans ub))).trans (Kq.fr f8)
          have nb : NoByt K H8 u := by
            simp only [List.mem_cons, List.not_mem_nil, or_false] at hu
            rcases hu with rfl | rfl | rfl | rfl | rfl
            · exact ⟨"NoneType", by decide, .base .non⟩
            · exact ⟨"str", by decide, .base (.str _)⟩
            · exact ⟨"int", by decide, .base (.int _)⟩
            · exact ⟨"list", by decide, .base (.lst (f8 _ _ n8 x8))⟩
            · exact ⟨"tuple", by decide, .base (.tup (f8 _ _ n9 x9))⟩
          have tb8 : TabsL qfL [P1, P2] H8 := (tb'.same (u8.trans (u9.trans ub))).ext fun b o nl _ e => f8 b o (fun z => by
            obtain ⟨_, y1, y2, y3⟩ := w9.same ub
            rw [z, y3] at e
            exact nl _ (Option.some.inj e).symm) e
          have hD8 : H8 D = some (.lst []) := KB D _ nDW (fun ps z => nomatch z) hDD
          refine ⟨a, .str "a", u, rfl, .inr ⟨⟨"a", rfl⟩, nb⟩, fun dd y' H'' s9 h9 => .inl ⟨rfl, fun q1 hq1 => ⟨(by show 2 ≤ sizeLine; decide), fun q2 n2 => ⟨q1, q2, [.str "name", .non], rfl, rfl, SqT.of ((same_new n2) _ _ upd_same), SqT.of upd_same, flat2, _, rfl, iteF ⟨[], (same_new n2) _ _ ((s9.trans (same_new hq1)) _ _ hD8), Nat.zero_le _, rfl, ((KJ.trans KB).trans (Kq.same (s9.trans (same_new hq1)))).trans (Kq.same (same_new n2)), ⟨c8, (w8.same (s9.trans (same_new hq1))).same (same_new n2), by omega, by push_cast; omega⟩, (tb8.same (s9.trans (same_new hq1))).same (same_new n2)⟩⟩⟩⟩⟩
        · rcases I0 with rfl | ⟨f3, y, t3, rfl, rfl, a3, rf⟩
          · cases h3
          · obtain rfl := List.mem_singleton.mp h3
            refine ⟨.ref f3, rfl, f3, t3, rfl, ask_kq (cr7 _ _ (cr6 _ _ (cr5 _ _ (cr4 _ _ (a3))))) wg7 KJ, ?_⟩
            exact rf _ _ (dk_kq (dk_kq hk hw K70) wg7 KJ) ((od1.kq K71).kq KJ) fun H'' q1 s9 hq1 => ⟨(by show 2 ≤ sizeLine; decide), fun q2 n2 => ⟨q1, q2, [.str "name", .non], rfl, rfl, SqT.of ((same_new n2) _ _ hq1), SqT.of upd_same, flat2, _, rfl, iteF ⟨[], (same_new n2) _ _ (s9 _ _ hDD), Nat.zero_le _, rfl, (KJ.trans (Kq.same s9)).trans (Kq.same (same_new n2)), ⟨c', (w'.same s9).same (same_new n2), l', by push_cast; omega⟩, (tb'.same s9).same (same_new n2)⟩⟩⟩
        · refine ⟨.ref f4, rfl, f4, _, rfl, ask_kq (cr7 _ _ (cr6 _ _ (cr5 _ _ (ar4)))) wg7 KJ, ?_⟩
          exact ⟨.ref a, rfl, a, dx, _, rfl, (dk_kq (dk_kq hk hw K70) wg7 KJ).1, rfl, odd, rfl, a, dx, d, k, odd, rfl, (dk_kq (dk_kq hk hw K70) wg7 KJ), ((od1.kq K71).kq KJ).noStr, fun dd y' H'' s9 h9 => .inl ⟨rfl, fun q1 hq1 => ⟨(by show 2 ≤ sizeLine; decide), fun q2 n2 => ⟨q1, q2, [.str "name", .non], rfl, rfl, SqT.of ((same_new n2) _ _ upd_same), SqT.of upd_same, flat2, _, rfl, iteF ⟨[], (same_new n2) _ _ ((s9.trans (same_new hq1)) _ _ hDD), Nat.zero_le _, rfl, (KJ.trans (Kq.same (s9.trans (same_new hq1)))).trans (Kq.same (same_new n2)), ⟨c', (w'.same (s9.trans (same_new hq1))).same (same_new n2), l', by push_cast; omega⟩, (tb'.same (s9.trans (same_new hq1))).same (same_new n2)⟩⟩⟩⟩⟩
        · refine ⟨.ref f5, rfl, f5, _, rfl, ask_kq (cr7 _ _ (cr6 _ _ (ar5))) wg7 KJ, ?_⟩
          exact ⟨.ref a, rfl, a, dx, _, rfl, (dk_kq (dk_kq hk hw K70) wg7 KJ).1, rfl, odd, rfl, a, dx, d, k, odd, rfl, (dk_kq (dk_kq hk hw K70) wg7 KJ), ((od1.kq K71).kq KJ).noStr, fun dd y' H'' s9 h9 => .inl ⟨rfl, fun q1 hq1 => ⟨(by show 2 ≤ sizeLine; decide), fun q2 n2 => ⟨q1, q2, [.str "name", .non], rfl, rfl, SqT.of ((same_new n2) _ _ upd_same), SqT.of upd_same, flat2, _, rfl, iteF ⟨[], (same_new n2) _ _ ((s9.trans (same_new hq1)) _ _ hDD), Nat.zero_le _, rfl, (KJ.trans (Kq.same (s9.trans (same_new hq1)))).trans (Kq.same (same_new n2)), ⟨c', (w'.same (s9.trans (same_new hq1))).same (same_new n2), l', by push_cast; omega⟩, (tb'.same (s9.trans (same_new hq1))).same (same_new n2)⟩⟩⟩⟩⟩
        · refine ⟨.ref f6, rfl, f6, _, rfl, ask_kq (cr7 _ _ (ar6)) wg7 KJ, ?_⟩
          exact ⟨.ref a, rfl, a, dx, _, rfl, (dk_kq (dk_kq hk hw K70) wg7 KJ).1, rfl, odd, rfl, a, dx, d, k, odd, rfl, (dk_kq (dk_kq hk hw K70) wg7 KJ), ((od1.kq K71).kq KJ).noStr, fun dd y' H'' s9 h9 => .inl ⟨rfl, fun q1 hq1 => ⟨(by show 2 ≤ sizeLine; decide), fun q2 n2 => ⟨q1, q2, [.str "name", .non], rfl, rfl, SqT.of ((same_new n2) _ _ upd_same), SqT.of upd_same, flat2, _, rfl, iteF ⟨[], (same_new n2) _ _ ((s9.trans (same_new hq1)) _ _ hDD), Nat.zero_le _, rfl, (KJ.trans (Kq.same (s9.trans (same_new hq1)))).trans (Kq.same (same_new n2)), ⟨c', (w'.same (s9.trans (same_new hq1))).same (same_new n2), l', by push_cast; omega⟩, (tb'.same (s9.trans (same_new hq1))).same (same_new n2)⟩⟩⟩⟩⟩
        · refine ⟨.ref f7, rfl, f7, _, rfl, ask_kq (ar7) wg7 KJ, ?_⟩
          exact ⟨.ref a, rfl, a, dx, _, rfl, (dk_kq (dk_kq hk hw K70) wg7 KJ).1, rfl, odd, rfl, a, dx, d, k, odd, .str "a", rfl, (dk_kq (dk_kq hk hw K70) wg7 KJ), .inr ⟨⟨"a", rfl⟩, ((od1.kq K71).kq KJ).noStr⟩, fun dd y' H'' s9 h9 => .inl ⟨rfl, fun q1 hq1 => ⟨(by show 2 ≤ sizeLine; decide), fun q2 n2 => ⟨q1, q2, [.str "name", .non], rfl, rfl, SqT.of ((same_new n2) _ _ upd_same), SqT.of upd_same, flat2, _, rfl, iteF ⟨[], (same_new n2) _ _ ((s9.trans (same_new hq1)) _ _ hDD), Nat.zero_le _, rfl, (KJ.trans (Kq.same (s9.trans (same_new hq1)))).trans (Kq.same (same_new n2)), ⟨c', (w'.same (s9.trans (same_new hq1))).same (same_new n2), l', by push_cast; omega⟩, (tb'.same (s9.trans (same_new hq1))).same (same_new n2)⟩⟩⟩⟩⟩
      · obtain ⟨rfl, KJ, ⟨c', w', l', m'⟩, tb'⟩ := I
        refine ⟨(by show 0 ≤ sizeLine; decide), fun q3 n3 => ?_⟩
        have s5 := same_new (o := .lst []) n3
        refine ⟨_, _, .lst (SqL.of (s5 _ _ hDD)) .nil, .lst (SqL.of upd_same) .nil, shaped_nil, shaped_nil, _, rfl, iteF ?_⟩
        refine ⟨rfl, (K70.trans KJ).trans (Kq.same s5), ⟨c', w'.same s5, l', ?_⟩, tb'.same s5⟩
        simp only [List.length_append, List.length_cons, List.length_nil] at m'
        omega
end

end Fk

set_option maxHeartbeats 4000000
/-! What deeds, limits and crashes keep of a disk. -/
namespace Fk
open PySem PySem.Spec PyProof.Rows L2
structure OkDk (S : List Str) (N : Nat) (k : Dk) : Prop where
  len : k.fs.length ≤ N
  nm : ∀ p ∈ k.fs, p.1 ∈ S
  sz : ∀ p ∈ k.fs, p.2.c.size ≤ 10000 ∧ ∀ b, p.2.s = some b → b.size ≤ 10000
  le : ∀ n, k.left = some n → 0 ≤ n
section
variable {S : List Str} {N : Nat}
def OkF (S : List Str) (fs : Fls) : Prop := ∀ p ∈ fs, p.1 ∈ S ∧ p.2.c.size ≤ 10000 ∧ ∀ b, p.2.s = some b → b.size ≤ 10000
theorem okF_put {fs : Fls} {x : Str} {f : Fl} (h : OkF S fs) (hx : x ∈ S) (hf : f.c.size ≤ 10000 ∧ ∀ b, f.s = some b → b.size ≤ 10000) : OkF S (putF fs x f) := fun p hp => by
  unfold putF at hp
  split at hp
  · obtain ⟨q, hq, rfl⟩ := List.mem_map.mp hp
    by_cases e : q.1 = x
    · rw [if_pos e]
      exact ⟨by rw [e]; exact hx, hf⟩
    · rw [if_neg e]
      exact h q hq
  · rcases List.mem_append.mp hp with z | z
    · exact h p z
    · obtain rfl := List.mem_singleton.mp z
      exact ⟨hx, hf⟩
theorem okF_drop {fs : Fls} {x : Str} (h : OkF S fs) : OkF S (dropF fs x) := fun p hp => h p (List.mem_filter.mp hp).1
theorem okF_look {fs : Fls} {x : Str} {f : Fl} (h : OkF S fs) (e : lookF fs x = some f) : x ∈ S ∧ f.c.size ≤ 10000 ∧ ∀ b, f.s = some b → b.size ≤ 10000 := by
  unfold lookF at e
  cases q : fs.find? fun p => decide (p.1 = x) with
  | none => rw [q] at e; cases e
  | some p =>
    rw [q] at e
    cases e
    have := h p (List.mem_of_find?_eq_some q)
    have hx : p.1 = x := of_decide_eq_true (List.find?_some (p := fun p : Str × Fl => decide (p.1 = x)) q)
    exact ⟨by rw [← hx]; exact this.1, this.2⟩
theorem lenF_put (fs : Fls) (x : Str) (f : Fl) : (putF fs x f).length ≤ fs.length + 1 := by
  unfold putF
  split
  · rw [List.length_map]
    exact Nat.le_succ _
  · rw [List.length_append]
    exact Nat.le_refl _
theorem lenF_drop (fs : Fls) (x : Str) : (dropF fs x).length ≤ fs.length := List.length_filter_le _ _
theorem OkDk.okF {k : Dk} (h : OkDk S N k) : OkF S k.fs := fun p hp => ⟨h.nm p hp, h.sz p hp⟩
theorem OkDk.of {k : Dk} (l : k.fs.length ≤ N) (f : OkF S k.fs) (le : ∀ n, k.left = some n → 0 ≤ n) : OkDk S N k := ⟨l, fun p hp => (f p hp).1, fun p hp => (f p hp).2, le⟩
theorem OkDk.step {k : Dk} {fs : Fls} (h : OkDk S N k) (l : fs.length ≤ N + 1) (f : OkF S fs) : OkDk S (N + 1) (stepD k fs).2 := by
  unfold stepD
  by_cases z : k.left = some 0
  · rw [if_pos z]
    exact .of (Nat.le_succ_of_le h.len) h.okF h.le
  · rw [if_neg z]
    refine .of l f fun n e => ?_
    cases hk : k.left with
    | none =>
      have e : k.left.map (· - 1) = some n := e
      rw [hk] at e
      cases e
    | some j =>
      have e : k.left.map (· - 1) = some n := e
      rw [hk] at e
      cases e
      have h0 := h.le j hk
      have : j ≠ 0 := fun y => z (by rw [hk, y])
      show 0 ≤ j - 1
      omega
/-- a deed that may be done -/
def DeedIn (S : List Str) : Deed → Prop
  | .write x b => x ∈ S ∧ b.size ≤ 10000
  | .rename _ y => y ∈ S
  | _ => True
theorem OkDk.deed {k : Dk} (h : OkDk S N k) (d : Deed) (hd : DeedIn S d) : OkDk S (N + 1) (doDeed d k).2 := by
  have up : OkDk S (N + 1) k := .of (Nat.le_succ_of_le h.len) h.okF h.le
  cases d with
  | write x b =>
    refine h.step (Nat.le_trans (lenF_put _ _ _) (Nat.succ_le_succ h.len)) (okF_put h.okF hd.1 ⟨hd.2, fun b' e => ?_⟩)
    cases q : lookF k.fs x with
    | none =>
      have e : (lookF k.fs x).bind (·.s) = some b' := e
      rw [q] at e
      cases e
    | some f =>
      have e : (lookF k.fs x).bind (·.s) = some b' := e
      rw [q] at e
      exact (okF_look h.okF q).2.2 b' e
  | sync x =>
    unfold doDeed
    cases q : lookF k.fs x with
    | none => simp only [q]; exact up
    | some f =>
      simp only [q]
      have z := okF_look h.okF q
      exact h.step (Nat.le_trans (lenF_put _ _ _) (Nat.succ_le_succ h.len)) (okF_put h.okF z.1 ⟨z.2.1, fun b e => by cases e; exact z.2.1⟩)
  | rename x y =>
    unfold doDeed
    cases q : lookF k.fs x with
    | none => simp only [q]; exact up
    | some f =>
      simp only [q]
      have z := okF_look h.okF q
      exact h.step (Nat.le_trans (lenF_put _ _ _) (Nat.succ_le_succ (Nat.le_trans (lenF_drop _ _) h.len))) (okF_put (okF_drop h.okF) hd z.2)
  | remove x =>
    unfold doDeed
    cases q : lookF k.fs x with
    | none => simp only [q]; exact up
    | some f =>
      simp only [q]
      exact h.step (Nat.le_trans (lenF_drop _ _) (Nat.le_succ_of_le h.len)) (okF_drop h.okF)
  | read x =>
    unfold doDeed
    cases q : lookF k.fs x with
    | none => simp only [q]; exact up
    | some f => simp only [q]; exact up
end
end Fk

set_option maxHeartbeats 4000000
namespace Fk
open PySem PySem.Spec PyProof.Rows L2
theorem half_size (b : Byt) : (halfB b).size ≤ b.size := by
  have e : halfB b = PySem.W.KBy.picked b.toList.toArray (some ((0 : Nat) : Int)) (some ((b.size / 2 : Nat) : Int)) := by
    unfold halfB PySem.W.KBy.picked
    have z : sliceBounds none (some ((b.size : Int) / 2)) none b.size = sliceBounds (some ((0 : Nat) : Int)) (some ((b.size / 2 : Nat) : Int)) none b.size := by
      simp [sliceBounds]
      omega
    rw [z]
  rw [e, pk_mid (by omega) (by rw [Array.length_toList]; omega)]
  simp
  omega
theorem okF_crash {S : List Str} {fs : Fls} (h : OkF S fs) : ∀ (ys : List Str) (st : Int × Fls), (∀ y ∈ ys, y ∈ S) → OkF S st.2 → OkF S (ys.foldl (crStep fs) st).2
  | [], _, _, k => k
  | y :: ys, st, hy, k => by
    rw [List.foldl_cons]
    refine okF_crash h ys _ (fun z hz => hy z (List.mem_cons_of_mem _ hz)) ?_
    unfold crStep
    cases q : lookF fs y with
    | none => simp only [q]; exact k
    | some f =>
      have z := okF_look h q
      have e : ∀ b, (outc f st.1).1 = some b → b.size ≤ 10000 := fun b hb => by
        unfold outc at hb
        split at hb
        · have hb : pick3 f st.1 = some b := hb
          unfold pick3 at hb
          split at hb
          · exact z.2.2 b hb
          · split at hb
            · cases hb
              exact Nat.le_trans (half_size f.c) z.2.1
            · cases hb
              exact z.2.1
        · cases hb
          exact z.2.1
      simp only [q]
      cases o : (outc f st.1).1 with
      | none => exact k
      | some b => exact okF_put k (hy y List.mem_cons_self) ⟨e b o, fun b' hb => by cases hb; exact e b o⟩
theorem OkDk.crash {S : List Str} {N : Nat} {k : Dk} (h : OkDk S N k) {ys : List Str} (hp : ys.Perm (k.fs.map (·.1))) (m : Int) : OkDk S N ⟨crashG k.fs ys m, none⟩ := by
  refine .of ?_ ?_ (fun n z => nomatch z)
  · have := cr_len (fs := k.fs) (ys := ys) (st := (m, []))
    have l := hp.length_eq
    rw [List.length_map] at l
    have := h.len
    simp only [List.length_nil] at *
    show (ys.foldl (crStep k.fs) (m, [])).2.length ≤ N
    omega
  · refine okF_crash h.okF ys (m, []) (fun y hy => ?_) (fun p hp => nomatch hp)
    obtain ⟨p, hp', e⟩ := List.mem_map.mp (hp.mem_iff.mp hy)
    rw [← e]
    exact h.nm p hp'

end Fk

set_option maxHeartbeats 4000000
/-! Where an exception is handled: errors whose context is told, classes made, methods, properties, an empty dict's comprehension. -/
namespace Fk
open PySem PySem.Spec PyProof.Rows L2
open L2H (RoomH HotC FnH Hot1 PinOk cxH)
/-! ### an error made to be raised, its context told -/
section
variable {X : Cx} {nm f : Str} {C fI : Addr} {e : Expr} {es : List Expr} {t : TA} {p pos : Pos}
theorem rs_ofN (T : ErrC X.K X.mg nm f C fI) (hr : Room 2 X.A) (hg : Gl X nm) (ha : PA X (e :: es) t) (hdb : (nm == ("__debug__" : Str)) = false := by decide)
    (he : starEach (e :: es) X.env = (false, eval e X.env) :: starEach es X.env := by rfl) (hpl : (backTo pos (starEach es X.env)).any (·.1) = false := by rfl) :
    L2N.PMk X (.Call (.Name nm p) (e :: es) [] pos) (tMkO C (spErr X.K f) [] t) := by
  obtain ⟨fd, FI, bI⟩ := T.ini
  have F1 := FI X.prog X.w X.base
  intro pn s σ H Q I h
  obtain ⟨B, newId, initId, bmB, cn, cq, N, bs, bm, sn, sub, ab, col, dd, k0, k1, k2, k3, k5, FB, ok, _, _, hC⟩ := T.xc.cls
  refine wpAny_Call_Name_kw (ld_glob I hg T.mgc ?_ hdb)
  refine PySem.W.callWith_K (h₀ := X.base) I.ok.mod.kin T.xc.kC (thn (ha.run pos pn s σ H _ I h) fun us sA ⟨vs, HA, IA, rA, zA, qA⟩ => ⟨IA.kIn, ?_⟩) he hpl
  show wpAny _ _ (call (.ref C) us) _ _ _
  obtain ⟨hp, g, dr, tk, os⟩ := sA
  have szE : hp.objs.size ≤ hp.objs.size + 1 := Nat.le_succ _
  have noE : HA (hp.objs.size + 1) = none := IA.hok.fresh szE
  have qE := qA (hp.objs.size + 1) noE
  rw [List.append_nil] at qE
  have stays : ∀ b o, hp.get? b = some o → ((hp.push (PySem.W.kdv_tup us)).push (PySem.HandSPX.excO C hp.objs.size)).get? b = some o := fun b o z => Heap.get?_push_of_some _ (Heap.get?_push_of_some _ z)
  have atE : ((hp.push (PySem.W.kdv_tup us)).push (PySem.HandSPX.excO C hp.objs.size)).get? (hp.objs.size + 1) = some (PySem.HandSPX.excO C hp.objs.size) := by heap_get
  have IB : Inv X pn σ (upd HA (hp.objs.size + 1) (exo (hp.objs.size + 1) C none)) ⟨(hp.push (PySem.W.kdv_tup us)).push (PySem.HandSPX.excO C hp.objs.size), g, dr, tk, os⟩ :=
    IA.laid (t' := tk) (a := hp.objs.size + 1) (o := exo (hp.objs.size + 1) C none) (h' := (hp.push (PySem.W.kdv_tup us)).push (PySem.HandSPX.excO C hp.objs.size)) stays szE (exo_ok atE)
  have rB : Vals (V.ref (hp.objs.size + 1) :: vs) (Value.ref (hp.objs.size + 1) :: us) := .cons rfl rA
  have lB : (Value.ref (hp.objs.size + 1) :: us ++ []).length = [("self" : Str), f].length := by
    rw [List.append_nil, ← F1.len _ _ _ _ qE]
    exact rB.length.symm
  have usz : us.length ≤ sizeLine := by
    rw [← Paired.length rA, sizeLine_eq]; omega
  have bB := bI _ (Value.ref (hp.objs.size + 1) :: us) IB.kIn lB
  rw [List.append_nil] at bB
  refine wpAny_call (xcall FB ok (IA.kIn _ _ hC) (PySem.W.looks_findIn IA.kIn T.xc.iC) (fun self => PySem.W.bind_fn IA.kIn self T.xc.tI) usz
    (codeAny_mono (F1.run _ X.stack _ _ ⟨Value.ref (hp.objs.size + 1) :: us, []⟩ (Value.ref (hp.objs.size + 1) :: us) _ _ (fun _ _ _ => False) (hr.make C us []) (IB.env0.make C us []) bB rB qE) fun r s' z => ?_))
  rcases r with er | (_ | _ | _ | u)
  · exact absurd z id
  · exact z.elim
  · exact z.elim
  · exact z.elim
  · obtain ⟨v, HB, osB, bareB, unB, okB, rvB, ev, d, fs, ea, ed, nd, qB⟩ := z
    subst ev
    obtain ⟨hB, gB, dB, tB, osC⟩ := s'
    obtain ⟨t0, G, J, kG, ge, hoe, na⟩ := mk_end0 (d2 := dB) (t2 := tB) IA szE stays unB okB osB bareB ea ed nd
    exact ⟨rvB, hp.objs.size + 1, _, _, ⟨G, gB, dB, tB, osC⟩, _, .ref C, some d, rfl, J, kG, ge, hoe, ⟨rfl, rfl, fun ws hw => by cases hw; rfl⟩, rfl, rfl, na, rfl, bareB, raises_own T.ox.exC T.ox.tyC, qB⟩
end
/-- a method that may let errors out whose context is None -/
theorem metN_of {P : Program} {w : World} {K : PySem.W.Frag} {mg : Str → Option Value} {base : Heap} {m qual : Str} {C : Addr} {st : Stmt} {N ps : List Str} {k : Nat} {sp : Sp} (c : Cls K C) (D : MDef K C m qual st) (S : FnScope N ps (C8.fnScope st))
    (hb : ∀ (kV doc pm : Value) (an : Option Addr) (cdv ct : Value) (us : List Value), us.length = ps.length → bindArgs (PySem.W.fnOf m qual (C8.fnArgs st) (C8.fnBody st) (C8.fnScope st) .none kV doc pm an cdv ct) ⟨us, []⟩ = pure (ps.zip us))
    (len : ∀ vs H Q E, sp vs H Q E → vs.length = ps.length)
    (hbody : ∀ (f : Addr) (cdv : Value) (A : Around) (outer : List Env) (s : Shared) (H : Hp) (vs : List V) (Q : VK) (E : XK), Room k (A.deeper (envOfC qual (C8.fnScope st) s.heap.objs.size f cdv)) → sp vs H Q E →
      ∃ t, PSs (cxOf (L2N.CX P w) P w K mg base N qual (C8.fnScope st) f cdv A outer s H E) (C8.fnBody st) t ∧ t { nx := fun _ H' => Q .non H', rt := Q } (start N vs) H) : MetX P w K mg base (L2N.CX P w) (k + 1) C m sp [] := by
  obtain ⟨f, fd, F, M, df⟩ := D.ex
  obtain ⟨oc, od, dV, kV, doc, pm, an, cdv, ct, osl, rfl, lk, hcd⟩ := F.ex
  exact ⟨f, _, ps, [], c, M, fn_of lk hcd S len fun A outer s H vs Q E hr hsp => hbody f cdv A outer s H vs Q E hr hsp, F.binds df hb, .nil⟩
/-! ### rooms -/
theorem RoomH.in1 {k : Nat} {A : Around} (r : RoomH (k + 1) A) : RoomH k A.in1 := ⟨by have := r.dp; show A.depth + 3 * k + 5 < _; omega, by have := r.un; show A.units + 1 + 16 * k + 200 < _; omega⟩
theorem RoomH.units {k : Nat} {A : Around} (r : RoomH k A) : A.units + 64 < cLine := by have := r.un; omega
/-! ### what may be called there -/
structure CalH (P : Program) (w : World) (K : PySem.W.Frag) (mg : Str → Option Value) (base : Heap) (k : Nat) (x : Str) (sp : Sp) : Prop where
  ex : ∃ (f : Addr) (fd : FuncData) (ps : List Str), FnH P w K mg base C8.CX0 k f fd ps sp ∧ mg x = some (.ref f) ∧ PySem.W.keepIn K (.ref f) = true ∧ Binds K fd ps []
structure MetH (P : Program) (w : World) (K : PySem.W.Frag) (mg : Str → Option Value) (base : Heap) (k : Nat) (C : Addr) (m : Str) (sp : Sp) : Prop where
  ex : ∃ (f : Addr) (fd : FuncData) (ps : List Str), Cls K C ∧ Meth K C m f ∧ FnH P w K mg base C8.CX0 k f fd ps sp ∧ Binds K fd ps []
structure MakH (P : Program) (w : World) (K : PySem.W.Frag) (mg : Str → Option Value) (base : Heap) (k : Nat) (x : Str) (C : Addr) (sp : Sp) (dvs : List V) : Prop where
  ex : ∃ (f : Addr) (fd : FuncData) (ps : List Str) (ds : List Value), Mk K C f ∧ FnH P w K mg base C8.CX0 k f fd ps sp ∧ mg x = some (.ref C) ∧ Binds K fd ps ds ∧ Vals dvs ds
structure PrpH (P : Program) (w : World) (K : PySem.W.Frag) (mg : Str → Option Value) (base : Heap) (k : Nat) (C : Addr) (f : Str) (sp : Sp) : Prop where
  ex : ∃ (p g : Addr) (fd : FuncData) (ps : List Str), Cls K C ∧ PropOf K C f p g ∧ FnH P w K mg base C8.CX0 k g fd ps sp ∧ Binds K fd ps []
section
variable {P : Program} {w : World} {K : PySem.W.Frag} {mg : Str → Option Value} {base : Heap}
/-- a def by its body, run while an exception is handled -/
theorem fnH1 {x qual : Str} {st : Stmt} {f : Addr} {fd : FuncData} {N ps : List Str} {k : Nat} {sp : Sp} (F : C8.Fun K x qual st f fd) (S : FnScope N ps (C8.fnScope st)) (len : ∀ vs H Q E, sp vs H Q E → vs.length = ps.length)
    (hbody : ∀ (cdv : Value) (A : Around) (outer : List Env) (s : Shared) (H : Hp) (vs : List V) (Q : VK) (E : XK) (p : Addr × Obj), RoomH k (A.deeper (envOfC qual (C8.fnScope st) s.heap.objs.size f cdv)) →
      HotC (cxH C8.CX0 P w K mg base N qual (C8.fnScope st) f cdv A outer s H E p) → sp vs H Q E →
      ∃ t, PSs (cxH C8.CX0 P w K mg base N qual (C8.fnScope st) f cdv A outer s H E p) (C8.fnBody st) t ∧ t { nx := fun _ H' => Q .non H', rt := Q } (L2.start N vs) H) : FnH P w K mg base C8.CX0 (k + 1) f fd ps sp := by
  obtain ⟨oc, od, dV, kV, doc, pm, an, cdv, ct, osl, rfl, lk, hcd⟩ := F.ex
  exact L2H.fn_ofH lk hcd S len fun A outer s H vs Q E p hot hr hsp => hbody cdv A outer s H vs Q E p hr ⟨p, ⟨hot.1, hot.2⟩, List.mem_cons_self⟩ hsp
theorem calH_of {x : Str} {st : Stmt} {N ps : List Str} {k : Nat} {sp : Sp} (D : IsDef K mg x st) (S : FnScope N ps (C8.fnScope st))
    (hb : ∀ (kV doc pm : Value) (an : Option Addr) (cdv ct : Value) (us : List Value), us.length = ps.length → bindArgs (PySem.W.fnOf x x (C8.fnArgs st) (C8.fnBody st) (C8.fnScope st) .none kV doc pm an cdv ct) ⟨us, []⟩ = pure (ps.zip us))
    (len : ∀ vs H Q E, sp vs H Q E → vs.length = ps.length)
    (hbody : ∀ (f : Addr) (cdv : Value) (A : Around) (outer : List Env) (s : Shared) (H : Hp) (vs : List V) (Q : VK) (E : XK) (p : Addr × Obj), RoomH k (A.deeper (envOfC x (C8.fnScope st) s.heap.objs.size f cdv)) →
      HotC (cxH C8.CX0 P w K mg base N x (C8.fnScope st) f cdv A outer s H E p) → sp vs H Q E →
      ∃ t, PSs (cxH C8.CX0 P w K mg base N x (C8.fnScope st) f cdv A outer s H E p) (C8.fnBody st) t ∧ t { nx := fun _ H' => Q .non H', rt := Q } (L2.start N vs) H) : CalH P w K mg base (k + 1) x sp := by
  obtain ⟨f, fd, D, df⟩ := D
  exact ⟨f, fd, ps, fnH1 D.fn S len (hbody f), D.mgf, D.kp, D.fn.binds df hb⟩
theorem metH_of {m qual : Str} {C : Addr} {st : Stmt} {N ps : List Str} {k : Nat} {sp : Sp} (c : Cls K C) (D : MDef K C m qual st) (S : FnScope N ps (C8.fnScope st))
    (hb : ∀ (kV doc pm : Value) (an : Option Addr) (cdv ct : Value) (us : List Value), us.length = ps.length → bindArgs (PySem.W.fnOf m qual (C8.fnArgs st) (C8.fnBody st) (C8.fnScope st) .none kV doc pm an cdv ct) ⟨us, []⟩ = pure (ps.zip us))
    (len : ∀ vs H Q E, sp vs H Q E → vs.length = ps.length)
    (hbody : ∀ (f : Addr) (cdv : Value) (A : Around) (outer : List Env) (s : Shared) (H : Hp) (vs : List V) (Q : VK) (E : XK) (p : Addr × Obj), RoomH k (A.deeper (envOfC qual (C8.fnScope st) s.heap.objs.size f cdv)) →
      HotC (cxH C8.CX0 P w K mg base N qual (C8.fnScope st) f cdv A outer s H E p) → sp vs H Q E →
      ∃ t, PSs (cxH C8.CX0 P w K mg base N qual (C8.fnScope st) f cdv A outer s H E p) (C8.fnBody st) t ∧ t { nx := fun _ H' => Q .non H', rt := Q } (L2.start N vs) H) : MetH P w K mg base (k + 1) C m sp := by
  obtain ⟨f, fd, F, M, df⟩ := D.ex
  exact ⟨f, fd, ps, c, M, fnH1 F S len (hbody f), F.binds df hb⟩
theorem prpH_of {f qual : Str} {C : Addr} {st : Stmt} {N ps : List Str} {k : Nat} {sp : Sp} (c : Cls K C) (D : PDef K C f qual st) (S : FnScope N ps (C8.fnScope st))
    (hb : ∀ (kV doc pm : Value) (an : Option Addr) (cdv ct : Value) (us : List Value), us.length = ps.length → bindArgs (PySem.W.fnOf f qual (C8.fnArgs st) (C8.fnBody st) (C8.fnScope st) .none kV doc pm an cdv ct) ⟨us, []⟩ = pure (ps.zip us))
    (len : ∀ vs H Q E, sp vs H Q E → vs.length = ps.length)
    (hbody : ∀ (g : Addr) (cdv : Value) (A : Around) (outer : List Env) (s : Shared) (H : Hp) (vs : List V) (Q : VK) (E : XK) (p : Addr × Obj), RoomH k (A.deeper (envOfC qual (C8.fnScope st) s.heap.objs.size g cdv)) →
      HotC (cxH C8.CX0 P w K mg base N qual (C8.fnScope st) g cdv A outer s H E p) → sp vs H Q E →
      ∃ t, PSs (cxH C8.CX0 P w K mg base N qual (C8.fnScope st) g cdv A outer s H E p) (C8.fnBody st) t ∧ t { nx := fun _ H' => Q .non H', rt := Q } (L2.start N vs) H) : PrpH P w K mg base (k + 1) C f sp := by
  obtain ⟨p, g, fd, hp, F, df⟩ := D.ex
  exact ⟨p, g, fd, ps, c, hp, fnH1 F S len (hbody g), F.binds df hb⟩
end
/-! ### the rules -/
section
variable {X : Cx} {k j : Nat} {f g C a : Addr} {fd : FuncData} {ps : List Str} {sp : Sp} {dvs : List V} {ds : List Value} {x m n : Str} {p pos apos : Pos} {e o : Expr} {es : List Expr} {ta : TE} {t : TA}
theorem pin_of {pn : List (Addr × Obj)} {σ : L2.St} {H : Hp} {s : Shared} {q : Addr × Obj} (I : Inv X pn σ H s) (hq : q ∈ X.pn) : PinOk X.stack H s q := by
  have z := I.pin q (List.mem_append_left _ hq)
  exact ⟨z.1, z.2.1, fun y => (List.mem_cons.mp (I.stkSub q.1 y)).elim z.2.2.1 z.2.2.2.1, z.2.2.2.2⟩
/-- the callee runs, an exception handled around it -/
theorem run_hot {pn : List (Addr × Obj)} {σ : L2.St} {H : Hp} {s : Shared} {Q : VK} {A' : Around} {us : List Value} {vs : List V} (F : FnH X.prog X.w X.K X.mg X.base C8.CX0 k f fd ps sp) (hr : RoomH k A') (hc : HotC X) (hA : A'.handled = X.A.handled) (e0 : Env0 X.prog X.w X.K X.mg X.base A' X.stack s H)
    (hb : Binds X.K fd ps ds) (hd : Vals dvs ds) (I : Inv X pn σ H s) (r : Vals vs us) (h : sp (vs ++ dvs) H Q C8.E0) : codeAny (model X.prog X.w) A' (.call (.ref f) ⟨us, []⟩) (fun r s' => ∃ u, r = .ok (.ret u) ∧ EP X pn σ Q u s') s := by
  obtain ⟨q, hot, hq⟩ := hc
  have r2 : Vals (vs ++ dvs) (us ++ ds) := r.append hd
  have hl : (us ++ ds).length = ps.length := r2.length.symm.trans (F.len _ _ _ _ h)
  refine codeAny_mono (F.run A' X.stack s H ⟨us, []⟩ (us ++ ds) (vs ++ dvs) Q C8.E0 q hr ⟨hA.trans hot.1, hot.2⟩ (pin_of I hq) e0 (hb s us I.kIn hl) r2 h) fun r s' z => ?_
  rcases r with er | (_ | _ | _ | u)
  · exact absurd z id
  · exact z.elim
  · exact z.elim
  · exact z.elim
  · exact ⟨u, rfl, I.after z⟩
theorem call_hot {pn : List (Addr × Obj)} {σ : L2.St} {H : Hp} {s : Shared} {Q : VK} {E : Value → Shared → Prop} {us : List Value} {vs : List V} (F : FnH X.prog X.w X.K X.mg X.base C8.CX0 k f fd ps sp) (hr : RoomH k X.A) (hc : HotC X)
    (hb : Binds X.K fd ps ds) (hd : Vals dvs ds) (I : Inv X pn σ H s) (r : Vals vs us) (h : sp (vs ++ dvs) H Q C8.E0) : wpAny (model X.prog X.w) X.A (call (.ref f) us) (EP X pn σ Q) E s := by
  refine wpAny_call (codeAny_mono (run_hot F hr hc rfl I.env0 hb hd I r h) fun r s' z => ?_)
  obtain ⟨u, rfl, z⟩ := z
  exact z
theorem pe_cH (c : CalH X.prog X.w X.K X.mg X.base k x sp) (hr : RoomH j X.A) (hk : k ≤ j) (hc : HotC X) (hg : Gl X x) (ha : PA X (e :: es) t)
    (hdb : (x == ("__debug__" : Str)) = false := by decide) (he : starEach (e :: es) X.env = (false, eval e X.env) :: starEach es X.env := by rfl) (hpl : (backTo pos (starEach es X.env)).any (·.1) = false := by rfl) :
    PE X (.Call (.Name x p) (e :: es) [] pos) (tCall sp [] C8.E0 t) := by
  obtain ⟨f, fd, ps, F, hm, kp, b⟩ := c.ex
  refine ⟨fun pn s σ H Q I h => wpAny_Call_Name_kw (ld_glob I hg hm ?_ hdb)⟩
  refine PySem.W.callWith_K (h₀ := X.base) I.ok.mod.kin kp (thn (ha.run pos pn s σ H _ I h) fun us sA ⟨vs, HA, IA, rA, qA⟩ => ⟨IA.kIn, ?_⟩) he hpl
  exact call_hot F (hr.mono hk) hc b .nil IA rA qA
theorem pe_mtH0 {pl : Sem Bool} (c : MetH X.prog X.w X.K X.mg X.base k C m sp) (hr : RoomH j X.A) (hk : k ≤ j) (hc : HotC X) (he : PE X o ta)
    (ht : eval (.Call (.Attribute o m apos) [] [] pos) X.env = (do
      let ov ← eval o X.env
      standAt apos.atName
      let (f, first) ← holding [ov] (getMethod ov m pl)
      callWith pos f first (backTo pos (starEach [] X.env)) (backToKw pos (keywordEach [] X.env))) := by rfl) :
    PE X (.Call (.Attribute o m apos) [] [] pos) (tMeth C m sp [] C8.E0 ta tNil) := by
  obtain ⟨f, fd, ps, cl, hm, F, b⟩ := c.ex
  refine ⟨fun pn s σ H Q I h => ?_⟩
  refine PySem.W.methodCall_KW (pl := pl) (thn (he.run pn s σ H _ I h) fun u sA ⟨y, HA, IA, rA, a, dx, fs, ex, ea, l, q⟩ => ?_) ht
  subst ex
  obtain rfl : u = Value.ref a := rA
  refine getmeth_ok IA ea cl hm l (PySem.W.callWith_K0 (first := [.ref a]) IA.kIn hm.kp ?_)
  exact call_hot (us := [.ref a]) (vs := [.ref a]) F (hr.mono hk) hc b .nil IA (.cons rfl .nil) q
theorem pe_mkH0 (c : MakH X.prog X.w X.K X.mg X.base k x C sp dvs) (hr : RoomH j X.A) (hk : k + 1 ≤ j) (hc : HotC X) (hg : Gl X x) (hdb : (x == ("__debug__" : Str)) = false := by decide) : PE X (.Call (.Name x p) [] [] pos) (tMake C sp dvs C8.E0 tNil) := by
  obtain ⟨f, fd, ps, ds, M, F, hm, b, d⟩ := c.ex
  refine ⟨fun pn s σ H Q I h => wpAny_Call_Name_kw (ld_glob I hg hm (PySem.W.callWith_K0 I.kIn M.kp ?_) hdb)⟩
  have qN := h (s.heap.objs.size + 1) s.heap.objs.size (I.hok.fresh (Nat.le_succ _)) (I.hok.fresh (Nat.le_refl _)) (Nat.ne_of_lt (Nat.lt_succ_self _))
  have IM := Inv.made (C := C) I
  refine wpAny_call (make_map (f := f) I.kIn M.makes M.init (beq_iff_eq.mp M.fn) (codeAny_mono (run_hot (us := [Value.ref (s.heap.objs.size + 1)]) (vs := [V.ref (s.heap.objs.size + 1)]) F ((hr.mono hk).make C [] []) hc rfl (IM.env0.make C [] []) b d IM (.cons rfl .nil) qN) fun r s' z => ?_))
  obtain ⟨u, rfl, v, HB, IB, rv, ev, q⟩ := z
  subst ev
  exact ⟨rv, V.ref (s.heap.objs.size + 1), HB, IB, rfl, q⟩
theorem pe_prH (c : PrpH X.prog X.w X.K X.mg X.base k C n sp) (hr : RoomH j X.A) (hk : k + 1 ≤ j) (hc : HotC X) (he : PE X e ta) (hab : attributeBase e n X.env (eval e X.env) = eval e X.env := by rfl) : PE X (.Attribute e n pos) (tProp C sp [] C8.E0 ta) := by
  obtain ⟨pa, g, fd, ps, cl, hp, F, b⟩ := c.ex
  refine ⟨fun pn s σ H Q I h => attr_of hab (thn (he.run pn s σ H _ I h) fun u sA ⟨y, HA, IA, rA, a, dx, fs, ex, ea, q⟩ => ?_)⟩
  subst ex
  obtain rfl : u = Value.ref a := rA
  obtain ⟨mA, O, _, _, _, _⟩ := ins_get IA.hok ea
  obtain ⟨od, J, _⟩ := O.look
  obtain ⟨rest, hrec⟩ := hp.rec_
  have IT := IA.tok (sA.toks + 1)
  have hcl : (PySem.W.clsIn X.K C).isSome = true := by
    obtain ⟨cd, hcd, _⟩ := PySem.W.any_some cl.hd
    rw [hcd] <;> rfl
  refine PySem.W.get_bind IA.kIn J (PySem.W.plainGet_of (cl.get n)).1 (PySem.W.findObj_data hcl hp.at_ hp.get hp.tak) (PySem.W.plainGet_of (cl.get n)).2 (wpAny_call (PySem.W.prop_get (s := { sA with toks := sA.toks + 1 }) IA.kIn hrec ?_))
  refine codeAny_mono (run_hot (A' := X.A.in1) (us := [.ref a]) (vs := [.ref a]) F (RoomH.in1 (hr.mono hk)) hc rfl IT.env0.in1 b .nil IT (.cons rfl .nil) q) fun r s' z => ?_
  obtain ⟨v, rfl, w, HB, IB, rv, qB⟩ := z
  show wpAny _ _ (handedOut v) _ _ _
  rw [PySem.W.handedOut_of (handed_of rv)]
  exact wpAny_pure ⟨w, HB, IB, rv, qB⟩
end
end Fk

set_option maxHeartbeats 4000000
/-! A comprehension over an empty dict where an exception is handled. -/
namespace Fk
open PySem PySem.Spec PyProof.Rows L2
open L2H (RoomH HotC FnH Hot1 PinOk cxH)
section
variable {prog : Program} {w : World} {A : Around} {E : Value → Shared → Prop} {s : Shared}
theorem keys_end_hot {it d x1 : Addr} {i n ep : Nat} {od : Obj} {es : Array DictEntry} {Q : Option Value → Shared → Prop} (hot : HotX.HotAt A x1 s.heap) (hne : x1 ≠ it) (hit : s.heap.IsKeyIter it d i n ep) (hod : s.heap.get? d = some od) (hdd : od.data = .dict es ep)
    (hsz : es.size = n) (hge : n ≤ i) (hQ : ∀ h', (∀ b o, b ≠ it → s.heap.get? b = some o → h'.get? b = some o) → Q none { s with heap := h' }) : wpAny (model prog w) A (pyNext (.ref it)) Q E s := by
  obtain ⟨hh, o1, vs1, g1, d1, c1⟩ := hot
  obtain ⟨oi, goi, coi, doi⟩ := id hit
  have hge' : es.size ≤ i := by omega
  unfold pyNext
  refine wpAny_bind (wpAny_attempt (wpAny_callSpecial?_slot (name := Str.ofString "__next__") hit.typeIs F.slot_dict_keyiterator_next (wpAny_call_entry F.slot_dict_keyiterator_next hit.typeIs F.entry_dict_keyiterator_next ?_ (F.args_dict_keyiterator_next_1 _))))
  refine wpAny_bind (wpAny_pure (wpAny_bind (wpAny_bind ?_)))
  first | refine wpAny_bind (wpAny_typeNameOfWhole_keyiter hit.typeIs (wpAny_pure (wpAny_bind (wpAny_fieldsOf goi doi ?_)))) | refine wpAny_bind (wpAny_typeNameOf_keyiter hit.typeIs (wpAny_pure (wpAny_bind (wpAny_fieldsOf goi doi ?_))))
  simp only [show Builtin.Dict_items.ownsTuple "dict_keyiterator" = false from by decide, Bool.false_eq_true, if_false]
  show wpAny _ _ (if (Value.ref d == Value.none) = true then _ else _) _ _ s
  rw [if_neg (show ¬ ((Value.ref d == Value.none) = true) from Bool.false_ne_true)]
  refine wpAny_bind (wpAny_pure (wpAny_bind (wpAny_dictEntries hod hdd ?_)))
  rw [if_neg (by rw [hsz]; simp)]
  refine wpAny_bind (wpAny_pure (wpAny_bind (wpAny_dictEpoch hod hdd ?_)))
  rw [if_neg (by simp)]
  refine wpAny_pure ?_
  simp only [show ¬ ((i : Int) < 0) from by omega, if_false, Int.toNat_natCast, Array.getElem?_eq_none hge']
  refine wpAny_bind ?_
  first | refine wpAny_bind (wpAny_typeNameOfWhole_keyiter hit.typeIs (wpAny_pure ?_)) | refine wpAny_bind (wpAny_typeNameOf_keyiter hit.typeIs (wpAny_pure ?_))
  show wpAny _ _ (setField (.ref it) 0 .none >>= fun _ => _) _ _ s
  refine wpAny_bind (wpAny_setField goi doi (by simp) ?_)
  show wpAny _ _ (newExc (.type "StopIteration") [] >>= fun _ => _) _ _ _
  refine wpAny_bind ?_
  simp only [newExc, newTuple]
  refine wpAny_bind (wpAny_newObj_type ?_ (by size_fits))
  refine wpAny_bind (m := firstArgMember _ _) (wpAny_of_eq (a := Value.none) (by first | rfl | (simp only [firstArgMember]; rfl)) ?_)
  refine wpAny_newObj_type ?_ (by size_fits)
  have k1 : ∀ {b : Addr} {o : Obj} {h : Heap} {f : Obj → Obj}, b ≠ it → h.get? b = some o → (h.update it f).get? b = some o := fun {b o h f} nb e => by
    rw [Heap.get?_update_other _ _ (Ne.symm nb)]
    exact e
  have gx := k1 (f := (Obj.mapFields (·.setIfInBounds 0 .none))) hne g1
  refine HotX.raiseNew_hot ⟨hh, o1, vs1, Heap.get?_push_of_some _ (Heap.get?_push_of_some _ gx), d1, c1⟩ (Nat.ne_of_lt (Heap.lt_size (Heap.get?_push_of_some _ gx))) (Heap.get?_push_size _ rfl) rfl (by first | (simp; done) | (simp; omega)) ?_
  refine wpAny_bind (wpAny_isInstance (T := "StopIteration") (b := true) ⟨_, Heap.get?_update_self _ (Heap.get?_push_size _ rfl) rfl, rfl⟩ isSubtype_stop (wpAny_pure (hQ _ fun b o nb e => ?_)))
  have gb := k1 (f := (Obj.mapFields (·.setIfInBounds 0 .none))) nb e
  rw [Heap.get?_update_other _ _ (Nat.ne_of_gt (Heap.lt_size (Heap.get?_push_of_some _ gb)))]
  exact Heap.get?_push_of_some _ (Heap.get?_push_of_some _ gb)
end
section
variable {X : Cx}
/-- a list comprehension over a locked dict that is empty -/
def tLc0 (td : TE) : TE := fun σ H Q => td σ H fun x H1 => ∃ (d : Addr) (o : Obj), x = .ref d ∧ H1 d = some (.frz o (.dK [])) ∧ ∀ D, H1 D = none → Q (.ref D) (upd H1 D (.lst []))
theorem pe_lc0H {elt tg iter : Expr} {ifs : List Expr} {scope : Scope} {own : List (Str × Nat)} {pos : Pos} {td : TE} (hc : HotC X) (he : PE X iter td) (ok : BlkOk X.N X.env.scope scope own)
    (hs : ∀ x, foldedSetIterable iter X.env x = pure x := by intro _; rfl) : PE X (.ListComp elt [⟨tg, iter, ifs, 0⟩] scope pos) (tLc0 td) := by
  refine ⟨fun pn s σ H Q I h => ?_⟩
  rw [eval_ListComp]
  obtain ⟨p, ⟨hh, v1, e1, c1⟩, hp⟩ := hc
  have clo : ∀ y ∈ scope.names, y.2 = .free → ∃ c, X.env.cells.lookup y.1 = some c := fun y hy e => (ok.free y hy e).elim (fun k => I.ok.has _ (.inl k)) (fun k => I.ok.has _ (.inr k))
  refine wpAny_comprehension_free (use := none) rfl hs (closure_ok clo) ok.kind (fun y hy e => by rw [ok.uniq y hy, e]) (thn (he.run pn s σ H _ I h) fun xv sA ⟨x, HA, IA, rA, d, o, ex, hd, q⟩ => ?_)
  subst ex
  obtain rfl : xv = Value.ref d := rA
  obtain ⟨nsys, gd, hx, es, ep, vs, hdt, hsz, kv, hm⟩ := IA.frzK hd
  refine iter_keys nsys gd hx hdt (wpAny_newObj_type (newEnv_comp ?_) (by show 0 ≤ sizeLine; decide))
  have szE : es.size = 0 := hsz
  generalize hi : sA.heap.objs.size = it
  generalize h2e : sA.heap.push { cls := .type "dict_keyiterator", data := .fields #[.ref d, .int 0 0, .int es.size 0, .int ep 0] } = h2
  have s2 : h2.objs.size = it + 1 := by rw [← h2e, Heap.size_push, hi]
  have k2 : ∀ b u, sA.heap.get? b = some u → h2.get? b = some u := fun b u e => by rw [← h2e]; exact Heap.get?_push_of_some _ e
  have it2 : h2.get? it = some { cls := .type "dict_keyiterator", data := .fields #[.ref d, .int 0 0, .int es.size 0, .int ep 0] } := by rw [← h2e, ← hi]; exact Heap.get?_push_size _ rfl
  have nIt : HA it = none := IA.hok.fresh (Nat.le_of_eq hi)
  have I2 : Inv X pn σ HA { sA with heap := h2 } := IA.kept (t' := sA.toks) k2
  have q1 := q (it + 1) (IA.hok.fresh (by rw [hi]; exact Nat.le_succ _))
  have eD : ({ sA with heap := h2 } : Shared).heap.objs.size = it + 1 := s2
  rw [eD]
  generalize h3e : h2.push { cls := .type "list", data := .seq ([] : List Value).toArray } = h3
  have s3 : h3.objs.size = it + 2 := by rw [← h3e, Heap.size_push, s2]
  have k3 : ∀ b u, h2.get? b = some u → h3.get? b = some u := fun b u e => by rw [← h3e]; exact Heap.get?_push_of_some _ e
  have I3 : Inv X pn σ (upd HA (it + 1) (.lst [])) { sA with heap := h3 } := I2.laid (t' := sA.toks) k3 (Nat.le_of_eq s2) ⟨Nat.zero_le _, [], 0, .nil, by rw [← h3e, ← s2]; exact Heap.get?_push_size _ rfl⟩
  have eC : ({ sA with heap := h3 } : Shared).heap.objs.size = it + 2 := s3
  generalize h4e : pushCells (h3.push { cls := .type "dict", data := .dict #[] }) scope.names = h4
  have k4 : ∀ b u, h3.get? b = some u → h4.get? b = some u := fun b u e => by rw [← h4e]; exact pushCells_keeps _ _ _ _ (Heap.get?_push_of_some _ e)
  have nsC : h4.Ns (it + 2) fun _ => none := by
    rw [← h4e, ← s3]
    exact Heap.Ns.keeps (Heap.Ns.new ..) fun b u e => pushCells_keeps _ _ _ _ e
  have I4 : Inv X pn σ (upd HA (it + 1) (.lst [])) { sA with heap := h4 } := I3.kept (t' := sA.toks) k4
  have nIt4 : (upd HA (it + 1) (.lst [])) it = none := by rw [upd_ne (Nat.ne_of_lt (Nat.lt_succ_self _))]; exact nIt
  have nC4 : (upd HA (it + 1) (.lst [])) (it + 2) = none := I3.hok.fresh (Nat.le_of_eq s3)
  obtain ⟨f0, f1, f2, f3, f4, f5⟩ := IA.fpOk (b := it) (Nat.le_of_eq hi) nIt4
  obtain ⟨g0, g1, g2, g3, g4, g5⟩ := I3.fpOk (b := it + 2) (Nat.le_of_eq s3) nC4
  have ki : h4.IsKeyIter it d 0 0 ep := ⟨_, k4 _ _ (k3 _ _ it2), rfl, by rw [szE] <;> rfl⟩
  have neit : p.1 ≠ it := f5 p (List.mem_append_left _ hp)
  have loop : ∀ (env : Env) (C' : Addr), C' = it + 2 → codeAny (model X.prog X.w) X.A (.compLoop (.ListComp elt [⟨tg, iter, ifs, 0⟩] scope pos) 0 (.ref it) (.ref (it + 1)) env) (compPost (model X.prog X.w) X.A X.xe none (EP X pn σ Q) (.ref (it + 1)) C') { sA with heap := h4 } := by
    intro env C' hC'
    rw [hC']
    refine compLoop_any (fun _ s' => s' = { sA with heap := h4 }) (fun n s' e => ?_) 0 rfl
    subst e
    refine keys_end_hot (x1 := p.1) ⟨hh, p.2, v1, (I4.pin p (List.mem_append_left _ hp)).1, e1, c1⟩ neit ki (k4 _ _ (k3 _ _ (k2 _ _ gd))) hdt szE (Nat.le_refl _) fun h5 k5 => ?_
    have I5 : Inv X pn σ (upd HA (it + 1) (.lst [])) { sA with heap := h5 } := Inv.turned (s := { sA with heap := h4 }) (t' := sA.toks) (it := it) I4 (fun b u hb e => k5 b u hb e) f0 f1 f3 f4 f5
    obtain ⟨oc, ec, pc, gc, rc⟩ := nsC
    refine ⟨fun _ => none, ⟨oc, ec, pc, k5 (it + 2) oc (Nat.ne_of_gt (Nat.lt_add_of_pos_right (by decide))) gc, rc⟩, fun h6 k6 => ?_⟩
    exact ⟨.ref (it + 1), _, Inv.turned (s := { sA with heap := h5 }) (t' := sA.toks) (it := it + 2) I5 (fun b u hb e => (k6.2 b hb).trans e) g0 g1 g3 g4 g5, rfl, q1⟩
  exact codeAny_compStart_list (loop _ _ eC) (wpAny_pyIter_keyiter ki (loop _ _ eC))
end
end Fk

set_option maxHeartbeats 4000000
namespace Fk
open PySem PySem.Spec PyProof.Rows L2
open LamX
open L2H (RoomH HotC)
theorem pass_nev {X : Cx} (σ : L2.St) : PassesAt (L2.CX X.prog X.w) X σ (fun _ _ _ => False) := fun _ _ _ _ _ _ c => by
  obtain ⟨_, _, _, _, _, _, _, _, _, _, _, _, z⟩ := c
  exact z.elim
/-- two empty tuples are equal -/
def rEq00 : R2 := fun x y H Q => ∃ a b : Addr, x = .ref a ∧ y = .ref b ∧ H a = some (.tup []) ∧ H b = some (.tup []) ∧ Q (.bl true) H
theorem op_eq00 {X : Cx} (hu : X.A.units + 64 < cLine) : OpR X (compareOp .Eq) rEq00 := fun pn s σ H x y v u Q I rx ry h => by
  obtain ⟨a, b, rfl, rfl, ha, hb, q⟩ := h
  refine op_eqD hu pn s σ H _ _ v u Q I rx ry ⟨.tuple [], .tuple [], .tup (SqT.of ha) .nil, .tup (SqT.of hb) .nil, by decide +kernel, by decide +kernel, ?_⟩
  have e : PyData.eqv (.tuple []) (.tuple []) = true := by decide +kernel
  rw [e]
  exact q
section
variable {P : Program} {w : World} {K : PySem.W.Frag} {mg : Str → Option Value} {base : Heap} {cD cB iF iO : Addr} {e : E4}
/-- a content that is no bytes, the error's context told -/
def spWrH (e : E4) : Sp := fun vs H Q E => ∃ (a : Addr) (y z : Str), vs = [.ref a, .str y, .str z] ∧ Bad e.N H E
theorem m_Disk_writeH (T : TopD K mg cD cB e iF iO) : MetX P w K mg base (L2N.CX P w) 4 cD "write" (spWrH e) [] := by
  refine metN_of T.cl T.d_write sc_Disk_write (fun _ _ _ _ _ _ us hl => match us, hl with | [_, _, _], _ => rfl) (fun vs H Q E h => ?_) (fun f cdv A outer s H vs Q E hr h => ?_)
  · obtain ⟨a, y, z, rfl, _⟩ := h
    rfl
  · obtain ⟨a, y, z, rfl, q⟩ := h
    refine ⟨_, (pss_cons (ps_expr (pe_cx (cx__check_name T) hr (by decide) pass_nev (by rfl) (pa_cons (pv 1) pa_nil)))
      (pss_cons (ps_if (pt_not (pt_val (pe_callB call_isi (by rfl) T.z_isinstance (by decide +kernel) (pa_cons (pv 2) (pa_cons (pe_bltn (v := .ty "bytes") (by rfl) T.z_bytes (by decide +kernel) rfl) pa_nil)))))
      (pss_one (L2N.ps_raise rfl (L2N.takes_of rfl rfl rfl rfl) (rs_ofN T.eN (hr.mono (by decide)) (by rfl) (pa_cons pe_str pa_nil))))
      pss_nil)
      pss_vac)), ?_⟩
    refine ⟨.str y, rfl, .str y, rfl, .inl ⟨y, rfl, .str z, rfl, ?_⟩⟩
    dsimp only [tCons, tC, tNil]
    exact noByt_isi ⟨"str", by decide, .base (.str _)⟩ ⟨_, rfl, iteT ⟨(by show 1 ≤ 1000; decide), do_raise T.eN fun dd H3 s3 _ h3 => q dd _ H3 s3 h3⟩⟩
/-! ### where an error is handled -/
def spLimit0 : Sp := fun vs H Q _ => vs = [.non] ∧ Q (.bl true) H
theorem h_is_limit (T : Top K mg) : CalH P w K mg base 1 "is_limit" spLimit0 := by
  refine calH_of T.d_is_limit sc_is_limit (fun _ _ _ _ _ _ us hl => match us, hl with | [_], _ => rfl) (fun vs H Q E h => ?_) (fun f cdv A outer s H vs Q E p hr hc h => ?_)
  · obtain ⟨rfl, _⟩ := h
    rfl
  · obtain ⟨rfl, q⟩ := h
    refine ⟨_, (pss_one (ps_ret (pe_or (pe_cmpR op_isN (pv 0) pe_non (nomark _)) (pe_one pe_never)))), ?_⟩
    exact ⟨.non, rfl, rfl, _, rfl, iteT q⟩
def spLeft0 : Sp := fun vs H Q _ => vs = [.non] ∧ Q .non H
theorem h__checked_left (T : TopD K mg cD cB e iF iO) : CalH P w K mg base 2 "_checked_left" spLeft0 := by
  refine calH_of T.d__checked_left sc__checked_left (fun _ _ _ _ _ _ us hl => match us, hl with | [_], _ => rfl) (fun vs H Q E h => ?_) (fun f cdv A outer s H vs Q E p hr hc h => ?_)
  · obtain ⟨rfl, _⟩ := h
    rfl
  · obtain ⟨rfl, q⟩ := h
    refine ⟨_, (pss_cons (ps_if (pt_not (pt_val (pe_cH (h_is_limit T.toTop) hr (by decide) hc (by rfl) (pa_cons (pv 0) pa_nil))))
      (pss_one ps_never)
      pss_nil)
      (pss_one (ps_ret (pv 0)))), ?_⟩
    exact ⟨.non, rfl, rfl, _, rfl, iteF ⟨.non, rfl, q⟩⟩
def spDiskH (cD : Addr) : Sp := fun vs H Q _ => ∃ (a dx : Addr), vs = [.ref a, .non] ∧ H a = some (.ins cD dx []) ∧ ∀ d H', H d = none → Fr a H H' → DkAt cD H' a dx d ⟨[], none⟩ → Q .non H'
theorem h_Disk (T : TopD K mg cD cB e iF iO) : MakH P w K mg base 3 "Disk" cD (spDiskH cD) [V.non] := by
  obtain ⟨f, fd, ds, M, F, d, b⟩ := T.iniD
  refine ⟨f, fd, ["self", "left"], ds, M, ?_, T.mgD, b, d⟩
  refine fnH1 F sc_Disk_init (fun vs H Q E h => ?_) (fun cdv A outer s H vs Q E p hr hc h => ?_)
  · obtain ⟨a, dx, rfl, _⟩ := h
    rfl
  · obtain ⟨a, dx, rfl, ha, q⟩ := h
    refine ⟨_, (pss_cons (ps_fld (pv 0) pe_dnewK rfl)
      (pss_one (ps_fld (pv 0) (pe_cH (h__checked_left T) hr (by decide) hc (by rfl) (pa_cons (pv 1) pa_nil)) rfl))), ?_⟩
    intro d hd
    have nad : a ≠ d := ne_of_none ha hd
    refine ⟨.ref a, rfl, a, cD, dx, _, rfl, (by rw [upd_ne nad]; exact ha), T.cl, T.nF, (by decide), ?_⟩
    refine ⟨.non, rfl, rfl, ?_⟩
    refine ⟨.ref a, rfl, a, cD, dx, _, rfl, upd_same, T.cl, T.nL, (by show 1 < 1000; decide), ?_⟩
    rw [upd_upd]
    have := disk_done (l := none) ha hd rfl rfl
    exact q d _ hd this.1 this.2
theorem hp_Disk_left (T : TopD K mg cD cB e iF iO) : PrpH P w K mg base 1 cD "left" (getSp cD "_steps_left") := by
  refine prpH_of T.cl T.pDleft sc_Disk_left (fun _ _ _ _ _ _ us hl => match us, hl with | [_], _ => rfl) getSp_len (fun f cdv A outer s H vs Q E p hr hc h => ?_)
  obtain ⟨a, dx, fs, v, rfl, ha, hl, q⟩ := h
  refine ⟨_, (pss_one (ps_ret (pe_fld (pv 0) rfl))), ?_⟩
  exact ⟨.ref a, rfl, a, cD, dx, fs, v, rfl, ha, T.cl, T.nL, hl, q⟩
def spAsc0 : Sp := fun vs H Q _ => ∃ a : Addr, vs = [.ref a] ∧ H a = some (.dK []) ∧ ∀ (p : Addr) (H' : Hp), H p = none → Same H H' → H' p = some (.tup []) → Q (.ref p) H'
theorem h_ascending (T : Top K mg) : CalH P w K mg base 1 "ascending" spAsc0 := by
  refine calH_of T.d_ascending sc_ascending (fun _ _ _ _ _ _ us hl => match us, hl with | [_], _ => rfl) (fun vs H Q E h => ?_) (fun f cdv A outer s H vs Q E p hr hc h => ?_)
  · obtain ⟨a, rfl, _⟩ := h
    rfl
  · obtain ⟨a, rfl, ha, q⟩ := h
    refine ⟨_, (pss_one (ps_ret (pe_callTy call_tuple_of (by rfl) T.z_tuple (by decide +kernel) (pa_cons (pe_callB (cr_sortedS) (by rfl) T.z_sorted (by decide +kernel) (pa_cons (pe_lock (pe_lc0H (own := [("name", 1)]) hc (pv 0) (blkOk_by (own := [("name", 1)]) (N := ["names", "name"]) (sc := C8.fnScope s_ascending) (by decide +kernel)))) pa_nil)) pa_nil)))), ?_⟩
    refine ⟨a, _, ha, trivial, fun od => ⟨.ref a, rfl, a, od, rfl, upd_same, fun D hD => ?_⟩⟩
    have na : D ≠ a := fun z => by
      rw [z, upd_same] at hD
      cases hD
    have hD' : H D = none := by rw [upd_ne na] at hD; exact hD
    have sm : Same H (upd (upd (upd H a (.frz od (.dK []))) D (.lst [])) a (.dK [])) := fun b o z => by
      by_cases hb : b = a
      · rw [hb, upd_same, ← ha, ← hb, z]
      · rw [upd_ne hb, upd_ne (ne_of_none z hD'), upd_ne hb]
        exact z
    refine ⟨by rw [upd_ne na.symm]; exact upd_same, D, [], rfl, .inl (.inl ?_), by decide, fun ys p hp hs hn => ?_⟩
    · rw [upd_ne na]
      exact upd_same
    · refine ⟨p, _, rfl, .inl ⟨.inl (.inl upd_same), fun l hl => ?_⟩⟩
      have np : H p = none := sm.free hn
      have nl : H l = none := (sm.trans (same_new hn)).free hl
      obtain rfl : ys = [] := List.Perm.eq_nil hp
      exact q l _ nl ((sm.trans (same_new hn)).trans (same_new hl)) upd_same
def spNames0 (cD : Addr) : Sp := fun vs H Q _ => ∃ (a dx d : Addr), vs = [.ref a] ∧ DkAt cD H a dx d ⟨[], none⟩ ∧ ∀ (p : Addr) (H' : Hp), H p = none → Same H H' → H' p = some (.tup []) → Q (.ref p) H'
theorem hm_Disk_names (T : TopD K mg cD cB e iF iO) : MetH P w K mg base 2 cD "names" (spNames0 cD) := by
  refine metH_of T.cl T.d_names sc_Disk_names (fun _ _ _ _ _ _ us hl => match us, hl with | [_], _ => rfl) (fun vs H Q E h => ?_) (fun f cdv A outer s H vs Q E p hr hc h => ?_)
  · obtain ⟨a, dx, d, rfl, _⟩ := h
    rfl
  · obtain ⟨a, dx, d, rfl, hk, q⟩ := h
    obtain ⟨h1, t, h2, h3⟩ := id hk
    refine ⟨_, (pss_one (ps_ret (pe_cH (h_ascending T.toTop) hr (by decide) hc (by rfl) (pa_cons (pe_fld (pv 0) rfl) pa_nil)))), ?_⟩
    obtain rfl : t = [] := List.eq_nil_of_length_eq_zero h3.len
    exact ⟨.ref a, rfl, a, cD, dx, _, _, rfl, h1, T.cl, T.nF, rfl, d, rfl, h2, q⟩
end

end Fk

set_option maxHeartbeats 4000000
namespace Fk
open PySem PySem.Spec PyProof.Rows L2
open LamX
section
variable {P : Program} {w : World} {K : PySem.W.Frag} {mg : Str → Option Value} {base : Heap} {cD cB iF iO : Addr} {e : E4}
theorem fn_ofC {x qual : Str} {st : Stmt} {N ps : List Str} {k : Nat} {sp : Sp} {f cd : Addr} {fd : FuncData} (F : C8.Fun K x qual st f fd) (hc : fd.code = .ref cd) (S : FnScope N ps (C8.fnScope st))
    (len : ∀ vs H Q E, sp vs H Q E → vs.length = ps.length)
    (hbody : ∀ (A : Around) (outer : List Env) (s : Shared) (H : Hp) (vs : List V) (Q : VK) (E : XK), Room k (A.deeper (envOfC qual (C8.fnScope st) s.heap.objs.size f (.ref cd))) → sp vs H Q E →
      ∃ t, PSs (cxOf C8.CX0 P w K mg base N qual (C8.fnScope st) f (.ref cd) A outer s H E).nox (C8.fnBody st) t ∧ t { nx := fun _ H' => Q .non H', rt := Q } (start N vs) H) : FnOk P w K mg base C8.CX0 (k + 1) f fd ps sp := by
  obtain ⟨oc, od, dV, kV, doc, pm, an, cdv, ct, osl, rfl, lk, hcd⟩ := F.ex
  have e2 : cdv = .ref cd := hc
  subst e2
  exact fn_of lk hcd S len fun A outer s H vs Q E hr hsp => by
    obtain ⟨t, h, q⟩ := hbody A outer s H vs Q E hr hsp
    exact ⟨t, h.nox, q⟩
theorem merge_m2 (df : Addr) (l : Option Int) : mergeK [] [((.inr "files" : Key), V.ref df), ((.inr "left" : Key), optI l)] = kT (mT df l) := by
  have e : ((.inr "files" : Key)) ≠ (.inr "left" : Key) := fun z => files_left (Sum.inr.inj z)
  simp [mergeK, kT, mT, putK, e]
theorem tabs_te {qf : Nat → Str} {Ps : List Addr} {H H' : Hp} (t : TabsL qf Ps H) (e1 : ∀ b ps, H b = some (.tbl ps) → H' b = some (.tbl ps)) (e2 : ∀ b φ, H b = some (.ext φ) → H' b = some (.ext φ)) : TabsL qf Ps H' := fun P hP => by
  obtain ⟨ps, h1, h2, h3⟩ := t P hP
  refine ⟨ps, e1 _ _ h1, h2, fun pos cv hc => ?_⟩
  obtain ⟨c, x1, x2⟩ := h3 pos cv hc
  exact ⟨c, x1, e2 _ _ x2⟩
theorem md_frl {cD : Addr} {H H' : Hp} {A dx d m df : Addr} {k k0 : Dk} (h : MdAt H m df k) (g : DkAt cD H A dx d k0) (n : d ≠ m ∧ d ≠ df) (f : FrL [A, d] H H') : MdAt H' m df k := by
  obtain ⟨h1, t, h2, h3, nn⟩ := h
  obtain ⟨g1, t', g2, _⟩ := g
  have no : ∀ b o, H b = some o → b ≠ d → (∀ C x l, o ≠ .ins C x l) → b ∉ [A, d] := fun b o e nd ni => by
    simp only [List.mem_cons, List.not_mem_nil, or_false, not_or]
    exact ⟨fun z => by rw [z, g1] at e; exact ni _ _ _ (Option.some.inj e).symm, nd⟩
  refine ⟨f _ _ (no _ _ h1 n.1.symm fun _ _ _ z => nomatch z) h1, t, f _ _ (no _ _ h2 n.2.symm fun _ _ _ z => nomatch z) h2, h3.keep fun b xs e => f _ _ (no _ _ e (fun z => by rw [z, g2] at e; cases e) fun _ _ _ z => nomatch z) e, nn⟩
theorem dk_frl {cD : Addr} {H H' : Hp} {A dx d m df : Addr} {k k0 : Dk} (g : DkAt cD H A dx d k) (h : MdAt H m df k0) (n : d ≠ m ∧ d ≠ df) (f : FrL [m, df] H H') : DkAt cD H' A dx d k := by
  obtain ⟨h1, t, h2, h3, nn⟩ := h
  obtain ⟨g1, t', g2, g3⟩ := g
  have no : ∀ b o, H b = some o → (∀ l, o ≠ .dK l) → b ∉ [m, df] := fun b o e ni => by
    simp only [List.mem_cons, List.not_mem_nil, or_false, not_or]
    exact ⟨fun z => by rw [z, h1] at e; exact ni _ (Option.some.inj e).symm, fun z => by rw [z, h2] at e; exact ni _ (Option.some.inj e).symm⟩
  exact ⟨f _ _ (no _ _ g1 fun _ z => nomatch z) g1, t', f _ _ (by simp only [List.mem_cons, List.not_mem_nil, or_false, not_or]; exact n) g2, g3.keep fun b xs e => f _ _ (no _ _ e fun _ z => nomatch z) e⟩
def spLawT (K : PySem.W.Frag) (P1 P2 : Addr) : Sp := fun vs H Q _ => ∃ (a : Addr) (zs : List Int), vs = [.ref a] ∧ SqL K H a (zs.map V.int) ∧ zs.length ≤ 63 ∧ TabsL qfL [P1, P2] H ∧ ∀ H', Q (.bl true) H'
set_option pp.maxSteps 400 in
theorem ok_law (T : TopD K mg cD cB e iF iO) {cd1 cd P1 P2 : Addr} (TB1 : TabB base mg cd1 P1) (D1 : IsDefC K mg "_law_refusals_right" s_l_refusals_right cd1) (TB : TabB base mg cd P2) {f : Addr} {fd : FuncData} (F : C8.Fun K "law" "law" s_law f fd) (hc : fd.code = .ref cd) : FnOk P w K mg base C8.CX0 10 f fd ["_law_script"] (spLawT K P1 P2) := by
  refine fn_ofC F hc sc_law (fun vs H Q E h => ?_) (fun A outer s H vs Q E hr h => ?_)
  · obtain ⟨a, zs, rfl, _⟩ := h
    rfl
  · obtain ⟨a, zs, rfl, hS, hlen, tb, q⟩ := h
    refine ⟨_, (C8.pss_cut (ps_for PassesOwn.never rfl (pi_list (pe_op op_cat (pe_lst (pa_cons (C8.pe_c (c_l_cell_at T.toTop) hr (by decide) (by rfl) (pa_cons (pv 0) (pa_cons pe_int pa_nil))) pa_nil)) (pe_slice sl_list (pv 0) (po_some pe_int) (po_some pe_int)))) (pg_name (i := 1) sc_law.nd rfl (Or.inl rfl))
      (pss_cons (ps_set (i := 2) sc_law.nd rfl (Or.inl rfl) (C8.pe_c (c_l_well T.toTop) hr (by decide) (by rfl) (pa_cons (pv 1) pa_nil)))
      (pss_cons (ps_set (i := 3) sc_law.nd rfl (Or.inl rfl) (C8.pe_c (c_l_pick T.toTop) hr (by decide) (by rfl) (pa_cons (pv 2) (pa_cons (pe_lst (pa_cons pe_non (pa_cons pe_non (pa_cons pe_int (pa_cons pe_int (pa_cons (C8.pe_c (c_l_draw T.toTop) hr (by decide) (by rfl) (pa_cons (pv 2) (pa_cons pe_int pa_nil))) pa_nil)))))) pa_nil))))
      (pss_cons (ps_asg (pe_tup (pa_cons (pe_mkK0 (k_Disk_0_left T) hr (by decide) (by rfl) (pk_cons (pv 3) pk_nil)) (pa_cons (pe_disp (pps_cons pe_str pe_dnewK (pps_cons pe_str (pv 3) pps_nil)) (by rfl) (by rfl) (fun z => by cases z) (by decide)) pa_nil))) (pg_tup rfl (pgs_cons (pg_name (i := 4) sc_law.nd rfl (Or.inr rfl)) (pgs_cons (pg_name (i := 5) sc_law.nd rfl (Or.inl rfl)) pgs_nil))))
      (C8.pss_cut (ps_for PassesOwn.never rfl (pi_range1 (by rfl) T.z_range (pa_cons (pe_op op_add pe_int (C8.pe_c (c_l_draw T.toTop) hr (by decide) (by rfl) (pa_cons (pv 2) (pa_cons pe_int pa_nil)))) pa_nil)) (pg_name (i := 6) sc_law.nd rfl (Or.inl rfl))
      (pss_cons (ps_set (i := 7) sc_law.nd rfl (Or.inl rfl) (C8.pe_c (c_l_deed T) hr (by decide) (by rfl) (pa_cons (pv 2) pa_nil)))
      (C8.pss_cut (ps_if (PW.pt (pw_or (pt_cmpR (op_neTFK (K := K) rfl hr.units) (C8.pe_c (c_l_did T) hr (by decide) (by rfl) (pa_cons (pv 4) (pa_cons (pv 7) pa_nil))) (C8.pe_c (c_l_due T) hr (by decide) (by rfl) (pa_cons (pv 5) (pa_cons (pv 7) pa_nil))) (nomark _)) (pw_or1 (pt_not (pt_val (C8.pe_c (c_l_same T) hr (by decide) (by rfl) (pa_cons (pv 4) (pa_cons (pv 5) pa_nil))))))))
      (pss_one (ps_ret pe_bl))
      pss_nil)
      (C8.pss_cut (ps_if (PW.pt (pw_and (pt_cmpR op_eq (C8.pe_c (c_l_draw T.toTop) hr (by decide) (by rfl) (pa_cons (pv 2) (pa_cons pe_int pa_nil))) pe_int (nomark _)) (pw_and1 (pt_not (pt_val (C8.pe_c (c_l_refusals_right (P2 := P2) T TB1 D1) hr (by decide) (by rfl) (pa_cons (pv 2) (pa_cons (pv 4) (pa_cons (pv 5) pa_nil)))))))))
      (pss_one (ps_ret pe_bl))
      pss_nil)
      (pss_cons (ps_set (i := 8) sc_law.nd rfl (Or.inl rfl) (C8.pe_c (c_l_draw T.toTop) hr (by decide) (by rfl) (pa_cons (pv 2) (pa_cons pe_int pa_nil))))
      (pss_cons (ps_set (i := 9) sc_law.nd rfl (Or.inl rfl) (pe_op op_mulW (C8.pe_c (c_l_draw T.toTop) hr (by decide) (by rfl) (pa_cons (pv 2) (pa_cons (pe_op op_pow pe_int pe_int) pa_nil))) (C8.pe_c (c_l_pick T.toTop) hr (by decide) (by rfl) (pa_cons (pv 2) (pa_cons (pe_lst (pa_cons pe_int (pa_cons pe_int (pa_cons pe_int (pa_cons (pe_op op_add (pe_op op_pow pe_int pe_int) pe_int) pa_nil))))) pa_nil)))))
      (pss_one (ps_if (pt_cmpR op_eq (pv 8) pe_int (nomark _))
      (pss_cons (ps_dput (hu_of hr) (pv 5) pe_str (C8.pe_c (c_l_pick T.toTop) hr (by decide) (by rfl) (pa_cons (pv 2) (pa_cons (pe_lst (pa_cons pe_non (pa_cons pe_int (pa_cons pe_int (pa_cons (pe_op op_pow pe_int pe_int) pa_nil))))) pa_nil))) rfl)
      (pss_one (ps_expr (pe_mx (E := fun _ _ _ _ => False) (m_Disk_limit T) hr (by decide) (fun _ => passNo) (pv 4) (pa_cons (pe_dget (hu_of hr) (pv 5) pe_str (fun _ _ => rfl)) pa_nil)))))
      (pss_one (ps_if (pt_cmpR op_lt (pv 8) pe_int (nomark _))
      (pss_cons (ps_par (i := 10) (j := 11) rfl sc_law.nd rfl rfl (by decide) rfl rfl (pa_cons (C8.pe_mt (m_Disk_crashed T) hr (by decide) (pv 4) (pa_cons (pv 9) pa_nil)) (pa_cons (C8.pe_c (c_l_after T) hr (by decide) (by rfl) (pa_cons (pv 5) (pa_cons (pv 9) pa_nil))) pa_nil)) rfl)
      (pss_cons (ps_if (PW.pt (pw_or (pt_not (pt_val (C8.pe_c (c_l_same T) hr (by decide) (by rfl) (pa_cons (pv 10) (pa_cons (pv 11) pa_nil))))) (pw_or1 (pt_not (pt_val (C8.pe_c (c_l_same T) hr (by decide) (by rfl) (pa_cons (pv 4) (pa_cons (pv 5) pa_nil))))))))
      (pss_one (ps_ret pe_bl))
      pss_nil)
      (pss_one (ps_if (pt_cmpR op_eq (pv 8) pe_int (nomark _))
      (pss_one (ps_asg (pe_tup (pa_cons (pv 10) (pa_cons (pv 11) pa_nil))) (pg_tup rfl (pgs_cons (pg_name (i := 4) sc_law.nd rfl (Or.inr rfl)) (pgs_cons (pg_name (i := 5) sc_law.nd rfl (Or.inl rfl)) pgs_nil)))))
      pss_nil))))
      pss_nil))))))))))
      (pss_cons (ps_set (i := 12) sc_law.nd rfl (Or.inr rfl) (C8.pe_c (c_l_pick T.toTop) hr (by decide) (by rfl) (pa_cons (pv 2) (pa_cons (pe_lst (pa_cons (pe_un un_neg pe_int) (pa_cons pe_bl (pa_cons pe_non (pa_cons pe_str (pa_cons (pe_tup (pa_cons pe_int pa_nil)) pa_nil)))))) pa_nil))))
      (pss_cons (ps_if (PW.pt (pw_or (pt_not (pt_val (pe_askX (k := 6) T.d_l_refused sc_l_refused (fun _ _ _ _ _ _ us hl => match us, hl with | [_], _ => rfl) (by rfl) rfl (.inl rfl) (fun g cdg => refused_gives T) hr (by decide) (pe_lamL (qf := qfL) (Ps := [P1, P2]) (k := 6) TB rfl (List.mem_cons_of_mem _ List.mem_cons_self) rfl (show LamS (C8.fnScope s_law) _ from lamS_by (by decide +kernel)) rfl (fun _ _ _ _ _ => rfl) (fun A outer s H E f c2 hr2 => (pe_mx (m_Disk_crashedN T) hr2 (by decide) (fun _ => passAt takes_lam _) (pv 4) (pa_cons (pv 12) pa_nil))))))) (pw_or1 (pt_not (pt_val (C8.pe_c (c_l_same T) hr (by decide) (by rfl) (pa_cons (pv 4) (pa_cons (pv 5) pa_nil))))))))
      (pss_one (ps_ret pe_bl))
      pss_nil)
      (pss_one (ps_if (PW.pt (pw_and (pt_cmpR op_notN (pv 12) pe_non (nomark _)) (pw_and1 (pt_not (pt_val (pe_askX (k := 6) T.d_l_refused sc_l_refused (fun _ _ _ _ _ _ us hl => match us, hl with | [_], _ => rfl) (by rfl) rfl (.inl rfl) (fun g cdg => refused_gives T) hr (by decide) (pe_lamL (qf := qfL) (Ps := [P1, P2]) (k := 6) TB rfl (List.mem_cons_of_mem _ List.mem_cons_self) rfl (show LamS (C8.fnScope s_law) _ from lamS_by (by decide +kernel)) rfl (fun _ _ _ _ _ => rfl) (fun A outer s H E f c2 hr2 => (pe_mkKX0 (k_DiskX T) hr2 (by decide) (by rfl) (passes_call takes_lam fun _ _ _ _ h => h) (pk_cons (pv 12) pk_nil))))))))))
      (pss_one (ps_ret pe_bl))
      pss_nil)))))))))
      (pss_one (L2H.ps_try_onlyX rfl rfl ⟨rfl, by decide, .inl T.eN.mgc⟩ (fun _ _ _ z => z.elim) takes_none5 (fun W pn xe tk _ _ =>
      (pss_cons (ps_expr (pe_mx (m_Disk_writeH T) hr (by decide) (fun σ => L2N.passAt tk σ) (pe_mk0 (k_Disk T) hr (by decide) (by rfl)) (pa_cons pe_str (pa_cons pe_str pa_nil))))
      (pss_one (ps_ret pe_bl)))) (fun a oe cls d pn hz hf tks hot =>
      (pss_one (ps_ret (pe_and (pe_cmpR (op_eq00 (RoomH.units (L2H.roomH_mark hr _))) (pe_mtH0 (hm_Disk_names T) (L2H.roomH_mark hr _) (by decide) hot (pe_mkH0 (h_Disk T) (L2H.roomH_mark hr _) (by decide) hot (by rfl))) (pe_tup pa_nil) (nomark _)) (pe_one (pe_cmpR op_isN (pe_prH (hp_Disk_left T) (L2H.roomH_mark hr _) (by decide) hot (pe_mkH0 (h_Disk T) (L2H.roomH_mark hr _) (by decide) hot (by rfl))) pe_non (nomark _)))))))))), ?_⟩
    refine ⟨fun σ H' => True, ?cells, fun σ' H' _ => ?last⟩
    case last =>
      refine fun A0 dx hA hdx nd => ⟨A0, dx, none, rfl, upd_same, (fun n z => nomatch z), fun d H8 hd f8 k8 => ⟨rfl, A0, dx, _, rfl, k8.1, rfl, A0, "a", "text", rfl, fun dd y H9 s9 h9 => ?_⟩⟩
      refine ⟨true, T.ex 0 0 (by decide) (by decide), fun _ ax nax => ?_, fun z => nomatch z⟩
      refine fun A1 dx1 hA1 hdx1 nd1 => ⟨A1, dx1, rfl, upd_same, fun d1 H10 hd1 f1 k1 => ⟨rfl, A1, dx1, _, rfl, k1.1, rfl, A1, dx1, d1, rfl, k1, fun p11 H11 hp11 s11 ht11 => ⟨(by show 0 ≤ sizeLine; decide), fun q12 hq12 => ?_⟩⟩⟩
      refine ⟨p11, q12, rfl, rfl, by rw [upd_ne (ne_of_none ht11 hq12)]; exact ht11, upd_same, true, rfl, ?_⟩
      refine fun A2 dx2 hA2 hdx2 nd2 => ⟨A2, dx2, rfl, upd_same, fun d2 H13 hd2 f2 k2 => ⟨rfl, A2, dx2, _, rfl, k2.1, A2, dx2, _, .non, rfl, k2.1, rfl, rfl, ?_⟩⟩
      exact q _
    refine ⟨.ref a, rfl, a, zs, 0, rfl, hS, fun v => ⟨(by show 1 ≤ sizeLine; decide), fun p1 n1 => ?_⟩⟩
    have s2 := same_new (o := .lst [V.int v]) n1
    have h1 : (upd H p1 (.lst [V.int v])) p1 = some (.lst [V.int v]) := upd_same
    generalize upd H p1 (.lst [V.int v]) = H2 at s2 h1 ⊢
    refine ⟨.ref a, rfl, 1, rfl, 5, rfl, a, zs.map V.int, rfl, s2.seq hS, fun p2 n2 => ?_⟩
    have s3 := same_new (o := .lst (cutV (zs.map V.int) (some 1) (some 5))) n2
    have h2 : (upd H2 p2 (.lst (cutV (zs.map V.int) (some 1) (some 5)))) p2 = some (.lst (cutV (zs.map V.int) (some 1) (some 5))) := upd_same
    generalize upd H2 p2 (.lst (cutV (zs.map V.int) (some 1) (some 5))) = H3 at s3 h2 ⊢
    refine ⟨p1, p2, _, _, rfl, rfl, s3 _ _ h1, h2, ?_, fun L nLL => ?_⟩
    · have := cutV_length (zs.map V.int) (some 1) (some 5)
      rw [List.length_map] at this
      exact small_line (by simp only [List.length_cons, List.length_nil]; omega)
    have s4 := same_new (o := .lst ([V.int v] ++ cutV (zs.map V.int) (some 1) (some 5))) nLL
    have h4 : (upd H3 L (.lst ([V.int v] ++ cutV (zs.map V.int) (some 1) (some 5)))) L = some (.lst ([V.int v] ++ cutV (zs.map V.int) (some 1) (some 5))) := upd_same
    generalize upd H3 L (.lst ([V.int v] ++ cutV (zs.map V.int) (some 1) (some 5))) = H4 at s4 h4 ⊢
    refine ⟨L, rfl, ⟨_, SqL.of h4⟩, ?_⟩
    have tb4 := tb.same ((s2.trans s3).trans s4)
    refine forG (items := [V.int v] ++ cutV (zs.map V.int) (some 1) (some 5)) yields_list (fun i σ H' => H' L = some (.lst ([V.int v] ++ cutV (zs.map V.int) (some 1) (some 5))) ∧ TabsL qfL [P1, P2] H' ∧ ∃ z1 z2 z3 z4 z5 z6 z7 z8 z9 z10 z11 z12, σ = [some (.ref a), z1, z2, z3, z4, z5, z6, z7, z8, z9, z10, z11, z12])
      ⟨h4, tb4, none, none, none, none, none, none, none, none, none, none, none, none, rfl⟩ (fun i σ H' I => SqL.of I.1) (fun i x σ H' hi I => ?_) (fun σ H' I => trivial)
    obtain ⟨hL, tb, z1, z2, z3, z4, z5, z6, z7, z8, z9, z10, z11, z12, rfl⟩ := I
    obtain ⟨n, rfl⟩ : ∃ n, x = .int n := by
      have h := List.mem_of_getElem? hi
      rcases List.mem_append.mp h with h | h
      · exact ⟨v, List.mem_singleton.mp h⟩
      · have e : ∃ m : List Int, cutV (zs.map V.int) (some 1) (some 5) = m.map V.int := by
          unfold cutV
          rw [← List.map_drop, ← List.map_take]
          exact ⟨_, rfl⟩
        obtain ⟨m, e⟩ := e
        rw [e] at h
        obtain ⟨n, _, rfl⟩ := List.mem_map.mp h
        exact ⟨n, rfl⟩
    refine ⟨.int n, rfl, n, rfl, fun H5 W nW s5 w5 => ?_⟩
    have LW : L ≠ W := fun e => by rw [← e, hL] at nW; cases nW
    have tb5 := tb.same s5
    have hL5 := s5 _ _ hL
    refine ⟨.ref W, rfl, .ref W, rfl, do_draw w5 (by decide) (by decide) (by decide) fun r hr20 H6 c6 f6 w6 l6 m6 => ⟨(by show 5 ≤ sizeLine; decide), fun b6 hb6 => ?_⟩⟩
    refine do_pick (w6.new hb6) upd_same (w6.ne hb6) (by show 0 < 5; decide) (by show 5 < 1000000; decide) (by omega) fun room hroom H7 c7 f7 w7 l7 m7 => ?_
    obtain ⟨l0, rfl, hl0⟩ : ∃ l0 : Option Int, room = optI l0 ∧ ∀ n, l0 = some n → 0 ≤ n := by
      simp only [List.mem_cons, List.not_mem_nil, or_false] at hroom
      rcases hroom with rfl | rfl | rfl | rfl | rfl
      · exact ⟨none, rfl, fun n z => nomatch z⟩
      · exact ⟨none, rfl, fun n z => nomatch z⟩
      · exact ⟨some 0, rfl, fun n z => by cases z; decide⟩
      · exact ⟨some 1, rfl, fun n z => by cases z; decide⟩
      · exact ⟨some r, rfl, fun n z => by cases z; omega⟩
    have F57 : Kq W H5 H7 := (Kq.fr f6).trans ((Kq.same (same_new hb6)).trans (Kq.fr f7))
    have nlW : ∀ {Ha : Hp} {z : Int}, Wl Ha W z → ∀ b o, (∀ l, o ≠ .lst l) → Ha b = some o → b ≠ W := fun h b o nl e y => by
      obtain ⟨_, x, y', h⟩ := h
      rw [y, h] at e
      exact nl _ (Option.some.inj e).symm
    have tbF : ∀ {Ha Hb : Hp} {z : Int}, TabsL qfL [P1, P2] Ha → Wl Ha W z → Fr W Ha Hb → TabsL qfL [P1, P2] Hb := fun t h f => t.ext fun b o nl _ e => f b o (nlW h b o nl e) e
    have tb7 : TabsL qfL [P1, P2] H7 := tbF ((tbF tb5 w5 f6).same (same_new hb6)) (w6.new hb6) f7
    refine ⟨optI l0, rfl, rfl, rfl, fun A0 dx hA hdx nd => ⟨A0, dx, l0, rfl, upd_same, hl0, fun d H8 hd f8 k8 => ⟨rfl, ?_⟩⟩⟩
    have s8 : Same H7 H8 := fun b o z => by
      have n1 := ne_of_none z hA
      exact f8 b o n1 (by rw [upd_ne n1, upd_ne (ne_of_none z hdx)]; exact z)
    intro m hm
    intro df hdf
    refine ⟨optI l0, rfl, ?_⟩
    have nmdf : m ≠ df := fun z => by rw [z, upd_same] at hdf; cases hdf
    have sm := same_new (o := .dK []) hm
    have sdf := same_new (o := .dK []) hdf
    have gm : (upd (upd H8 m (.dK [])) df (.dK [])) m = some (.dK []) := sdf _ _ upd_same
    refine ⟨gm, [(.inr "files", .ref df), (.inr "left", optI l0)], rfl, (by show 2 ≤ 15; decide), ?_⟩
    rw [merge_m2]
    have SH : Same H8 (upd (upd (upd H8 m (.dK [])) df (.dK [])) m (.dK (kT (mT df l0)))) := fun b o z => by
      rw [upd_ne (ne_of_none z hm)]
      exact sdf _ _ (sm _ _ z)
    have md9 : MdAt (upd (upd (upd H8 m (.dK [])) df (.dK [])) m (.dK (kT (mT df l0)))) m df ⟨[], l0⟩ := ⟨upd_same, [], by rw [upd_ne nmdf.symm]; exact upd_same, .nil, nmdf⟩
    have dk9 := k8.same SH
    have w9 := (w7.same s8).same SH
    have tb9 := (tb7.same s8).same SH
    have K59 : Kq W H5 (upd (upd (upd H8 m (.dK [])) df (.dK [])) m (.dK (kT (mT df l0)))) := F57.trans (Kq.same (s8.trans SH))
    generalize upd (upd (upd H8 m (.dK [])) df (.dK [])) m (.dK (kT (mT df l0))) = H9 at md9 dk9 w9 tb9 K59 ⊢
    refine ⟨(by show 2 ≤ sizeLine; decide), fun tp htp => ⟨tp, _, rfl, SqT.of upd_same, rfl, .ref A0, _, rfl, .ref m, _, rfl, rfl, ?_⟩⟩
    have st := same_new (o := .tup [.ref A0, .ref m]) htp
    have md10 := md9.same st
    have dk10 := dk9.same st
    have w10 := w9.same st
    have tb10 := tb9.same st
    have K510 := K59.trans (Kq.same st)
    generalize upd H9 tp (.tup [.ref A0, .ref m]) = H10 at md10 dk10 w10 tb10 K510 ⊢
    have ndd : d ≠ m ∧ d ≠ df := by
      obtain ⟨_, t0, y2, _⟩ := k8
      refine ⟨fun z => ?_, fun z => ?_⟩
      · rw [← z, y2] at hm
        cases hm
      · have := sm _ _ y2
        rw [z, hdf] at this
        cases this
    have hL10 : H10 L = some (.lst ([V.int v] ++ cutV (zs.map V.int) (some 1) (some 5))) := K510 _ _ LW (fun ps z => nomatch z) hL5
    refine ⟨fun σ H' => ∃ (A m dx d df : Addr) (k : Dk) (c' : Int) (z6 z7 z8 z9 z10 z11 z12 : Option V), σ = [some (.ref a), some (.int n), some (.ref W), some (optI l0), some (.ref A), some (.ref m), z6, z7, z8, z9, z10, z11, z12] ∧ H' L = some (.lst ([V.int v] ++ cutV (zs.map V.int) (some 1) (some 5))) ∧ TabsL qfL [P1, P2] H' ∧ Wl H' W c' ∧ 0 ≤ c' ∧ c' ≤ 10000 ∧ DkAt cD H' A dx d k ∧ MdAt H' m df k ∧ (d ≠ m ∧ d ≠ df) ∧ OkDk NM 40 k, ?loop, ?rest⟩
    case rest =>
      rintro σ' H11 ⟨A, m, dx, d, df, k, c', z6, z7, z8, z9, z10, z11, z12, rfl, hL11, tb11, w11, c0, c1, hk, hm, nd, ok⟩
      refine ⟨.ref W, rfl, _, rfl, (by show 1 ≤ sizeLine; decide), fun p8 h8 => ⟨(by show 5 ≤ sizeLine; decide), fun b8 hb8 => ?_⟩⟩
      have u8 := same_new (o := .tup [.int 1]) h8
      have ub := same_new (o := .lst [V.int (-1), .bl true, .non, .str "1", .ref p8]) hb8
      have w12 := w11.same u8
      have n8 : p8 ≠ W := w11.ne h8
      refine do_pick (w12.same ub) upd_same (w12.ne hb8) (by show 0 < 5; decide) (by show 5 < 1000000; decide) (by omega) fun bad hbad J9 c9 f9 w9 l9 m9 => ?_
      have K9 : Kq W H11 J9 := (Kq.same (u8.trans ub)).trans (Kq.fr f9)
      have x8 := f9 _ _ n8 (ub p8 (.tup [.int 1]) upd_same)
      have tb9' := tbF ((tb11.same u8).same ub) (w12.same ub) f9
      have bd : ∀ Hz, Kq W J9 Hz → (∃ n : Int, bad = .int n ∧ n < 0) ∨ NoInt K Hz bad := fun Hz kz => by
        simp only [List.mem_cons, List.not_mem_nil, or_false] at hbad
        rcases hbad with rfl | rfl | rfl | rfl | rfl
        · exact .inl ⟨-1, rfl, by decide⟩
        · exact .inr ⟨"bool", by decide, .base (.bl _)⟩
        · exact .inr ⟨"NoneType", by decide, .base .non⟩
        · exact .inr ⟨"str", by decide, .base (.str _)⟩
        · exact .inr ⟨"tuple", by decide, .base (.tup (kz _ _ n8 (fun ps z => nomatch z) x8))⟩
      refine ⟨tb9', fun f8 H13 eN8 tb13 nf8 af8 => ⟨f8, _, rfl, af8, ?_⟩⟩
      have K13 : Kq W H11 H13 := K9.trans (Kq.extN eN8)
      have hk13 := dk_kq hk w11 K13
      have hm13 := md_kq hm w11 K13
      have w13 : Wl H13 W c9 := w9.ext eN8
      refine ⟨.ref A, rfl, A, dx, _, rfl, hk13.1, rfl, bad, rfl, A, bad, rfl, bd H13 (Kq.extN eN8), fun dd y' H14 s14 h14 => ⟨rfl, ?_⟩⟩
      refine ⟨_, rfl, ifF (fun z => by cases z) ?_⟩
      refine ⟨.ref A, rfl, .ref m, rfl, A, dx, d, m, df, k, rfl, hk13.same s14, hm13.same s14, (by have := ok.len; omega), ok.nm, fun H15 s15 => ⟨_, rfl, iteF ?_⟩⟩
      have K15 : Kq W J9 H15 := (Kq.extN eN8).trans (Kq.same (s14.trans s15))
      have tb15 := tb13.same (s14.trans s15)
      have hL15 : H15 L = some (.lst ([V.int v] ++ cutV (zs.map V.int) (some 1) (some 5))) := (K9.trans K15) L _ LW (fun ps z => nomatch z) hL11
      have w15 := w13.same (s14.trans s15)
      by_cases nb : bad = .non
      · subst nb
        refine ⟨.non, rfl, rfl, _, rfl, ifF (fun z => by cases z) ?_⟩
        exact ⟨hL15, tb15, some (.int n), some (.ref W), some (optI l0), some (.ref A), some (.ref m), z6, z7, z8, z9, z10, z11, some .non, rfl⟩
      · refine ⟨bad, rfl, rfl, _, rfl, ifT (by rw [decide_eq_false nb]; rfl) ?_⟩
        refine ⟨tb15, fun f9' H16 eN16 tb16 nf9 af9 => ⟨f9', _, rfl, af9, ?_⟩⟩
        have K16 : Kq W J9 H16 := K15.trans (Kq.extN eN16)
        have w16 : Wl H16 W c9 := w15.ext eN16
        refine ⟨bad, rfl, rfl, rfl, fun x0 dx0 hx0 hdx0 nd0 => ⟨x0, dx0, bad, rfl, upd_same, fun H17 f17 => ?_⟩⟩
        have SX : Same H16 H17 := fun b o z => f17 b o (ne_of_none z hx0) (by rw [upd_ne (ne_of_none z hx0), upd_ne (ne_of_none z hdx0)]; exact z)
        refine ⟨bd H17 (K16.trans (Kq.same SX)), nb, fun dd2 y2 H18 s18 h18 => ⟨rfl, ?_⟩⟩
        refine ⟨_, rfl, iteF ?_⟩
        have K18 : Kq W H15 H18 := (Kq.extN eN16).trans (Kq.same (SX.trans s18))
        have hL18 : H18 L = some (.lst ([V.int v] ++ cutV (zs.map V.int) (some 1) (some 5))) := K18 L _ LW (fun ps z => nomatch z) hL15
        exact ⟨hL18, tb16.same (SX.trans s18), some (.int n), some (.ref W), some (optI l0), some (.ref A), some (.ref m), z6, z7, z8, z9, z10, z11, some bad, rfl⟩
    refine ⟨.ref W, rfl, do_draw w10 (by decide) (by decide) (by omega) fun r hr26 H11 c11 f11 w11 l11 m11 => ⟨5, r, rfl, rfl, _, rfl, by omega, by omega, ?_⟩⟩
    have K11 : Kq W H10 H11 := Kq.fr f11
    refine forG yields_range (fun i σ H' => ∃ (A m dx d df : Addr) (k : Dk) (c' : Int) (z6 z7 z8 z9 z10 z11 z12 : Option V), σ = [some (.ref a), some (.int n), some (.ref W), some (optI l0), some (.ref A), some (.ref m), z6, z7, z8, z9, z10, z11, z12] ∧ H' L = some (.lst ([V.int v] ++ cutV (zs.map V.int) (some 1) (some 5))) ∧ TabsL qfL [P1, P2] H' ∧ Wl H' W c' ∧ 0 ≤ c' ∧ c' ≤ c11 + 40 * i ∧ DkAt cD H' A dx d k ∧ MdAt H' m df k ∧ (d ≠ m ∧ d ≠ df) ∧ OkDk NM i k) ⟨A0, m, dx, d, df, ⟨[], l0⟩, c11, z6, z7, z8, z9, z10, z11, z12, rfl, K11 _ _ LW (fun ps z => nomatch z) hL10, tbF tb10 w10 f11, w11, by omega, by omega, dk_kq dk10 w10 K11, md_kq md10 w10 K11, ndd, .of (Nat.zero_le _) (fun p hp => nomatch hp) hl0⟩ (fun _ _ _ _ => trivial) (fun i x σ H' hx I => ?_) (fun σ H' I => ?_)
    · obtain ⟨A, m, dx, d, df, k, c', z6, z7, z8, z9, z10, z11, z12, rfl, hL', tb', w', c0, c1, hk, hm, nd, ok⟩ := I
      have hi := (List.getElem?_eq_some_iff.mp hx).1
      rw [List.length_map, List.length_range] at hi
      have hi31 : i < 31 := by omega
      refine ⟨.ref W, rfl, W, c', rfl, w', by omega, fun p dd l H12 c12 f12 w12 l12 m12 np hp hdl hren hwr => ?_⟩
      have K12 : Kq W H' H12 := Kq.fr f12
      have hk12 := dk_kq hk w' K12
      have hm12 := md_kq hm w' K12
      have tb12 := tbF tb' w' f12
      have hL12 := f12 _ _ LW hL'
      have din : DeedIn NM dd := by
        cases dd with
        | write x b => exact ⟨hwr x b rfl, Nat.le_trans hdl.2 (by decide)⟩
        | rename x y => exact hren x y rfl
        | sync x => trivial
        | remove x => trivial
        | read x => trivial
      refine ⟨fun σ H' => σ = [some (.ref a), some (.int n), some (.ref W), some (optI l0), some (.ref A), some (.ref m), some x, some (.ref p), z8, z9, z10, z11, z12] ∧ H' L = some (.lst ([V.int v] ++ cutV (zs.map V.int) (some 1) (some 5))) ∧ TabsL qfL [P1, P2] H' ∧ Wl H' W c12 ∧ DkAt cD H' A dx d (doDeed dd k).2 ∧ MdAt H' m df (doDeed dd k).2, ?first, ?rest⟩
      case rest =>
        rintro σ' H13 ⟨rfl, hL13, tb13, w13, hk13, hm13⟩
        have ok2 := ok.deed dd din
        generalize (doDeed dd k).2 = k2 at hk13 hm13 ok2
        refine ⟨fun σ H' => σ = [some (.ref a), some (.int n), some (.ref W), some (optI l0), some (.ref A), some (.ref m), some x, some (.ref p), z8, z9, z10, z11, z12] ∧ H' L = some (.lst ([V.int v] ++ cutV (zs.map V.int) (some 1) (some 5))) ∧ TabsL qfL [P1, P2] H' ∧ (∃ c'', Wl H' W c'' ∧ c12 ≤ c'' ∧ c'' ≤ c12 + 22) ∧ DkAt cD H' A dx d k2 ∧ MdAt H' m df k2, ?first2, ?rest2⟩
        case rest2 =>
          rintro σ' H16 ⟨rfl, hL16, tb16, ⟨c16, w16, l16, m16⟩, hk16, hm16⟩
          refine ⟨.ref W, rfl, do_draw w16 (by decide) (by decide) (by omega) fun r8 hr8 H17 c17 f17 w17 l17 m17 => ?_⟩
          refine ⟨.ref W, rfl, 3, 5, rfl, rfl, ⟨by decide, by decide, by decide⟩, do_draw w17 (by decide) (by decide) (by omega) fun r3 hr3 H18 c18 f18 w18 l18 m18 => ?_⟩
          refine ⟨.ref W, rfl, 10, 20, rfl, rfl, ⟨by decide, by decide, by decide⟩, _, _, rfl, rfl, (by show 4 ≤ sizeLine; decide), fun b9 hb9 => do_pick (w18.new hb9) upd_same (w18.ne hb9) (by show 0 < 4; decide) (by show 4 < 1000000; decide) (by omega) fun mu hmu H19 c19 f19 w19 l19 m19 => ?_⟩
          have K19 : Kq W H16 H19 := (Kq.fr f17).trans ((Kq.fr f18).trans ((Kq.same (same_new hb9)).trans (Kq.fr f19)))
          have hk19 := dk_kq hk16 w16 K19
          have hm19 := md_kq hm16 w16 K19
          have hL19 := f19 _ _ LW ((same_new hb9) _ _ (f18 _ _ LW (f17 _ _ LW hL16)))
          have tb19 := tbF ((tbF (tbF tb16 w16 f17) w17 f18).same (same_new hb9)) (w18.new hb9) f19
          obtain ⟨j9, rfl, hj9, hj0⟩ : ∃ j9 : Int, mu = .int j9 ∧ j9.natAbs.log2 < 100 ∧ 0 ≤ j9 := by
            simp only [List.mem_cons, List.not_mem_nil, or_false] at hmu
            rcases hmu with rfl | rfl | rfl | rfl
            · exact ⟨0, rfl, by decide +kernel, by decide⟩
            · exact ⟨1, rfl, by decide +kernel, by decide⟩
            · exact ⟨1, rfl, by decide +kernel, by decide⟩
            · exact ⟨_, rfl, by decide +kernel, by decide +kernel⟩
          have hlog : ((r3 : Int)).natAbs.log2 < 100 := by
            have h : ∀ r : Fin 243, ((r : Nat) : Int).natAbs.log2 < 100 := by decide +kernel
            have e243 : (3 : Int) ^ Int.toNat 5 = 243 := by decide +kernel
            rw [e243] at hr3
            exact h ⟨r3, by omega⟩
          refine ⟨r3, j9, rfl, rfl, (by show _ + _ < _; omega), ?_⟩
          have hmask : 0 ≤ (r3 : Int) * j9 := Int.mul_nonneg (by omega) hj0
          refine ⟨.int r8, rfl, rfl, _, rfl, ite2 (fun way0 => ?_) (fun way1 => ?_)⟩
          · refine ⟨.ref W, rfl, 10, 30, rfl, rfl, ⟨by decide, by decide, by decide⟩, (by show 4 ≤ sizeLine; decide), fun b9' hb9' => do_pick (w19.new hb9') upd_same (w19.ne hb9') (by show 0 < 4; decide) (by show 4 < 1000000; decide) (by omega) fun lv hlv H20 c20 f20 w20 l20 m20 => ?_⟩
            have K20 : Kq W H19 H20 := (Kq.same (same_new hb9')).trans (Kq.fr f20)
            have hk20 := dk_kq hk19 w19 K20
            have hm20 := md_kq hm19 w19 K20
            have tb20 := tbF (tb19.same (same_new hb9')) (w19.new hb9') f20
            have hL20 := f20 _ _ LW ((same_new hb9') _ _ hL19)
            obtain ⟨l', rfl, hl'⟩ : ∃ l' : Option Int, lv = optI l' ∧ ∀ n, l' = some n → 0 ≤ n := by
              simp only [List.mem_cons, List.not_mem_nil, or_false] at hlv
              rcases hlv with rfl | rfl | rfl | rfl
              · exact ⟨none, rfl, fun n z => nomatch z⟩
              · exact ⟨some 0, rfl, fun n z => by cases z; decide⟩
              · exact ⟨some 3, rfl, fun n z => by cases z; decide⟩
              · exact ⟨some _, rfl, fun n z => by cases z; decide +kernel⟩
            refine ⟨.ref m, rfl, m, _, rfl, .inl ⟨_, .inr "left", hm20.1, rfl, small_lt (by rw [len_kT]; show 2 ≤ _; omega), rfl⟩, ?_⟩
            rw [putK_kT, putL]
            have fm : FrL [m, df] H20 (upd H20 m (.dK (kT (mT df l')))) := FrL.at (by simp)
            have k21 := dk_frl hk20 hm20 nd fm
            have m21 : MdAt (upd H20 m (.dK (kT (mT df l')))) m df ⟨k2.fs, l'⟩ := by
              obtain ⟨h1, t, h2, h3, nn⟩ := hm20
              exact ⟨upd_same, t, by rw [upd_ne nn.symm]; exact h2, h3.keep (TupKeep.at fun xs z => by rw [h1] at z; cases z), nn⟩
            have nB : ∀ b o, H20 b = some o → (∀ l, o ≠ .dK l) → (upd H20 m (.dK (kT (mT df l')))) b = some o := fun b o e nk => by
              rw [upd_ne (fun z => by rw [z, hm20.1] at e; exact nk _ (Option.some.inj e).symm)]
              exact e
            have tb21 : TabsL qfL [P1, P2] (upd H20 m (.dK (kT (mT df l')))) := tabs_te tb20 (fun b ps e => nB b _ e (fun _ z => nomatch z)) (fun b φ e => nB b _ e (fun _ z => nomatch z))
            have w21 : Wl (upd H20 m (.dK (kT (mT df l')))) W c20 := by
              obtain ⟨y0, y1, y2, y3⟩ := w20
              exact ⟨y0, y1, y2, nB _ _ y3 (fun _ z => nomatch z)⟩
            have hL21 := nB _ _ hL20 (fun _ z => nomatch z)
            generalize upd H20 m (.dK (kT (mT df l'))) = H21 at k21 m21 tb21 w21 hL21 ⊢
            have gl := dget_kT (.inl m21.1) ("left" : Str)
            rw [valL] at gl
            refine ⟨.ref A, rfl, A, dx, _, rfl, k21.1, rfl, .ref m, rfl, m, _, rfl, gl, A, dx, d, k2.left, l', rfl, k21.1, hl', fun H22 f22 e22 => ?_⟩
            have nA : ∀ b o, H21 b = some o → (∀ C x l, o ≠ .ins C x l) → H22 b = some o := fun b o e ni => f22 b o (fun z => by rw [z, k21.1] at e; exact ni _ _ _ (Option.some.inj e).symm) e
            have k22 : DkAt cD H22 A dx d ⟨k2.fs, l'⟩ := by
              obtain ⟨_, t, h2, h3⟩ := k21
              exact ⟨e22, t, nA _ _ h2 (fun _ _ _ z => nomatch z), h3.keep fun b xs e => nA _ _ e (fun _ _ _ z => nomatch z)⟩
            have m22 : MdAt H22 m df ⟨k2.fs, l'⟩ := by
              obtain ⟨h1, t, h2, h3, nn⟩ := m21
              exact ⟨nA _ _ h1 (fun _ _ _ z => nomatch z), t, nA _ _ h2 (fun _ _ _ z => nomatch z), h3.keep (fun b xs e => nA _ _ e (fun _ _ _ z => nomatch z)), nn⟩
            have w22 : Wl H22 W c20 := by
              obtain ⟨y0, y1, y2, y3⟩ := w21
              exact ⟨y0, y1, y2, nA _ _ y3 (fun _ _ _ z => nomatch z)⟩
            have tb22 : TabsL qfL [P1, P2] H22 := tabs_te tb21 (fun b ps e => nA b _ e (fun _ _ _ z => nomatch z)) (fun b φ e => nA b _ e (fun _ _ _ z => nomatch z))
            exact ⟨A, m, dx, d, df, ⟨k2.fs, l'⟩, c20, some x, some (.ref p), some (.int r8), some (.int ((r3 : Int) * j9)), z10, z11, z12, rfl, nA _ _ hL21 (fun _ _ _ z => nomatch z), tb22, w22, by omega, by push_cast; omega, k22, m22, nd, .of ok2.len ok2.okF hl'⟩
          · have sz2 : SzF k2.fs := fun p hp => (ok2.sz p hp).1
            have len64 : k2.fs.length < 64 := by have := ok2.len; omega
            refine ⟨.int r8, rfl, _, _, rfl, rfl, _, rfl, ite2 (fun way3 => ?_) (fun way4 => ?_)⟩
            · refine ⟨.ref A, rfl, A, dx, _, rfl, hk19.1, rfl, .int ((r3 : Int) * j9), rfl, A, dx, d, k2, _, rfl, hk19, hmask, len64, sz2, fun ys hpy hsy A' dx' d' H20 nA' nd' s20 k20 => ?_⟩
              refine ⟨.ref m, rfl, .int ((r3 : Int) * j9), rfl, m, df, k2, _, rfl, hm19.same s20, hmask, len64, sz2, fun zy hpz hsz m' df' H21 nm' ndf' s21 m21 => ?_⟩
              obtain rfl : ys = zy := sort_uniq hsy hsz (hpy.trans hpz.symm)
              have ok3 := ok2.crash hpy ((r3 : Int) * j9)
              refine ⟨.ref A', .ref m', rfl, .ref A', rfl, .ref m', rfl, A', dx', d', m', df', _, rfl, k20.same s21, m21, (by have := ok3.len; omega), ok3.nm, fun H22 s22 => ⟨_, rfl, ifF (fun z => by cases z) ?_⟩⟩
              have s20' := (s20.trans s21).trans s22
              refine ⟨.ref A, rfl, .ref m, rfl, A, dx, d, m, df, k2, rfl, hk19.same s20', hm19.same s20', (by have := ok2.len; omega), ok2.nm, fun H23 s23 => ⟨_, rfl, iteF ?_⟩⟩
              have s23' := s20'.trans s23
              refine ⟨.int r8, rfl, rfl, _, rfl, ite2 (fun way2 => ?_) (fun way5 => ?_)⟩
              · refine ⟨.ref A', rfl, .ref m', rfl, (by show 2 ≤ sizeLine; decide), fun tp htp => ⟨tp, _, rfl, SqT.of upd_same, rfl, .ref A', _, rfl, .ref m', _, rfl, rfl, ?_⟩⟩
                have s24 := s23'.trans (same_new (o := .tup [.ref A', .ref m']) htp)
                have sA := (s21.trans (s22.trans s23)).trans (same_new (o := .tup [.ref A', .ref m']) htp)
                have sM := (s22.trans s23).trans (same_new (o := .tup [.ref A', .ref m']) htp)
                have nd2 : d' ≠ m' ∧ d' ≠ df' := by
                  obtain ⟨_, t0, y2, _⟩ := k20
                  exact ⟨(fun z => by rw [← z, y2] at nm'; cases nm'), (fun z => by rw [← z, y2] at ndf'; cases ndf')⟩
                exact ⟨A', m', dx', d', df', _, c19, some x, some (.ref p), some (.int r8), some (.int ((r3 : Int) * j9)), some (.ref A'), some (.ref m'), z12, rfl, s24 _ _ hL19, tb19.same s24, w19.same s24, by omega, by push_cast; omega, k20.same sA, m21.same sM, nd2, ok3⟩
              · exact ⟨A, m, dx, d, df, k2, c19, some x, some (.ref p), some (.int r8), some (.int ((r3 : Int) * j9)), some (.ref A'), some (.ref m'), z12, rfl, s23' _ _ hL19, tb19.same s23', w19.same s23', by omega, by push_cast; omega, hk19.same s23', hm19.same s23', nd, ok2⟩
            · exact ⟨A, m, dx, d, df, k2, c19, some x, some (.ref p), some (.int r8), some (.int ((r3 : Int) * j9)), z10, z11, z12, rfl, hL19, tb19, w19, by omega, by push_cast; omega, hk19, hm19, nd, ok2⟩
        refine ⟨.ref W, rfl, do_draw w13 (by decide) (by decide) (by omega) fun r6 hr6 H14 c14 f14 w14 l14 m14 => ?_⟩
        have hk14 := dk_kq hk13 w13 (Kq.fr f14)
        have hm14 := md_kq hm13 w13 (Kq.fr f14)
        have tb14 := tbF tb13 w13 f14
        have hL14 := f14 _ _ LW hL13
        refine ⟨rfl, _, rfl, ite2 (fun z => ?_) (fun z => ?_)⟩
        · refine ⟨.ref W, rfl, .ref A, rfl, .ref m, rfl, W, A, dx, d, m, df, k2, c14, rfl, w14, by omega, hk14, hm14, (by have := ok2.len; omega), ok2.nm, tb14, fun H15 c15 K15 w15 l15 m15 tb15 => ⟨_, rfl, iteF ?_⟩⟩
          exact ⟨rfl, K15 _ _ LW (fun ps z => nomatch z) hL14, tb15, ⟨c15, w15, by omega, by omega⟩, dk_kq hk14 w14 K15, md_kq hm14 w14 K15⟩
        · exact ⟨rfl, hL14, tb14, ⟨c14, w14, by omega, by omega⟩, hk14, hm14⟩
      have len : k.fs.length < 1000 := by have := ok.len; omega
      refine ⟨.ref A, rfl, .ref p, rfl, A, dx, d, p, k, dd, l, rfl, hk12, len, hp, hdl, fun q1 H13 nq1 f13 k13 hq1 => ?_⟩
      have hm13 := md_frl hm12 hk12 nd f13
      have nA : ∀ b o, H12 b = some o → (∀ C x l, o ≠ .ins C x l) → (∀ l, o ≠ .dK l) → H13 b = some o := fun b o e ni nk => f13 b o (by
        obtain ⟨g1, t', g2, _⟩ := hk12
        simp only [List.mem_cons, List.not_mem_nil, or_false, not_or]
        exact ⟨fun z => by rw [z, g1] at e; exact ni _ _ _ (Option.some.inj e).symm, fun z => by rw [z, g2] at e; exact nk _ (Option.some.inj e).symm⟩) e
      have hp13 := nA _ _ hp (fun _ _ _ z => nomatch z) (fun _ z => nomatch z)
      have hL13 := nA _ _ hL12 (fun _ _ _ z => nomatch z) (fun _ z => nomatch z)
      refine ⟨.ref m, rfl, .ref p, rfl, m, df, p, k, dd, l, rfl, hm13, len, ok.le, hp13, hdl, fun q2 H14 nq2 f14 m14 hq2 => ?_⟩
      have k14 := dk_frl k13 hm13 nd f14
      have nB : ∀ b o, H13 b = some o → (∀ l, o ≠ .dK l) → H14 b = some o := fun b o e nk => f14 b o (by
        obtain ⟨g1, t', g2, _⟩ := hm13
        simp only [List.mem_cons, List.not_mem_nil, or_false, not_or]
        exact ⟨fun z => by rw [z, g1] at e; exact nk _ (Option.some.inj e).symm, fun z => by rw [z, g2] at e; exact nk _ (Option.some.inj e).symm⟩) e
      have flat : ∀ v ∈ outL (doDeed dd k).1, flatB v = true := fun v hv => by
        cases o : (doDeed dd k).1 with
        | told b =>
          rw [o] at hv
          simp only [outL, List.mem_cons, List.not_mem_nil, or_false] at hv
          rcases hv with rfl | rfl
          · rfl
          · cases b <;> rfl
        | crash =>
          rw [o] at hv
          simp only [outL, List.mem_cons, List.not_mem_nil, or_false] at hv
          rcases hv with rfl | rfl <;> rfl
        | absent y =>
          rw [o] at hv
          simp only [outL, List.mem_cons, List.not_mem_nil, or_false] at hv
          rcases hv with rfl | rfl <;> rfl
      have ok2 := ok.deed dd din
      refine ⟨q1, q2, _, rfl, rfl, SqT.of (nB _ _ hq1 (fun _ z => nomatch z)), SqT.of hq2, flat, _, rfl, ifF (fun z => by cases z) ?_⟩
      refine ⟨.ref A, rfl, .ref m, rfl, A, dx, d, m, df, _, rfl, k14, m14, (by have := ok2.len; omega), ok2.nm, fun H15 s15 => ⟨_, rfl, iteF ?_⟩⟩
      have tb13 : TabsL qfL [P1, P2] H13 := tabs_te tb12 (fun b ps e => nA b _ e (fun _ _ _ z => nomatch z) (fun _ z => nomatch z)) (fun b φ e => nA b _ e (fun _ _ _ z => nomatch z) (fun _ z => nomatch z))
      have tb14 : TabsL qfL [P1, P2] H14 := tabs_te tb13 (fun b ps e => nB b _ e (fun _ z => nomatch z)) (fun b φ e => nB b _ e (fun _ z => nomatch z))
      have w14 : Wl H14 W c12 := by
        obtain ⟨y0, y1, y2, y3⟩ := w12
        exact ⟨y0, y1, y2, nB _ _ (nA _ _ y3 (fun _ _ _ z => nomatch z) (fun _ z => nomatch z)) (fun _ z => nomatch z)⟩
      exact ⟨rfl, s15 _ _ (nB _ _ hL13 (fun _ z => nomatch z)), tb14.same s15, w14.same s15, k14.same s15, m14.same s15⟩
    · obtain ⟨A, m, dx, d, df, k, c', z6, z7, z8, z9, z10, z11, z12, rfl, hL', tb', w', c0, c1, hk, hm, nd, ok⟩ := I
      rw [List.length_map, List.length_range] at c1 ok
      exact ⟨A, m, dx, d, df, k, c', z6, z7, z8, z9, z10, z11, z12, rfl, hL', tb', w', c0, by omega, hk, hm, nd, .of (Nat.le_trans ok.len (by omega)) ok.okF ok.le⟩
end

end Fk

set_option maxHeartbeats 4000000
namespace Fk
open PySem PySem.Spec PyProof.Rows L2
section
variable {P : Program} {w : World} {K : PySem.W.Frag} {mg : Str → Option Value} {base : Heap}
theorem ini_ForkError {f : Addr} {fd : FuncData} (F : C8.Fun K "__init__" "ForkError.__init__" s_ForkError_init f fd) : FnOk P w K mg base C8.CX0 1 f fd ["self", "why"] (spErr K "why") := by
  refine C8.fn0 F sc_ForkError_init (fun vs H Q E h => ?_) (fun cdv A outer s H vs Q E hr h => ?_)
  · obtain ⟨a, C, fI, y, rfl, _⟩ := h
    rfl
  · obtain ⟨a, C, fI, y, rfl, T, hno, ea, q⟩ := h
    refine ⟨_, pss_one (ps_osv (pv 0) (pv 1)), ?_⟩
    exact ⟨y, rfl, .ref a, rfl, a, C, fI, rfl, T, hno, ea, q⟩
theorem ini_NoObject {f : Addr} {fd : FuncData} (F : C8.Fun K "__init__" "NoObject.__init__" s_NoObject_init f fd) : FnOk P w K mg base C8.CX0 1 f fd ["self", "name"] (spErr K "name") := by
  refine C8.fn0 F sc_NoObject_init (fun vs H Q E h => ?_) (fun cdv A outer s H vs Q E hr h => ?_)
  · obtain ⟨a, C, fI, y, rfl, _⟩ := h
    rfl
  · obtain ⟨a, C, fI, y, rfl, T, hno, ea, q⟩ := h
    refine ⟨_, pss_one (ps_osv (pv 0) (pv 1)), ?_⟩
    exact ⟨y, rfl, .ref a, rfl, a, C, fI, rfl, T, hno, ea, q⟩
end
/-- two errors' classes that have nothing to do with one another -/
theorem CF.no {K : PySem.W.Frag} {nm nm' : Str} {newId newId' : String} {bm bm' : List Value} {C C' : Addr} (c : CF K nm newId bm C) (c' : CF K nm' newId' bm' C') (hb : bm'.contains (.type "BaseException") = true) (n : nm ≠ nm') (h : bm.contains (.ref C') = false) : PySem.W.exmOne K (.ref C) (.ref C') = some false := by
  refine c.exm c' hb ?_
  rw [List.contains_cons, h, Bool.or_false, beq_eq_false_iff_ne]
  intro z
  cases z
  exact n (c.name c')
theorem VE_no {K : PySem.W.Frag} {nm nm' : Str} {newId newId' : String} {bm bm' : List Value} {C C' : Addr} (c : CF K nm newId bm C) (c' : CF K nm' newId' bm' C') (n : nm' ≠ nm) : (Value.ref C :: VE).contains (.ref C') = false := by
  have e : VE.contains (.ref C') = false := rfl
  rw [List.contains_cons, e, Bool.or_false, beq_eq_false_iff_ne]
  intro z
  cases z
  exact n (c'.name c)
theorem notab_none {K : PySem.W.Frag} {h : Heap} {P : Addr} (X : K.In h) (n : PySem.W.noTabs K = true) (hP : h.get? P = some { cls := .none, data := .fields #[] }) : K.lookup P = none := by
  cases e : K.lookup P with
  | none => rfl
  | some o =>
    have e1 := X _ _ e
    rw [hP] at e1
    cases e1
    exact absurd (show false = true from List.all_eq_true.mp n (P, _) (PySem.W.mem_of_lookupK e)) Bool.false_ne_true
theorem all_mk {l : PySem.W.OpenLaw} {w : World} {K : PySem.W.Frag} {h : Heap} {mg : Str → Option Value} {fa : Addr} (X : K.In h) (G : h.Ns mainGlobals mg) (hfa : mg "law" = some (.ref fa))
    {f1 f2 f3 f4 f5 f6 f7 f8 f9 f10 f11 f12 f13 f14 f15 f16 f17 f18 f19 f20 f21 f22 f23 f24 f25 f26 f27 f28 : Addr} {od1 an1 od2 an2 od3 an3 od4 an4 od5 an5 od6 an6 od7 an7 od8 an8 od9 an9 od10 an10 od11 an11 od12 an12 od13 an13 od14 an14 od15 an15 od16 an16 od17 an17 od18 an18 od19 an19 od20 an20 od21 an21 od22 an22 od23 an23 od24 an24 od25 an25 od26 an26 od27 an27 od28 an28 : Option Addr} {sl1 sl2 sl3 sl4 sl5 sl6 sl7 sl8 sl9 sl10 sl11 sl12 sl13 sl14 sl15 sl16 sl17 sl18 sl19 sl20 sl21 sl22 sl23 sl24 sl25 sl26 sl27 sl28 : Array (Option Value)} {oc1 kV1 dc1 pm1 cd1 ct1 oc2 kV2 dc2 pm2 cd2 ct2 oc3 kV3 dc3 pm3 cd3 ct3 oc4 kV4 dc4 pm4 cd4 ct4 oc5 kV5 dc5 pm5 cd5 ct5 oc6 kV6 dc6 pm6 cd6 ct6 oc7 kV7 dc7 pm7 cd7 ct7 oc8 kV8 dc8 pm8 cd8 ct8 oc9 kV9 dc9 pm9 cd9 ct9 oc10 kV10 dc10 pm10 cd10 ct10 oc11 kV11 dc11 pm11 cd11 ct11 oc12 kV12 dc12 pm12 cd12 ct12 oc13 kV13 dc13 pm13 cd13 ct13 oc14 kV14 dc14 pm14 cd14 ct14 oc15 kV15 dc15 pm15 cd15 ct15 oc16 kV16 dc16 pm16 cd16 ct16 oc17 kV17 dc17 pm17 cd17 ct17 oc18 kV18 dc18 pm18 cd18 ct18 oc19 kV19 dc19 pm19 cd19 ct19 oc20 kV20 dc20 pm20 cd20 ct20 oc21 kV21 dc21 pm21 cd21 ct21 oc22 kV22 dc22 pm22 cd22 ct22 oc23 kV23 dc23 pm23 cd23 ct23 oc24 kV24 dc24 pm24 cd24 ct24 oc25 kV25 dc25 pm25 cd25 ct25 oc26 kV26 dc26 pm26 cd26 ct26 oc27 kV27 dc27 pm27 cd27 ct27 oc28 kV28 dc28 pm28 cd28 ct28 : Value} {t_HEX_DIGITS : Tok} {t_LETTERS : Tok} {t_SEGMENT_SIGNS : Tok} {t_LONGEST_WORD : Tok} {t_LONGEST_TEXT : Tok} {t_LONGEST_MESSAGE : Tok} {t_LATEST : Tok} {t_MOST_ENTRIES : Tok} {t_MOST_PARENTS : Tok}
    (a1 : PySem.W.nsIn K mainGlobals "is_id" = some (some (.ref f1))) (l1 : K.lookup f1 = some ⟨oc1, od1, .func (PySem.W.fnOf "is_id" "is_id" (C8.fnArgs s_is_id) (C8.fnBody s_is_id) (C8.fnScope s_is_id) .none kV1 dc1 pm1 an1 cd1 ct1), sl1⟩) (c1 : PySem.W.codeIn K cd1 "is_id" = true) (k1 : PySem.W.keepIn K (.ref f1) = true)
    (a2 : PySem.W.nsIn K mainGlobals "is_segment" = some (some (.ref f2))) (l2 : K.lookup f2 = some ⟨oc2, od2, .func (PySem.W.fnOf "is_segment" "is_segment" (C8.fnArgs s_is_segment) (C8.fnBody s_is_segment) (C8.fnScope s_is_segment) .none kV2 dc2 pm2 an2 cd2 ct2), sl2⟩) (c2 : PySem.W.codeIn K cd2 "is_segment" = true) (k2 : PySem.W.keepIn K (.ref f2) = true)
    (a3 : PySem.W.nsIn K mainGlobals "is_author" = some (some (.ref f3))) (l3 : K.lookup f3 = some ⟨oc3, od3, .func (PySem.W.fnOf "is_author" "is_author" (C8.fnArgs s_is_author) (C8.fnBody s_is_author) (C8.fnScope s_is_author) .none kV3 dc3 pm3 an3 cd3 ct3), sl3⟩) (c3 : PySem.W.codeIn K cd3 "is_author" = true) (k3 : PySem.W.keepIn K (.ref f3) = true)
    (a4 : PySem.W.nsIn K mainGlobals "is_text" = some (some (.ref f4))) (l4 : K.lookup f4 = some ⟨oc4, od4, .func (PySem.W.fnOf "is_text" "is_text" (C8.fnArgs s_is_text) (C8.fnBody s_is_text) (C8.fnScope s_is_text) .none kV4 dc4 pm4 an4 cd4 ct4), sl4⟩) (c4 : PySem.W.codeIn K cd4 "is_text" = true) (k4 : PySem.W.keepIn K (.ref f4) = true)
    (a5 : PySem.W.nsIn K mainGlobals "is_message" = some (some (.ref f5))) (l5 : K.lookup f5 = some ⟨oc5, od5, .func (PySem.W.fnOf "is_message" "is_message" (C8.fnArgs s_is_message) (C8.fnBody s_is_message) (C8.fnScope s_is_message) .none kV5 dc5 pm5 an5 cd5 ct5), sl5⟩) (c5 : PySem.W.codeIn K cd5 "is_message" = true) (k5 : PySem.W.keepIn K (.ref f5) = true)
    (a6 : PySem.W.nsIn K mainGlobals "is_time" = some (some (.ref f6))) (l6 : K.lookup f6 = some ⟨oc6, od6, .func (PySem.W.fnOf "is_time" "is_time" (C8.fnArgs s_is_time) (C8.fnBody s_is_time) (C8.fnScope s_is_time) .none kV6 dc6 pm6 an6 cd6 ct6), sl6⟩) (c6 : PySem.W.codeIn K cd6 "is_time" = true) (k6 : PySem.W.keepIn K (.ref f6) = true)
    (a7 : PySem.W.nsIn K mainGlobals "is_count" = some (some (.ref f7))) (l7 : K.lookup f7 = some ⟨oc7, od7, .func (PySem.W.fnOf "is_count" "is_count" (C8.fnArgs s_is_count) (C8.fnBody s_is_count) (C8.fnScope s_is_count) .none kV7 dc7 pm7 an7 cd7 ct7), sl7⟩) (c7 : PySem.W.codeIn K cd7 "is_count" = true) (k7 : PySem.W.keepIn K (.ref f7) = true)
    (a8 : PySem.W.nsIn K mainGlobals "is_limit" = some (some (.ref f8))) (l8 : K.lookup f8 = some ⟨oc8, od8, .func (PySem.W.fnOf "is_limit" "is_limit" (C8.fnArgs s_is_limit) (C8.fnBody s_is_limit) (C8.fnScope s_is_limit) .none kV8 dc8 pm8 an8 cd8 ct8), sl8⟩) (c8 : PySem.W.codeIn K cd8 "is_limit" = true) (k8 : PySem.W.keepIn K (.ref f8) = true)
    (a9 : PySem.W.nsIn K mainGlobals "are_ids" = some (some (.ref f9))) (l9 : K.lookup f9 = some ⟨oc9, od9, .func (PySem.W.fnOf "are_ids" "are_ids" (C8.fnArgs s_are_ids) (C8.fnBody s_are_ids) (C8.fnScope s_are_ids) .none kV9 dc9 pm9 an9 cd9 ct9), sl9⟩) (c9 : PySem.W.codeIn K cd9 "are_ids" = true) (k9 : PySem.W.keepIn K (.ref f9) = true)
    (a10 : PySem.W.nsIn K mainGlobals "ascending" = some (some (.ref f10))) (l10 : K.lookup f10 = some ⟨oc10, od10, .func (PySem.W.fnOf "ascending" "ascending" (C8.fnArgs s_ascending) (C8.fnBody s_ascending) (C8.fnScope s_ascending) .none kV10 dc10 pm10 an10 cd10 ct10), sl10⟩) (c10 : PySem.W.codeIn K cd10 "ascending" = true) (k10 : PySem.W.keepIn K (.ref f10) = true)
    (a11 : PySem.W.nsIn K mainGlobals "_is_word" = some (some (.ref f11))) (l11 : K.lookup f11 = some ⟨oc11, od11, .func (PySem.W.fnOf "_is_word" "_is_word" (C8.fnArgs s__is_word) (C8.fnBody s__is_word) (C8.fnScope s__is_word) .none kV11 dc11 pm11 an11 cd11 ct11), sl11⟩) (c11 : PySem.W.codeIn K cd11 "_is_word" = true) (k11 : PySem.W.keepIn K (.ref f11) = true)
    (a12 : PySem.W.nsIn K mainGlobals "_check_name" = some (some (.ref f12))) (l12 : K.lookup f12 = some ⟨oc12, od12, .func (PySem.W.fnOf "_check_name" "_check_name" (C8.fnArgs s__check_name) (C8.fnBody s__check_name) (C8.fnScope s__check_name) .none kV12 dc12 pm12 an12 cd12 ct12), sl12⟩) (c12 : PySem.W.codeIn K cd12 "_check_name" = true) (k12 : PySem.W.keepIn K (.ref f12) = true)
    (a13 : PySem.W.nsIn K mainGlobals "_checked_left" = some (some (.ref f13))) (l13 : K.lookup f13 = some ⟨oc13, od13, .func (PySem.W.fnOf "_checked_left" "_checked_left" (C8.fnArgs s__checked_left) (C8.fnBody s__checked_left) (C8.fnScope s__checked_left) .none kV13 dc13 pm13 an13 cd13 ct13), sl13⟩) (c13 : PySem.W.codeIn K cd13 "_checked_left" = true) (k13 : PySem.W.keepIn K (.ref f13) = true)
    (a14 : PySem.W.nsIn K mainGlobals "is_value" = some (some (.ref f14))) (l14 : K.lookup f14 = some ⟨oc14, od14, .func (PySem.W.fnOf "is_value" "is_value" (C8.fnArgs s_is_value) (C8.fnBody s_is_value) (C8.fnScope s_is_value) .none kV14 dc14 pm14 an14 cd14 ct14), sl14⟩) (c14 : PySem.W.codeIn K cd14 "is_value" = true) (k14 : PySem.W.keepIn K (.ref f14) = true)
    (a15 : PySem.W.nsIn K mainGlobals "encode" = some (some (.ref f15))) (l15 : K.lookup f15 = some ⟨oc15, od15, .func (PySem.W.fnOf "encode" "encode" (C8.fnArgs s_encode) (C8.fnBody s_encode) (C8.fnScope s_encode) .none kV15 dc15 pm15 an15 cd15 ct15), sl15⟩) (c15 : PySem.W.codeIn K cd15 "encode" = true) (k15 : PySem.W.keepIn K (.ref f15) = true)
    (a16 : PySem.W.nsIn K mainGlobals "_law_cell_at" = some (some (.ref f16))) (l16 : K.lookup f16 = some ⟨oc16, od16, .func (PySem.W.fnOf "_law_cell_at" "_law_cell_at" (C8.fnArgs s_l_cell_at) (C8.fnBody s_l_cell_at) (C8.fnScope s_l_cell_at) .none kV16 dc16 pm16 an16 cd16 ct16), sl16⟩) (c16 : PySem.W.codeIn K cd16 "_law_cell_at" = true) (k16 : PySem.W.keepIn K (.ref f16) = true)
    (a17 : PySem.W.nsIn K mainGlobals "_law_well" = some (some (.ref f17))) (l17 : K.lookup f17 = some ⟨oc17, od17, .func (PySem.W.fnOf "_law_well" "_law_well" (C8.fnArgs s_l_well) (C8.fnBody s_l_well) (C8.fnScope s_l_well) .none kV17 dc17 pm17 an17 cd17 ct17), sl17⟩) (c17 : PySem.W.codeIn K cd17 "_law_well" = true) (k17 : PySem.W.keepIn K (.ref f17) = true)
    (a18 : PySem.W.nsIn K mainGlobals "_law_draw" = some (some (.ref f18))) (l18 : K.lookup f18 = some ⟨oc18, od18, .func (PySem.W.fnOf "_law_draw" "_law_draw" (C8.fnArgs s_l_draw) (C8.fnBody s_l_draw) (C8.fnScope s_l_draw) .none kV18 dc18 pm18 an18 cd18 ct18), sl18⟩) (c18 : PySem.W.codeIn K cd18 "_law_draw" = true) (k18 : PySem.W.keepIn K (.ref f18) = true)
    (a19 : PySem.W.nsIn K mainGlobals "_law_pick" = some (some (.ref f19))) (l19 : K.lookup f19 = some ⟨oc19, od19, .func (PySem.W.fnOf "_law_pick" "_law_pick" (C8.fnArgs s_l_pick) (C8.fnBody s_l_pick) (C8.fnScope s_l_pick) .none kV19 dc19 pm19 an19 cd19 ct19), sl19⟩) (c19 : PySem.W.codeIn K cd19 "_law_pick" = true) (k19 : PySem.W.keepIn K (.ref f19) = true)
    (a20 : PySem.W.nsIn K mainGlobals "_law_did" = some (some (.ref f20))) (l20 : K.lookup f20 = some ⟨oc20, od20, .func (PySem.W.fnOf "_law_did" "_law_did" (C8.fnArgs s_l_did) (C8.fnBody s_l_did) (C8.fnScope s_l_did) .none kV20 dc20 pm20 an20 cd20 ct20), sl20⟩) (c20 : PySem.W.codeIn K cd20 "_law_did" = true) (k20 : PySem.W.keepIn K (.ref f20) = true)
    (a21 : PySem.W.nsIn K mainGlobals "_law_due" = some (some (.ref f21))) (l21 : K.lookup f21 = some ⟨oc21, od21, .func (PySem.W.fnOf "_law_due" "_law_due" (C8.fnArgs s_l_due) (C8.fnBody s_l_due) (C8.fnScope s_l_due) .none kV21 dc21 pm21 an21 cd21 ct21), sl21⟩) (c21 : PySem.W.codeIn K cd21 "_law_due" = true) (k21 : PySem.W.keepIn K (.ref f21) = true)
    (a22 : PySem.W.nsIn K mainGlobals "_law_after" = some (some (.ref f22))) (l22 : K.lookup f22 = some ⟨oc22, od22, .func (PySem.W.fnOf "_law_after" "_law_after" (C8.fnArgs s_l_after) (C8.fnBody s_l_after) (C8.fnScope s_l_after) .none kV22 dc22 pm22 an22 cd22 ct22), sl22⟩) (c22 : PySem.W.codeIn K cd22 "_law_after" = true) (k22 : PySem.W.keepIn K (.ref f22) = true)
    (a23 : PySem.W.nsIn K mainGlobals "_law_same" = some (some (.ref f23))) (l23 : K.lookup f23 = some ⟨oc23, od23, .func (PySem.W.fnOf "_law_same" "_law_same" (C8.fnArgs s_l_same) (C8.fnBody s_l_same) (C8.fnScope s_l_same) .none kV23 dc23 pm23 an23 cd23 ct23), sl23⟩) (c23 : PySem.W.codeIn K cd23 "_law_same" = true) (k23 : PySem.W.keepIn K (.ref f23) = true)
    (a24 : PySem.W.nsIn K mainGlobals "_law_refused" = some (some (.ref f24))) (l24 : K.lookup f24 = some ⟨oc24, od24, .func (PySem.W.fnOf "_law_refused" "_law_refused" (C8.fnArgs s_l_refused) (C8.fnBody s_l_refused) (C8.fnScope s_l_refused) .none kV24 dc24 pm24 an24 cd24 ct24), sl24⟩) (c24 : PySem.W.codeIn K cd24 "_law_refused" = true) (k24 : PySem.W.keepIn K (.ref f24) = true)
    (a25 : PySem.W.nsIn K mainGlobals "_law_error" = some (some (.ref f25))) (l25 : K.lookup f25 = some ⟨oc25, od25, .func (PySem.W.fnOf "_law_error" "_law_error" (C8.fnArgs s_l_error) (C8.fnBody s_l_error) (C8.fnScope s_l_error) .none kV25 dc25 pm25 an25 cd25 ct25), sl25⟩) (c25 : PySem.W.codeIn K cd25 "_law_error" = true) (k25 : PySem.W.keepIn K (.ref f25) = true)
    (a26 : PySem.W.nsIn K mainGlobals "_law_refusals_right" = some (some (.ref f26))) (l26 : K.lookup f26 = some ⟨oc26, od26, .func (PySem.W.fnOf "_law_refusals_right" "_law_refusals_right" (C8.fnArgs s_l_refusals_right) (C8.fnBody s_l_refusals_right) (C8.fnScope s_l_refusals_right) .none kV26 dc26 pm26 an26 cd26 ct26), sl26⟩) (c26 : PySem.W.codeIn K cd26 "_law_refusals_right" = true) (k26 : PySem.W.keepIn K (.ref f26) = true)
    (a27 : PySem.W.nsIn K mainGlobals "_law_deed" = some (some (.ref f27))) (l27 : K.lookup f27 = some ⟨oc27, od27, .func (PySem.W.fnOf "_law_deed" "_law_deed" (C8.fnArgs s_l_deed) (C8.fnBody s_l_deed) (C8.fnScope s_l_deed) .none kV27 dc27 pm27 an27 cd27 ct27), sl27⟩) (c27 : PySem.W.codeIn K cd27 "_law_deed" = true) (k27 : PySem.W.keepIn K (.ref f27) = true)
    (a28 : PySem.W.nsIn K mainGlobals "law" = some (some (.ref f28))) (l28 : K.lookup f28 = some ⟨oc28, od28, .func (PySem.W.fnOf "law" "law" (C8.fnArgs s_law) (C8.fnBody s_law) (C8.fnScope s_law) .none kV28 dc28 pm28 an28 cd28 ct28), sl28⟩) (c28 : PySem.W.codeIn K cd28 "law" = true) (k28 : PySem.W.keepIn K (.ref f28) = true)
    (z_KeyError : PySem.W.nsIn K mainGlobals "KeyError" = some none)
    (z_ValueError : PySem.W.nsIn K mainGlobals "ValueError" = some none)
    (z_all : PySem.W.nsIn K mainGlobals "all" = some none)
    (z_bool : PySem.W.nsIn K mainGlobals "bool" = some none)
    (z_bytes : PySem.W.nsIn K mainGlobals "bytes" = some none)
    (z_dict : PySem.W.nsIn K mainGlobals "dict" = some none)
    (z_int : PySem.W.nsIn K mainGlobals "int" = some none)
    (z_isinstance : PySem.W.nsIn K mainGlobals "isinstance" = some none)
    (z_len : PySem.W.nsIn K mainGlobals "len" = some none)
    (z_list : PySem.W.nsIn K mainGlobals "list" = some none)
    (z_range : PySem.W.nsIn K mainGlobals "range" = some none)
    (z_set : PySem.W.nsIn K mainGlobals "set" = some none)
    (z_sorted : PySem.W.nsIn K mainGlobals "sorted" = some none)
    (z_str : PySem.W.nsIn K mainGlobals "str" = some none)
    (z_tuple : PySem.W.nsIn K mainGlobals "tuple" = some none)
    (g_HEX_DIGITS : PySem.W.nsIn K mainGlobals "HEX_DIGITS" = some (some (.str (Str.ofString "0123456789abcdef") t_HEX_DIGITS)))
    (g_LETTERS : PySem.W.nsIn K mainGlobals "LETTERS" = some (some (.str (Str.ofString "abcdefghijklmnopqrstuvwxyz") t_LETTERS)))
    (g_SEGMENT_SIGNS : PySem.W.nsIn K mainGlobals "SEGMENT_SIGNS" = some (some (.str (Str.ofString "abcdefghijklmnopqrstuvwxyz0123456789._-") t_SEGMENT_SIGNS)))
    (g_LONGEST_WORD : PySem.W.nsIn K mainGlobals "LONGEST_WORD" = some (some (.int 12 t_LONGEST_WORD)))
    (g_LONGEST_TEXT : PySem.W.nsIn K mainGlobals "LONGEST_TEXT" = some (some (.int 2000 t_LONGEST_TEXT)))
    (g_LONGEST_MESSAGE : PySem.W.nsIn K mainGlobals "LONGEST_MESSAGE" = some (some (.int 200 t_LONGEST_MESSAGE)))
    (g_LATEST : PySem.W.nsIn K mainGlobals "LATEST" = some (some (.int 1000000000000 t_LATEST)))
    (g_MOST_ENTRIES : PySem.W.nsIn K mainGlobals "MOST_ENTRIES" = some (some (.int 30 t_MOST_ENTRIES)))
    (g_MOST_PARENTS : PySem.W.nsIn K mainGlobals "MOST_PARENTS" = some (some (.int 6 t_MOST_PARENTS)))
    {CD CB cF cN cM cX cO iF iO dT kdD : Addr}
    {fmDisk_init : Addr}
    {odmDisk_init anmDisk_init : Option Addr} {slmDisk_init : Array (Option Value)} {ocmDisk_init dcmDisk_init pmmDisk_init cdmDisk_init ctmDisk_init : Value}
    {fmBlob_init : Addr}
    {odmBlob_init anmBlob_init : Option Addr} {slmBlob_init : Array (Option Value)} {ocmBlob_init kVmBlob_init dcmBlob_init pmmBlob_init cdmBlob_init ctmBlob_init : Value}
    {fmDisk_limit : Addr}
    {odmDisk_limit anmDisk_limit : Option Addr} {slmDisk_limit : Array (Option Value)} {ocmDisk_limit kVmDisk_limit dcmDisk_limit pmmDisk_limit cdmDisk_limit ctmDisk_limit : Value}
    {fmDisk_write : Addr}
    {odmDisk_write anmDisk_write : Option Addr} {slmDisk_write : Array (Option Value)} {ocmDisk_write kVmDisk_write dcmDisk_write pmmDisk_write cdmDisk_write ctmDisk_write : Value}
    {fmDisk_sync : Addr}
    {odmDisk_sync anmDisk_sync : Option Addr} {slmDisk_sync : Array (Option Value)} {ocmDisk_sync kVmDisk_sync dcmDisk_sync pmmDisk_sync cdmDisk_sync ctmDisk_sync : Value}
    {fmDisk_rename : Addr}
    {odmDisk_rename anmDisk_rename : Option Addr} {slmDisk_rename : Array (Option Value)} {ocmDisk_rename kVmDisk_rename dcmDisk_rename pmmDisk_rename cdmDisk_rename ctmDisk_rename : Value}
    {fmDisk_remove : Addr}
    {odmDisk_remove anmDisk_remove : Option Addr} {slmDisk_remove : Array (Option Value)} {ocmDisk_remove kVmDisk_remove dcmDisk_remove pmmDisk_remove cdmDisk_remove ctmDisk_remove : Value}
    {fmDisk_read : Addr}
    {odmDisk_read anmDisk_read : Option Addr} {slmDisk_read : Array (Option Value)} {ocmDisk_read kVmDisk_read dcmDisk_read pmmDisk_read cdmDisk_read ctmDisk_read : Value}
    {fmDisk_names : Addr}
    {odmDisk_names anmDisk_names : Option Addr} {slmDisk_names : Array (Option Value)} {ocmDisk_names kVmDisk_names dcmDisk_names pmmDisk_names cdmDisk_names ctmDisk_names : Value}
    {fmDisk_crashed : Addr}
    {odmDisk_crashed anmDisk_crashed : Option Addr} {slmDisk_crashed : Array (Option Value)} {ocmDisk_crashed kVmDisk_crashed dcmDisk_crashed pmmDisk_crashed cdmDisk_crashed ctmDisk_crashed : Value}
    {fmDiskcheck_is_there : Addr}
    {odmDiskcheck_is_there anmDiskcheck_is_there : Option Addr} {slmDiskcheck_is_there : Array (Option Value)} {ocmDiskcheck_is_there kVmDiskcheck_is_there dcmDiskcheck_is_there pmmDiskcheck_is_there cdmDiskcheck_is_there ctmDiskcheck_is_there : Value}
    {fmDiskcount_step : Addr}
    {odmDiskcount_step anmDiskcount_step : Option Addr} {slmDiskcount_step : Array (Option Value)} {ocmDiskcount_step kVmDiskcount_step dcmDiskcount_step pmmDiskcount_step cdmDiskcount_step ctmDiskcount_step : Value}
    {fpDisk_left qpDisk_left : Addr} {rpDisk_left : List Value}
    {odpDisk_left anpDisk_left : Option Addr} {slpDisk_left : Array (Option Value)} {ocpDisk_left kVpDisk_left dcpDisk_left pmpDisk_left cdpDisk_left ctpDisk_left : Value}
    {fpBlob_text qpBlob_text : Addr} {rpBlob_text : List Value}
    {odpBlob_text anpBlob_text : Option Addr} {slpBlob_text : Array (Option Value)} {ocpBlob_text kVpBlob_text dcpBlob_text pmpBlob_text cdpBlob_text ctpBlob_text : Value}
    {qF : Str} {NF : Addr} {bsF subF : List Value} {snF : List Str} {abF : Bool} {colF : Option Bool} {ddF : Option Addr} {mF_0 mF_1 mF_2 mF_3 mF_5 : Option Value}
    {qN : Str} {NN : Addr} {bsN subN : List Value} {snN : List Str} {abN : Bool} {colN : Option Bool} {ddN : Option Addr} {mN_0 mN_1 mN_2 mN_3 mN_5 : Option Value}
    {qM : Str} {NM : Addr} {bsM subM : List Value} {snM : List Str} {abM : Bool} {colM : Option Bool} {ddM : Option Addr} {mM_0 mM_1 mM_2 mM_3 mM_5 : Option Value}
    {qX : Str} {NX : Addr} {bsX subX : List Value} {snX : List Str} {abX : Bool} {colX : Option Bool} {ddX : Option Addr} {mX_0 mX_1 mX_2 mX_3 mX_5 : Option Value}
    {qO : Str} {NO : Addr} {bsO subO : List Value} {snO : List Str} {abO : Bool} {colO : Option Bool} {ddO : Option Addr} {mO_0 mO_1 mO_2 mO_3 mO_5 : Option Value}
    {odiF aniF : Option Addr} {sliF : Array (Option Value)} {ociF kViF dciF pmiF cdiF ctiF : Value}
    {odiO aniO : Option Addr} {sliO : Array (Option Value)} {ociO kViO dciO pmiO cdiO ctiO : Value}
    {tkd : Tok} {tcw : Value} {tow : Option Addr} {tnw : Nat} {tsw : Array (Option Value)}
    (eD_mg : PySem.W.nsIn K mainGlobals "Disk" = some (some (.ref CD)))
    (eB_mg : PySem.W.nsIn K mainGlobals "Blob" = some (some (.ref CB)))
    (eF_mg : PySem.W.nsIn K mainGlobals "ForkError" = some (some (.ref cF)))
    (eN_mg : PySem.W.nsIn K mainGlobals "BadName" = some (some (.ref cN)))
    (eM_mg : PySem.W.nsIn K mainGlobals "BadCommand" = some (some (.ref cM)))
    (eX_mg : PySem.W.nsIn K mainGlobals "Crash" = some (some (.ref cX)))
    (eO_mg : PySem.W.nsIn K mainGlobals "NoObject" = some (some (.ref cO)))
    (CD_pg : PySem.W.plainGet K CD Str.empty = true)
    (CD_hd : PySem.W.hasDictIn K CD = true)
    (CD_po : PySem.W.plainOver K CD = true)
    (CD_sa : PySem.W.findIn K (.ref CD) "__setattr__" = some (some (.builtin "object.__setattr__")))
    (CD_mk : PySem.W.makesIn K CD = true)
    (CD_kc : PySem.W.keepIn K (.ref CD) = true)
    (CD_ha : PySem.W.findIn K (.ref CD) "__class__" = some (some (.builtin "object.__class__")))
    (CD_hm : PySem.W.mroIn K CD (.type "object") = some true)
    (CB_pg : PySem.W.plainGet K CB Str.empty = true)
    (CB_hd : PySem.W.hasDictIn K CB = true)
    (CB_po : PySem.W.plainOver K CB = true)
    (CB_sa : PySem.W.findIn K (.ref CB) "__setattr__" = some (some (.builtin "object.__setattr__")))
    (CB_mk : PySem.W.makesIn K CB = true)
    (CB_kc : PySem.W.keepIn K (.ref CB) = true)
    (CB_ha : PySem.W.findIn K (.ref CB) "__class__" = some (some (.builtin "object.__class__")))
    (CB_hm : PySem.W.mroIn K CB (.type "object") = some true)
    (e_hn : PySem.W.specialIn K (.builtin "object.__class__") "__get__" = some (some (.builtin "getset_descriptor.__get__")))
    (e_ht : PySem.W.takesIn K (.builtin "object.__class__") = some true)
    (amDisk_init : PySem.W.findIn K (.ref CD) "__init__" = some (some (.ref fmDisk_init)))
    (imDisk_init : PySem.W.isFn K (.ref fmDisk_init) = true)
    (lmDisk_init : K.lookup fmDisk_init = some ⟨ocmDisk_init, odmDisk_init, .func (PySem.W.fnOf "__init__" "Disk.__init__" (C8.fnArgs s_Disk_init) (C8.fnBody s_Disk_init) (C8.fnScope s_Disk_init) .none (.ref kdD) dcmDisk_init pmmDisk_init anmDisk_init cdmDisk_init ctmDisk_init), slmDisk_init⟩)
    (cmDisk_init : PySem.W.codeIn K cdmDisk_init "Disk.__init__" = true)
    (kmDisk_init : PySem.W.keepIn K (.ref fmDisk_init) = true)
    (amBlob_init : PySem.W.findIn K (.ref CB) "__init__" = some (some (.ref fmBlob_init)))
    (imBlob_init : PySem.W.isFn K (.ref fmBlob_init) = true)
    (lmBlob_init : K.lookup fmBlob_init = some ⟨ocmBlob_init, odmBlob_init, .func (PySem.W.fnOf "__init__" "Blob.__init__" (C8.fnArgs s_Blob_init) (C8.fnBody s_Blob_init) (C8.fnScope s_Blob_init) .none kVmBlob_init dcmBlob_init pmmBlob_init anmBlob_init cdmBlob_init ctmBlob_init), slmBlob_init⟩)
    (cmBlob_init : PySem.W.codeIn K cdmBlob_init "Blob.__init__" = true)
    (kmBlob_init : PySem.W.keepIn K (.ref fmBlob_init) = true)
    (amDisk_limit : PySem.W.findIn K (.ref CD) "limit" = some (some (.ref fmDisk_limit)))
    (imDisk_limit : PySem.W.isFn K (.ref fmDisk_limit) = true)
    (lmDisk_limit : K.lookup fmDisk_limit = some ⟨ocmDisk_limit, odmDisk_limit, .func (PySem.W.fnOf "limit" "Disk.limit" (C8.fnArgs s_Disk_limit) (C8.fnBody s_Disk_limit) (C8.fnScope s_Disk_limit) .none kVmDisk_limit dcmDisk_limit pmmDisk_limit anmDisk_limit cdmDisk_limit ctmDisk_limit), slmDisk_limit⟩)
    (cmDisk_limit : PySem.W.codeIn K cdmDisk_limit "Disk.limit" = true)
    (kmDisk_limit : PySem.W.keepIn K (.ref fmDisk_limit) = true)
    (amDisk_write : PySem.W.findIn K (.ref CD) "write" = some (some (.ref fmDisk_write)))
    (imDisk_write : PySem.W.isFn K (.ref fmDisk_write) = true)
    (lmDisk_write : K.lookup fmDisk_write = some ⟨ocmDisk_write, odmDisk_write, .func (PySem.W.fnOf "write" "Disk.write" (C8.fnArgs s_Disk_write) (C8.fnBody s_Disk_write) (C8.fnScope s_Disk_write) .none kVmDisk_write dcmDisk_write pmmDisk_write anmDisk_write cdmDisk_write ctmDisk_write), slmDisk_write⟩)
    (cmDisk_write : PySem.W.codeIn K cdmDisk_write "Disk.write" = true)
    (kmDisk_write : PySem.W.keepIn K (.ref fmDisk_write) = true)
    (amDisk_sync : PySem.W.findIn K (.ref CD) "sync" = some (some (.ref fmDisk_sync)))
    (imDisk_sync : PySem.W.isFn K (.ref fmDisk_sync) = true)
    (lmDisk_sync : K.lookup fmDisk_sync = some ⟨ocmDisk_sync, odmDisk_sync, .func (PySem.W.fnOf "sync" "Disk.sync" (C8.fnArgs s_Disk_sync) (C8.fnBody s_Disk_sync) (C8.fnScope s_Disk_sync) .none kVmDisk_sync dcmDisk_sync pmmDisk_sync anmDisk_sync cdmDisk_sync ctmDisk_sync), slmDisk_sync⟩)
    (cmDisk_sync : PySem.W.codeIn K cdmDisk_sync "Disk.sync" = true)
    (kmDisk_sync : PySem.W.keepIn K (.ref fmDisk_sync) = true)
    (amDisk_rename : PySem.W.findIn K (.ref CD) "rename" = some (some (.ref fmDisk_rename)))
    (imDisk_rename : PySem.W.isFn K (.ref fmDisk_rename) = true)
    (lmDisk_rename : K.lookup fmDisk_rename = some ⟨ocmDisk_rename, odmDisk_rename, .func (PySem.W.fnOf "rename" "Disk.rename" (C8.fnArgs s_Disk_rename) (C8.fnBody s_Disk_rename) (C8.fnScope s_Disk_rename) .none kVmDisk_rename dcmDisk_rename pmmDisk_rename anmDisk_rename cdmDisk_rename ctmDisk_rename), slmDisk_rename⟩)
    (cmDisk_rename : PySem.W.codeIn K cdmDisk_rename "Disk.rename" = true)
    (kmDisk_rename : PySem.W.keepIn K (.ref fmDisk_rename) = true)
    (amDisk_remove : PySem.W.findIn K (.ref CD) "remove" = some (some (.ref fmDisk_remove)))
    (imDisk_remove : PySem.W.isFn K (.ref fmDisk_remove) = true)
    (lmDisk_remove : K.lookup fmDisk_remove = some ⟨ocmDisk_remove, odmDisk_remove, .func (PySem.W.fnOf "remove" "Disk.remove" (C8.fnArgs s_Disk_remove) (C8.fnBody s_Disk_remove) (C8.fnScope s_Disk_remove) .none kVmDisk_remove dcmDisk_remove pmmDisk_remove anmDisk_remove cdmDisk_remove ctmDisk_remove), slmDisk_remove⟩)
    (cmDisk_remove : PySem.W.codeIn K cdmDisk_remove "Disk.remove" = true)
    (kmDisk_remove : PySem.W.keepIn K (.ref fmDisk_remove) = true)
    (amDisk_read : PySem.W.findIn K (.ref CD) "read" = some (some (.ref fmDisk_read)))
    (imDisk_read : PySem.W.isFn K (.ref fmDisk_read) = true)
    (lmDisk_read : K.lookup fmDisk_read = some ⟨ocmDisk_read, odmDisk_read, .func (PySem.W.fnOf "read" "Disk.read" (C8.fnArgs s_Disk_read) (C8.fnBody s_Disk_read) (C8.fnScope s_Disk_read) .none kVmDisk_read dcmDisk_read pmmDisk_read anmDisk_read cdmDisk_read ctmDisk_read), slmDisk_read⟩)
    (cmDisk_read : PySem.W.codeIn K cdmDisk_read "Disk.read" = true)
    (kmDisk_read : PySem.W.keepIn K (.ref fmDisk_read) = true)
    (amDisk_names : PySem.W.findIn K (.ref CD) "names" = some (some (.ref fmDisk_names)))
    (imDisk_names : PySem.W.isFn K (.ref fmDisk_names) = true)
    (lmDisk_names : K.lookup fmDisk_names = some ⟨ocmDisk_names, odmDisk_names, .func (PySem.W.fnOf "names" "Disk.names" (C8.fnArgs s_Disk_names) (C8.fnBody s_Disk_names) (C8.fnScope s_Disk_names) .none kVmDisk_names dcmDisk_names pmmDisk_names anmDisk_names cdmDisk_names ctmDisk_names), slmDisk_names⟩)
    (cmDisk_names : PySem.W.codeIn K cdmDisk_names "Disk.names" = true)
    (kmDisk_names : PySem.W.keepIn K (.ref fmDisk_names) = true)
    (amDisk_crashed : PySem.W.findIn K (.ref CD) "crashed" = some (some (.ref fmDisk_crashed)))
    (imDisk_crashed : PySem.W.isFn K (.ref fmDisk_crashed) = true)
    (lmDisk_crashed : K.lookup fmDisk_crashed = some ⟨ocmDisk_crashed, odmDisk_crashed, .func (PySem.W.fnOf "crashed" "Disk.crashed" (C8.fnArgs s_Disk_crashed) (C8.fnBody s_Disk_crashed) (C8.fnScope s_Disk_crashed) .none kVmDisk_crashed dcmDisk_crashed pmmDisk_crashed anmDisk_crashed cdmDisk_crashed ctmDisk_crashed), slmDisk_crashed⟩)
    (cmDisk_crashed : PySem.W.codeIn K cdmDisk_crashed "Disk.crashed" = true)
    (kmDisk_crashed : PySem.W.keepIn K (.ref fmDisk_crashed) = true)
    (amDiskcheck_is_there : PySem.W.findIn K (.ref CD) "_check_is_there" = some (some (.ref fmDiskcheck_is_there)))
    (imDiskcheck_is_there : PySem.W.isFn K (.ref fmDiskcheck_is_there) = true)
    (lmDiskcheck_is_there : K.lookup fmDiskcheck_is_there = some ⟨ocmDiskcheck_is_there, odmDiskcheck_is_there, .func (PySem.W.fnOf "_check_is_there" "Disk._check_is_there" (C8.fnArgs s_Diskcheck_is_there) (C8.fnBody s_Diskcheck_is_there) (C8.fnScope s_Diskcheck_is_there) .none kVmDiskcheck_is_there dcmDiskcheck_is_there pmmDiskcheck_is_there anmDiskcheck_is_there cdmDiskcheck_is_there ctmDiskcheck_is_there), slmDiskcheck_is_there⟩)
    (cmDiskcheck_is_there : PySem.W.codeIn K cdmDiskcheck_is_there "Disk._check_is_there" = true)
    (kmDiskcheck_is_there : PySem.W.keepIn K (.ref fmDiskcheck_is_there) = true)
    (amDiskcount_step : PySem.W.findIn K (.ref CD) "_count_step" = some (some (.ref fmDiskcount_step)))
    (imDiskcount_step : PySem.W.isFn K (.ref fmDiskcount_step) = true)
    (lmDiskcount_step : K.lookup fmDiskcount_step = some ⟨ocmDiskcount_step, odmDiskcount_step, .func (PySem.W.fnOf "_count_step" "Disk._count_step" (C8.fnArgs s_Diskcount_step) (C8.fnBody s_Diskcount_step) (C8.fnScope s_Diskcount_step) .none kVmDiskcount_step dcmDiskcount_step pmmDiskcount_step anmDiskcount_step cdmDiskcount_step ctmDiskcount_step), slmDiskcount_step⟩)
    (cmDiskcount_step : PySem.W.codeIn K cdmDiskcount_step "Disk._count_step" = true)
    (kmDiskcount_step : PySem.W.keepIn K (.ref fmDiskcount_step) = true)
    (apDisk_left : PySem.W.findIn K (.ref CD) "left" = some (some (.ref qpDisk_left)))
    (gpDisk_left : PySem.W.specialIn K (.ref qpDisk_left) "__get__" = some (some (.builtin "property.__get__")))
    (tpDisk_left : PySem.W.takesIn K (.ref qpDisk_left) = some true)
    (rpDisk_left_ : PySem.W.recIn K qpDisk_left "property" = some (.ref fpDisk_left :: rpDisk_left))
    (lpDisk_left : K.lookup fpDisk_left = some ⟨ocpDisk_left, odpDisk_left, .func (PySem.W.fnOf "left" "Disk.left" (C8.fnArgs s_Disk_left) (C8.fnBody s_Disk_left) (C8.fnScope s_Disk_left) .none kVpDisk_left dcpDisk_left pmpDisk_left anpDisk_left cdpDisk_left ctpDisk_left), slpDisk_left⟩)
    (cpDisk_left : PySem.W.codeIn K cdpDisk_left "Disk.left" = true)
    (apBlob_text : PySem.W.findIn K (.ref CB) "text" = some (some (.ref qpBlob_text)))
    (gpBlob_text : PySem.W.specialIn K (.ref qpBlob_text) "__get__" = some (some (.builtin "property.__get__")))
    (tpBlob_text : PySem.W.takesIn K (.ref qpBlob_text) = some true)
    (rpBlob_text_ : PySem.W.recIn K qpBlob_text "property" = some (.ref fpBlob_text :: rpBlob_text))
    (lpBlob_text : K.lookup fpBlob_text = some ⟨ocpBlob_text, odpBlob_text, .func (PySem.W.fnOf "text" "Blob.text" (C8.fnArgs s_Blob_text) (C8.fnBody s_Blob_text) (C8.fnScope s_Blob_text) .none kVpBlob_text dcpBlob_text pmpBlob_text anpBlob_text cdpBlob_text ctpBlob_text), slpBlob_text⟩)
    (cpBlob_text : PySem.W.codeIn K cdpBlob_text "Blob.text" = true)
    (nF_ : PySem.W.findIn K (.ref CD) "_files" = some none)
    (nL_ : PySem.W.findIn K (.ref CD) "_steps_left" = some none)
    (nT_ : PySem.W.findIn K (.ref CB) "_text" = some none)
    (e_kdD : PySem.W.nsIn K kdD "left" = some (some .none))
    (xF : K.lookup cF = some (excClassObj "ForkError" qF cF NF bsF [.type "ValueError", .type "Exception", .type "BaseException", .type "object"] true snF subF abF colF ddF mF_0 mF_1 mF_2 mF_3 mF_5 "ValueError.__new__"))
    (xN : K.lookup cN = some (excClassObj "BadName" qN cN NN bsN [.ref cF, .type "ValueError", .type "Exception", .type "BaseException", .type "object"] true snN subN abN colN ddN mN_0 mN_1 mN_2 mN_3 mN_5 "ValueError.__new__"))
    (xM : K.lookup cM = some (excClassObj "BadCommand" qM cM NM bsM [.ref cF, .type "ValueError", .type "Exception", .type "BaseException", .type "object"] true snM subM abM colM ddM mM_0 mM_1 mM_2 mM_3 mM_5 "ValueError.__new__"))
    (xX : K.lookup cX = some (excClassObj "Crash" qX cX NX bsX [.ref cF, .type "ValueError", .type "Exception", .type "BaseException", .type "object"] true snX subX abX colX ddX mX_0 mX_1 mX_2 mX_3 mX_5 "ValueError.__new__"))
    (xO : K.lookup cO = some (excClassObj "NoObject" qO cO NO bsO [.type "KeyError", .type "LookupError", .type "Exception", .type "BaseException", .type "object"] true snO subO abO colO ddO mO_0 mO_1 mO_2 mO_3 mO_5 "LookupError.__new__"))
    (saN : PySem.W.findIn K (.ref cN) "__setattr__" = some (some (.builtin "object.__setattr__")))
    (kCN : PySem.W.keepIn K (.ref cN) = true)
    (iCN : PySem.W.findIn K (.ref cN) "__init__" = some (some (.ref iF)))
    (gaN : PySem.W.findIn K (.ref cN) "__getattribute__" = some (some (.builtin "BaseException.__getattribute__")))
    (ggN : PySem.W.findIn K (.ref cN) "__getattr__" = some none)
    (haN : PySem.W.findIn K (.ref cN) "__class__" = some (some (.builtin "object.__class__")))
    (nfN : PySem.W.findIn K (.ref cN) "why" = some none)
    (saM : PySem.W.findIn K (.ref cM) "__setattr__" = some (some (.builtin "object.__setattr__")))
    (kCM : PySem.W.keepIn K (.ref cM) = true)
    (iCM : PySem.W.findIn K (.ref cM) "__init__" = some (some (.ref iF)))
    (gaM : PySem.W.findIn K (.ref cM) "__getattribute__" = some (some (.builtin "BaseException.__getattribute__")))
    (ggM : PySem.W.findIn K (.ref cM) "__getattr__" = some none)
    (haM : PySem.W.findIn K (.ref cM) "__class__" = some (some (.builtin "object.__class__")))
    (nfM : PySem.W.findIn K (.ref cM) "why" = some none)
    (saX : PySem.W.findIn K (.ref cX) "__setattr__" = some (some (.builtin "object.__setattr__")))
    (kCX : PySem.W.keepIn K (.ref cX) = true)
    (iCX : PySem.W.findIn K (.ref cX) "__init__" = some (some (.ref iF)))
    (gaX : PySem.W.findIn K (.ref cX) "__getattribute__" = some (some (.builtin "BaseException.__getattribute__")))
    (ggX : PySem.W.findIn K (.ref cX) "__getattr__" = some none)
    (haX : PySem.W.findIn K (.ref cX) "__class__" = some (some (.builtin "object.__class__")))
    (nfX : PySem.W.findIn K (.ref cX) "why" = some none)
    (saO : PySem.W.findIn K (.ref cO) "__setattr__" = some (some (.builtin "object.__setattr__")))
    (kCO : PySem.W.keepIn K (.ref cO) = true)
    (iCO : PySem.W.findIn K (.ref cO) "__init__" = some (some (.ref iO)))
    (gaO : PySem.W.findIn K (.ref cO) "__getattribute__" = some (some (.builtin "BaseException.__getattribute__")))
    (ggO : PySem.W.findIn K (.ref cO) "__getattr__" = some none)
    (haO : PySem.W.findIn K (.ref cO) "__class__" = some (some (.builtin "object.__class__")))
    (nfO : PySem.W.findIn K (.ref cO) "name" = some none)
    (tiF : PySem.W.typeIn K (.ref iF) = some (.type "function"))
    (liF : K.lookup iF = some ⟨ociF, odiF, .func (PySem.W.fnOf "__init__" "ForkError.__init__" (C8.fnArgs s_ForkError_init) (C8.fnBody s_ForkError_init) (C8.fnScope s_ForkError_init) (.ref dT) kViF dciF pmiF aniF cdiF ctiF), sliF⟩)
    (ciF : PySem.W.codeIn K cdiF "ForkError.__init__" = true)
    (kiF : PySem.W.keepIn K (.ref iF) = true)
    (tiO : PySem.W.typeIn K (.ref iO) = some (.type "function"))
    (liO : K.lookup iO = some ⟨ociO, odiO, .func (PySem.W.fnOf "__init__" "NoObject.__init__" (C8.fnArgs s_NoObject_init) (C8.fnBody s_NoObject_init) (C8.fnScope s_NoObject_init) .none kViO dciO pmiO aniO cdiO ctiO), sliO⟩)
    (ciO : PySem.W.codeIn K cdiO "NoObject.__init__" = true)
    (kiO : PySem.W.keepIn K (.ref iO) = true)
    (e_dT : K.lookup dT = some ⟨tcw, tow, .seq #[.str (Str.ofString "") tkd] tnw, tsw⟩)
    (nTabs : PySem.W.noTabs K = true) (hTb1 : ∃ cd Pt, TabD mg h "_law_refusals_right" cd Pt) (hTb : ∃ cd Pt, TabD mg h "law" cd Pt)
    : LamX.LawAtS l w K C8.CX0 10 63 "_law_script" mg fa h := by
  have e := hfa.symm.trans (PySem.W.mg_of X G a28)
  cases e
  have T : Top K mg := {
    d_is_id := ⟨_, _, ⟨⟨⟨_, _, _, _, _, _, _, _, _, _, rfl, l1, c1⟩⟩, PySem.W.mg_of X G a1, k1⟩, rfl⟩
    d_is_segment := ⟨_, _, ⟨⟨⟨_, _, _, _, _, _, _, _, _, _, rfl, l2, c2⟩⟩, PySem.W.mg_of X G a2, k2⟩, rfl⟩
    d_is_author := ⟨_, _, ⟨⟨⟨_, _, _, _, _, _, _, _, _, _, rfl, l3, c3⟩⟩, PySem.W.mg_of X G a3, k3⟩, rfl⟩
    d_is_text := ⟨_, _, ⟨⟨⟨_, _, _, _, _, _, _, _, _, _, rfl, l4, c4⟩⟩, PySem.W.mg_of X G a4, k4⟩, rfl⟩
    d_is_message := ⟨_, _, ⟨⟨⟨_, _, _, _, _, _, _, _, _, _, rfl, l5, c5⟩⟩, PySem.W.mg_of X G a5, k5⟩, rfl⟩
    d_is_time := ⟨_, _, ⟨⟨⟨_, _, _, _, _, _, _, _, _, _, rfl, l6, c6⟩⟩, PySem.W.mg_of X G a6, k6⟩, rfl⟩
    d_is_count := ⟨_, _, ⟨⟨⟨_, _, _, _, _, _, _, _, _, _, rfl, l7, c7⟩⟩, PySem.W.mg_of X G a7, k7⟩, rfl⟩
    d_is_limit := ⟨_, _, ⟨⟨⟨_, _, _, _, _, _, _, _, _, _, rfl, l8, c8⟩⟩, PySem.W.mg_of X G a8, k8⟩, rfl⟩
    d_are_ids := ⟨_, _, ⟨⟨⟨_, _, _, _, _, _, _, _, _, _, rfl, l9, c9⟩⟩, PySem.W.mg_of X G a9, k9⟩, rfl⟩
    d_ascending := ⟨_, _, ⟨⟨⟨_, _, _, _, _, _, _, _, _, _, rfl, l10, c10⟩⟩, PySem.W.mg_of X G a10, k10⟩, rfl⟩
    d__is_word := ⟨_, _, ⟨⟨⟨_, _, _, _, _, _, _, _, _, _, rfl, l11, c11⟩⟩, PySem.W.mg_of X G a11, k11⟩, rfl⟩
    d__check_name := ⟨_, _, ⟨⟨⟨_, _, _, _, _, _, _, _, _, _, rfl, l12, c12⟩⟩, PySem.W.mg_of X G a12, k12⟩, rfl⟩
    d__checked_left := ⟨_, _, ⟨⟨⟨_, _, _, _, _, _, _, _, _, _, rfl, l13, c13⟩⟩, PySem.W.mg_of X G a13, k13⟩, rfl⟩
    d_is_value := ⟨_, _, ⟨⟨⟨_, _, _, _, _, _, _, _, _, _, rfl, l14, c14⟩⟩, PySem.W.mg_of X G a14, k14⟩, rfl⟩
    d_encode := ⟨_, _, ⟨⟨⟨_, _, _, _, _, _, _, _, _, _, rfl, l15, c15⟩⟩, PySem.W.mg_of X G a15, k15⟩, rfl⟩
    d_l_cell_at := ⟨_, _, ⟨⟨⟨_, _, _, _, _, _, _, _, _, _, rfl, l16, c16⟩⟩, PySem.W.mg_of X G a16, k16⟩, rfl⟩
    d_l_well := ⟨_, _, ⟨⟨⟨_, _, _, _, _, _, _, _, _, _, rfl, l17, c17⟩⟩, PySem.W.mg_of X G a17, k17⟩, rfl⟩
    d_l_draw := ⟨_, _, ⟨⟨⟨_, _, _, _, _, _, _, _, _, _, rfl, l18, c18⟩⟩, PySem.W.mg_of X G a18, k18⟩, rfl⟩
    d_l_pick := ⟨_, _, ⟨⟨⟨_, _, _, _, _, _, _, _, _, _, rfl, l19, c19⟩⟩, PySem.W.mg_of X G a19, k19⟩, rfl⟩
    d_l_did := ⟨_, _, ⟨⟨⟨_, _, _, _, _, _, _, _, _, _, rfl, l20, c20⟩⟩, PySem.W.mg_of X G a20, k20⟩, rfl⟩
    d_l_due := ⟨_, _, ⟨⟨⟨_, _, _, _, _, _, _, _, _, _, rfl, l21, c21⟩⟩, PySem.W.mg_of X G a21, k21⟩, rfl⟩
    d_l_after := ⟨_, _, ⟨⟨⟨_, _, _, _, _, _, _, _, _, _, rfl, l22, c22⟩⟩, PySem.W.mg_of X G a22, k22⟩, rfl⟩
    d_l_same := ⟨_, _, ⟨⟨⟨_, _, _, _, _, _, _, _, _, _, rfl, l23, c23⟩⟩, PySem.W.mg_of X G a23, k23⟩, rfl⟩
    d_l_refused := ⟨_, _, ⟨⟨⟨_, _, _, _, _, _, _, _, _, _, rfl, l24, c24⟩⟩, PySem.W.mg_of X G a24, k24⟩, rfl⟩
    d_l_error := ⟨_, _, ⟨⟨⟨_, _, _, _, _, _, _, _, _, _, rfl, l25, c25⟩⟩, PySem.W.mg_of X G a25, k25⟩, rfl⟩
    d_l_refusals_right := ⟨_, _, ⟨⟨⟨_, _, _, _, _, _, _, _, _, _, rfl, l26, c26⟩⟩, PySem.W.mg_of X G a26, k26⟩, rfl⟩
    d_l_deed := ⟨_, _, ⟨⟨⟨_, _, _, _, _, _, _, _, _, _, rfl, l27, c27⟩⟩, PySem.W.mg_of X G a27, k27⟩, rfl⟩
    d_law := ⟨_, _, ⟨⟨⟨_, _, _, _, _, _, _, _, _, _, rfl, l28, c28⟩⟩, PySem.W.mg_of X G a28, k28⟩, rfl⟩
    z_KeyError := PySem.W.mg_none_of X G z_KeyError
    z_ValueError := PySem.W.mg_none_of X G z_ValueError
    z_all := PySem.W.mg_none_of X G z_all
    z_bool := PySem.W.mg_none_of X G z_bool
    z_bytes := PySem.W.mg_none_of X G z_bytes
    z_dict := PySem.W.mg_none_of X G z_dict
    z_int := PySem.W.mg_none_of X G z_int
    z_isinstance := PySem.W.mg_none_of X G z_isinstance
    z_len := PySem.W.mg_none_of X G z_len
    z_list := PySem.W.mg_none_of X G z_list
    z_range := PySem.W.mg_none_of X G z_range
    z_set := PySem.W.mg_none_of X G z_set
    z_sorted := PySem.W.mg_none_of X G z_sorted
    z_str := PySem.W.mg_none_of X G z_str
    z_tuple := PySem.W.mg_none_of X G z_tuple
    g_HEX_DIGITS := ⟨_, PySem.W.mg_of X G g_HEX_DIGITS, ⟨_, rfl⟩⟩
    g_LETTERS := ⟨_, PySem.W.mg_of X G g_LETTERS, ⟨_, rfl⟩⟩
    g_SEGMENT_SIGNS := ⟨_, PySem.W.mg_of X G g_SEGMENT_SIGNS, ⟨_, rfl⟩⟩
    g_LONGEST_WORD := ⟨_, PySem.W.mg_of X G g_LONGEST_WORD, ⟨_, rfl⟩⟩
    g_LONGEST_TEXT := ⟨_, PySem.W.mg_of X G g_LONGEST_TEXT, ⟨_, rfl⟩⟩
    g_LONGEST_MESSAGE := ⟨_, PySem.W.mg_of X G g_LONGEST_MESSAGE, ⟨_, rfl⟩⟩
    g_LATEST := ⟨_, PySem.W.mg_of X G g_LATEST, ⟨_, rfl⟩⟩
    g_MOST_ENTRIES := ⟨_, PySem.W.mg_of X G g_MOST_ENTRIES, ⟨_, rfl⟩⟩
    g_MOST_PARENTS := ⟨_, PySem.W.mg_of X G g_MOST_PARENTS, ⟨_, rfl⟩⟩ }
  have cfF : CF K "ForkError" "ValueError.__new__" VE cF := ⟨_, _, _, _, _, _, _, _, _, _, _, _, _, xF⟩
  have cfN : CF K "BadName" "ValueError.__new__" (.ref cF :: VE) cN := ⟨_, _, _, _, _, _, _, _, _, _, _, _, _, xN⟩
  have cfM : CF K "BadCommand" "ValueError.__new__" (.ref cF :: VE) cM := ⟨_, _, _, _, _, _, _, _, _, _, _, _, _, xM⟩
  have cfX : CF K "Crash" "ValueError.__new__" (.ref cF :: VE) cX := ⟨_, _, _, _, _, _, _, _, _, _, _, _, _, xX⟩
  have cfO : CF K "NoObject" "LookupError.__new__" KE cO := ⟨_, _, _, _, _, _, _, _, _, _, _, _, _, xO⟩
  have hbE : ((Value.ref cF :: VE).contains (.type "BaseException")) = true := rfl
  have hbO : ((Value.ref cF :: VE).contains (.type "object")) = true := rfl
  have hbK : (KE.contains (.type "BaseException")) = true := rfl
  have hoK : (KE.contains (.type "object")) = true := rfl
  have hvE : PySem.HandSPX.refsVE (Value.ref cF :: VE) = true := by show PySem.HandSPX.refsVE VE = true; decide +kernel
  have FD : FunD K "__init__" "ForkError.__init__" (C8.fnArgs s_ForkError_init) (C8.fnBody s_ForkError_init) (C8.fnScope s_ForkError_init) [V.str ""] [] iF (PySem.W.fnOf "__init__" "ForkError.__init__" (C8.fnArgs s_ForkError_init) (C8.fnBody s_ForkError_init) (C8.fnScope s_ForkError_init) (.ref dT) kViF dciF pmiF aniF cdiF ctiF) :=
    ⟨⟨_, _, _, _, _, _, _, _, _, _, rfl, liF, ciF, .inr ⟨(fun z => by cases z), dT, _, [.str (Str.ofString "") tkd], tnw, rfl, e_dT, rfl, .cons ⟨tkd, rfl⟩ .nil⟩, .inl rfl⟩, kiF⟩
  have bF : Binds K (PySem.W.fnOf "__init__" "ForkError.__init__" (C8.fnArgs s_ForkError_init) (C8.fnBody s_ForkError_init) (C8.fnScope s_ForkError_init) (.ref dT) kViF dciF pmiF aniF cdiF ctiF) ["self", "why"] [] := by
    obtain ⟨ds, v, b⟩ := FD.binds1 (ps := ["self", "why"]) 2 1 (fun z => by cases z) rfl (fun T kV doc pm an cdv ct us its h1 h2 => match us, its, h1, h2 with | [_, _], [_], _, _ => ⟨_, rfl, rfl⟩)
    cases v
    exact b
  have eN : ErrC K mg "BadName" "why" cN iF := ⟨PySem.W.mg_of X G eN_mg, ⟨(cfN.oex hvE saN kCN hbE).exC, cfN.typ⟩,
      cfN.xc PySem.F.excBase_ValueError (rve_ok _) (rve_pass _) hbO hbE saN kCN iCN tiF gaN ggN haN e_hn e_ht, nfN, _, fun P w base => ini_ForkError ⟨⟨_, _, _, _, _, _, _, _, _, _, rfl, liF, ciF⟩⟩, bF⟩
  have eM : ErrC K mg "BadCommand" "why" cM iF := ⟨PySem.W.mg_of X G eM_mg, ⟨(cfM.oex hvE saM kCM hbE).exC, cfM.typ⟩,
      cfM.xc PySem.F.excBase_ValueError (rve_ok _) (rve_pass _) hbO hbE saM kCM iCM tiF gaM ggM haM e_hn e_ht, nfM, _, fun P w base => ini_ForkError ⟨⟨_, _, _, _, _, _, _, _, _, _, rfl, liF, ciF⟩⟩, bF⟩
  have eX : ErrC K mg "Crash" "why" cX iF := ⟨PySem.W.mg_of X G eX_mg, ⟨(cfX.oex hvE saX kCX hbE).exC, cfX.typ⟩,
      cfX.xc PySem.F.excBase_ValueError (rve_ok _) (rve_pass _) hbO hbE saX kCX iCX tiF gaX ggX haX e_hn e_ht, nfX, _, fun P w base => ini_ForkError ⟨⟨_, _, _, _, _, _, _, _, _, _, rfl, liF, ciF⟩⟩, bF⟩
  have FO : C8.Fun K "__init__" "NoObject.__init__" s_NoObject_init iO (PySem.W.fnOf "__init__" "NoObject.__init__" (C8.fnArgs s_NoObject_init) (C8.fnBody s_NoObject_init) (C8.fnScope s_NoObject_init) .none kViO dciO pmiO aniO cdiO ctiO) := ⟨⟨_, _, _, _, _, _, _, _, _, _, rfl, liO, ciO⟩⟩
  have eO : ErrC K mg "NoObject" "name" cO iO := ⟨PySem.W.mg_of X G eO_mg, ⟨by rw [cfO.sub, List.contains_cons, hbK, Bool.or_true], cfO.typ⟩,
      cfO.xc PySem.F.excBase_LookupError ke_ok ke_pass hoK hbK saO kCO iCO tiO gaO ggO haO e_hn e_ht, nfO, _, fun P w base => ini_NoObject FO, FO.binds rfl (fun _ _ _ _ _ _ us hl => match us, hl with | [_, _], _ => rfl)⟩
  have FI : FunD K "__init__" "Disk.__init__" (C8.fnArgs s_Disk_init) (C8.fnBody s_Disk_init) (C8.fnScope s_Disk_init) [] [("left", V.non)] fmDisk_init (PySem.W.fnOf "__init__" "Disk.__init__" (C8.fnArgs s_Disk_init) (C8.fnBody s_Disk_init) (C8.fnScope s_Disk_init) .none (.ref kdD) dcmDisk_init pmmDisk_init anmDisk_init cdmDisk_init ctmDisk_init) :=
    ⟨⟨_, _, _, _, _, _, _, _, _, _, rfl, lmDisk_init, cmDisk_init, .inl ⟨rfl, rfl⟩, .inr ⟨kdD, rfl, fun q hq => by rw [List.mem_singleton.mp hq]; exact ⟨_, e_kdD, rfl⟩⟩⟩, kmDisk_init⟩
  have kD1 : IniK K CD "Disk.__init__" s_Disk_init ["self", "left"] 1 ["left"] (fun vs zs => vs ++ zs) := by
    obtain ⟨mv, b⟩ := FI.kbinds0 (ps := ["self", "left"]) 1 ["left"] [] (fun us mv ws => us ++ ws) (fun z => by cases z) (fun q hq => by cases hq) (fun r1 r3 r4 => r1.append r4)
      (fun D doc pm an cdv ct us mv ws h1 h3 h4 => match us, mv, ws, h1, h3, h4 with | [_], [], [_], _, _, _ => rfl)
    exact ⟨_, _, _, ⟨CD_mk, amDisk_init, imDisk_init, CD_kc⟩, ⟨⟨_, _, _, _, _, _, _, _, _, _, rfl, lmDisk_init, cmDisk_init⟩⟩, b⟩
  have iniD : ∃ f fd ds, Mk K CD f ∧ C8.Fun K "__init__" "Disk.__init__" s_Disk_init f fd ∧ Vals [V.non] ds ∧ Binds K fd ["self", "left"] ds := by
    obtain ⟨ds, v, b⟩ := FI.binds0 (ps := ["self", "left"]) 1 (fun z => by cases z) rfl (fun D doc pm an cdv ct us ks h1 h2 => match us, ks, h1, h2 with | [_], [_], _, _ => ⟨_, _, _, _, _, _, rfl, rfl, rfl⟩)
    exact ⟨_, _, ds, ⟨CD_mk, amDisk_init, imDisk_init, CD_kc⟩, ⟨⟨_, _, _, _, _, _, _, _, _, _, rfl, lmDisk_init, cmDisk_init⟩⟩, v, b⟩
  have kDD : PySem.W.kitOne K (.ref CD) (.ref CD) = some true := by unfold PySem.W.kitOne; rw [if_pos (beq_self_eq_true _)]
  have inD : C8.InsC K CD := ⟨⟨CD_pg, CD_hd, CD_po, CD_sa⟩, CD_ha, e_hn, e_ht, CD_hm, kDD⟩
  have kBB : PySem.W.kitOne K (.ref CB) (.ref CB) = some true := by unfold PySem.W.kitOne; rw [if_pos (beq_self_eq_true _)]
  have inB : C8.InsC K CB := ⟨⟨CB_pg, CB_hd, CB_po, CB_sa⟩, CB_ha, e_hn, e_ht, CB_hm, kBB⟩
  have xNN : PySem.W.exmOne K (.ref cN) (.ref cN) = some true := cfN.exm cfN hbE (by rw [List.contains_cons, beq_self_eq_true]; rfl)
  have xNM : PySem.W.exmOne K (.ref cN) (.ref cM) = some false := cfN.no cfM hbE (by decide +kernel) (VE_no cfF cfM (by decide +kernel))
  have xNX : PySem.W.exmOne K (.ref cN) (.ref cX) = some false := cfN.no cfX hbE (by decide +kernel) (VE_no cfF cfX (by decide +kernel))
  have xNO : PySem.W.exmOne K (.ref cN) (.ref cO) = some false := cfN.no cfO hbK (by decide +kernel) (VE_no cfF cfO (by decide +kernel))
  have xMN : PySem.W.exmOne K (.ref cM) (.ref cN) = some false := cfM.no cfN hbE (by decide +kernel) (VE_no cfF cfN (by decide +kernel))
  have xMM : PySem.W.exmOne K (.ref cM) (.ref cM) = some true := cfM.exm cfM hbE (by rw [List.contains_cons, beq_self_eq_true]; rfl)
  have xMX : PySem.W.exmOne K (.ref cM) (.ref cX) = some false := cfM.no cfX hbE (by decide +kernel) (VE_no cfF cfX (by decide +kernel))
  have xMO : PySem.W.exmOne K (.ref cM) (.ref cO) = some false := cfM.no cfO hbK (by decide +kernel) (VE_no cfF cfO (by decide +kernel))
  have xXN : PySem.W.exmOne K (.ref cX) (.ref cN) = some false := cfX.no cfN hbE (by decide +kernel) (VE_no cfF cfN (by decide +kernel))
  have xXM : PySem.W.exmOne K (.ref cX) (.ref cM) = some false := cfX.no cfM hbE (by decide +kernel) (VE_no cfF cfM (by decide +kernel))
  have xXX : PySem.W.exmOne K (.ref cX) (.ref cX) = some true := cfX.exm cfX hbE (by rw [List.contains_cons, beq_self_eq_true]; rfl)
  have xXO : PySem.W.exmOne K (.ref cX) (.ref cO) = some false := cfX.no cfO hbK (by decide +kernel) (VE_no cfF cfO (by decide +kernel))
  have xON : PySem.W.exmOne K (.ref cO) (.ref cN) = some false := cfO.no cfN hbE (by decide +kernel) rfl
  have xOM : PySem.W.exmOne K (.ref cO) (.ref cM) = some false := cfO.no cfM hbE (by decide +kernel) rfl
  have xOX : PySem.W.exmOne K (.ref cO) (.ref cX) = some false := cfO.no cfX hbE (by decide +kernel) rfl
  have xOO : PySem.W.exmOne K (.ref cO) (.ref cO) = some true := cfO.exm cfO hbK (by rw [List.contains_cons, beq_self_eq_true]; rfl)
  have TS : TopD K mg CD CB ⟨cN, cM, cX, cO⟩ iF iO := { T with
    insD := inD
    mgD := PySem.W.mg_of X G eD_mg
    kD1 := kD1
    iniD := iniD
    pDleft := ⟨_, _, _, ⟨apDisk_left, gpDisk_left, tpDisk_left, _, rpDisk_left_⟩, ⟨⟨_, _, _, _, _, _, _, _, _, _, rfl, lpDisk_left, cpDisk_left⟩⟩, rfl⟩
    d_limit := ⟨_, _, ⟨⟨_, _, _, _, _, _, _, _, _, _, rfl, lmDisk_limit, cmDisk_limit⟩⟩, ⟨amDisk_limit, imDisk_limit, kmDisk_limit⟩, rfl⟩
    d_write := ⟨_, _, ⟨⟨_, _, _, _, _, _, _, _, _, _, rfl, lmDisk_write, cmDisk_write⟩⟩, ⟨amDisk_write, imDisk_write, kmDisk_write⟩, rfl⟩
    d_sync := ⟨_, _, ⟨⟨_, _, _, _, _, _, _, _, _, _, rfl, lmDisk_sync, cmDisk_sync⟩⟩, ⟨amDisk_sync, imDisk_sync, kmDisk_sync⟩, rfl⟩
    d_rename := ⟨_, _, ⟨⟨_, _, _, _, _, _, _, _, _, _, rfl, lmDisk_rename, cmDisk_rename⟩⟩, ⟨amDisk_rename, imDisk_rename, kmDisk_rename⟩, rfl⟩
    d_remove := ⟨_, _, ⟨⟨_, _, _, _, _, _, _, _, _, _, rfl, lmDisk_remove, cmDisk_remove⟩⟩, ⟨amDisk_remove, imDisk_remove, kmDisk_remove⟩, rfl⟩
    d_read := ⟨_, _, ⟨⟨_, _, _, _, _, _, _, _, _, _, rfl, lmDisk_read, cmDisk_read⟩⟩, ⟨amDisk_read, imDisk_read, kmDisk_read⟩, rfl⟩
    d_names := ⟨_, _, ⟨⟨_, _, _, _, _, _, _, _, _, _, rfl, lmDisk_names, cmDisk_names⟩⟩, ⟨amDisk_names, imDisk_names, kmDisk_names⟩, rfl⟩
    d_crashed := ⟨_, _, ⟨⟨_, _, _, _, _, _, _, _, _, _, rfl, lmDisk_crashed, cmDisk_crashed⟩⟩, ⟨amDisk_crashed, imDisk_crashed, kmDisk_crashed⟩, rfl⟩
    d_check := ⟨_, _, ⟨⟨_, _, _, _, _, _, _, _, _, _, rfl, lmDiskcheck_is_there, cmDiskcheck_is_there⟩⟩, ⟨amDiskcheck_is_there, imDiskcheck_is_there, kmDiskcheck_is_there⟩, rfl⟩
    d_count := ⟨_, _, ⟨⟨_, _, _, _, _, _, _, _, _, _, rfl, lmDiskcount_step, cmDiskcount_step⟩⟩, ⟨amDiskcount_step, imDiskcount_step, kmDiskcount_step⟩, rfl⟩
    nF := nF_
    nL := nL_
    insB := inB
    mgB := PySem.W.mg_of X G eB_mg
    kBB := kBB
    iniB := ⟨_, _, ⟨CB_mk, amBlob_init, imBlob_init, CB_kc⟩, ⟨⟨_, _, _, _, _, _, _, _, _, _, rfl, lmBlob_init, cmBlob_init⟩⟩, rfl⟩
    pBtext := ⟨_, _, _, ⟨apBlob_text, gpBlob_text, tpBlob_text, _, rpBlob_text_⟩, ⟨⟨_, _, _, _, _, _, _, _, _, _, rfl, lpBlob_text, cpBlob_text⟩⟩, rfl⟩
    nT := nT_
    eN := eN
    eM := eM
    eX := eX
    eO := eO
    ex := fun i j hi hj => match i, j, hi, hj with
      | 0, 0, _, _ => xNN
      | 0, 1, _, _ => xNM
      | 0, 2, _, _ => xNX
      | 0, 3, _, _ => xNO
      | 0, n + 4, _, h => absurd h (by omega)
      | 1, 0, _, _ => xMN
      | 1, 1, _, _ => xMM
      | 1, 2, _, _ => xMX
      | 1, 3, _, _ => xMO
      | 1, n + 4, _, h => absurd h (by omega)
      | 2, 0, _, _ => xXN
      | 2, 1, _, _ => xXM
      | 2, 2, _, _ => xXX
      | 2, 3, _, _ => xXO
      | 2, n + 4, _, h => absurd h (by omega)
      | 3, 0, _, _ => xON
      | 3, 1, _, _ => xOM
      | 3, 2, _, _ => xOX
      | 3, 3, _, _ => xOO
      | 3, n + 4, _, h => absurd h (by omega)
      | n + 4, _, h, _ => absurd h (by omega) }
  obtain ⟨cd1, P1, hTD1⟩ := hTb1
  have hcd1 := hTD1.code X (PySem.W.mg_of X G a26) l26
  obtain ⟨fa1, o1, fd1, u1, u2, u3, u4, uC, uT⟩ := hTD1
  have nT1 : K.lookup P1 = none := notab_none X nTabs uT
  obtain ⟨cd, Pt, hTD⟩ := hTb
  have hcd := hTD.code X (PySem.W.mg_of X G a28) l28
  obtain ⟨fa', o', fd', t1, t2, t3, t4, tC, tT⟩ := hTD
  have nT : K.lookup Pt = none := notab_none X nTabs tT
  have two : ∀ {Q : Addr × Addr → Prop}, Q (cd1, P1) → Q (cd, Pt) → ∀ p ∈ [(cd1, P1), (cd, Pt)], Q p := fun q1 q2 p hp => (List.mem_cons.mp hp).elim (fun z => by rw [z]; exact q1) (fun hp => by rw [List.mem_singleton.mp hp]; exact q2)
  refine ⟨PySem.W.fnOf "law" "law" (C8.fnArgs s_law) (C8.fnBody s_law) (C8.fnScope s_law) .none kV28 dc28 pm28 an28 cd28 ct28, [(cd1, P1), (cd, Pt)], spLawT K P1 Pt, two uT tT, two nT1 nT, two uC tC, fun s v => .of_eq rfl, fun H a ns hl _ hT hS => ⟨a, ns, rfl, hS, hl, fun P hP => ?_, fun _ => rfl⟩, fun base _ _ hB => ok_law TS (hB (cd1, P1) List.mem_cons_self) ⟨_, _, ⟨⟨⟨_, _, _, _, _, _, _, _, _, _, rfl, l26, c26⟩⟩, PySem.W.mg_of X G a26, k26⟩, rfl, hcd1⟩ (hB (cd, Pt) (List.mem_cons_of_mem _ (List.mem_singleton.mpr rfl))) ⟨⟨_, _, _, _, _, _, _, _, _, _, rfl, l28, c28⟩⟩ hcd⟩
  rcases List.mem_cons.mp hP with z | z
  · rw [z]; exact TabL.nil (hT (cd1, P1) List.mem_cons_self)
  · rw [List.mem_singleton.mp z]; exact TabL.nil (hT (cd, Pt) (List.mem_cons_of_mem _ (List.mem_singleton.mpr rfl)))
end Fk
open PySem PySem.W PyProof.Rows
set_option maxHeartbeats 0 in
theorem PySem.Challenge.cw_forkhaul_k13_whole_disks_holds : PySem.Challenge.rw_forkhaul_k13_whole_disks.Holds := by
  w_on; o_law; k_head; (case hw => w_witness2)
  k_fill
  refine Fk.walk_ofTabs (l := PySem.Challenge.rw_forkhaul_k13_whole_disks) (n := 63) (k := 10) (x := "_law_script") (CX := fun _ => C8.CX0) (ys := ["_law_refusals_right", "law"]) rfl (by decide) rfl ⟨rfl, by decide, by decide⟩ ?R (fun w h Y => PySem.W.km_in_of Y) ?F (fun _ _ _ _ _ h => h)
  case R => intro y hy; rcases List.mem_cons.mp hy with hy | hy; (rw [hy]; first | rfl | decide +kernel | k_is); (rw [List.mem_singleton.mp hy]; first | rfl | decide +kernel | k_is)
  case F =>
    intro w mg fa h Y KX G hmg tabs
    refine' Fk.all_mk KX G hmg ?a1 ?l1 ?c1 ?k1 ?a2 ?l2 ?c2 ?k2 ?a3 ?l3 ?c3 ?k3 ?a4 ?l4 ?c4 ?k4 ?a5 ?l5 ?c5 ?k5 ?a6 ?l6 ?c6 ?k6 ?a7 ?l7 ?c7 ?k7 ?a8 ?l8 ?c8 ?k8 ?a9 ?l9 ?c9 ?k9 ?a10 ?l10 ?c10 ?k10 ?a11 ?l11 ?c11 ?k11 ?a12 ?l12 ?c12 ?k12 ?a13 ?l13 ?c13 ?k13 ?a14 ?l14 ?c14 ?k14 ?a15 ?l15 ?c15 ?k15 ?a16 ?l16 ?c16 ?k16 ?a17 ?l17 ?c17 ?k17 ?a18 ?l18 ?c18 ?k18 ?a19 ?l19 ?c19 ?k19 ?a20 ?l20 ?c20 ?k20 ?a21 ?l21 ?c21 ?k21 ?a22 ?l22 ?c22 ?k22 ?a23 ?l23 ?c23 ?k23 ?a24 ?l24 ?c24 ?k24 ?a25 ?l25 ?c25 ?k25 ?a26 ?l26 ?c26 ?k26 ?a27 ?l27 ?c27 ?k27 ?a28 ?l28 ?c28 ?k28 ?z_KeyError ?z_ValueError ?z_all ?z_bool ?z_bytes ?z_dict ?z_int ?z_isinstance ?z_len ?z_list ?z_range ?z_set ?z_sorted ?z_str ?z_tuple ?g_HEX_DIGITS ?g_LETTERS ?g_SEGMENT_SIGNS ?g_LONGEST_WORD ?g_LONGEST_TEXT ?g_LONGEST_MESSAGE ?g_LATEST ?g_MOST_ENTRIES ?g_MOST_PARENTS ?eD_mg ?eB_mg ?eF_mg ?eN_mg ?eM_mg ?eX_mg ?eO_mg ?CD_pg ?CD_hd ?CD_po ?CD_sa ?CD_mk ?CD_kc ?CD_ha ?CD_hm ?CB_pg ?CB_hd ?CB_po ?CB_sa ?CB_mk ?CB_kc ?CB_ha ?CB_hm ?e_hn ?e_ht ?amDisk_init ?imDisk_init ?lmDisk_init ?cmDisk_init ?kmDisk_init ?amBlob_init ?imBlob_init ?lmBlob_init ?cmBlob_init ?kmBlob_init ?amDisk_limit ?imDisk_limit ?lmDisk_limit ?cmDisk_limit ?kmDisk_limit ?amDisk_write ?imDisk_write ?lmDisk_write ?cmDisk_write ?kmDisk_write ?amDisk_sync ?imDisk_sync ?lmDisk_sync ?cmDisk_sync ?kmDisk_sync ?amDisk_rename ?imDisk_rename ?lmDisk_rename ?cmDisk_rename ?kmDisk_rename ?amDisk_remove ?imDisk_remove ?lmDisk_remove ?cmDisk_remove ?kmDisk_remove ?amDisk_read ?imDisk_read ?lmDisk_read ?cmDisk_read ?kmDisk_read ?amDisk_names ?imDisk_names ?lmDisk_names ?cmDisk_names ?kmDisk_names ?amDisk_crashed ?imDisk_crashed ?lmDisk_crashed ?cmDisk_crashed ?kmDisk_crashed ?amDiskcheck_is_there ?imDiskcheck_is_there ?lmDiskcheck_is_there ?cmDiskcheck_is_there ?kmDiskcheck_is_there ?amDiskcount_step ?imDiskcount_step ?lmDiskcount_step ?cmDiskcount_step ?kmDiskcount_step ?apDisk_left ?gpDisk_left ?tpDisk_left ?rpDisk_left_ ?lpDisk_left ?cpDisk_left ?apBlob_text ?gpBlob_text ?tpBlob_text ?rpBlob_text_ ?lpBlob_text ?cpBlob_text ?nF_ ?nL_ ?nT_ ?e_kdD ?xF ?xN ?xM ?xX ?xO ?saN ?kCN ?iCN ?gaN ?ggN ?haN ?nfN ?saM ?kCM ?iCM ?gaM ?ggM ?haM ?nfM ?saX ?kCX ?iCX ?gaX ?ggX ?haX ?nfX ?saO ?kCO ?iCO ?gaO ?ggO ?haO ?nfO ?tiF ?liF ?ciF ?kiF ?tiO ?liO ?ciO ?kiO ?e_dT ?nTabs (tabs _ List.mem_cons_self) (tabs _ (List.mem_cons_of_mem _ (List.mem_singleton.mpr rfl)))
    (case a1 => k_is); (case l1 => k_is); (case c1 => k_is); (case k1 => k_is); (case a2 => k_is); (case l2 => k_is); (case c2 => k_is); (case k2 => k_is); (case a3 => k_is); (case l3 => k_is); (case c3 => k_is); (case k3 => k_is); (case a4 => k_is); (case l4 => k_is); (case c4 => k_is); (case k4 => k_is); (case a5 => k_is); (case l5 => k_is); (case c5 => k_is); (case k5 => k_is); (case a6 => k_is); (case l6 => k_is); (case c6 => k_is); (case k6 => k_is); (case a7 => k_is); (case l7 => k_is); (case c7 => k_is); (case k7 => k_is); (case a8 => k_is); (case l8 => k_is); (case c8 => k_is); (case k8 => k_is); (case a9 => k_is); (case l9 => k_is); (case c9 => k_is); (case k9 => k_is); (case a10 => k_is); (case l10 => k_is); (case c10 => k_is); (case k10 => k_is); (case a11 => k_is); (case l11 => k_is); (case c11 => k_is); (case k11 => k_is); (case a12 => k_is); (case l12 => k_is); (case c12 => k_is); (case k12 => k_is); (case a13 => k_is); (case l13 => k_is); (case c13 => k_is); (case k13 => k_is); (case a14 => k_is); (case l14 => k_is); (case c14 => k_is); (case k14 => k_is); (case a15 => k_is); (case l15 => k_is); (case c15 => k_is); (case k15 => k_is); (case a16 => k_is); (case l16 => k_is); (case c16 => k_is); (case k16 => k_is); (case a17 => k_is); (case l17 => k_is); (case c17 => k_is); (case k17 => k_is); (case a18 => k_is); (case l18 => k_is); (case c18 => k_is); (case k18 => k_is); (case a19 => k_is); (case l19 => k_is); (case c19 => k_is); (case k19 => k_is); (case a20 => k_is); (case l20 => k_is); (case c20 => k_is); (case k20 => k_is); (case a21 => k_is); (case l21 => k_is); (case c21 => k_is); (case k21 => k_is); (case a22 => k_is); (case l22 => k_is); (case c22 => k_is); (case k22 => k_is); (case a23 => k_is); (case l23 => k_is); (case c23 => k_is); (case k23 => k_is); (case a24 => k_is); (case l24 => k_is); (case c24 => k_is); (case k24 => k_is); (case a25 => k_is); (case l25 => k_is); (case c25 => k_is); (case k25 => k_is); (case a26 => k_is); (case l26 => k_is); (case c26 => k_is); (case k26 => k_is); (case a27 => k_is); (case l27 => k_is); (case c27 => k_is); (case k27 => k_is); (case a28 => k_is); (case l28 => k_is); (case c28 => k_is); (case k28 => k_is); (case z_KeyError => k_is); (case z_ValueError => k_is); (case z_all => k_is); (case z_bool => k_is); (case z_bytes => k_is); (case z_dict => k_is); (case z_int => k_is); (case z_isinstance => k_is); (case z_len => k_is); (case z_list => k_is); (case z_range => k_is); (case z_set => k_is); (case z_sorted => k_is); (case z_str => k_is); (case z_tuple => k_is); (case g_HEX_DIGITS => k_is); (case g_LETTERS => k_is); (case g_SEGMENT_SIGNS => k_is); (case g_LONGEST_WORD => k_is); (case g_LONGEST_TEXT => k_is); (case g_LONGEST_MESSAGE => k_is); (case g_LATEST => k_is); (case g_MOST_ENTRIES => k_is); (case g_MOST_PARENTS => k_is); (case eD_mg => k_is); (case eB_mg => k_is); (case eF_mg => k_is); (case eN_mg => k_is); (case eM_mg => k_is); (case eX_mg => k_is); (case eO_mg => k_is); (case CD_pg => k_is); (case CD_hd => k_is); (case CD_po => k_is); (case CD_sa => k_is); (case CD_mk => k_is); (case CD_kc => k_is); (case CD_ha => k_is); (case CD_hm => k_is); (case CB_pg => k_is); (case CB_hd => k_is); (case CB_po => k_is); (case CB_sa => k_is); (case CB_mk => k_is); (case CB_kc => k_is); (case CB_ha => k_is); (case CB_hm => k_is); (case e_hn => k_is); (case e_ht => k_is); (case amDisk_init => k_is); (case imDisk_init => k_is); (case lmDisk_init => k_is); (case cmDisk_init => k_is); (case kmDisk_init => k_is); (case amBlob_init => k_is); (case imBlob_init => k_is); (case lmBlob_init => k_is); (case cmBlob_init => k_is); (case kmBlob_init => k_is); (case amDisk_limit => k_is); (case imDisk_limit => k_is); (case lmDisk_limit => k_is); (case cmDisk_limit => k_is); (case kmDisk_limit => k_is); (case amDisk_write => k_is); (case imDisk_write => k_is); (case lmDisk_write => k_is); (case cmDisk_write => k_is); (case kmDisk_write => k_is); (case amDisk_sync => k_is); (case imDisk_sync => k_is); (case lmDisk_sync => k_is); (case cmDisk_sync => k_is); (case kmDisk_sync => k_is); (case amDisk_rename => k_is); (case imDisk_rename => k_is); (case lmDisk_rename => k_is); (case cmDisk_rename => k_is); (case kmDisk_rename => k_is); (case amDisk_remove => k_is); (case imDisk_remove => k_is); (case lmDisk_remove => k_is); (case cmDisk_remove => k_is); (case kmDisk_remove => k_is); (case amDisk_read => k_is); (case imDisk_read => k_is); (case lmDisk_read => k_is); (case cmDisk_read => k_is); (case kmDisk_read => k_is); (case amDisk_names => k_is); (case imDisk_names => k_is); (case lmDisk_names => k_is); (case cmDisk_names => k_is); (case kmDisk_names => k_is); (case amDisk_crashed => k_is); (case imDisk_crashed => k_is); (case lmDisk_crashed => k_is); (case cmDisk_crashed => k_is); (case kmDisk_crashed => k_is); (case amDiskcheck_is_there => k_is); (case imDiskcheck_is_there => k_is); (case lmDiskcheck_is_there => k_is); (case cmDiskcheck_is_there => k_is); (case kmDiskcheck_is_there => k_is); (case amDiskcount_step => k_is); (case imDiskcount_step => k_is); (case lmDiskcount_step => k_is); (case cmDiskcount_step => k_is); (case kmDiskcount_step => k_is); (case apDisk_left => k_is); (case gpDisk_left => k_is); (case tpDisk_left => k_is); (case rpDisk_left_ => k_is); (case lpDisk_left => k_is); (case cpDisk_left => k_is); (case apBlob_text => k_is); (case gpBlob_text => k_is); (case tpBlob_text => k_is); (case rpBlob_text_ => k_is); (case lpBlob_text => k_is); (case cpBlob_text => k_is); (case nF_ => k_is); (case nL_ => k_is); (case nT_ => k_is); (case e_kdD => k_is); (case xF => k_is); (case xN => k_is); (case xM => k_is); (case xX => k_is); (case xO => k_is); (case saN => k_is); (case kCN => k_is); (case iCN => k_is); (case gaN => k_is); (case ggN => k_is); (case haN => k_is); (case nfN => k_is); (case saM => k_is); (case kCM => k_is); (case iCM => k_is); (case gaM => k_is); (case ggM => k_is); (case haM => k_is); (case nfM => k_is); (case saX => k_is); (case kCX => k_is); (case iCX => k_is); (case gaX => k_is); (case ggX => k_is); (case haX => k_is); (case nfX => k_is); (case saO => k_is); (case kCO => k_is); (case iCO => k_is); (case gaO => k_is); (case ggO => k_is); (case haO => k_is); (case nfO => k_is); (case tiF => k_is); (case liF => k_is); (case ciF => k_is); (case kiF => k_is); (case tiO => k_is); (case liO => k_is); (case ciO => k_is); (case kiO => k_is); (case e_dT => k_is); (case nTabs => first | k_is | exact rfl | kernel_rfl | decide +kernel)

